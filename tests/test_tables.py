"""Point [3]: what is a table and what is refused, and the order of the errors."""

import unittest

from saywhat.errors import BadMatter, BadTable
from saywhat.matters import Matter
from saywhat.tellings import acts_after, beliefs, gain_of, silent_table, swerves, whole_table, worth_of

OF_TABLES = (beliefs, acts_after, worth_of, gain_of, swerves)
NEVER, ALWAYS, HALF = (0, 1), (1, 1), (1, 2)
COURT = Matter((2, 1), ((1, 0), (0, 1)), ((0, 1), (0, 1)))
GOOD = (HALF, HALF)
OTHER_KINDS = (None, True, False, 1, "1/2", b"12", [], {}, set(), range(2), object(), COURT)


class TableTest(unittest.TestCase):
    def refused(self, table, matter=COURT):
        for function in OF_TABLES:
            with self.subTest(function=function.__name__, table=table), self.assertRaises(BadTable):
                function(matter, table)

    def refused_rows(self, row):
        """A row is refused in each place, beside good rows and beside itself."""
        self.refused((row, row))
        self.refused((row, GOOD))
        self.refused((GOOD, row))

    def refused_share(self, share, rest=HALF):
        self.refused_rows((share, rest))
        self.refused_rows((rest, share))


class TestGoodTables(TableTest):
    def test_tables_of_all_lengths(self):
        quarter, third = (1, 4), (1, 3)
        for row in ((ALWAYS,), GOOD, (NEVER, ALWAYS), (third, third, third), (quarter,) * 4, (NEVER, HALF, HALF, NEVER)):
            for function in OF_TABLES:
                function(COURT, (row, row))

    def test_more_words_than_acts_and_cases(self):
        self.assertEqual(acts_after(COURT, ((NEVER, HALF, NEVER, HALF), (NEVER, NEVER, HALF, HALF))), [None, 0, 1, 0])


class TestBadShares(TableTest):
    def test_not_in_lowest_terms(self):
        for share in ((2, 4), (3, 6), (50, 100)):
            self.refused_share(share)
        self.refused_share((2, 2), NEVER)
        self.refused_share((0, 2), ALWAYS)
        self.refused((((2, 2),), ((2, 2),)))

    def test_second_integer_below_1(self):
        for share in ((-1, -2), (1, -2), (1, 0)):
            self.refused_share(share)
        for share in ((0, 0), (0, -1), (1, 0)):
            self.refused_share(share, ALWAYS)
        self.refused_share((-1, -1), NEVER)

    def test_below_0_or_above_1(self):
        self.refused_share((-1, 2), (3, 2))
        self.refused_share((-1, 1), (2, 1))
        self.refused_rows(((-1, 2), ALWAYS, HALF))
        self.refused((((3, 2), (-1, 2)), GOOD))

    def test_not_1_together(self):
        for share in (NEVER, ALWAYS, (1, 3), (2, 3), (10 ** 900 - 1, 2 * 10 ** 900)):
            self.refused_share(share)
        self.refused_rows((NEVER, NEVER))
        self.refused_rows((ALWAYS, ALWAYS))
        self.refused(((HALF,), (HALF,)))
        self.refused(((NEVER,), (NEVER,)))

    def test_other_kinds(self):
        for share in ([1, 2], (1,), (1, 2, 1), (), *OTHER_KINDS):
            self.refused_share(share)
        for share in (("1", 2), (1, "2"), (None, 2), (1, None), ([1], 2), ((1, 1), 2)):
            self.refused_share(share)

    def test_booleans(self):
        self.refused_share((True, 2))
        self.refused_share((True, True), NEVER)
        self.refused_share((1, True), NEVER)
        self.refused_share((False, 1), ALWAYS)
        self.refused_share((0, True), ALWAYS)
        self.refused_share(True, NEVER)
        self.refused_share(False, ALWAYS)


class TestBadShapes(TableTest):
    def test_rows_of_different_lengths(self):
        self.refused((GOOD, (ALWAYS,)))
        self.refused(((ALWAYS,), GOOD))
        self.refused((GOOD, (HALF, HALF, NEVER)))
        self.refused(((HALF, HALF, NEVER), GOOD))
        self.refused((GOOD, ()))

    def test_no_word_and_five_words(self):
        self.refused(((), ()))
        fifth = ((1, 5),) * 5
        self.refused((fifth, fifth))
        padded = (ALWAYS, NEVER, NEVER, NEVER, NEVER)
        self.refused((padded, padded))

    def test_not_as_many_rows_as_cases(self):
        for count in (0, 1, 3, 4, 5):
            self.refused((GOOD,) * count)
        three = Matter((1, 1, 1), ((0, 1),) * 3, ((0, 1),) * 3)
        for count in (0, 1, 2, 4):
            self.refused((GOOD,) * count, three)

    def test_other_kinds(self):
        for wrong in ([GOOD, GOOD], GOOD, HALF, *OTHER_KINDS):
            self.refused(wrong)
        for wrong in ([HALF, HALF], {HALF: 1, NEVER: 2}, HALF, "ab", *OTHER_KINDS):
            self.refused_rows(wrong)


class TestOrderOfErrors(TableTest):
    def test_things_that_are_no_matter_come_first(self):
        wrong_matters = (None, True, 2, "court", (2, 1), [COURT], {}, Matter, object(), GOOD)
        for wrong in wrong_matters:
            for function in OF_TABLES:
                for table in ((GOOD, GOOD), None, ((2, 4),)):
                    with self.subTest(function=function.__name__, wrong=wrong, table=table):
                        with self.assertRaises(BadMatter) as caught:
                            function(wrong, table)
                        self.assertIsNone(caught.exception.part)
            for function in (whole_table, silent_table):
                with self.subTest(function=function.__name__, wrong=wrong):
                    with self.assertRaises(BadMatter) as caught:
                        function(wrong)
                    self.assertIsNone(caught.exception.part)

    def test_a_refused_call_changes_nothing(self):
        table = (GOOD, (NEVER, ALWAYS))
        before = [function(COURT, table) for function in OF_TABLES]
        self.refused((GOOD, (HALF, NEVER)))
        self.assertEqual([function(COURT, table) for function in OF_TABLES], before)


if __name__ == "__main__":
    unittest.main()
