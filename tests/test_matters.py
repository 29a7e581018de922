"""Point [2]: matters, their properties and equality, and what is refused."""

import itertools
import unittest

from saywhat import matters
from saywhat.errors import BadMatter
from saywhat.matters import Matter, choices_of_acts
from saywhat.tellings import silent_table

PARTS = (2, 1)
GAINS = ((1, 0), (0, 1))
WORTHS = ((0, 1), (0, 1))

# Values of kinds that are neither a tuple nor, in a tuple, an integer from 1 to 6.
OTHER_KINDS = (None, True, False, 3, "12", b"12", [], {}, {1: 2}, set(), range(2), object(), Matter, len)


class MatterTest(unittest.TestCase):
    def refused(self, part, parts, gains, worths):
        with self.subTest(parts=parts, gains=gains, worths=worths):
            with self.assertRaises(BadMatter) as caught:
                Matter(parts, gains, worths)
            self.assertEqual(caught.exception.part, part)


class TestGoodMatters(MatterTest):
    def test_properties_and_length_for_all_sizes(self):
        for cases, acts in itertools.product((2, 3, 4), (2, 3, 4)):
            parts = tuple(range(1, cases + 1))
            gains = tuple(tuple(case - act for act in range(acts)) for case in range(cases))
            worths = tuple(tuple(case + act for act in range(acts)) for case in range(cases))
            matter = Matter(parts, gains, worths)
            self.assertEqual((matter.parts, matter.gains, matter.worths), (parts, gains, worths))
            self.assertEqual(len(matter), cases)

    def test_the_ends_of_all_ranges(self):
        matter = Matter((1, 6), ((-9, 9), (9, -9)), ((0, 9), (9, 0)))
        self.assertEqual(matter.parts, (1, 6))
        self.assertEqual(matter.gains, ((-9, 9), (9, -9)))
        self.assertEqual(matter.worths, ((0, 9), (9, 0)))

    def test_parameters_may_be_passed_by_name(self):
        self.assertEqual(Matter(worths=WORTHS, parts=PARTS, gains=GAINS), Matter(PARTS, GAINS, WORTHS))

    def test_properties_cannot_be_assigned(self):
        matter = Matter(PARTS, GAINS, WORTHS)
        for name in ("parts", "gains", "worths"):
            with self.assertRaises(AttributeError):
                setattr(matter, name, ())
        self.assertEqual(matter, Matter(PARTS, GAINS, WORTHS))

    def test_the_methods_stand_in_the_class_and_the_class_in_its_file(self):
        for name in ("parts", "gains", "worths", "__len__", "__eq__", "__init__"):
            self.assertIn(name, vars(Matter))
        self.assertEqual(Matter.__module__, "saywhat.matters")
        self.assertIs(matters.Matter, Matter)


class TestEquality(MatterTest):
    def test_equal_parameters_make_equal_matters(self):
        first = Matter(PARTS, GAINS, WORTHS)
        second = Matter((2, 1), ((1, 0), (0, 1)), ((0, 1), (0, 1)))
        self.assertIs(first == second, True)
        self.assertIs(first != second, False)

    def test_each_parameter_matters(self):
        first = Matter(PARTS, GAINS, WORTHS)
        others = (Matter((2, 2), GAINS, WORTHS), Matter((4, 2), GAINS, WORTHS),
                  Matter(PARTS, ((1, 0), (0, 2)), WORTHS), Matter(PARTS, GAINS, ((0, 1), (1, 1))),
                  Matter(PARTS, ((1, 0, 0), (0, 1, 0)), ((0, 1, 0), (0, 1, 0))),
                  Matter((2, 1, 1), (*GAINS, (0, 1)), (*WORTHS, (0, 1))))
        for other in others:
            self.assertIs(first == other, False)
            self.assertIs(first != other, True)
            self.assertIs(other == first, False)
            self.assertIs(other != first, True)


class TestBadParts(MatterTest):
    def test_numbers_of_cases(self):
        for parts in ((), (1,), (1, 1, 1, 1, 1), (1,) * 100):
            self.refused("PARTS", parts, GAINS, WORTHS)
            self.refused("PARTS", parts, ((1, 0),) * len(parts), ((1, 0),) * len(parts))

    def test_numbers_out_of_range(self):
        for wrong in (0, 7, -1, -6, 10 ** 3000, -10 ** 3000):
            for parts in ((wrong, 1), (1, wrong)):
                self.refused("PARTS", parts, GAINS, WORTHS)

    def test_other_kinds(self):
        for wrong in ([2, 1], *OTHER_KINDS):
            self.refused("PARTS", wrong, GAINS, WORTHS)
        for wrong in (True, False, None, "1", b"1", [1], (1,), {}, object()):
            for parts in ((wrong, 1), (1, wrong)):
                self.refused("PARTS", parts, GAINS, WORTHS)


class TestBadRows(MatterTest):
    """Gains and worths are refused for the same reasons, but for their ranges."""

    def refused_as_both(self, rows):
        self.refused("GAINS", PARTS, rows, WORTHS)
        self.refused("WORTHS", PARTS, GAINS, rows)

    def test_numbers_of_cases(self):
        for count in (0, 1, 3, 4, 5):
            self.refused_as_both(((1, 0),) * count)

    def test_numbers_of_acts(self):
        for acts in (0, 1, 5, 6):
            self.refused_as_both(((1,) * acts,) * 2)
            self.refused("GAINS", PARTS, ((1,) * acts,) * 2, ((1,) * acts,) * 2)

    def test_rows_of_different_lengths(self):
        for rows in (((1, 0), (1,)), ((1,), (1, 0)), ((1, 0), (1, 0, 1)), ((1, 0, 1), (1, 0)), ((1, 0), ())):
            self.refused_as_both(rows)

    def test_worths_for_other_numbers_of_acts_than_the_gains(self):
        self.refused("WORTHS", PARTS, ((1, 0, 2), (0, 1, 2)), WORTHS)
        self.refused("WORTHS", PARTS, GAINS, ((1, 0, 2), (0, 1, 2)))

    def test_numbers_out_of_range(self):
        for wrong in (-10, 10, 10 ** 3000, -10 ** 3000):
            self.refused_as_both(((wrong, 0), (0, 1)))
            self.refused_as_both(((1, 0), (0, wrong)))
        for wrong in (-1, -9):
            self.refused("WORTHS", PARTS, GAINS, ((0, wrong), (0, 1)))
            self.refused("WORTHS", PARTS, GAINS, ((0, 1), (wrong, 1)))

    def test_other_kinds(self):
        for wrong in ([(1, 0), (0, 1)], *OTHER_KINDS):
            self.refused_as_both(wrong)
        for wrong in ([1, 0], *OTHER_KINDS):
            self.refused_as_both((wrong, (0, 1)))
            self.refused_as_both(((1, 0), wrong))
        for wrong in (True, False, None, "1", b"1", [1], (1,), {}, object()):
            self.refused_as_both(((wrong, 0), (0, 1)))
            self.refused_as_both(((1, 0), (0, wrong)))


class TestChoices(MatterTest):
    def test_all_tuples_in_order(self):
        for acts, places in itertools.product((2, 3, 4), (1, 2, 3)):
            matter = Matter(PARTS, ((0,) * acts,) * 2, ((0,) * acts,) * 2)
            self.assertEqual(choices_of_acts(matter, places), list(itertools.product(range(acts), repeat=places)))


class TestOrderOfErrors(MatterTest):
    def test_the_first_wrong_part_is_named(self):
        bad_gains, bad_worths = ((1, 0), (0, 10)), ((0, 1), (0, -1))
        self.refused("PARTS", (0, 1), bad_gains, bad_worths)
        self.refused("PARTS", (0, 1), GAINS, bad_worths)
        self.refused("PARTS", (0, 1), bad_gains, WORTHS)
        self.refused("PARTS", None, None, None)
        self.refused("GAINS", PARTS, bad_gains, bad_worths)
        self.refused("GAINS", PARTS, None, None)
        self.refused("WORTHS", PARTS, GAINS, bad_worths)

    def test_things_that_are_no_matter(self):
        for wrong in (None, True, 0, "matter", (PARTS, GAINS, WORTHS), [PARTS, GAINS, WORTHS], {}, Matter, object()):
            with self.subTest(wrong=wrong):
                with self.assertRaises(BadMatter) as caught:
                    silent_table(wrong)
                self.assertIsNone(caught.exception.part)


if __name__ == "__main__":
    unittest.main()
