"""Point [8]: all splits of the cases, in their order, and what they lead to."""

import doctest
import itertools
import random
import unittest
from fractions import Fraction

from looks import ALWAYS, COURT, NEVER, WRONG_MATTERS, chances, many_matters, pair, shown, some_matter
from saywhat import splits as file_of_splits
from saywhat.errors import BadMatter, BadSplit
from saywhat.matters import Matter
from saywhat.splits import acts_by, best_split, split_table, splits
from saywhat.tellings import acts_after, silent_table, whole_table, worth_of

EXAMPLE = """
>>> from saywhat.matters import Matter
>>> from saywhat.splits import acts_by, best_split, split_table, splits
>>> court, three = Matter((2, 1), ((1, 0), (0, 1)), ((0, 1), (0, 1))), Matter((1, 1, 1), ((2, 0), (0, 1), (0, 1)), ((0, 1), (0, 1), (0, 1)))
>>> [splits(court), best_split(three), splits(three)[((0, 1), (2,))], acts_by(three, ((0,), (1, 2))), split_table(three, ((0,), (1, 2)))]
[{((0, 1),): (0, 1), ((0,), (1,)): (1, 3)}, ((0, 1, 2),), (1, 3), [0, 1], (((1, 1), (0, 1)), ((0, 1), (1, 1)), ((0, 1), (1, 1)))]
"""

# All splits of two, three and four cases, in their order.
ALL = {
    2: [((0, 1),), ((0,), (1,))],
    3: [((0, 1, 2),), ((0,), (1, 2)), ((0, 1), (2,)), ((0, 2), (1,)), ((0,), (1,), (2,))],
    4: [((0, 1, 2, 3),),
        ((0,), (1, 2, 3)), ((0, 1), (2, 3)), ((0, 1, 2), (3,)), ((0, 1, 3), (2,)), ((0, 2), (1, 3)), ((0, 2, 3), (1,)),
        ((0, 3), (1, 2)),
        ((0,), (1,), (2, 3)), ((0,), (1, 2), (3,)), ((0,), (1, 3), (2,)), ((0, 1), (2,), (3,)), ((0, 2), (1,), (3,)),
        ((0, 3), (1,), (2,)),
        ((0,), (1,), (2,), (3,))],
}
WRONG_SPLITS = (None, True, False, 0, 1, "01", b"01", [], {}, set(), range(2), (), ((),), (0, 1), ((0, 1), ()),
                ((), (0, 1)), [(0, 1)], [(0,), (1,)], ([0, 1],), ((0,), [1]), ((0,), {1: 1}), ((0,), {1}),
                ((0,), range(1, 2)), ((1,), (0,)), ((1, 0),), ((0,),), ((1,),), ((0, 0, 1),), ((0,), (0, 1)),
                ((0, 1), (1,)), ((0, 1), (0, 1)), ((0, 1), (0,), (1,)), ((0,), (1,), (1,)), ((0,), (1,), (2,)),
                ((0, 1, 2),), ((0,), (2,)), ((-1, 0, 1),), ((-1,), (0,), (1,)), ((0, 1, 10 ** 900),),
                ((False, 1),), ((0, True),), ((False,), (True,)), ((0,), (True,)), ((0,), True), (False, (1,)),
                (("0", 1),), ((0, "1"),), ((None,), (1,)), ((0,), None), (((0,), (1,)),), (((0,),), ((1,),)), "ab",
                {(0,): 1, (1,): 1}, COURT, object())


def done(matter, part):
    """The act that is done after a part, and what it adds to the worth, by point [3]."""
    together = [chances(matter)[case] for case in part]
    averages = [[sum(each * rows[case][act] for each, case in zip(together, part)) for act in range(len(rows[0]))]
                for rows in (matter.gains, matter.worths)]
    act = max(range(len(averages[0])), key=lambda act: (averages[0][act], averages[1][act], -act))
    return act, averages[1][act]


class TestSplits(unittest.TestCase):
    def test_all_splits_in_their_order(self):
        for cases, expected in ALL.items():
            for acts in (2, 3, 4):
                matter = some_matter(random.Random(cases), cases, acts, 9)
                self.assertIs(type(splits(matter)), dict)
                self.assertEqual(list(splits(matter)), expected)
        self.assertEqual([len(expected) for expected in ALL.values()], [2, 5, 15])

    def test_all_splits_are_splits(self):
        for cases, expected in ALL.items():
            self.assertEqual(sorted(expected, key=lambda split: (len(split), split)), expected)
            for split in expected:
                self.assertEqual(list(split), sorted(split))
                self.assertEqual(sorted(case for part in split for case in part), list(range(cases)))
                self.assertTrue(all(list(part) == sorted(part) for part in split))

    def test_worths_and_acts_and_tables(self):
        for matter in many_matters(random.Random(80)):
            found = splits(matter)
            for split in ALL[len(matter)]:
                with self.subTest(matter=shown(matter), split=split):
                    told = [done(matter, part) for part in split]
                    self.assertEqual(found[split], pair(sum((worth for _, worth in told), Fraction(0))))
                    self.assertEqual(acts_by(matter, split), [act for act, _ in told])
                    table = tuple(tuple(ALWAYS if case in part else NEVER for part in split)
                                  for case in range(len(matter)))
                    self.assertEqual(split_table(matter, split), table)
                    self.assertEqual(worth_of(matter, table), found[split])
                    self.assertEqual(acts_after(matter, table), acts_by(matter, split))

    def test_best_split(self):
        ties = 0
        for widest, _ in itertools.product((1, 2, 9), range(10)):
            for matter in many_matters(random.Random(81 + widest)):
                found = splits(matter)
                greatest = max(Fraction(*worth) for worth in found.values())
                best = [split for split in ALL[len(matter)] if Fraction(*found[split]) == greatest]
                with self.subTest(matter=shown(matter)):
                    self.assertEqual(best_split(matter), best[0])
                ties += len(best) > 1
        self.assertGreater(ties, 10)

    def test_the_first_of_the_best(self):
        same = Matter((1, 1, 1, 1), ((1, 0),) * 4, ((3, 4),) * 4)
        self.assertEqual(best_split(same), ((0, 1, 2, 3),))
        # To tell case 3 alone is best, and to tell more of the others changes nothing.
        one = Matter((1, 1, 1, 1), ((1, 0), (1, 0), (1, 0), (0, 1)), ((0, 9),) * 4)
        self.assertEqual(best_split(one), ((0, 1), (2, 3)))
        self.assertEqual(splits(one)[((0, 1), (2, 3))], (9, 2))
        self.assertEqual(splits(one)[((0, 1, 2), (3,))], (9, 4))

    def test_the_ends_of_the_order(self):
        for cases in (2, 3, 4):
            matter = some_matter(random.Random(cases), cases, 3, 9)
            first, last = ALL[cases][0], ALL[cases][-1]
            self.assertEqual(split_table(matter, first), silent_table(matter))
            self.assertEqual(split_table(matter, last), whole_table(matter))


class TestForm(unittest.TestCase):
    def test_kinds_of_values(self):
        self.assertIs(type(acts_by(COURT, ((0,), (1,)))), list)
        self.assertIs(type(best_split(COURT)), tuple)
        self.assertIs(type(split_table(COURT, ((0, 1),))), tuple)

    def test_returned_lists_and_dicts_are_new(self):
        splits(COURT).clear()
        self.assertEqual(splits(COURT), {((0, 1),): (0, 1), ((0,), (1,)): (1, 3)})
        acts_by(COURT, ((0, 1),)).clear()
        self.assertEqual(acts_by(COURT, ((0, 1),)), [0])

    def test_parameters_may_be_passed_by_name(self):
        split = ((0,), (1,))
        self.assertEqual(splits(matter=COURT)[split], (1, 3))
        self.assertEqual(best_split(matter=COURT), split)
        self.assertEqual(acts_by(split=split, matter=COURT), [0, 1])
        self.assertEqual(split_table(split=split, matter=COURT), whole_table(COURT))

    def test_all_stand_in_the_file(self):
        for name in ("splits", "best_split", "acts_by", "split_table"):
            self.assertEqual(getattr(file_of_splits, name).__module__, "saywhat.splits")

    def test_the_example_of_the_document(self):
        test = doctest.DocTestParser().get_doctest(EXAMPLE, {}, "splits", None, 0)
        self.assertEqual(doctest.DocTestRunner(verbose=False).run(test), (0, 4))


class TestErrors(unittest.TestCase):
    def refused(self, error, function, *arguments):
        with self.subTest(function=function, arguments=arguments), self.assertRaises(error) as caught:
            function(*arguments)
        return caught.exception

    def test_things_that_are_no_matter_come_first(self):
        for wrong in WRONG_MATTERS:
            for function in (splits, best_split):
                self.assertIsNone(self.refused(BadMatter, function, wrong).part)
            for function in (acts_by, split_table):
                for split in (((0, 1),), None, ()):
                    self.assertIsNone(self.refused(BadMatter, function, wrong, split).part)

    def test_wrong_splits(self):
        for function in (acts_by, split_table):
            for wrong in WRONG_SPLITS:
                self.refused(BadSplit, function, COURT, wrong)

    def test_splits_of_other_numbers_of_cases(self):
        for function, (cases, expected) in itertools.product((acts_by, split_table), ALL.items()):
            for other in {2, 3, 4} - {cases}:
                matter = some_matter(random.Random(other), other, 2, 9)
                for split in expected:
                    self.refused(BadSplit, function, matter, split)

    def test_splits_in_another_order(self):
        four = some_matter(random.Random(4), 4, 2, 9)
        for split in ALL[4]:
            for parts in itertools.permutations(split):
                if parts != split:
                    self.refused(BadSplit, acts_by, four, parts)
            if len(split[0]) > 1:
                self.refused(BadSplit, split_table, four, (split[0][::-1], *split[1:]))

    def test_tuples_that_are_nested_deeply(self):
        deep = ((0,), (1,))
        for _ in range(20000):
            deep = (deep,)
        # Python's own words for a failure could not show it.
        for function in (acts_by, split_table):
            with self.assertRaises(BadSplit):
                function(COURT, deep)

    def test_a_refused_call_changes_nothing(self):
        before = splits(COURT)
        self.refused(BadSplit, acts_by, COURT, ((1,), (0,)))
        self.assertEqual(splits(COURT), before)


if __name__ == "__main__":
    unittest.main()
