"""Point [3]: what tables lead to, against an independent look at each word."""

import doctest
import itertools
import math
import random
import unittest
from fractions import Fraction

from looks import ALWAYS, COURT, HALF, NEVER, THIRD, pair, some_matter
from saywhat import tellings
from saywhat.matters import Matter
from saywhat.tellings import acts_after, beliefs, gain_of, silent_table, swerves, whole_table, worth_of

EXAMPLE = """
>>> from saywhat.matters import Matter
>>> from saywhat.tellings import acts_after, beliefs, gain_of, silent_table, swerves, whole_table, worth_of
>>> court = Matter((2, 1), ((1, 0), (0, 1)), ((0, 1), (0, 1)))
>>> table = (((1, 2), (1, 2)), ((0, 1), (1, 1)))
>>> worths = [worth_of(court, some) for some in (silent_table(court), whole_table(court), table)]
>>> [beliefs(court, table), acts_after(court, table), worths, gain_of(court, table), swerves(court, table)]
[[((1, 1), (0, 1)), ((1, 2), (1, 2))], [0, 1], [(0, 1), (1, 3), (2, 3)], (2, 3), {(0, 1): (1, 3), (1, 0): (0, 1)}]
"""


class Look:
    """What point [3] says of one word, in the order of its sentences."""

    def __init__(self, matter, table, word):
        whole = sum(matter.parts)
        together = [Fraction(part, whole) * Fraction(*row[word]) for part, row in zip(matter.parts, table)]
        self.chance = sum(together)
        self.belief = None
        self.act = None
        if self.chance > 0:
            self.belief = [each / self.chance for each in together]
            self.gains = self.averages(matter.gains)
            self.worths = self.averages(matter.worths)
            self.best = [act for act, gain in enumerate(self.gains) if gain == max(self.gains)]
            self.act = self.best[0]
            for act in self.best:
                if self.worths[act] > self.worths[self.act]:
                    self.act = act

    def averages(self, rows):
        return [sum((each * row[act] for each, row in zip(self.belief, rows)), Fraction(0))
                for act in range(len(rows[0]))]


def expected(matter, table):
    """All five answers for a table, and the looks that they come from."""
    looks = [Look(matter, table, word) for word in range(len(table[0]))]
    said = [(word, look) for word, look in enumerate(looks) if look.act is not None]
    lost = {(word, act): pair((look.gains[look.act] - gain) * look.chance)
            for word, look in said for act, gain in enumerate(look.gains) if act != look.act}
    return {
        "beliefs": [None if look.belief is None else tuple(map(pair, look.belief)) for look in looks],
        "acts_after": [look.act for look in looks],
        "worth_of": pair(sum(look.chance * look.worths[look.act] for _, look in said)),
        "gain_of": pair(sum(look.chance * look.gains[look.act] for _, look in said)),
        "swerves": lost,
    }, looks


def some_row(chance, words, silent):
    """Chances that are 1 together, 0 for the words that are silent."""
    shares = [0 if word in silent else chance.randint(0, 4) for word in range(words)]
    if sum(shares) == 0:
        shares[[word for word in range(words) if word not in silent][0]] = 1
    return tuple(pair(Fraction(share, sum(shares))) for share in shares)


def some_table(chance, cases, words):
    silent = [word for word in range(1, words) if chance.random() < 0.2]
    return tuple(some_row(chance, words, silent) for _ in range(cases))


class TellingsTest(unittest.TestCase):
    def check(self, matter, table):
        answers, looks = expected(matter, table)
        with self.subTest(matter=(matter.parts, matter.gains, matter.worths), table=table):
            for name, answer in answers.items():
                self.assertEqual(getattr(tellings, name)(matter, table), answer, name)
        return looks


class TestManyTables(TellingsTest):
    def test_all_sizes_and_kinds(self):
        chance = random.Random(20)
        unsaid = equal_gains = equal_worths = worthier = 0
        for cases, acts, words in itertools.product((2, 3, 4), (2, 3, 4), (1, 2, 3, 4)):
            for widest in (1, 1, 2, 9):
                matter = some_matter(chance, cases, acts, widest)
                for look in self.check(matter, some_table(chance, cases, words)):
                    if look.act is None:
                        unsaid += 1
                    elif len(look.best) > 1:
                        equal_gains += 1
                        top = max(look.worths[act] for act in look.best)
                        equal_worths += [look.worths[act] for act in look.best].count(top) > 1
                        worthier += look.act != look.best[0]
        # Without these kinds, the comparison would say little.
        self.assertGreater(min(unsaid, equal_gains, equal_worths, worthier), 5)

    def test_whole_and_silent_tables(self):
        chance = random.Random(21)
        for cases, acts in itertools.product((2, 3, 4), (2, 3, 4)):
            for widest in (1, 9):
                matter = some_matter(chance, cases, acts, widest)
                self.check(matter, whole_table(matter))
                self.check(matter, silent_table(matter))

    def test_all_fractions_are_in_lowest_terms(self):
        chance = random.Random(22)
        for cases, acts, words in itertools.product((2, 3, 4), (2, 3, 4), (1, 2, 3, 4)):
            matter, table = some_matter(chance, cases, acts, 9), some_table(chance, cases, words)
            found = [worth_of(matter, table), gain_of(matter, table), *swerves(matter, table).values()]
            for belief in beliefs(matter, table):
                found = [*found, *(belief or ())]
            for over, under in found:
                self.assertIs(type(over), int)
                self.assertIs(type(under), int)
                self.assertGreaterEqual(under, 1)
                self.assertEqual(math.gcd(over, under), 1)

    def test_long_integers(self):
        long = 10 ** 1000
        rows = (((1, long + 1), (long, long + 1)), ((long - 1, long), (1, long)))
        self.check(Matter((6, 1), ((9, -9), (-9, 9)), ((0, 9), (9, 0))), rows)


class TestEdges(TellingsTest):
    def test_the_ends_of_all_ranges(self):
        matter = Matter((1, 6), ((-9, 9), (9, -9)), ((0, 9), (9, 0)))
        self.assertEqual(beliefs(matter, silent_table(matter)), [((1, 7), (6, 7))])
        self.assertEqual(acts_after(matter, silent_table(matter)), [0])
        self.assertEqual(worth_of(matter, silent_table(matter)), (54, 7))
        self.assertEqual(gain_of(matter, silent_table(matter)), (45, 7))
        self.assertEqual(swerves(matter, silent_table(matter)), {(0, 1): (90, 7)})
        self.assertEqual(worth_of(matter, whole_table(matter)), (9, 1))
        self.assertEqual(gain_of(matter, whole_table(matter)), (9, 1))

    def test_a_gain_below_0(self):
        matter = Matter((1, 1), ((-9, -9), (-9, -8)), ((0, 9), (0, 9)))
        self.assertEqual(gain_of(matter, silent_table(matter)), (-17, 2))
        self.assertEqual(gain_of(matter, whole_table(matter)), (-17, 2))
        self.assertEqual(worth_of(matter, whole_table(matter)), (9, 1))

    def test_a_word_that_is_never_said(self):
        table = ((NEVER, ALWAYS, NEVER), (NEVER, ALWAYS, NEVER))
        self.assertEqual(beliefs(COURT, table), [None, ((2, 3), (1, 3)), None])
        self.assertEqual(acts_after(COURT, table), [None, 0, None])
        self.assertEqual(worth_of(COURT, table), (0, 1))
        self.assertEqual(gain_of(COURT, table), (2, 3))
        self.assertEqual(swerves(COURT, table), {(1, 1): (1, 3)})

    def test_a_word_that_is_said_in_one_case_alone(self):
        table = ((ALWAYS, NEVER), (HALF, HALF))
        self.assertEqual(beliefs(COURT, table), [((4, 5), (1, 5)), (NEVER, ALWAYS)])
        self.assertEqual(acts_after(COURT, table), [0, 1])

    def test_four_words(self):
        table = (((1, 4), (1, 4), (1, 4), (1, 4)), (NEVER, (1, 6), THIRD, HALF))
        self.assertEqual(beliefs(COURT, table), [(ALWAYS, NEVER), ((3, 4), (1, 4)), ((3, 5), (2, 5)), (HALF, HALF)])
        self.assertEqual(acts_after(COURT, table), [0, 0, 0, 1])

    def test_of_equal_gains_the_greatest_worth(self):
        matter = Matter((1, 1), ((3, 3, 3, 2), (3, 3, 3, 2)), ((1, 4, 2, 9), (1, 0, 2, 9)))
        self.assertEqual(acts_after(matter, whole_table(matter)), [1, 2])

    def test_of_equal_worths_too_the_first(self):
        matter = Matter((1, 1), ((3, 3, 3, 2), (3, 3, 3, 2)), ((1, 4, 0, 9), (1, 0, 4, 9)))
        self.assertEqual(acts_after(matter, silent_table(matter)), [1])
        same = Matter((1, 1), ((0, 0, 0), (0, 0, 0)), ((5, 5, 5), (5, 5, 5)))
        self.assertEqual(acts_after(same, silent_table(same)), [0])

    def test_equal_averages_of_unequal_rows(self):
        matter = Matter((2, 1), ((0, 1, -9), (2, 0, -9)), ((0, 9, 9), (6, 0, 9)))
        self.assertEqual(acts_after(matter, silent_table(matter)), [1])
        first = Matter((1, 3), ((3, 0), (0, 1)), ((9, 0), (1, 4)))
        self.assertEqual(acts_after(first, silent_table(first)), [0])

    def test_the_keys_of_swerves(self):
        matter = Matter((1, 2, 3), ((1, 0, 2), (0, 1, 0), (0, 0, 0)), ((0, 0, 0),) * 3)
        table = ((NEVER, NEVER, ALWAYS, NEVER), (ALWAYS, NEVER, NEVER, NEVER), (HALF, NEVER, NEVER, HALF))
        self.assertEqual(acts_after(matter, table), [1, None, 2, 0])
        self.assertEqual(sorted(swerves(matter, table)), [(0, 0), (0, 2), (2, 0), (2, 1), (3, 1), (3, 2)])

    def test_a_swerve_without_loss_is_listed(self):
        matter = Matter((1, 1), ((5, 5), (5, 5)), ((1, 0), (1, 0)))
        self.assertEqual(swerves(matter, silent_table(matter)), {(0, 1): (0, 1)})


class TestKnownTables(TellingsTest):
    def test_whole_table(self):
        self.assertEqual(whole_table(COURT), ((ALWAYS, NEVER), (NEVER, ALWAYS)))
        three = Matter((1, 1, 1), ((0, 0),) * 3, ((0, 0),) * 3)
        self.assertEqual(whole_table(three), (
            (ALWAYS, NEVER, NEVER), (NEVER, ALWAYS, NEVER), (NEVER, NEVER, ALWAYS)))
        four = Matter((1, 1, 1, 1), ((0, 0),) * 4, ((0, 0),) * 4)
        self.assertEqual(whole_table(four), (
            (ALWAYS, NEVER, NEVER, NEVER), (NEVER, ALWAYS, NEVER, NEVER),
            (NEVER, NEVER, ALWAYS, NEVER), (NEVER, NEVER, NEVER, ALWAYS)))

    def test_silent_table(self):
        for cases in (2, 3, 4):
            matter = Matter((1,) * cases, ((0, 0, 0),) * cases, ((0, 0, 0),) * cases)
            self.assertEqual(silent_table(matter), ((ALWAYS,),) * cases)


class TestForm(TellingsTest):
    def test_the_example_of_the_document(self):
        test = doctest.DocTestParser().get_doctest(EXAMPLE, {}, "tellings", None, 0)
        self.assertEqual(doctest.DocTestRunner(verbose=False).run(test), (0, 6))

    def test_kinds_of_values(self):
        table = ((HALF, HALF, NEVER), (NEVER, ALWAYS, NEVER))
        self.assertIs(type(beliefs(COURT, table)), list)
        self.assertEqual([type(belief) for belief in beliefs(COURT, table)], [tuple, tuple, type(None)])
        self.assertIs(type(acts_after(COURT, table)), list)
        self.assertEqual([type(act) for act in acts_after(COURT, table)], [int, int, type(None)])
        self.assertIs(type(swerves(COURT, table)), dict)
        for found in (worth_of(COURT, table), gain_of(COURT, table), whole_table(COURT), silent_table(COURT)):
            self.assertIs(type(found), tuple)

    def test_returned_lists_and_dicts_are_new(self):
        table = ((HALF, HALF), (NEVER, ALWAYS))
        for function in (beliefs, acts_after, swerves):
            first = function(COURT, table)
            first.clear()
            self.assertEqual(function(COURT, table), expected(COURT, table)[0][function.__name__])

    def test_arguments_are_not_modified(self):
        table = ((HALF, HALF), (NEVER, ALWAYS))
        for function in (beliefs, acts_after, worth_of, gain_of, swerves):
            function(COURT, table)
        self.assertEqual(table, (((1, 2), (1, 2)), ((0, 1), (1, 1))))
        self.assertEqual(COURT, Matter((2, 1), ((1, 0), (0, 1)), ((0, 1), (0, 1))))

    def test_arguments_may_be_passed_by_name(self):
        for function in (beliefs, acts_after, worth_of, gain_of, swerves):
            table = whole_table(matter=COURT)
            self.assertEqual(function(table=table, matter=COURT), function(COURT, table))
        self.assertEqual(silent_table(matter=COURT), silent_table(COURT))

    def test_functions_stand_in_their_file(self):
        for name in ("beliefs", "acts_after", "worth_of", "gain_of", "swerves", "whole_table", "silent_table"):
            self.assertEqual(getattr(tellings, name).__module__, "saywhat.tellings")


if __name__ == "__main__":
    unittest.main()
