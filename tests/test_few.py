"""Point [5]: few words, against an independent look at each of its conditions."""

import doctest
import random
import unittest
from fractions import Fraction

from looks import (ALWAYS, COURT, HALF, NEVER, THIRD, WRONG_MATTERS, Beliefs, acts_of, changed_row, changed_weights,
                   cost, covers, followed_worth, many_matters, pair, sets_of, shown, some_matter, turned)
from saywhat import few
from saywhat.best import Best, best_worth
from saywhat.errors import BadActs, BadGoal, BadMatter
from saywhat.few import Bound, Fewest, fewest, fewest_words, most_with
from saywhat.matters import Matter

EXAMPLE = """
>>> from saywhat.few import Bound, fewest, fewest_words, most_with
>>> from saywhat.matters import Matter
>>> court = Matter((2, 1), ((1, 0), (0, 1)), ((0, 1), (0, 1)))
>>> shown = [Bound(((0, 1), (0, 1)), {}).shows(court, (0,), (2, 3)), Bound(((-1, 1), (3, 1)), {(1, 0): (2, 1)}).shows(court, (1,), (2, 3)), Bound(((0, 1), (0, 1)), {}).shows(court, (1,), (2, 3))]
>>> [[most_with(court, acts) for acts in ((0,), (1,), (0, 1))], [fewest_words(court, goal) for goal in ((0, 1), (2, 3), (1, 1))], shown, [acts for acts, bound in fewest(court, (2, 3))], fewest(court, (2, 3)).shows(court, (2, 3))]
[[(0, 1), None, (2, 3)], [1, 2, None], [True, True, False], [(0,), (1,)], True]
"""

GOAL = (2, 3)
TABLE = ((HALF, HALF), (NEVER, ALWAYS))
ZEROS = ((0, 1), (0, 1))
DOUBTS = {(0,): Bound(ZEROS, {}), (1,): Bound(((-1, 1), (3, 1)), {(1, 0): (2, 1)})}
WRONG_GOALS = (None, True, False, 0, 1, 9, "1/2", b"12", [], {}, (), (1,), (1, 2, 1), [1, 2], [0, 1], {1: 2}, range(2),
               (2, 4), (0, 2), (18, 2), (-1, 2), (-1, 1), (10, 1), (19, 2), (9 * 10 ** 900 + 1, 10 ** 900), (1, 0),
               (0, 0), (0, -1), (-1, -2), (1, -2), (True, 1), (False, 1), (1, True), (True, True), ("1", 2), (1, "2"),
               (None, 1), (1, None), ((1, 2), 1), COURT, object())
WRONG_SETS = (None, True, False, 0, 1, "0", b"0", [], {}, (), [0], [0, 1], {0}, {0: 1}, range(1), (1, 0), (0, 0),
              (1, 1), (0, 1, 1), (2,), (0, 2), (0, 1, 2), (-1,), (-1, 0), (10 ** 900,), (True,), (False,), (0, True),
              (False, 1), ("0",), (None,), (0, None), ((0,),), ((0, 1),), ([0],), COURT, object())


def bounds(matter, bound, acts, goal):
    """What shows of a Bound should return, by point [5] alone."""
    return covers(matter, bound.prices, bound.weights, acts) and cost(matter, bound.prices) < Fraction(*goal)


def reaches(matter, table, acts, goal):
    """Whether a value is an advice within a set, followed, and worth the goal."""
    worth = followed_worth(matter, table)
    if worth is None or worth < Fraction(*goal):
        return False
    return all(row[act] == NEVER for row in table for act in acts_of(matter) if act not in acts)


def judged(found, matter, goal):
    """What shows of a Fewest should return, by point [5] alone."""
    if found.acts is None:
        expected = sets_of(matter)
        good = found.table is None
    else:
        expected = [acts for acts in sets_of(matter) if len(acts) < len(found.acts)]
        good = found.acts in sets_of(matter) and reaches(matter, found.table, found.acts, goal)
    if not good or set(found.doubts) != set(expected):
        return False
    return all(bounds(matter, bound, acts, goal) for acts, bound in found.doubts.items())


def changed_bound(chance, matter, bound):
    acts = acts_of(matter)
    good = [(act, other) for act in acts for other in acts if other != act]
    wrong = [(len(acts) - 1, len(acts)), (0, 0), (1,), (0, 1, 1), (), (-1, 0)]
    if chance.random() < 0.5:
        return Bound(bound.prices, changed_weights(chance, bound.weights, good, wrong))
    return Bound(changed_row(chance, bound.prices), bound.weights)


def changed(chance, matter, found):
    """A Fewest with one change."""
    what = chance.choice(("acts", "table", "row", "less", "more", "bound", "bound"))
    if what == "acts":
        return Fewest(chance.choice([None, *sets_of(matter)]), found.table, found.doubts)
    if what == "table" or what == "row" and found.table is None:
        tables = [None, tuple((ALWAYS, *[NEVER] * (len(row) - 1)) for row in matter.gains), found.table]
        return Fewest(found.acts, chance.choice(tables), found.doubts)
    if what == "row":
        at = chance.randrange(len(found.table))
        row = chance.choice((changed_row(chance, found.table[at]), found.table[at][::-1]))
        return Fewest(found.acts, found.table[:at] + (row,) + found.table[at + 1:], found.doubts)
    if what == "more" or not found.doubts:
        more = chance.choice(sets_of(matter))
        return Fewest(found.acts, found.table, {**found.doubts, more: Bound(((-9, 1),) * len(matter), {})})
    chosen = chance.choice(list(found.doubts))
    if what == "less":
        return Fewest(found.acts, found.table, {acts: found.doubts[acts] for acts in found.doubts if acts != chosen})
    bound = changed_bound(chance, matter, found.doubts[chosen])
    return Fewest(found.acts, found.table, {**found.doubts, chosen: bound})


def some_goals(chance, matter):
    """Goals of all kinds: the ends, and such as are met exactly, or not quite."""
    goals = {(0, 1), (9, 1), best_worth(matter), pair(Fraction(chance.randint(0, 36), 4))}
    for acts in chance.sample(sets_of(matter), 2):
        worth = most_with(matter, acts)
        if worth is not None:
            goals.add(worth)
            goals.add(pair(min(Fraction(9), Fraction(*worth) + Fraction(1, 1000))))
    return sorted(goals)


class TestManyMatters(unittest.TestCase):
    def test_each_condition(self):
        chance = random.Random(50)
        kinds = {}
        for matter in many_matters(chance):
            for goal in some_goals(chance, matter):
                with self.subTest(matter=shown(matter), goal=goal):
                    found = fewest(matter, goal)
                    self.look_at(matter, goal, found)
                    kind = None if found.acts is None else len(found.acts)
                    kinds[kind] = kinds.get(kind, 0) + 1
                    self.assertEqual(fewest_words(matter, goal), kind)
        self.assertGreaterEqual(set(kinds), {None, 1, 2, 3})

    def look_at(self, matter, goal, found):
        fewer = [acts for acts in sets_of(matter) if found.acts is None or len(acts) < len(found.acts)]
        self.assertEqual(list(found.doubts), fewer)
        for acts, bound in found.doubts.items():
            self.assertIs(type(bound), Bound)
            self.assertTrue(bounds(matter, bound, acts, goal), acts)
            self.assertIs(bound.shows(matter, acts, goal), True)
        if found.acts is None:
            self.assertIsNone(found.table)
        else:
            self.assertTrue(reaches(matter, found.table, found.acts, goal))
            self.first_of_its_length(matter, goal, found.acts)
        self.assertIs(found.shows(matter, goal), True)

    def first_of_its_length(self, matter, goal, found):
        for acts in sets_of(matter):
            if len(acts) == len(found) and acts < found:
                worth = most_with(matter, acts)
                self.assertTrue(worth is None or Fraction(*worth) < Fraction(*goal), acts)

    def test_most_with_against_a_fewest_that_just_meets_it(self):
        step = Fraction(1, 10 ** 6)
        for matter in many_matters(random.Random(51)):
            for acts in sets_of(matter):
                worth = most_with(matter, acts)
                with self.subTest(matter=shown(matter), acts=acts):
                    if worth is None:
                        bound = dict(fewest(matter, (0, 1))).get(acts)
                        self.assertTrue(bound is None or bounds(matter, bound, acts, (0, 1)))
                    elif worth != (9, 1):
                        bound = dict(fewest(matter, pair(Fraction(*worth) + step))).get(acts)
                        # A set that is reached before this one leaves it without a Bound.
                        self.assertTrue(bound is None or bounds(matter, bound, acts, pair(Fraction(*worth) + step)))

    def test_the_greatest_worths_from_all_corners_of_beliefs(self):
        chance = random.Random(52)
        without = 0
        sizes = {(2, 2): 12, (2, 3): 12, (2, 4): 12, (3, 2): 12, (3, 3): 6, (3, 4): 1, (4, 2): 4, (4, 3): 1}
        for (cases, acts), many in sizes.items():
            for at in range(many):
                matter = some_matter(chance, cases, acts, (1, 2, 9)[at % 3])
                looked = Beliefs(matter)
                greatest = {chosen: looked.greatest(chosen) for chosen in sets_of(matter)}
                without += list(greatest.values()).count(None)
                with self.subTest(matter=shown(matter)):
                    self.compare(chance, matter, greatest)
        self.assertGreater(without, 20)

    def compare(self, chance, matter, greatest):
        for acts, worth in greatest.items():
            self.assertEqual(most_with(matter, acts), None if worth is None else pair(worth), acts)
        for goal in some_goals(chance, matter):
            reached = [acts for acts, worth in greatest.items() if worth is not None and worth >= Fraction(*goal)]
            found = fewest(matter, goal)
            self.assertEqual(found.acts, reached[0] if reached else None)
            self.assertEqual(fewest_words(matter, goal), len(reached[0]) if reached else None)

    def test_most_with_all_acts_is_the_best_worth(self):
        for matter in many_matters(random.Random(53)):
            self.assertEqual(most_with(matter, tuple(acts_of(matter))), best_worth(matter))

    def test_shows_of_a_fewest_in_another_order(self):
        chance = random.Random(54)
        several = 0
        for matter in many_matters(chance):
            for goal in some_goals(chance, matter):
                found = fewest(matter, goal)
                doubts = {acts: Bound(bound.prices, turned(bound.weights)) for acts, bound in found}
                doubts = turned(doubts)
                other = Fewest(found.acts, found.table, doubts)
                several += list(other.doubts) != list(found.doubts)
                with self.subTest(matter=shown(matter), goal=goal):
                    self.assertIs(other.shows(matter, goal), True)
        self.assertGreater(several, 20)

    def test_shows_of_a_fewest_with_one_change(self):
        chance = random.Random(55)
        answers = {True: 0, False: 0}
        for matter in many_matters(chance):
            for goal in some_goals(chance, matter):
                found = fewest(matter, goal)
                for _ in range(10):
                    other = changed(chance, matter, found)
                    answer = judged(other, matter, goal)
                    answers[answer] += 1
                    with self.subTest(matter=shown(matter), goal=goal, other=vars(other)):
                        self.assertIs(other.shows(matter, goal), answer)
        self.assertGreater(answers[True], 50)
        self.assertGreater(answers[False], 500)

    def test_shows_of_a_bound_with_one_change(self):
        chance = random.Random(56)
        answers = {True: 0, False: 0}
        for matter in many_matters(chance):
            goal = chance.choice(some_goals(chance, matter))
            for acts, bound in fewest(matter, goal):
                for other in [changed_bound(chance, matter, bound) for _ in range(6)]:
                    asked = chance.choice(sets_of(matter)) if chance.random() < 0.2 else acts
                    answer = bounds(matter, other, asked, goal)
                    answers[answer] += 1
                    with self.subTest(matter=shown(matter), acts=asked, goal=goal, other=vars(other)):
                        self.assertIs(other.shows(matter, asked, goal), answer)
        self.assertGreater(answers[True], 50)
        self.assertGreater(answers[False], 100)


class TestBound(unittest.TestCase):
    def shows(self, answer, prices, weights, acts=(1,), goal=GOAL):
        with self.subTest(prices=prices, weights=weights, acts=acts, goal=goal):
            self.assertIs(Bound(prices, weights).shows(COURT, acts, goal), answer)

    def test_prices_below_the_goal(self):
        self.shows(True, ZEROS, {}, (0,), (1, 1000))
        self.shows(False, ZEROS, {}, (0,), (0, 1))
        self.shows(True, ((0, 1), (1, 1)), {}, (0,))
        self.shows(False, ((0, 1), (2, 1)), {}, (0,))
        self.shows(True, ((0, 1), (2, 1)), {(1, 0): (1, 1)}, (0, 1), (7, 10))
        self.shows(False, ((0, 1), (2, 1)), {(1, 0): (1, 1)}, (0, 1))

    def test_only_the_acts_of_the_set_are_covered(self):
        self.shows(True, ((-1, 1), (3, 1)), {(1, 0): (2, 1)})
        self.shows(False, ((-1, 1), (3, 1)), {(1, 0): (2, 1)}, (0,))
        self.shows(False, ((-1, 1), (3, 1)), {(1, 0): (2, 1)}, (0, 1))

    def test_a_weight_for_an_act_outside_of_the_set(self):
        self.shows(True, ((-1, 1), (3, 1)), {(1, 0): (2, 1), (0, 1): (7, 1)})
        self.shows(False, ((-1, 1), (3, 1)), {(1, 0): (2, 1), (0, 1): (-7, 1)})

    def test_pairs_that_are_not_of_two_different_acts(self):
        for wrong in ((0, 0), (1, 1), (1, 2), (2, 1), (-1, 0), (0, -1), (1,), (1, 0, 0), (), (True, 0), (1, False)):
            self.shows(False, ((-1, 1), (3, 1)), {(1, 0): (2, 1), wrong: (0, 1)})

    def test_lengths_and_fractions(self):
        for prices in ((), ((-1, 1),), ((-1, 1), (3, 1), (0, 1)), ((-2, 2), (3, 1)), ((-1, 1), (6, 2)),
                       ((-1, True), (3, 1))):
            self.shows(False, prices, {(1, 0): (2, 1)})
        self.shows(False, ((-1, 1), (3, 1)), {(1, 0): (4, 2)})

    def test_the_current_attributes(self):
        bound = Bound(((-1, 1), (3, 1)), {(1, 0): (2, 1)})
        bound.weights = {}
        self.assertIs(bound.shows(COURT, (1,), GOAL), False)
        bound.weights[(1, 0)] = (2, 1)
        self.assertIs(bound.shows(COURT, (1,), GOAL), True)
        bound.prices = ((0, 1), (3, 1))
        self.assertIs(bound.shows(COURT, (1,), GOAL), False)


class TestFewest(unittest.TestCase):
    def shows(self, answer, acts=(0, 1), table=TABLE, doubts=DOUBTS, goal=GOAL):
        with self.subTest(acts=acts, table=table, doubts=doubts, goal=goal):
            self.assertIs(Fewest(acts, table, doubts).shows(COURT, goal), answer)

    def test_as_it_is(self):
        self.shows(True)
        self.shows(True, doubts=turned(DOUBTS))

    def test_which_sets_doubts_has(self):
        self.shows(False, doubts={})
        self.shows(False, doubts={(0,): DOUBTS[(0,)]})
        self.shows(False, doubts={**DOUBTS, (0, 1): DOUBTS[(0,)]})
        self.shows(False, doubts={**DOUBTS, (2,): DOUBTS[(0,)]})
        self.shows(False, doubts={(False,): DOUBTS[(0,)], (1,): DOUBTS[(1,)]})
        self.shows(False, doubts={(0,): DOUBTS[(1,)], (1,): DOUBTS[(0,)]})

    def test_the_table(self):
        self.shows(False, table=None)
        self.shows(False, table=((ALWAYS, NEVER), (NEVER, ALWAYS)))
        self.shows(False, table=(((1, 3), (2, 3)), (NEVER, ALWAYS)))
        self.shows(False, table=((HALF, HALF, NEVER), (NEVER, ALWAYS, NEVER)))
        self.shows(False, table=TABLE[:1])
        self.shows(False, table=(*TABLE, TABLE[1]))

    def test_the_set(self):
        self.shows(False, acts=(0,))
        self.shows(False, acts=(1,), doubts={})
        self.shows(False, acts=None)
        self.shows(False, acts=None, table=None)

    def test_no_set_reaches_the_goal(self):
        both = Bound(((0, 1), (2, 1)), {(1, 0): (1, 1)})
        all_sets = {**DOUBTS, (0, 1): both}
        self.shows(True, None, None, all_sets, (1, 1))
        self.shows(False, None, TABLE, all_sets, (1, 1))
        self.shows(False, None, None, DOUBTS, (1, 1))
        self.shows(False, None, None, {}, (1, 1))
        self.shows(False, None, None, all_sets, GOAL)
        self.shows(False, (0, 1), None, all_sets, (1, 1))

    def test_more_than_the_goal(self):
        self.shows(True, goal=(1, 2), doubts={**DOUBTS, (1,): Bound(((-9, 1), (19, 1)), {(1, 0): (10, 1)})})

    def test_the_set_need_not_be_the_first_one_of_its_length(self):
        matter = Matter((1, 1), ((0, 0), (0, 0)), ((4, 4), (4, 4)))
        second = ((NEVER, ALWAYS), (NEVER, ALWAYS))
        self.assertEqual(fewest(matter, (4, 1)).acts, (0,))
        self.assertIs(Fewest((1,), second, {}).shows(matter, (4, 1)), True)
        self.assertIs(Fewest((0,), second, {}).shows(matter, (4, 1)), False)
        self.assertIs(Fewest((0, 1), second, {}).shows(matter, (4, 1)), False)

    def test_the_current_attributes(self):
        found = fewest(COURT, GOAL)
        found.acts = None
        self.assertIs(found.shows(COURT, GOAL), False)
        found.acts = (0, 1)
        self.assertIs(found.shows(COURT, GOAL), True)
        found.doubts[(1,)].prices = ((9, 1), (9, 1))
        self.assertIs(found.shows(COURT, GOAL), False)
        found.doubts = dict(DOUBTS)
        self.assertIs(found.shows(COURT, GOAL), True)
        found.table = None
        self.assertIs(found.shows(COURT, GOAL), False)


class TestEdges(unittest.TestCase):
    def test_the_least_goal(self):
        found = fewest(COURT, (0, 1))
        self.assertEqual((found.acts, found.table, found.doubts), ((0,), ((ALWAYS, NEVER),) * 2, {}))
        second = Matter((1, 2), ((1, 0), (0, 1)), ((0, 0), (0, 0)))
        self.assertEqual([most_with(second, acts) for acts in ((0,), (1,))], [None, (0, 1)])
        self.assertEqual(fewest(second, (0, 1)).acts, (1,))
        third = Matter((1, 1, 1), ((3, 0, 2), (0, 3, 2), (0, 0, 2)), ((0, 0, 0),) * 3)
        self.assertEqual(fewest(third, (0, 1)).acts, (2,))

    def test_one_word_reaches_the_least_goal(self):
        # The act that is best by the chances alone is followed if nothing else is ever said.
        for matter in many_matters(random.Random(57)):
            self.assertEqual(fewest_words(matter, (0, 1)), 1)

    def test_sets_without_any_advice_that_is_followed(self):
        matter = Matter((1, 1), ((9, -9, 8), (-9, 9, -8)), ((0, 9, 0), (9, 0, 0)))
        found = [most_with(matter, acts) for acts in ((0,), (1,), (2,), (0, 2))]
        self.assertEqual(found, [(9, 2), (9, 2), (0, 1), (9, 2)])
        matter = Matter((1, 3, 1), ((1, 0, 0), (0, 1, 0), (0, 0, 1)), ((9, 0, 9), (0, 1, 0), (9, 0, 9)))
        self.assertEqual([most_with(matter, acts) for acts in ((0,), (1,), (2,), (0, 2))], [None, (3, 5), None, None])
        found = fewest(matter, (3, 1))
        self.assertEqual(list(found.doubts)[:3], [(0,), (1,), (2,)])
        self.assertIs(found.shows(matter, (3, 1)), True)

    def test_the_greatest_goal(self):
        matter = Matter((1, 6), ((-9, 9), (9, -9)), ((0, 9), (9, 0)))
        self.assertEqual(fewest(matter, (9, 1)).acts, (0, 1))
        self.assertEqual(fewest_words(matter, (9, 1)), 2)
        self.assertEqual(fewest_words(COURT, (9, 1)), None)
        self.assertEqual(fewest_words(COURT, (1, 1)), None)

    def test_a_goal_that_is_just_missed(self):
        long = 10 ** 900
        above = pair(Fraction(2, 3) + Fraction(1, long))
        self.assertEqual(fewest_words(COURT, GOAL), 2)
        self.assertEqual(fewest_words(COURT, above), None)
        self.assertIs(fewest(COURT, above).shows(COURT, above), True)
        self.assertEqual(list(fewest(COURT, above).doubts), [(0,), (1,), (0, 1)])

    def test_three_and_four_words(self):
        three = Matter((1, 1, 1), ((2, 0, 0), (0, 2, 0), (0, 0, 2)), ((5, 0, 0), (0, 5, 0), (0, 0, 5)))
        self.assertEqual(fewest(three, (5, 1)).acts, (0, 1, 2))
        self.assertEqual(list(fewest(three, (5, 1)).doubts), [(0,), (1,), (2,), (0, 1), (0, 2), (1, 2)])
        rows = tuple(tuple(9 if act == case else -9 for act in range(4)) for case in range(4))
        four = Matter((1, 1, 1, 1), rows, tuple(tuple(max(0, each) for each in row) for row in rows))
        self.assertEqual(fewest(four, (9, 1)).acts, (0, 1, 2, 3))
        self.assertEqual(list(fewest(four, (9, 1)).doubts), sets_of(four)[:-1])

    def test_the_first_set_of_its_length(self):
        matter = Matter((1, 1), ((0, 0, 0, 0), (0, 0, 0, 0)), ((3, 5, 4, 5), (5, 3, 4, 5)))
        self.assertEqual([fewest(matter, goal).acts for goal in ((4, 1), (17, 4), (5, 1))], [(0,), (3,), (3,)])
        matter = Matter((1, 1), ((0, 0, 0, 0), (0, 0, 0, 0)), ((3, 5, 4, 5), (5, 3, 4, 4)))
        self.assertEqual([fewest(matter, goal).acts for goal in ((9, 2), (5, 1))], [(3,), (0, 1)])


class TestClasses(unittest.TestCase):
    def test_attributes_and_copies(self):
        weights = {(1, 0): (2, 1)}
        bound = Bound(ZEROS, weights)
        doubts = {(0,): bound}
        found = Fewest((0, 1), TABLE, doubts)
        self.assertEqual(vars(bound), {"prices": ZEROS, "weights": {(1, 0): (2, 1)}})
        self.assertEqual(vars(found), {"acts": (0, 1), "table": TABLE, "doubts": {(0,): bound}})
        weights.clear()
        doubts.clear()
        self.assertEqual(bound.weights, {(1, 0): (2, 1)})
        self.assertEqual(list(found.doubts), [(0,)])
        found.doubts[(1,)] = bound
        self.assertEqual(doubts, {})

    def test_bounds_that_are_changed_afterwards(self):
        bound = Bound(ZEROS, {(1, 0): (2, 1)})
        found = Fewest((0, 1), TABLE, {(0,): bound})
        bound.prices = None
        bound.weights.clear()
        self.assertEqual(found.doubts, {(0,): Bound(ZEROS, {(1, 0): (2, 1)})})

    def test_equality_of_bounds(self):
        first = Bound(ZEROS, {(1, 0): (1, 1), (0, 1): (0, 1)})
        self.assertIs(first == Bound(ZEROS, turned(first.weights)), True)
        self.assertIs(first != Bound(ZEROS, turned(first.weights)), False)
        for other in (Bound(((0, 1), (1, 1)), first.weights), Bound(ZEROS, {(1, 0): (1, 1)}),
                      Best(None, ZEROS, first.weights), COURT):
            self.unequal(first, other)

    def unequal(self, first, other):
        self.assertIs(first == other, False)
        self.assertIs(first != other, True)
        self.assertIs(other == first, False)
        self.assertIs(other != first, True)

    def test_equality_of_fewests(self):
        first = Fewest((0, 1), TABLE, DOUBTS)
        same = Fewest((0, 1), TABLE, {acts: Bound(DOUBTS[acts].prices, DOUBTS[acts].weights) for acts in ((1,), (0,))})
        self.assertIs(first == same, True)
        self.assertIs(first != same, False)
        for other in (Fewest(None, TABLE, DOUBTS), Fewest((0, 1), None, DOUBTS), Fewest((0, 1), TABLE, {}),
                      Fewest((0, 1), TABLE, {**DOUBTS, (1,): DOUBTS[(0,)]}), DOUBTS[(0,)], COURT):
            self.unequal(first, other)

    def test_iteration(self):
        found = fewest(COURT, (1, 1))
        expected = [((0,), found.doubts[(0,)]), ((1,), found.doubts[(1,)]), ((0, 1), found.doubts[(0, 1)])]
        self.assertEqual(list(found), expected)
        self.assertEqual(list(found), expected)
        self.assertEqual([type(item) for item in found], [tuple] * 3)
        self.assertEqual([(one, other) for one, _ in found for other, _ in found],
                         [(one, other) for one, _ in expected for other, _ in expected])
        self.assertEqual(list(Fewest(None, None, turned(found.doubts))), expected[::-1])
        self.assertEqual(list(fewest(COURT, (0, 1))), [])
        found.doubts = {}
        self.assertEqual(list(found), [])

    def test_results_are_new(self):
        first = fewest(COURT, GOAL)
        first.doubts[(0,)].weights[(0, 1)] = None
        first.doubts.clear()
        self.assertIs(fewest(COURT, GOAL).shows(COURT, GOAL), True)

    def test_parameters_may_be_passed_by_name(self):
        self.assertEqual(Bound(weights={}, prices=ZEROS), Bound(ZEROS, {}))
        self.assertEqual(Fewest(doubts={}, table=None, acts=None), Fewest(None, None, {}))
        self.assertEqual(fewest(goal=GOAL, matter=COURT), fewest(COURT, GOAL))
        self.assertEqual(fewest_words(goal=GOAL, matter=COURT), 2)
        self.assertEqual(most_with(acts=(0, 1), matter=COURT), (2, 3))
        self.assertIs(Bound(ZEROS, {}).shows(goal=GOAL, acts=(0,), matter=COURT), True)
        self.assertIs(fewest(COURT, GOAL).shows(goal=GOAL, matter=COURT), True)

    def test_methods_stand_in_their_classes_and_all_in_the_file(self):
        for name in ("__init__", "__eq__", "shows"):
            self.assertIn(name, vars(Bound))
            self.assertIn(name, vars(Fewest))
        self.assertIn("__iter__", vars(Fewest))
        for name in ("Bound", "Fewest", "fewest", "fewest_words", "most_with"):
            self.assertEqual(getattr(few, name).__module__, "saywhat.few")


class TestErrors(unittest.TestCase):
    def refused(self, error, function, *arguments):
        with self.subTest(function=function, arguments=arguments), self.assertRaises(error) as caught:
            function(*arguments)
        return caught.exception

    def test_things_that_are_no_matter_come_first(self):
        bound, found = DOUBTS[(0,)], Fewest((0, 1), TABLE, DOUBTS)
        for wrong in WRONG_MATTERS:
            for goal in (GOAL, None, (2, 4)):
                for function in (fewest, fewest_words, found.shows, Fewest(None, None, {}).shows):
                    self.assertIsNone(self.refused(BadMatter, function, wrong, goal).part)
                for acts in ((0,), None, (1, 0)):
                    self.assertIsNone(self.refused(BadMatter, bound.shows, wrong, acts, goal).part)
                    self.assertIsNone(self.refused(BadMatter, most_with, wrong, acts).part)

    def test_wrong_sets_come_before_wrong_goals(self):
        for wrong in WRONG_SETS:
            self.refused(BadActs, most_with, COURT, wrong)
            for goal in (GOAL, None, (2, 4)):
                self.refused(BadActs, DOUBTS[(0,)].shows, COURT, wrong, goal)
                self.refused(BadActs, Bound((), {}).shows, COURT, wrong, goal)

    def test_wrong_goals(self):
        found = Fewest((0, 1), TABLE, DOUBTS)
        for wrong in WRONG_GOALS:
            for function in (fewest, fewest_words, found.shows, Fewest(None, TABLE, {}).shows):
                self.refused(BadGoal, function, COURT, wrong)
            self.refused(BadGoal, DOUBTS[(0,)].shows, COURT, (0,), wrong)
            self.refused(BadGoal, Bound((), {}).shows, COURT, (0,), wrong)

    def test_sets_of_more_acts(self):
        four = Matter((1, 1), ((0, 0, 0, 0), (0, 0, 0, 0)), ((1, 2, 3, 4), (1, 2, 3, 4)))
        for acts in sets_of(four):
            self.assertEqual(most_with(four, acts), (max(acts) + 1, 1))
        for wrong in ((4,), (0, 4), (0, 1, 2, 3, 4), (0, 2, 1), (3, 2, 1, 0), (0, 1, 1, 2)):
            self.refused(BadActs, most_with, four, wrong)

    def test_goals_at_the_ends(self):
        for goal in ((0, 1), (9, 1), (1, 10 ** 900), (9 * 10 ** 900 - 1, 10 ** 900), THIRD):
            self.assertIs(fewest(COURT, goal).shows(COURT, goal), True)

    def test_a_refused_call_changes_nothing(self):
        found = fewest(COURT, GOAL)
        self.refused(BadGoal, found.shows, COURT, (2, 4))
        self.refused(BadMatter, found.shows, None, GOAL)
        self.refused(BadActs, found.doubts[(0,)].shows, COURT, (), GOAL)
        self.assertEqual(found, fewest(COURT, GOAL))


class TestExamples(unittest.TestCase):
    def test_the_example_of_the_document(self):
        test = doctest.DocTestParser().get_doctest(EXAMPLE, {}, "few", None, 0)
        self.assertEqual(doctest.DocTestRunner(verbose=False).run(test), (0, 5))


if __name__ == "__main__":
    unittest.main()
