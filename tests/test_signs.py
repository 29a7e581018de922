"""Point [6]: what the hearer sees itself, against an independent look at each of its conditions."""

import doctest
import itertools
import random
import unittest
from fractions import Fraction

from looks import (ALWAYS, COURT, HALF, NEVER, WRONG_MATTERS, Signs, changed_row, changed_weights, cost, pair, shown,
                   some_matter, turned)
from saywhat import signs as file_of_signs
from saywhat.best import Best, best_worth
from saywhat.errors import BadMatter, BadSigns, TooLarge
from saywhat.matters import Matter
from saywhat.signs import Signed, best_signed, signed_worth, silent_worth
from saywhat.tellings import silent_table, whole_table, worth_of

EXAMPLE = """
>>> from saywhat.matters import Matter
>>> from saywhat.signs import Signed, best_signed, signed_worth, silent_worth
>>> court = Matter((2, 1), ((1, 0), (0, 1)), ((0, 1), (0, 1)))
>>> blind, sharp, some = ((1, 1), (1, 1)), ((1, 0), (0, 1)), ((3, 1), (1, 3))
>>> found = best_signed(court, some)
>>> [[silent_worth(court, signs) for signs in (blind, sharp, some)], [signed_worth(court, signs) for signs in (blind, sharp, some)], found.shows(court, some), Signed(found.told, found.prices, {}).shows(court, some)]
[[(0, 1), (1, 3), (5, 12)], [(2, 3), (1, 3), (23, 48)], True, False]
"""

BLIND, SHARP, SOME = ((1, 1), (1, 1)), ((1, 0), (0, 1)), ((3, 1), (1, 3))
# The sizes that are not too large: cases, acts and signs.
SIZES = ((2, 2, 2), (3, 2, 2), (2, 2, 3), (3, 2, 3), (2, 3, 2), (3, 3, 2))
WRONG_ROWS = (None, True, 1, "11", b"11", [1, 1], {1: 2}, {1, 2}, (), (1,), (1, 1, 1), (1, 1, 1, 1), (0, 0), (7, 1),
              (1, 7), (-1, 1), (1, -1), (10 ** 900, 1), (True, 1), (1, False), ("1", 1), (None, 1), (1, (1,)),
              ([1], 1), COURT)
WRONG_SIGNS = (None, True, False, 1, "11", b"11", [], {}, set(), range(2), (), [(1, 1), (1, 1)], ((1, 1),),
               ((1, 1), (1, 1), (1, 1)), ((1,), (1,)), ((1, 1, 1, 1), (1, 1, 1, 1)), ((), ()), {(1, 1): 1, (1, 2): 2},
               ((1, 1, 1), (1, 1)), ((1, 1), (1, 1, 1)), (0, 0), "abab", COURT, object())


def some_signs(chance, cases, many):
    """Signs, some of them never seen in some cases, or in all."""
    unseen = chance.choice((None, None, None, many - 1))
    rows = []
    for _ in range(cases):
        row = [0 if sign == unseen else chance.choice((0, 1, 2, 3, chance.randint(0, 6))) for sign in range(many)]
        if not any(row):
            row[0] = chance.randint(1, 6)
        rows.append(tuple(row))
    return tuple(rows)


def many_signs(chance, rounds=3):
    """Matters and signs of all sizes that are not too large."""
    for _ in range(rounds):
        for cases, acts, many in SIZES:
            for widest in (1, 2, 9):
                yield some_matter(chance, cases, acts, widest), some_signs(chance, cases, many)


def judged(found, matter, signs):
    """What shows should return, by point [6] alone."""
    look = Signs(matter, signs)
    worth = look.worth(found.told)
    if worth is None or not look.covers(found.prices, found.weights):
        return False
    return cost(matter, found.prices) == worth


def wrong_demands(matter, signs):
    """Triples of a tuple and two integers that are no demands."""
    acts, many = len(matter.gains[0]), len(signs[0])
    plan = (0,) * many
    return [(plan, 0, 0), (plan, many, 1), (plan, -1, 1), (plan, 0, acts), (plan, 0, -1), ((), 0, 1), ((0,), 0, 1),
            ((*plan, 0), 0, 1), ((acts,) * many, 0, 0), ((-1,) * many, 0, 0), (plan, 0), (plan, 0, 1, 1), ()]


def changed(chance, matter, signs, found):
    """A Signed with one change."""
    look = Signs(matter, signs)
    what = chance.choice(("chance", "chance", "plan", "less", "wrong", "prices", "weights", "weights"))
    if what == "weights":
        weights = changed_weights(chance, found.weights, look.demands, wrong_demands(matter, signs))
        return Signed(found.told, found.prices, weights)
    if what == "prices":
        return Signed(found.told, changed_row(chance, found.prices), found.weights)
    chosen = chance.choice(list(found.told))
    if what == "chance":
        return Signed({**found.told, chosen: changed_row(chance, found.told[chosen])}, found.prices, found.weights)
    if what == "less":
        told = {plan: found.told[plan] for plan in found.told if plan != chosen}
        return Signed(told, found.prices, found.weights)
    if what == "plan":
        # As another plan, the same chances may still be followed, and worth as much.
        told = {plan: found.told[plan] for plan in found.told if plan != chosen}
        other = chance.choice([plan for plan in look.plans if plan not in told])
        return Signed({**told, other: found.told[chosen]}, found.prices, found.weights)
    acts, many = len(matter.gains[0]), len(signs[0])
    wrong = chance.choice([(), (0,), (0,) * (many + 1), (acts,) * many, (-1,) * many])
    return Signed({**found.told, wrong: (NEVER,) * len(matter)}, found.prices, found.weights)


class TestManySigns(unittest.TestCase):
    def test_each_condition(self):
        unseen = 0
        for matter, signs in many_signs(random.Random(60)):
            with self.subTest(matter=shown(matter), signs=signs):
                found = best_signed(matter, signs)
                look = Signs(matter, signs)
                worth = look.worth(found.told)
                self.assertIsNotNone(worth)
                self.assertTrue(look.covers(found.prices, found.weights))
                self.assertEqual(cost(matter, found.prices), worth)
                self.assertEqual(signed_worth(matter, signs), pair(worth))
                self.assertIs(found.shows(matter, signs), True)
            unseen += any(0 in row for row in signs)
        self.assertGreater(unseen, 10)

    def test_no_other_is_worth_more(self):
        for matter, signs in many_signs(random.Random(61)):
            look = Signs(matter, signs)
            most = Fraction(*signed_worth(matter, signs))
            best_acts = [max(range(len(row)), key=lambda act: (gains[act], row[act]))
                         for gains, row in zip(matter.gains, matter.worths)]
            told = {}
            for case, act in enumerate(best_acts):
                row = list(told.get((act,) * len(signs[0]), (NEVER,) * len(matter)))
                row[case] = ALWAYS
                told[(act,) * len(signs[0])] = tuple(row)
            with self.subTest(matter=shown(matter), signs=signs):
                self.assertEqual(pair(look.worth(told)), worth_of(matter, whole_table(matter)))
                self.assertLessEqual(look.worth(told), most)
                self.assertLessEqual(Fraction(*silent_worth(matter, signs)), most)

    def test_blind_signs_change_nothing(self):
        chance = random.Random(62)
        for cases, acts, many in SIZES:
            for widest in (1, 2, 9):
                matter = some_matter(chance, cases, acts, widest)
                row = some_signs(chance, 1, many)[0]
                with self.subTest(matter=shown(matter), row=row):
                    self.assertEqual(signed_worth(matter, (row,) * cases), best_worth(matter))
                    self.assertEqual(silent_worth(matter, (row,) * cases), worth_of(matter, silent_table(matter)))

    def test_signs_that_tell_all_leave_no_choice(self):
        chance = random.Random(63)
        for cases, acts, many in SIZES:
            if many >= cases:
                matter = some_matter(chance, cases, acts, 9)
                signs = tuple(tuple(3 * (sign == case) for sign in range(many)) for case in range(cases))
                whole = worth_of(matter, whole_table(matter))
                with self.subTest(matter=shown(matter), signs=signs):
                    self.assertEqual(signed_worth(matter, signs), whole)
                    self.assertEqual(silent_worth(matter, signs), whole)

    def test_shows_in_any_order(self):
        several = 0
        for matter, signs in many_signs(random.Random(64)):
            found = best_signed(matter, signs)
            other = Signed(turned(found.told), found.prices, turned(found.weights))
            several += list(other.told) != list(found.told) and list(other.weights) != list(found.weights)
            with self.subTest(matter=shown(matter), signs=signs):
                self.assertIs(other.shows(matter, signs), True)
        self.assertGreater(several, 5)

    def test_shows_with_plans_that_are_never_said(self):
        for matter, signs in many_signs(random.Random(65)):
            found = best_signed(matter, signs)
            told = {plan: found.told.get(plan, (NEVER,) * len(matter)) for plan in Signs(matter, signs).plans}
            with self.subTest(matter=shown(matter), signs=signs):
                self.assertIs(Signed(told, found.prices, found.weights).shows(matter, signs), True)

    def test_shows_with_one_change(self):
        chance = random.Random(66)
        answers = {True: 0, False: 0}
        for matter, signs in many_signs(chance, 2):
            found = best_signed(matter, signs)
            for _ in range(30):
                other = changed(chance, matter, signs, found)
                answer = judged(other, matter, signs)
                answers[answer] += 1
                with self.subTest(matter=shown(matter), signs=signs, other=vars(other)):
                    self.assertIs(other.shows(matter, signs), answer)
        self.assertGreater(answers[True], 30)
        self.assertGreater(answers[False], 500)

    def test_shows_for_other_signs(self):
        chance = random.Random(67)
        for matter, signs in many_signs(chance):
            found = best_signed(matter, signs)
            other = some_signs(chance, len(matter), chance.randint(2, 3))
            with self.subTest(matter=shown(matter), signs=signs, other=other):
                self.assertIs(found.shows(matter, other), judged(found, matter, other))

    def test_silent_worth(self):
        chance = random.Random(68)
        for cases, acts, many in itertools.product((2, 3, 4), (2, 3, 4), (2, 3)):
            for widest in (1, 1, 2, 9):
                matter, signs = some_matter(chance, cases, acts, widest), some_signs(chance, cases, many)
                with self.subTest(matter=shown(matter), signs=signs):
                    self.assertEqual(silent_worth(matter, signs), pair(self.silently(matter, signs)))

    def silently(self, matter, signs):
        total = Fraction(0)
        for sign in range(len(signs[0])):
            together = [Fraction(part, sum(matter.parts)) * Fraction(row[sign], sum(row))
                        for part, row in zip(matter.parts, signs)]
            pairs = [(sum(each * row[act] for each, row in zip(together, matter.gains)),
                      sum(each * row[act] for each, row in zip(together, matter.worths)))
                     for act in range(len(matter.gains[0]))]
            total += max(pairs)[1]
        return total


class TestShows(unittest.TestCase):
    """Blind signs: the plans (0, 0) and (1, 1) are the acts of the best table."""

    TOLD = {(0, 0): (HALF, NEVER), (1, 1): (HALF, ALWAYS)}
    PRICES = ((0, 1), (2, 1))
    WEIGHTS = {((1, 1), 0, 0): (1, 1), ((1, 1), 1, 0): (1, 1), ((0, 1), 1, 0): (1, 1), ((1, 0), 0, 0): (1, 1)}

    def shows(self, answer, told=None, prices=None, weights=None, signs=BLIND):
        found = Signed(self.TOLD if told is None else told, self.PRICES if prices is None else prices,
                       self.WEIGHTS if weights is None else weights)
        with self.subTest(found=vars(found)):
            self.assertIs(found.shows(COURT, signs), answer)

    def test_as_it_is(self):
        self.shows(True)
        self.shows(True, signs=((2, 2), (5, 5)))
        self.shows(False, signs=SHARP)

    def test_told(self):
        self.shows(True, told={**self.TOLD, (0, 1): (NEVER, NEVER)})
        self.shows(False, told={})
        self.shows(False, told={(1, 1): (HALF, ALWAYS)})
        self.shows(False, told={(1, 1): (ALWAYS, ALWAYS)})
        self.shows(False, told={(0, 0): (ALWAYS, NEVER), (1, 1): (NEVER, ALWAYS)})
        self.shows(False, told={(0, 0): (HALF, NEVER), (1, 1): (HALF, HALF)})
        self.shows(False, told={(0, 0): ((2, 4), NEVER), (1, 1): (HALF, ALWAYS)})
        self.shows(False, told={(0, 0): ((-1, 2), NEVER), (1, 1): ((3, 2), ALWAYS)})

    def test_chances_out_of_range_that_would_fit(self):
        same = Matter((1, 1), ((0, 0), (0, 0)), ((3, 3), (3, 3)))
        prices = ((3, 1), (3, 1))
        self.assertIs(Signed({(0, 0): (HALF, HALF), (1, 1): (HALF, HALF)}, prices, {}).shows(same, BLIND), True)
        wrong = {(0, 0): ((-1, 2), HALF), (1, 1): ((3, 2), HALF)}
        self.assertIs(Signed(wrong, prices, {}).shows(same, BLIND), False)

    def test_lengths_in_told(self):
        self.shows(False, told={(0, 0): (HALF,), (1, 1): (HALF, ALWAYS)})
        self.shows(False, told={(0, 0): (HALF, NEVER, NEVER), (1, 1): (HALF, ALWAYS, NEVER)})
        self.shows(False, told={(0, 0): (), (1, 1): ()})

    def test_plans_that_are_none(self):
        for wrong in ((), (0,), (0, 0, 0), (0, 2), (2, 0), (-1, 0), (False, 1), (0, True)):
            self.shows(False, told={**self.TOLD, wrong: (NEVER, NEVER)})

    def test_prices(self):
        for wrong in ((), ((0, 1),), ((0, 1), (2, 1), (0, 1)), ((0, 1), (3, 1)), ((0, 1), (1, 1)), ((1, 2), (1, 1)),
                      ((0, 2), (2, 1)), ((0, 1), (2, True))):
            self.shows(False, prices=wrong)

    def test_weights(self):
        for demand in self.WEIGHTS:
            self.shows(False, weights={key: self.WEIGHTS[key] for key in self.WEIGHTS if key != demand})
            for wrong in ((0, 1), (4, 1), (-1, 1), (2, 2), (True, 1)):
                self.shows(False, weights={**self.WEIGHTS, demand: wrong})
        self.shows(True, weights={**self.WEIGHTS, ((0, 0), 0, 1): (0, 1)})

    def test_a_weight_below_0_that_would_fit(self):
        same = Matter((1, 1), ((0, 0), (0, 0)), ((3, 3), (3, 3)))
        told, prices = {(0, 0): (ALWAYS, ALWAYS)}, ((3, 1), (3, 1))
        self.assertIs(Signed(told, prices, {((0, 0), 0, 1): (1, 1)}).shows(same, BLIND), True)
        self.assertIs(Signed(told, prices, {((0, 0), 0, 1): (-1, 1)}).shows(same, BLIND), False)

    def test_demands_that_are_none(self):
        for wrong in [*wrong_demands(COURT, BLIND), ((1, 1), True, 0), ((True, 1), 0, 0), ((1, 1), 0, False)]:
            self.shows(False, weights={**self.WEIGHTS, wrong: (0, 1)})
        changed_key = {((True, 1), 0, 0): (1, 1)}
        self.shows(False, weights={**{key: self.WEIGHTS[key] for key in list(self.WEIGHTS)[1:]}, **changed_key})

    def test_the_current_attributes(self):
        found = Signed(self.TOLD, self.PRICES, self.WEIGHTS)
        found.prices = ((0, 1), (3, 1))
        self.assertIs(found.shows(COURT, BLIND), False)
        found.prices = self.PRICES
        self.assertIs(found.shows(COURT, BLIND), True)
        kept = found.weights.pop(((1, 1), 0, 0))
        self.assertIs(found.shows(COURT, BLIND), False)
        found.weights[((1, 1), 0, 0)] = kept
        self.assertIs(found.shows(COURT, BLIND), True)
        found.told = {(0, 0): (ALWAYS, NEVER), (1, 1): (NEVER, ALWAYS)}
        self.assertIs(found.shows(COURT, BLIND), False)

    def test_more_than_three_cases_or_nine_plans_are_no_error(self):
        four = Matter((1,) * 4, ((0, 0),) * 4, ((3, 3),) * 4)
        told, prices = {(0, 1): (ALWAYS,) * 4}, ((3, 1),) * 4
        self.assertIs(Signed(told, prices, {}).shows(four, ((1, 2),) * 4), True)
        self.assertIs(Signed(told, prices[:3], {}).shows(four, ((1, 2),) * 4), False)
        acts = Matter((1, 1), ((0, 0, 0, 0),) * 2, ((0, 1, 2, 3),) * 2)
        found = Signed({(3, 3, 3): (ALWAYS, ALWAYS)}, ((3, 1), (3, 1)), {((3, 3, 3), 2, 0): (5, 1)})
        self.assertIs(found.shows(acts, ((1, 1, 1), (1, 1, 1))), True)
        self.assertIs(Signed({(3, 3, 2): (ALWAYS, ALWAYS)}, found.prices, {}).shows(acts, ((1, 1, 1),) * 2), False)


class TestSilent(unittest.TestCase):
    def test_a_sign_that_is_never_seen(self):
        self.assertEqual(silent_worth(COURT, ((1, 0), (1, 0))), worth_of(COURT, silent_table(COURT)))
        self.assertEqual(silent_worth(COURT, ((0, 1, 0), (0, 6, 0))), (0, 1))
        self.assertEqual(silent_worth(COURT, ((0, 1, 0), (0, 0, 6))), (1, 3))

    def test_of_equal_gains_the_greatest_worth(self):
        matter = Matter((1, 1), ((3, 3, 3, 2), (3, 3, 3, 2)), ((1, 4, 2, 9), (1, 0, 2, 9)))
        self.assertEqual(silent_worth(matter, SHARP), (3, 1))
        self.assertEqual(silent_worth(matter, BLIND), (2, 1))

    def test_no_size_is_too_large(self):
        four = Matter((1, 2, 3, 4), ((1, 0, 0, 0), (0, 1, 0, 0), (0, 0, 1, 0), (0, 0, 0, 1)), ((1, 2, 3, 4),) * 4)
        self.assertEqual(silent_worth(four, ((1, 1, 1),) * 4), (4, 1))
        self.assertEqual(silent_worth(four, ((1, 0, 0), (0, 1, 0), (0, 0, 1), (0, 0, 1))), (33, 10))


class TestEdges(unittest.TestCase):
    def test_a_sign_that_is_never_seen(self):
        for signs in (((1, 0), (1, 0)), ((0, 1, 0), (0, 6, 0))):
            self.assertEqual(signed_worth(COURT, signs), (2, 3))
            self.assertIs(best_signed(COURT, signs).shows(COURT, signs), True)

    def test_a_sign_that_is_never_seen_in_one_case(self):
        # After sign 1 the hearer knows the case; sign 0 is seen in case 0 always, and in case 1 in half of all times.
        signs = ((1, 0), (1, 1))
        found = best_signed(COURT, signs)
        self.assertEqual(signed_worth(COURT, signs), (1, 2))
        self.assertIs(found.shows(COURT, signs), True)
        self.assertEqual(Signs(COURT, signs).worth(found.told), Fraction(1, 2))

    def test_the_greatest_sizes(self):
        chance = random.Random(69)
        for cases, acts, many in ((3, 3, 2), (3, 2, 3)):
            signs = tuple(tuple(chance.choice((1, 5, 6)) for _ in range(many)) for _ in range(cases))
            matter = some_matter(chance, cases, acts, 9)
            self.assertIs(best_signed(matter, signs).shows(matter, signs), True)

    def test_all_that_is_told_are_plans_with_chances(self):
        for matter, signs in many_signs(random.Random(70), 1):
            found = best_signed(matter, signs)
            self.assertLessEqual(set(found.told), set(Signs(matter, signs).plans))
            self.assertEqual({len(row) for row in found.told.values()}, {len(matter)})


class TestClass(unittest.TestCase):
    def test_attributes_and_copies(self):
        told, weights = {(0, 0): (ALWAYS, ALWAYS)}, {((0, 0), 0, 1): (1, 1)}
        found = Signed(told, ((0, 1), (0, 1)), weights)
        self.assertEqual(vars(found), {"told": told, "prices": ((0, 1), (0, 1)), "weights": weights})
        told.clear()
        weights.clear()
        self.assertEqual(found.told, {(0, 0): (ALWAYS, ALWAYS)})
        self.assertEqual(found.weights, {((0, 0), 0, 1): (1, 1)})
        found.told[(1, 1)] = found.weights[((1, 1), 0, 0)] = None
        self.assertEqual((told, weights), ({}, {}))

    def test_iteration(self):
        found = Signed({(1, 1): (HALF, ALWAYS), (0, 0): (HALF, NEVER)}, ((0, 1), (2, 1)), {})
        expected = [((1, 1), (HALF, ALWAYS)), ((0, 0), (HALF, NEVER))]
        self.assertEqual(list(found), expected)
        self.assertEqual(list(found), expected)
        self.assertEqual([type(item) for item in found], [tuple, tuple])
        both = [(one, other) for one in found for other in found]
        self.assertEqual(both, list(itertools.product(expected, repeat=2)))
        found.told = {}
        self.assertEqual(list(found), [])

    def test_equality(self):
        first = best_signed(COURT, SOME)
        same = Signed(turned(first.told), first.prices, turned(first.weights))
        self.assertIs(first == same, True)
        self.assertIs(first != same, False)
        for other in (Signed({}, first.prices, first.weights), Signed(first.told, first.prices[::-1], first.weights),
                      Signed(first.told, first.prices, {}), Best(first.told, first.prices, first.weights), COURT):
            self.assertIs(first == other, False)
            self.assertIs(first != other, True)
            self.assertIs(other == first, False)
            self.assertIs(other != first, True)

    def test_results_are_new(self):
        first = best_signed(COURT, SOME)
        first.told.clear()
        first.weights.clear()
        self.assertIs(best_signed(COURT, SOME).shows(COURT, SOME), True)

    def test_parameters_may_be_passed_by_name(self):
        self.assertEqual(Signed(weights={}, prices=(), told={}), Signed({}, (), {}))
        self.assertEqual(best_signed(signs=SOME, matter=COURT), best_signed(COURT, SOME))
        self.assertEqual(signed_worth(signs=SOME, matter=COURT), (23, 48))
        self.assertEqual(silent_worth(signs=SOME, matter=COURT), (5, 12))
        self.assertIs(best_signed(COURT, SOME).shows(signs=SOME, matter=COURT), True)

    def test_methods_stand_in_the_class_and_all_in_the_file(self):
        for name in ("__init__", "__eq__", "__iter__", "shows"):
            self.assertIn(name, vars(Signed))
        for name in ("Signed", "best_signed", "signed_worth", "silent_worth"):
            self.assertEqual(getattr(file_of_signs, name).__module__, "saywhat.signs")


class TestErrors(unittest.TestCase):
    def functions(self):
        return (best_signed, signed_worth, silent_worth, best_signed(COURT, SOME).shows, Signed({}, (), {}).shows)

    def refused(self, error, function, *arguments):
        with self.subTest(function=function, arguments=arguments), self.assertRaises(error) as caught:
            function(*arguments)
        return caught.exception

    def test_things_that_are_no_matter_come_first(self):
        for function in self.functions():
            for wrong in WRONG_MATTERS:
                for signs in (SOME, None, ((1, 1),)):
                    self.assertIsNone(self.refused(BadMatter, function, wrong, signs).part)

    def test_wrong_signs(self):
        for function in self.functions():
            for wrong in WRONG_SIGNS:
                self.refused(BadSigns, function, COURT, wrong)
            for row in WRONG_ROWS:
                self.refused(BadSigns, function, COURT, ((1, 1), row))
                self.refused(BadSigns, function, COURT, (row, (1, 1)))
            for row in ((0, 0), (0, 0, 0), (7, 1), (-1, 1), (1, 1, 7), (1,), (1, 1, 1, 1)):
                self.refused(BadSigns, function, COURT, (row, row))

    def test_the_ends_of_all_ranges_are_signs(self):
        for row in ((0, 1), (1, 0), (6, 6), (0, 6), (6, 0, 0), (0, 0, 1), (6, 6, 6)):
            self.assertIs(best_signed(COURT, (row, row)).shows(COURT, (row, row)), True)

    def test_wrong_signs_come_before_sizes(self):
        four = Matter((1,) * 4, ((0, 1),) * 4, ((0, 1),) * 4)
        for function in (best_signed, signed_worth):
            self.refused(BadSigns, function, four, ((1, 1),) * 3)
            self.refused(BadSigns, function, four, ((0, 0),) * 4)
            self.refused(TooLarge, function, four, ((1, 1),) * 4)

    def test_sizes(self):
        for cases, acts, many in itertools.product((2, 3, 4), (2, 3, 4), (2, 3)):
            matter = Matter((1,) * cases, ((0,) * acts,) * cases, ((2,) * acts,) * cases)
            signs = ((1,) * many,) * cases
            for function in (best_signed, signed_worth):
                if (cases, acts, many) in SIZES:
                    function(matter, signs)
                else:
                    self.refused(TooLarge, function, matter, signs)

    def test_a_refused_call_changes_nothing(self):
        found = best_signed(COURT, SOME)
        self.refused(BadSigns, found.shows, COURT, ((1, 1),))
        self.refused(BadMatter, found.shows, None, SOME)
        self.assertEqual(found, best_signed(COURT, SOME))


class TestExamples(unittest.TestCase):
    def test_the_example_of_the_document(self):
        test = doctest.DocTestParser().get_doctest(EXAMPLE, {}, "signs", None, 0)
        self.assertEqual(doctest.DocTestRunner(verbose=False).run(test), (0, 6))


if __name__ == "__main__":
    unittest.main()
