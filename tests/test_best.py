"""Point [4]: the best table, against an independent look at each of its conditions."""

import doctest
import random
import unittest
from fractions import Fraction

from looks import (ALWAYS, COURT, HALF, NEVER, WRONG_MATTERS, Beliefs, acts_of, changed_row, changed_weights, cost,
                   covers, fractions, followed_worth, many_matters, pair, shown, some_matter, turned)
from saywhat import best as file_of_best
from saywhat.best import Best, best, best_worth
from saywhat.errors import BadMatter
from saywhat.few import Bound
from saywhat.matters import Matter
from saywhat.tellings import silent_table, whole_table, worth_of

EXAMPLE = """
>>> from saywhat.best import Best, best, best_worth
>>> from saywhat.matters import Matter
>>> court = Matter((2, 1), ((1, 0), (0, 1)), ((0, 1), (0, 1)))
>>> table, prices = (((1, 2), (1, 2)), ((0, 1), (1, 1))), ((0, 1), (2, 1))
>>> shown = [Best(table, prices, {(1, 0): (1, 1)}).shows(court), Best(table, prices, {}).shows(court), Best((((1, 1), (0, 1)), ((0, 1), (1, 1))), prices, {(1, 0): (1, 1)}).shows(court)]
>>> [best(court).table, best_worth(court), shown, best(court).shows(court)]
[(((1, 2), (1, 2)), ((0, 1), (1, 1))), (2, 3), [True, False, False], True]
"""

TABLE = ((HALF, HALF), (NEVER, ALWAYS))
PRICES = ((0, 1), (2, 1))
WEIGHTS = {(1, 0): (1, 1)}


def judged(found, matter):
    """What shows should return, by point [4] alone."""
    worth = followed_worth(matter, found.table)
    if worth is None or not covers(matter, found.prices, found.weights, acts_of(matter)):
        return False
    return cost(matter, found.prices) == worth


def changed(chance, matter, found):
    """A Best with one change."""
    acts = acts_of(matter)
    good = [(act, other) for act in acts for other in acts if other != act]
    wrong = [(acts[-1], len(acts)), (0, 0), (0,), (0, 1, 1), (), (-1, 0), (len(acts), 0)]
    what = chance.choice(("row", "rows", "prices", "weights"))
    if what == "weights":
        return Best(found.table, found.prices, changed_weights(chance, found.weights, good, wrong))
    if what == "prices":
        return Best(found.table, changed_row(chance, found.prices), found.weights)
    if what == "rows":
        table = chance.choice((found.table[1:], found.table + found.table[:1], found.table[::-1]))
        return Best(table, found.prices, found.weights)
    at = chance.randrange(len(found.table))
    row = chance.choice((changed_row(chance, found.table[at]), found.table[at][::-1]))
    return Best(found.table[:at] + (row,) + found.table[at + 1:], found.prices, found.weights)


class TestManyMatters(unittest.TestCase):
    def test_each_condition(self):
        for matter in many_matters(random.Random(40)):
            with self.subTest(matter=shown(matter)):
                found = best(matter)
                worth = followed_worth(matter, found.table)
                self.assertIsNotNone(worth)
                self.assertTrue(covers(matter, found.prices, found.weights, acts_of(matter)))
                self.assertEqual(cost(matter, found.prices), worth)
                self.assertEqual(best_worth(matter), pair(worth))

    def test_no_other_table_is_worth_more(self):
        chance = random.Random(41)
        reached = 0
        for matter in many_matters(chance):
            most = Fraction(*best_worth(matter))
            tables = [silent_table(matter), whole_table(matter)]
            for words in (2, 3, 4):
                rows = [[chance.randint(0, 3) for _ in range(words - 1)] + [1] for _ in matter.parts]
                tables.append(tuple(tuple(pair(Fraction(each, sum(row))) for each in row) for row in rows))
            worths = [Fraction(*worth_of(matter, table)) for table in tables]
            with self.subTest(matter=shown(matter)):
                self.assertLessEqual(max(worths), most)
                # The hearer does at least as well for the teller as the advice says, so the best is reached.
                self.assertEqual(Fraction(*worth_of(matter, best(matter).table)), most)
            reached += max(worths) < most
        self.assertGreater(reached, 3)

    def test_the_greatest_worth_from_all_corners_of_beliefs(self):
        chance = random.Random(42)
        for cases, acts in ((2, 2), (2, 3), (2, 4), (3, 2), (3, 3), (4, 2)):
            for widest in (1, 3, 9):
                matter = some_matter(chance, cases, acts, widest)
                with self.subTest(matter=shown(matter)):
                    self.assertEqual(best_worth(matter), pair(Beliefs(matter).greatest(acts_of(matter))))

    def test_shows_what_is_found_in_any_order(self):
        several = 0
        for matter in many_matters(random.Random(43)):
            with self.subTest(matter=shown(matter)):
                found = best(matter)
                other = Best(found.table, found.prices, turned(found.weights))
                self.assertIs(found.shows(matter), True)
                self.assertIs(other.shows(matter), True)
                several += list(other.weights) != list(found.weights)
        self.assertGreater(several, 2)

    def test_shows_with_one_change(self):
        chance = random.Random(44)
        answers = {True: 0, False: 0}
        for matter in many_matters(chance):
            found = best(matter)
            for _ in range(30):
                other = changed(chance, matter, found)
                answer = judged(other, matter)
                answers[answer] += 1
                with self.subTest(matter=shown(matter), other=vars(other)):
                    self.assertIs(other.shows(matter), answer)
        self.assertGreater(answers[True], 20)
        self.assertGreater(answers[False], 300)

    def test_shows_for_another_matter(self):
        chance = random.Random(45)
        for matter in many_matters(chance):
            found = best(matter)
            other = some_matter(chance, chance.randint(2, 4), chance.randint(2, 4), 2)
            with self.subTest(matter=shown(matter), other=shown(other)):
                self.assertIs(found.shows(other), judged(found, other))


class TestShows(unittest.TestCase):
    def shows(self, answer, table=TABLE, prices=PRICES, weights=WEIGHTS):
        with self.subTest(table=table, prices=prices, weights=weights):
            self.assertIs(Best(table, prices, weights).shows(COURT), answer)

    def test_as_it_is(self):
        self.shows(True)

    def test_a_price(self):
        self.shows(False, prices=((0, 1), (1, 1)))
        self.shows(False, prices=((0, 1), (3, 1)))
        self.shows(False, prices=((1, 2), (1, 1)))
        self.shows(False, prices=((-1, 2), (3, 1)))

    def test_a_weight(self):
        self.shows(False, weights={(1, 0): (0, 1)})
        self.shows(False, weights={(1, 0): (1, 2)})
        self.shows(False, weights={(1, 0): (2, 1)})
        self.shows(False, weights={(1, 0): (-1, 1)})
        self.shows(True, weights={(1, 0): (1, 1), (0, 1): (0, 1)})
        self.shows(False, weights={(1, 0): (1, 1), (0, 1): (1, 1)})
        self.shows(False, weights={(1, 0): (1, 1), (0, 1): (-1, 1)})

    def test_a_weight_below_0_that_would_fit(self):
        matter = Matter((1, 1), ((0, 0), (0, 0)), ((3, 3), (3, 3)))
        prices = ((3, 1), (3, 1))
        self.assertIs(Best(TABLE, prices, {(0, 1): (1, 1)}).shows(matter), True)
        self.assertIs(Best(TABLE, prices, {(0, 1): (-1, 1)}).shows(matter), False)

    def test_pairs_that_are_not_of_two_different_acts(self):
        for wrong in ((0, 0), (1, 1), (0, 2), (2, 0), (-1, 0), (0, -1), (0,), (0, 1, 0), (), (0, (1,))):
            self.shows(False, weights={(1, 0): (1, 1), wrong: (0, 1)})

    def test_booleans(self):
        self.shows(False, weights={(True, 0): (1, 1)})
        self.shows(False, weights={(1, False): (1, 1)})
        self.shows(False, weights={(1, 0): (True, 1)})
        self.shows(False, prices=((False, 1), (2, 1)))
        self.shows(False, table=((HALF, HALF), (NEVER, (True, 1))))

    def test_fractions_in_lowest_terms(self):
        self.shows(False, prices=((0, 2), (2, 1)))
        self.shows(False, prices=((0, 1), (4, 2)))
        self.shows(False, weights={(1, 0): (2, 2)})
        self.shows(False, table=(((2, 4), HALF), (NEVER, ALWAYS)))

    def test_lengths_of_prices(self):
        self.shows(False, prices=())
        self.shows(False, prices=((0, 1),))
        self.shows(False, prices=(*PRICES, (0, 1)))

    def test_lengths_of_tables(self):
        self.shows(False, table=())
        self.shows(False, table=TABLE[:1])
        self.shows(False, table=(*TABLE, TABLE[0]))
        self.shows(False, table=((), ()))
        self.shows(False, table=((HALF, HALF), (ALWAYS,)))
        self.shows(False, table=((HALF, HALF, NEVER), (NEVER, ALWAYS, NEVER)))
        self.shows(False, table=((ALWAYS,), (ALWAYS,)))

    def test_chances(self):
        self.shows(False, table=((HALF, NEVER), (NEVER, ALWAYS)))
        self.shows(False, table=((ALWAYS, NEVER), (NEVER, ALWAYS)))
        self.shows(False, table=(((1, 3), (2, 3)), (NEVER, ALWAYS)))
        self.shows(False, table=((HALF, HALF), (ALWAYS, NEVER)))
        self.shows(False, table=(((1, 2), (1, 2)), ((-1, 2), (3, 2))))

    def test_chances_out_of_range_that_would_fit(self):
        same = Matter((1, 1), ((0, 0), (0, 0)), ((3, 3), (3, 3)))
        prices = ((3, 1), (3, 1))
        self.assertIs(Best(((HALF, HALF), (HALF, HALF)), prices, {}).shows(same), True)
        self.assertIs(Best((((-1, 2), (3, 2)), (HALF, HALF)), prices, {}).shows(same), False)

    def test_what_is_never_said_need_not_be_best(self):
        matter = Matter((1, 1), ((1, 0), (1, 0)), ((2, 0), (2, 0)))
        self.assertIs(Best(((ALWAYS, NEVER), (ALWAYS, NEVER)), ((2, 1), (2, 1)), {}).shows(matter), True)

    def test_an_act_that_the_hearer_would_not_take_by_itself(self):
        # Both acts are best for the hearer; by itself it would do the first one, which is worth the same.
        matter = Matter((1, 1), ((1, 1), (1, 1)), ((4, 4), (4, 4)))
        self.assertIs(Best(((NEVER, ALWAYS), (NEVER, ALWAYS)), ((4, 1), (4, 1)), {}).shows(matter), True)

    def test_the_current_attributes(self):
        found = best(COURT)
        found.prices = ((0, 1), (3, 1))
        self.assertIs(found.shows(COURT), False)
        found.prices = PRICES
        self.assertIs(found.shows(COURT), True)
        found.weights = {}
        self.assertIs(found.shows(COURT), False)
        found.weights[(1, 0)] = (1, 1)
        self.assertIs(found.shows(COURT), True)
        found.table = whole_table(COURT)
        self.assertIs(found.shows(COURT), False)


class TestClass(unittest.TestCase):
    def test_attributes_and_the_copy(self):
        weights = dict(WEIGHTS)
        found = Best(TABLE, PRICES, weights)
        self.assertEqual(vars(found), {"table": TABLE, "prices": PRICES, "weights": WEIGHTS})
        weights[(0, 1)] = (5, 1)
        self.assertEqual(found.weights, WEIGHTS)
        found.weights.clear()
        self.assertEqual(weights, {(1, 0): (1, 1), (0, 1): (5, 1)})

    def test_parameters_may_be_passed_by_name(self):
        self.assertEqual(Best(weights=WEIGHTS, prices=PRICES, table=TABLE), Best(TABLE, PRICES, WEIGHTS))
        self.assertEqual(best(matter=COURT), best(COURT))
        self.assertEqual(best_worth(matter=COURT), (2, 3))
        self.assertIs(best(COURT).shows(matter=COURT), True)

    def test_equality(self):
        first = Best(TABLE, PRICES, {(1, 0): (1, 1), (0, 1): (0, 1)})
        second = Best(TABLE, PRICES, {(0, 1): (0, 1), (1, 0): (1, 1)})
        self.assertIs(first == second, True)
        self.assertIs(first != second, False)
        for other in (Best(TABLE[::-1], PRICES, first.weights), Best(TABLE, PRICES[::-1], first.weights),
                      Best(TABLE, PRICES, WEIGHTS), Bound(PRICES, first.weights), COURT):
            self.assertIs(first == other, False)
            self.assertIs(first != other, True)
            self.assertIs(other == first, False)
            self.assertIs(other != first, True)

    def test_results_are_new(self):
        first = best(COURT)
        first.weights.clear()
        first.table = None
        self.assertIs(best(COURT).shows(COURT), True)

    def test_kinds_of_values(self):
        for matter in many_matters(random.Random(46)):
            found = best(matter)
            self.assertIs(type(found), Best)
            self.assertIs(type(found.weights), dict)
            self.assertTrue(all(type(pair_of_acts) is tuple for pair_of_acts in found.weights))
            self.assertEqual(len(fractions(found.prices)), len(matter))

    def test_methods_stand_in_the_class_and_all_in_the_file(self):
        for name in ("__init__", "__eq__", "shows"):
            self.assertIn(name, vars(Best))
        for name in ("Best", "best", "best_worth"):
            self.assertEqual(getattr(file_of_best, name).__module__, "saywhat.best")


class TestErrors(unittest.TestCase):
    def test_things_that_are_no_matter(self):
        found = best(COURT)
        wrong_too = Best(None, None, {})
        for wrong in WRONG_MATTERS:
            for function in (best, best_worth, found.shows, wrong_too.shows):
                with self.subTest(wrong=wrong), self.assertRaises(BadMatter) as caught:
                    function(wrong)
                self.assertIsNone(caught.exception.part)
        self.assertEqual(found, best(COURT))


class TestExamples(unittest.TestCase):
    def test_the_example_of_the_document(self):
        test = doctest.DocTestParser().get_doctest(EXAMPLE, {}, "best", None, 0)
        self.assertEqual(doctest.DocTestRunner(verbose=False).run(test), (0, 6))

    def test_the_ends_of_all_ranges(self):
        matter = Matter((1, 6), ((-9, 9), (9, -9)), ((0, 9), (9, 0)))
        self.assertEqual(best_worth(matter), (9, 1))
        nothing = Matter((6, 1), ((9, 9), (-9, -9)), ((0, 0), (0, 0)))
        self.assertEqual(best_worth(nothing), (0, 1))
        self.assertIs(best(nothing).shows(nothing), True)

    def test_an_act_that_is_never_best(self):
        matter = Matter((1, 1), ((2, 0, 1), (0, 2, 0)), ((0, 0, 9), (0, 0, 9)))
        self.assertEqual(best_worth(matter), (0, 1))
        self.assertEqual([row[2] for row in best(matter).table], [NEVER, NEVER])

    def test_it_may_be_best_to_tell_all_or_nothing(self):
        same = Matter((1, 2), ((3, 0), (0, 3)), ((5, 0), (0, 5)))
        self.assertEqual(best_worth(same), (5, 1))
        silent = Matter((1, 2), ((2, 0), (0, 3)), ((0, 7), (0, 7)))
        self.assertEqual(best_worth(silent), (7, 1))


if __name__ == "__main__":
    unittest.main()
