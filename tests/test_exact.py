"""The helpers for integers and fractions, point [1], and for what is best under limits and demands."""

import random
import unittest
from fractions import Fraction

from saywhat.exact import (Frame, Search, Tableau, are_one_together, are_ratios, common_under, dot, first_greatest,
                           is_ascending_within, is_chance, is_integer_within, is_less, is_of_integers, is_ratio,
                           is_row_within, ratio)


class TestRatios(unittest.TestCase):
    def test_is_ratio(self):
        for good in ((0, 1), (1, 1), (-3, 4), (7, 2), (10 ** 3000, 3)):
            self.assertIs(is_ratio(good), True, good)
        for wrong in ((2, 4), (0, 2), (1, 0), (1, -2), (-1, -1), (0, -1), (0, 0), (True, 2), (1, True), (False, 1),
                      (1,), (1, 2, 3), (), [1, 2], "12", 1, None, True, ("1", 2), (1, "2"), (None, None)):
            self.assertIs(is_ratio(wrong), False, wrong)

    def test_is_chance(self):
        for good in ((0, 1), (1, 1), (3, 4), (1, 10 ** 3000)):
            self.assertIs(is_chance(good), True, good)
        for wrong in ((-1, 2), (3, 2), (2, 1), (-1, 1), (2, 4), None):
            self.assertIs(is_chance(wrong), False, wrong)

    def test_is_integer_within(self):
        found = [is_integer_within(value, 0, 2) for value in (-1, 0, 1, 2, 3, True, False, "1", None, (1,))]
        self.assertEqual(found, [False, True, True, True, False, False, False, False, False, False])

    def test_is_row_within(self):
        for good in ((0, 2), (2, 0), (1, 1)):
            self.assertIs(is_row_within(good, 2, 0, 2), True, good)
        for wrong in ((), (1,), (1, 1, 1), (0, 3), (-1, 0), (True, 1), (1, False), [0, 1], "01", None, (0, None)):
            self.assertIs(is_row_within(wrong, 2, 0, 2), False, wrong)
        self.assertIs(is_row_within((), 0, 0, 2), True)

    def test_is_ascending_within(self):
        for good in ((0,), (2,), (0, 1), (0, 2), (0, 1, 2)):
            self.assertIs(is_ascending_within(good, 0, 2), True, good)
        for wrong in ((), (0, 0), (1, 0), (0, 2, 1), (0, 1, 2, 3), (-1,), (3,), (False,), (0, True), [0], None, "0"):
            self.assertIs(is_ascending_within(wrong, 0, 2), False, wrong)

    def test_first_greatest(self):
        self.assertEqual(first_greatest({"a": (1, 2), "b": (2, 3), "c": (2, 3), "d": (1, 3)}), "b")
        self.assertEqual(first_greatest({"a": None, "b": (-1, 1), "c": None}), "b")
        self.assertEqual([first_greatest({}), first_greatest({"a": None})], [None, None])

    def test_ratio(self):
        self.assertEqual([ratio(6, 8), ratio(-6, 8), ratio(0, 5), ratio(9, 3)], [(3, 4), (-3, 4), (0, 1), (3, 1)])

    def test_common_under(self):
        self.assertEqual([common_under([]), common_under([(1, 4), (5, 6), (0, 1)])], [1, 12])

    def test_are_one_together(self):
        self.assertIs(are_one_together(((1, 2), (1, 3), (1, 6))), True)
        self.assertIs(are_one_together(((1, 2), (1, 3), (1, 7))), False)
        self.assertIs(are_one_together(((1, 2), (1, 3), (1, 5))), False)

    def test_is_of_integers(self):
        for good in (0, -3, (), (1, 2), ((0, 1), 2, 0), (((5,),),)):
            self.assertIs(is_of_integers(good), True, good)
        for wrong in (True, None, "1", [1], (1, True), ((False, 1), 2, 0), (1, "2"), (1, [2])):
            self.assertIs(is_of_integers(wrong), False, wrong)

    def test_are_ratios(self):
        self.assertIs(are_ratios(((1, 2), (-3, 1)), 2), True)
        self.assertIs(are_ratios((), 0), True)
        for wrong in (((1, 2),), ((1, 2), (2, 4)), ((1, 2), (1, 1), (1, 1)), [(1, 2), (1, 1)], None, ((1, 2), None)):
            self.assertIs(are_ratios(wrong, 2), False, wrong)

    def test_is_less(self):
        found = [is_less(*both) for both in (((1, 3), (1, 2)), ((1, 2), (1, 3)), ((1, 2), (1, 2)), ((-1, 2), (0, 1)))]
        self.assertEqual(found, [True, False, False, True])

    def test_dot(self):
        self.assertEqual([dot([], []), dot([1, 2, 3], (4, -5, 6))], [0, 12])


class TestTableau(unittest.TestCase):
    def values(self, tableau, many):
        return [Fraction(tableau.amounts().get(variable, 0), tableau.divisor) for variable in range(many)]

    def test_a_known_best(self):
        # The most of 3 x + 5 y, where x is at most 4, 2 y at most 12, and 3 x + 2 y at most 18.
        tableau = Tableau([[1, 0, 4], [0, 2, 12], [3, 2, 18]], [[3, 5]])
        self.assertEqual(self.values(tableau, 2), [2, 6])
        self.assertEqual(tableau.reached(), [36 * tableau.divisor])
        self.assertEqual(tableau.losses(), {3: [3 * tableau.divisor // 2], 4: [tableau.divisor]})

    def test_an_earlier_goal_is_above_a_later_one(self):
        limits = [[1, 1, 6]]
        self.assertEqual(self.values(Tableau(limits, [[1, 1], [0, 1]]), 2), [0, 6])
        self.assertEqual(self.values(Tableau(limits, [[1, 1], [1, 0]]), 2), [6, 0])
        self.assertEqual(self.values(Tableau(limits, [[1, 0], [0, 9]]), 2), [6, 0])

    def test_ties_come_to_an_end(self):
        # With the greatest entry as the one to exchange, this would go round for ever (Beale's example).
        limits = [[25, -6000, -4, 900, 0], [50, -9000, -2, 300, 0], [0, 0, 1, 0, 100]]
        tableau = Tableau(limits, [[75, -15000, 2, -600]])
        self.assertEqual(tableau.reached(), [500 * tableau.divisor])

    def test_many_against_what_the_losses_say(self):
        chance = random.Random(10)
        for _ in range(200):
            many, count = chance.randint(1, 6), chance.randint(1, 6)
            limits = [[chance.randint(-3, 5) for _ in range(many)] + [chance.choice((0, 0, 7))] for _ in range(count)]
            limits.append([1] * many + [9])
            goals = [[chance.randint(-2, 3) for _ in range(many)]]
            tableau = Tableau(limits, goals)
            values = self.values(tableau, many)
            prices = [Fraction(tableau.losses().get(many + at, [0])[0], tableau.divisor) for at in range(count + 1)]
            with self.subTest(limits=limits, goals=goals):
                self.assertGreaterEqual(min(values + prices), 0)
                for limit in limits:
                    self.assertLessEqual(dot(limit, values), limit[-1])
                for at in range(many):
                    self.assertGreaterEqual(dot([limit[at] for limit in limits], prices), goals[0][at])
                self.assertEqual(dot(goals[0], values), dot([limit[-1] for limit in limits], prices))
                self.assertEqual(tableau.reached(), [dot(goals[0], values) * tableau.divisor])


class TestSearch(unittest.TestCase):
    FRAME = Frame((2, 1), {0: [0, 0], 1: [2, 2]}, {(0, 1): [1, -1], (1, 0): [-1, 1]}, 2)

    def test_with_all_words(self):
        search = Search(self.FRAME, [0, 1])
        self.assertEqual((search.told, search.worth), ({0: ((1, 2), (0, 1)), 1: ((1, 2), (1, 1))}, (2, 3)))
        prices, weights = search.proof(search.worth)
        self.assertIs(self.FRAME.is_covered(prices, weights, [0, 1]), True)
        self.assertEqual(self.FRAME.cost(prices), (2, 3))

    def test_without_a_telling(self):
        search = Search(self.FRAME, [1])
        self.assertEqual((search.told, search.worth), (None, None))
        for goal in ((0, 1), (-7, 3), (-10 ** 30, 1), (5, 1)):
            prices, weights = search.proof(goal)
            self.assertIs(self.FRAME.is_covered(prices, weights, [1]), True)
            self.assertIs(is_less(self.FRAME.cost(prices), goal), True)

    def test_a_word_that_is_barred_in_a_case(self):
        frame = Frame((2, 1), self.FRAME.pays, self.FRAME.demands, 2, [(1, 0)])
        self.assertEqual(frame.places([1, 0]), [(1, 1), (0, 0), (0, 1)])
        search = Search(frame, [0, 1])
        self.assertEqual((search.told, search.worth), ({0: ((1, 1), (0, 1)), 1: ((0, 1), (1, 1))}, (1, 3)))
        prices, weights = search.proof(search.worth)
        self.assertIs(frame.is_covered(prices, weights, [0, 1]), True)
        self.assertEqual(frame.cost(prices), (1, 3))
        self.assertIs(frame.is_followed({0: ((1, 2), (0, 1)), 1: ((1, 2), (1, 1))}), False)
        self.assertIs(frame.is_followed({0: ((1, 1), (1, 2)), 1: ((0, 1), (1, 2))}), True)
        self.assertIs(frame.is_followed({0: ((1, 1), (1, 1))}), True)
        # What word 1 pays in case 0 needs no price there.
        self.assertIs(frame.is_covered(((0, 1), (1, 1)), {}, [0, 1]), True)
        self.assertIs(self.FRAME.is_covered(((0, 1), (1, 1)), {}, [0, 1]), False)

    def test_the_scale_changes_nothing(self):
        double = Frame((2, 1), {0: [0, 0], 1: [4, 4]}, {(0, 1): [2, -2], (1, 0): [-2, 2]}, 4)
        search, other = Search(self.FRAME, [0, 1]), Search(double, [0, 1])
        self.assertEqual((search.told, search.worth), (other.told, other.worth))
        self.assertEqual(search.proof(None), other.proof(None))


if __name__ == "__main__":
    unittest.main()
