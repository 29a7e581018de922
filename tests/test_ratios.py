"""The helpers for integers and fractions, point [1]."""

import unittest

from saywhat.ratios import are_one_together, common_under, is_chance, is_integer_within, is_ratio, ratio


class TestRatios(unittest.TestCase):
    def test_is_ratio(self):
        for good in ((0, 1), (1, 1), (-3, 4), (7, 2), (10 ** 3000, 3)):
            self.assertIs(is_ratio(good), True, good)
        for wrong in ((2, 4), (0, 2), (1, 0), (1, -2), (-1, -1), (0, -1), (0, 0), (True, 2), (1, True), (False, 1),
                      (1,), (1, 2, 3), (), [1, 2], "12", 1, None, True, ("1", 2), (1, "2"), (None, None)):
            self.assertIs(is_ratio(wrong), False, wrong)

    def test_is_chance(self):
        for good in ((0, 1), (1, 1), (3, 4), (1, 10 ** 3000)):
            self.assertIs(is_chance(good), True, good)
        for wrong in ((-1, 2), (3, 2), (2, 1), (-1, 1), (2, 4), None):
            self.assertIs(is_chance(wrong), False, wrong)

    def test_is_integer_within(self):
        found = [is_integer_within(value, 0, 2) for value in (-1, 0, 1, 2, 3, True, False, "1", None, (1,))]
        self.assertEqual(found, [False, True, True, True, False, False, False, False, False, False])

    def test_ratio(self):
        self.assertEqual([ratio(6, 8), ratio(-6, 8), ratio(0, 5), ratio(9, 3)], [(3, 4), (-3, 4), (0, 1), (3, 1)])

    def test_common_under(self):
        self.assertEqual([common_under([]), common_under([(1, 4), (5, 6), (0, 1)])], [1, 12])

    def test_are_one_together(self):
        self.assertIs(are_one_together(((1, 2), (1, 3), (1, 6))), True)
        self.assertIs(are_one_together(((1, 2), (1, 3), (1, 7))), False)
        self.assertIs(are_one_together(((1, 2), (1, 3), (1, 5))), False)


if __name__ == "__main__":
    unittest.main()
