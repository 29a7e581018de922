"""Integers, and exact fractions: pairs of integers in lowest terms, the second one at least 1."""

from math import gcd, lcm


def is_plain_integer(value):
    """Tell whether a value is an integer; True and False are none."""
    return isinstance(value, int) and not isinstance(value, bool)


def is_integer_within(value, least, most):
    """Tell whether a value is an integer from least to most."""
    return is_plain_integer(value) and least <= value <= most


def is_ratio(value):
    """Tell whether a value is a fraction in lowest terms."""
    if not isinstance(value, tuple) or len(value) != 2:
        return False
    over, under = value
    if not (is_plain_integer(over) and is_plain_integer(under)):
        return False
    return under >= 1 and gcd(over, under) == 1


def is_chance(value):
    """Tell whether a value is a fraction from 0 to 1."""
    return is_ratio(value) and 0 <= value[0] <= value[1]


def ratio(over, under):
    """Return the fraction over / under in lowest terms; under is at least 1."""
    common = gcd(over, under)
    return (over // common, under // common)


def common_under(ratios):
    """Return the least positive integer that is a multiple of the second integers of all fractions."""
    common = 1
    for _, under in ratios:
        common = lcm(common, under)
    return common


def scaled(share, common):
    """Return a fraction times a multiple of its second integer, which is an integer."""
    over, under = share
    return over * (common // under)


def are_one_together(ratios):
    """Tell whether the sum of some fractions is 1."""
    common = common_under(ratios)
    return sum([scaled(share, common) for share in ratios]) == common
