"""Matters: the cases with their chances, and what each act is worth to both parties in each case."""

from saywhat.errors import BadMatter
from saywhat.exact import is_row_within

FEWEST_CASES = 2
MOST_CASES = 4
FEWEST_ACTS = 2
MOST_ACTS = 4
LEAST_PART = 1
MOST_PART = 6
LEAST_GAIN = -9
MOST_GAIN = 9
LEAST_WORTH = 0
MOST_WORTH = 9


def _are_rows(rows, cases, acts, least, most):
    """Tell whether there is a row for each case, with an integer from least to most for each act."""
    if not isinstance(rows, tuple) or len(rows) != cases:
        return False
    return all([is_row_within(row, acts, least, most) for row in rows])


def _are_parts(parts):
    """Tell whether a value is the parts of a matter."""
    if not isinstance(parts, tuple) or not FEWEST_CASES <= len(parts) <= MOST_CASES:
        return False
    return is_row_within(parts, len(parts), LEAST_PART, MOST_PART)


def _are_gains(gains, cases):
    """Tell whether a value is the gains of a matter with so many cases."""
    if not isinstance(gains, tuple) or len(gains) != cases or not isinstance(gains[0], tuple):
        return False
    acts = len(gains[0])
    return FEWEST_ACTS <= acts <= MOST_ACTS and _are_rows(gains, cases, acts, LEAST_GAIN, MOST_GAIN)


class Matter:
    """Two to four cases, with two to four acts each."""

    def __init__(self, parts, gains, worths):
        if not _are_parts(parts):
            raise BadMatter("PARTS")
        if not _are_gains(gains, len(parts)):
            raise BadMatter("GAINS")
        if not _are_rows(worths, len(parts), len(gains[0]), LEAST_WORTH, MOST_WORTH):
            raise BadMatter("WORTHS")
        self._parts = parts
        self._gains = gains
        self._worths = worths

    @property
    def parts(self):
        """An integer for each case: its chance, multiplied by the sum of all parts."""
        return self._parts

    @property
    def gains(self):
        """For each case, what the hearer gains by each act."""
        return self._gains

    @property
    def worths(self):
        """For each case, what each act is worth to the teller."""
        return self._worths

    def __len__(self):
        return len(self._parts)

    def __eq__(self, other):
        return (isinstance(other, Matter) and self._parts == other._parts
                and self._gains == other._gains and self._worths == other._worths)


def check_matter(matter):
    """Refuse what is no Matter."""
    if not isinstance(matter, Matter):
        raise BadMatter(None)


def number_of_acts(matter):
    """Return how many acts a matter has."""
    return len(matter.gains[0])


def choices_of_acts(matter, places):
    """Return a list of all tuples with an act for each of so many places, in order."""
    found = [()]
    for _ in range(places):
        found = [acts + (act,) for acts in found for act in range(number_of_acts(matter))]
    return found
