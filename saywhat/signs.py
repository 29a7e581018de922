"""What the hearer sees itself: the best table of plans, one act for each sign that may be seen behind the word."""

from saywhat.errors import BadSigns, TooLarge
from saywhat.exact import Frame, Search, common_under, dot, is_row_within, ratio
from saywhat.matters import check_matter, choices_of_acts, number_of_acts
from saywhat.tellings import worth_of

FEWEST_SIGNS = 2
MOST_SIGNS = 3
MOST_OF_SIGN = 6
MOST_CASES = 3
MOST_PLANS = 9


def _are_of_case(row, many):
    """Tell whether a row is a tuple with an integer from 0 to 6 for each of so many signs, not all 0."""
    return is_row_within(row, many, 0, MOST_OF_SIGN) and any(row)


def _check_signs(matter, signs):
    """Refuse what is no Matter, then what is no signs for it."""
    check_matter(matter)
    good = isinstance(signs, tuple) and len(signs) == len(matter) and isinstance(signs[0], tuple)
    if good:
        many = len(signs[0])
        good = FEWEST_SIGNS <= many <= MOST_SIGNS and all([_are_of_case(row, many) for row in signs])
    if not good:
        raise BadSigns("these are not signs for the matter")


def _plans(matter, signs):
    """Return a list of all plans, in order."""
    return choices_of_acts(matter, len(signs[0]))


def _check_size(matter, signs):
    """Refuse more cases or plans than are looked at."""
    if len(matter) > MOST_CASES or len(_plans(matter, signs)) > MOST_PLANS:
        raise TooLarge("there are too many cases or plans")


def _seen(signs, common):
    """Return a list for each case with the chance of each sign there, multiplied by a common multiple."""
    return [[number * (common // sum(row)) for number in row] for row in signs]


def _demands_on(matter, seen, plan):
    """Return a dict from the demands of a plan to a list with their value in each case."""
    demands = {}
    for sign, act in enumerate(plan):
        for other in range(number_of_acts(matter)):
            if other != act:
                values = [shares[sign] * (row[act] - row[other]) for shares, row in zip(seen, matter.gains)]
                demands[(plan, sign, other)] = values
    return demands


def _signs_frame(matter, signs):
    """Return what can be told to one who sees signs: all plans, each to be the best for each sign."""
    common = common_under([(1, sum(row)) for row in signs])
    seen = _seen(signs, common)
    pays = {}
    demands = {}
    for plan in _plans(matter, signs):
        pays[plan] = [dot(shares, [row[act] for act in plan]) for shares, row in zip(seen, matter.worths)]
        for demand, values in _demands_on(matter, seen, plan).items():
            demands[demand] = values
    return Frame(matter.parts, pays, demands, common)


def _search(matter, signs):
    """Return the search for the best signed table; refuse what is no Matter, no signs or too large."""
    _check_signs(matter, signs)
    _check_size(matter, signs)
    frame = _signs_frame(matter, signs)
    return Search(frame, list(frame.pays))


class Signed:
    """A signed table with the greatest worth, and prices and weights that show this."""

    def __init__(self, told, prices, weights):
        self.told = {plan: told[plan] for plan in told}
        self.prices = prices
        self.weights = {demand: weights[demand] for demand in weights}

    def __eq__(self, other):
        return (isinstance(other, Signed) and self.told == other.told
                and self.prices == other.prices and self.weights == other.weights)

    def __iter__(self):
        return iter(self.told.items())

    def shows(self, matter, signs):
        """Tell whether the signed table is followed, and the prices and weights show that none is better."""
        _check_signs(matter, signs)
        frame = _signs_frame(matter, signs)
        if not frame.is_followed(self.told) or not frame.is_covered(self.prices, self.weights, list(frame.pays)):
            return False
        return frame.cost(self.prices) == frame.worth_told(self.told)


def best_signed(matter, signs):
    """Return a signed table with the greatest worth, with prices and weights."""
    search = _search(matter, signs)
    prices, weights = search.proof(search.worth)
    # What is never said has no use for the reader of a signed table.
    told = {plan: row for plan, row in search.told.items() if any([share != (0, 1) for share in row])}
    return Signed(told, prices, weights)


def signed_worth(matter, signs):
    """Return the greatest worth of a signed table."""
    return _search(matter, signs).worth


def silent_worth(matter, signs):
    """Return the worth if nothing is told, and the hearer does a best act for each sign."""
    _check_signs(matter, signs)
    # To the hearer alone, its own signs are the words of a table.
    return worth_of(matter, tuple([tuple([ratio(number, sum(row)) for number in row]) for row in signs]))
