"""The best table: an advice that is followed, with prices of the cases that show that none is better."""

from saywhat.exact import Frame, Search
from saywhat.matters import check_matter, number_of_acts
from saywhat.tellings import table_of, told_by


def reading_frame(matter, reading, barred):
    """Return what can be told if each word calls for an act, to be no worse for the hearer than any other one.

    A reading is a tuple with an act for each word; barred are the pairs of a word and a case without it.
    """
    pays = {}
    demands = {}
    for word, act in enumerate(reading):
        pays[word] = [row[act] for row in matter.worths]
        for other in range(number_of_acts(matter)):
            if other != act:
                demands[(word, other)] = [row[act] - row[other] for row in matter.gains]
    return Frame(matter.parts, pays, demands, 1, barred)


def advice_frame(matter):
    """Return what an advice can tell: each word calls for the act with its number."""
    return reading_frame(matter, tuple(range(number_of_acts(matter))), ())


def is_for_acts(matter, table):
    """Tell whether a value is a tuple with a tuple for each case, of one item for each act."""
    if not isinstance(table, tuple) or len(table) != len(matter):
        return False
    return all([isinstance(row, tuple) and len(row) == number_of_acts(matter) for row in table])


def advice_of(matter, told):
    """Return a dict from some acts to a tuple with a chance for each case as an advice."""
    nothing = tuple([(0, 1) for _ in matter.parts])
    return table_of([told.get(act, nothing) for act in range(number_of_acts(matter))])


class Best:
    """A table with the greatest followed worth, and prices and weights that show this."""

    def __init__(self, table, prices, weights):
        self.table = table
        self.prices = prices
        self.weights = {pair: weights[pair] for pair in weights}

    def __eq__(self, other):
        return (isinstance(other, Best) and self.table == other.table
                and self.prices == other.prices and self.weights == other.weights)

    def shows(self, matter):
        """Tell whether the table is followed, and the prices and weights show that none is better."""
        check_matter(matter)
        frame = advice_frame(matter)
        if not is_for_acts(matter, self.table):
            return False
        told = told_by(self.table)
        if not frame.is_followed(told) or not frame.is_covered(self.prices, self.weights, list(frame.pays)):
            return False
        return frame.cost(self.prices) == frame.worth_told(told)


def _search(matter):
    """Return the search for the best advice; refuse what is no Matter."""
    check_matter(matter)
    frame = advice_frame(matter)
    return Search(frame, list(frame.pays))


def best(matter):
    """Return a table with the greatest followed worth, with prices and weights."""
    search = _search(matter)
    prices, weights = search.proof(search.worth)
    return Best(advice_of(matter, search.told), prices, weights)


def best_worth(matter):
    """Return the greatest followed worth."""
    return _search(matter).worth
