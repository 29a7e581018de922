"""Words that must be true: the best reading and table, where a word may be true in some cases alone."""

from saywhat.best import reading_frame
from saywhat.errors import BadWords, TooLarge
from saywhat.exact import Search, first_greatest, is_ascending_within, is_less, is_ratio, is_row_within
from saywhat.matters import check_matter, choices_of_acts, number_of_acts
from saywhat.tellings import is_table, table_of, told_by

GREATEST_WORD = 2
MOST_READINGS = 27


def _check_words(matter, allowed):
    """Refuse what is no Matter, then what is no allowed words for it."""
    check_matter(matter)
    good = isinstance(allowed, tuple) and len(allowed) == len(matter)
    if not good or not all([is_ascending_within(words, 0, GREATEST_WORD) for words in allowed]):
        raise BadWords("these are not allowed words for the matter")


def _number_of_words(allowed):
    """Return how many words there are, also such as are allowed nowhere."""
    return max([words[-1] for words in allowed]) + 1


def _readings(matter, allowed):
    """Return a list of all readings, in order."""
    return choices_of_acts(matter, _number_of_words(allowed))


def _is_reading(matter, allowed, reading):
    """Tell whether a value is a tuple with an act for each word."""
    return is_row_within(reading, _number_of_words(allowed), 0, number_of_acts(matter) - 1)


def _frame(matter, allowed, reading):
    """Return what can be told with allowed words to one who reads them so."""
    words = range(len(reading))
    barred = [(word, case) for word in words for case in range(len(matter)) if word not in allowed[case]]
    return reading_frame(matter, reading, barred)


class Limit:
    """Prices and weights that show that no table is worth more for a reading than they say."""

    def __init__(self, prices, weights):
        self.prices = prices
        self.weights = {pair: weights[pair] for pair in weights}

    def __eq__(self, other):
        return isinstance(other, Limit) and self.prices == other.prices and self.weights == other.weights

    def shows(self, matter, allowed, reading, worth):
        """Tell whether no table that is kept for a reading is worth more, by these prices and weights."""
        _check_words(matter, allowed)
        if not _is_reading(matter, allowed, reading) or not is_ratio(worth):
            return False
        frame = _frame(matter, allowed, reading)
        if not frame.is_covered(self.prices, self.weights, list(frame.pays)):
            return False
        return not is_less(worth, frame.cost(self.prices))


def _own(limit):
    """Return a copy of a Limit: what happens to the given one later changes nothing in an Honest that has it."""
    return Limit(limit.prices, limit.weights) if isinstance(limit, Limit) else limit


class Honest:
    """A reading, the best table that is kept for it, and a limit for each reading that none allows more."""

    def __init__(self, reading, table, caps):
        self.reading = reading
        self.table = table
        self.caps = {each: _own(caps[each]) for each in caps}

    def __eq__(self, other):
        return (isinstance(other, Honest) and self.reading == other.reading
                and self.table == other.table and self.caps == other.caps)

    def __iter__(self):
        return iter(self.caps.items())

    def _worth_kept(self, matter, allowed):
        """Return the worth of the table for the reading, None if the table is not kept for it."""
        if not _is_reading(matter, allowed, self.reading) or not is_table(matter, self.table):
            return None
        frame = _frame(matter, allowed, self.reading)
        told = told_by(self.table)
        if len(told) != len(self.reading) or not frame.is_followed(told):
            return None
        return frame.worth_told(told)

    def shows(self, matter, allowed):
        """Tell whether the table is kept for the reading, and the limits show that no reading allows more."""
        _check_words(matter, allowed)
        worth = self._worth_kept(matter, allowed)
        if worth is None or len(self.caps) != len(_readings(matter, allowed)):
            return False
        return all([limit.shows(matter, allowed, reading, worth) for reading, limit in self.caps.items()])


def _searches(matter, allowed):
    """Return a dict from all readings to the search for the best table; refuse what is wrong or too large."""
    _check_words(matter, allowed)
    readings = _readings(matter, allowed)
    if len(readings) > MOST_READINGS:
        raise TooLarge("there are too many readings")
    words = list(range(_number_of_words(allowed)))
    return {reading: Search(_frame(matter, allowed, reading), words) for reading in readings}


def _best_reading(searches):
    """Return the first reading with a table of the greatest worth."""
    return first_greatest({reading: searches[reading].worth for reading in searches})


def best_honest(matter, allowed):
    """Return a reading and a table of the greatest worth, with a limit for each reading."""
    searches = _searches(matter, allowed)
    reading = _best_reading(searches)
    best = searches[reading]
    caps = {}
    for each in searches:
        prices, weights = searches[each].proof(best.worth)
        caps[each] = Limit(prices, weights)
    return Honest(reading, table_of(list(best.told.values())), caps)


def honest_worth(matter, allowed):
    """Return the greatest worth of a table for a reading for which it is kept."""
    searches = _searches(matter, allowed)
    return searches[_best_reading(searches)].worth
