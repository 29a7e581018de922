"""Sessions: a matter and a table, with a journal of what was drawn and told, which can be undone and tried."""

from saywhat.errors import BadDraw, BadDraws, NothingDone
from saywhat.exact import common_under, is_plain_integer, ratio, scaled
from saywhat.tellings import acts_after

MOST_DRAWS = 20


def _first_above(number, shares):
    """Return the first index up to which the shares are more than a number together, None if there is none."""
    together = 0
    for at, share in enumerate(shares):
        together += share
        if number < together:
            return at
    return None


class Mark:
    """What a session was as a trial of it began, and the mark before this one."""

    def __init__(self, pairs, kept, before):
        self.pairs = pairs
        self.kept = kept
        self.before = before


class Trial:
    """A with-block at whose end a session is as at its beginning."""

    def __init__(self, session):
        self._session = session
        self._mark = None

    def __enter__(self):
        session = self._session
        # The marks are chained, as one trial may be entered again within itself.
        self._mark = Mark(session._pairs, session._kept, self._mark)
        session._kept = len(session._pairs)
        return session

    def __exit__(self, kind, value, trace):
        session = self._session
        session._pairs = self._mark.pairs
        session._kept = self._mark.kept
        self._mark = self._mark.before


class Session:
    """A matter, a table, and the pairs of a case and a word so far."""

    def __init__(self, matter, table):
        # First of all, as this refuses what is no matter, and what is no table for it.
        self._acts = acts_after(matter, table)
        self._matter = matter
        self._table = table
        # A tuple, which no trial, branch or iteration needs to copy. The first pairs of it are kept when undoing.
        self._pairs = ()
        self._kept = 0

    @property
    def journal(self):
        """A list of the pairs of a case and a word so far."""
        return list(self._pairs)

    def __len__(self):
        return len(self._pairs)

    def __iter__(self):
        return iter(self._pairs)

    def _drawn(self, draw):
        """Return the pair of a case and a word to which a draw belongs, None if it is not a draw."""
        if not isinstance(draw, tuple) or len(draw) != 2:
            return None
        if not all([is_plain_integer(number) and number >= 0 for number in draw]):
            return None
        case = _first_above(draw[0], self._matter.parts)
        if case is None:
            return None
        row = self._table[case]
        common = common_under(row)
        word = _first_above(draw[1], [scaled(share, common) for share in row])
        return None if word is None else (case, word)

    def tell(self, draw):
        """Draw a case and a word; return the word, and the act that is done after it."""
        pair = self._drawn(draw)
        if pair is None:
            raise BadDraw("this is not a draw of the session")
        self._pairs = self._pairs + (pair,)
        return pair[1], self._acts[pair[1]]

    def teller(self):
        """Return the sum of what the acts in the journal are worth to the teller."""
        return sum([self._matter.worths[case][self._acts[word]] for case, word in self._pairs])

    def hearer(self):
        """Return the sum of what the hearer gains by the acts in the journal."""
        return sum([self._matter.gains[case][self._acts[word]] for case, word in self._pairs])

    def often(self):
        """Return a tuple with the share of each word in the journal, None if it is empty."""
        if not self._pairs:
            return None
        said = [word for _, word in self._pairs]
        return tuple([ratio(said.count(word), len(said)) for word in range(len(self._acts))])

    def undo(self):
        """Take back the last pair, and return it; in a trial, only its own pairs."""
        if len(self._pairs) == self._kept:
            raise NothingDone("there is nothing to undo")
        pair = self._pairs[-1]
        self._pairs = self._pairs[:-1]
        return pair

    def branch(self):
        """Return an independent session that is as this one, in which all pairs can be undone."""
        twin = Session(self._matter, self._table)
        twin._pairs = self._pairs
        return twin

    def trial(self):
        """Return a context manager for a with-block at whose end the session is as at its beginning."""
        return Trial(self)

    def tried(self, draws):
        """Draw in a trial; return a list of what tell returns."""
        if not isinstance(draws, (list, tuple)) or len(draws) > MOST_DRAWS:
            raise BadDraws(None)
        for index, draw in enumerate(draws):
            if self._drawn(draw) is None:
                raise BadDraws(index)
        with self.trial():
            return [self.tell(draw) for draw in draws]
