"""Few words: the fewest acts that an advice needs to reach a goal, with bounds that show that fewer do not."""

from saywhat.best import advice_frame, advice_of, is_for_acts
from saywhat.errors import BadActs, BadGoal
from saywhat.exact import Search, is_ascending_within, is_less, is_ratio
from saywhat.matters import check_matter, number_of_acts
from saywhat.tellings import told_by

LEAST_GOAL = (0, 1)
GREATEST_GOAL = (9, 1)


def _sets_of_acts(matter):
    """Return a list of all sets of acts, by their lengths, then as tuples."""
    many = number_of_acts(matter)
    found = []
    longest = [()]
    for _ in range(many):
        longest = [acts + (act,) for acts in longest for act in range(many) if not acts or act > acts[-1]]
        found = found + longest
    return found


def _is_set_of_acts(matter, acts):
    """Tell whether a value is an ascending tuple of one or more acts."""
    return is_ascending_within(acts, 0, number_of_acts(matter) - 1)


def _check_acts(matter, acts):
    """Refuse what is no set of acts of a matter."""
    if not _is_set_of_acts(matter, acts):
        raise BadActs("this is not a set of acts of the matter")


def _check_goal(goal):
    """Refuse what is no fraction from 0 to 9."""
    if not is_ratio(goal) or is_less(goal, LEAST_GOAL) or is_less(GREATEST_GOAL, goal):
        raise BadGoal("this is not a goal")


class Bound:
    """Prices and weights that show that no advice within a set of acts reaches a goal."""

    def __init__(self, prices, weights):
        self.prices = prices
        self.weights = {pair: weights[pair] for pair in weights}

    def __eq__(self, other):
        return isinstance(other, Bound) and self.prices == other.prices and self.weights == other.weights

    def shows(self, matter, acts, goal):
        """Tell whether no advice within a set of acts reaches a goal, by these prices and weights."""
        check_matter(matter)
        _check_acts(matter, acts)
        _check_goal(goal)
        frame = advice_frame(matter)
        return frame.is_covered(self.prices, self.weights, acts) and is_less(frame.cost(self.prices), goal)


def _own(bound):
    """Return a copy of a Bound: what happens to the given one later changes nothing in a Fewest that has it."""
    return Bound(bound.prices, bound.weights) if isinstance(bound, Bound) else bound


class Fewest:
    """A set of as few acts as reach a goal, a table within it, and a bound for each set of fewer acts."""

    def __init__(self, acts, table, doubts):
        self.acts = acts
        self.table = table
        self.doubts = {fewer: _own(doubts[fewer]) for fewer in doubts}

    def __eq__(self, other):
        return (isinstance(other, Fewest) and self.acts == other.acts
                and self.table == other.table and self.doubts == other.doubts)

    def __iter__(self):
        return iter(self.doubts.items())

    def _reaches(self, matter, goal):
        """Tell whether the table is an advice within the set that is followed and reaches a goal."""
        if not _is_set_of_acts(matter, self.acts) or not is_for_acts(matter, self.table):
            return False
        frame = advice_frame(matter)
        told = told_by(self.table)
        if not frame.is_followed(told) or is_less(frame.worth_told(told), goal):
            return False
        return all([share == (0, 1) for act in told if act not in self.acts for share in told[act]])

    def _doubted(self, matter):
        """Return a list of the sets that need a bound: those with fewer acts, or all."""
        return [acts for acts in _sets_of_acts(matter) if self.acts is None or len(acts) < len(self.acts)]

    def shows(self, matter, goal):
        """Tell whether the set and the table reach a goal, and the bounds show that no fewer acts do."""
        check_matter(matter)
        _check_goal(goal)
        if self.acts is None and self.table is not None:
            return False
        if self.acts is not None and not self._reaches(matter, goal):
            return False
        if not all([_is_set_of_acts(matter, acts) for acts in self.doubts]):
            return False
        if sorted(self.doubts) != sorted(self._doubted(matter)):
            return False
        return all([bound.shows(matter, acts, goal) for acts, bound in self.doubts.items()])


def fewest(matter, goal):
    """Return the first set with as few acts as reach a goal, with a bound for each set of fewer acts."""
    check_matter(matter)
    _check_goal(goal)
    frame = advice_frame(matter)
    failed = {}
    for acts in _sets_of_acts(matter):
        search = Search(frame, acts)
        if search.worth is not None and not is_less(search.worth, goal):
            doubts = {fewer: failed[fewer] for fewer in failed if len(fewer) < len(acts)}
            return Fewest(acts, advice_of(matter, search.told), doubts)
        prices, weights = search.proof(goal)
        failed[acts] = Bound(prices, weights)
    return Fewest(None, None, failed)


def fewest_words(matter, goal):
    """Return how many acts an advice needs to reach a goal, None if none does."""
    found = fewest(matter, goal)
    return None if found.acts is None else len(found.acts)


def most_with(matter, acts):
    """Return the greatest followed worth within a set of acts, None if no advice within it is followed."""
    check_matter(matter)
    _check_acts(matter, acts)
    return Search(advice_frame(matter), acts).worth
