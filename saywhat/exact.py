"""Exact reckoning: integers, fractions, and the telling that is best under demands.

A fraction is a pair of two integers in lowest terms, the second one at least 1.
"""

from math import gcd, lcm


def is_plain_integer(value):
    """Tell whether a value is an integer; True and False are none."""
    return isinstance(value, int) and not isinstance(value, bool)


def is_integer_within(value, least, most):
    """Tell whether a value is an integer from least to most."""
    return is_plain_integer(value) and least <= value <= most


def is_row_within(row, length, least, most):
    """Tell whether a row is a tuple of this length, with integers from least to most."""
    if not isinstance(row, tuple) or len(row) != length:
        return False
    return all([is_integer_within(number, least, most) for number in row])


def is_ascending_within(row, least, most):
    """Tell whether a row is an ascending tuple of one or more integers from least to most."""
    if not isinstance(row, tuple) or not row or not is_row_within(row, len(row), least, most):
        return False
    return all([number < later for number, later in zip(row, row[1:])])


def is_of_integers(value):
    """Tell whether a value is an integer, or a tuple of such values."""
    return is_plain_integer(value) or isinstance(value, tuple) and all([is_of_integers(item) for item in value])


def is_ratio(value):
    """Tell whether a value is a fraction in lowest terms."""
    if not isinstance(value, tuple) or len(value) != 2:
        return False
    over, under = value
    if not (is_plain_integer(over) and is_plain_integer(under)):
        return False
    return under >= 1 and gcd(over, under) == 1


def is_chance(value):
    """Tell whether a value is a fraction from 0 to 1."""
    return is_ratio(value) and 0 <= value[0] <= value[1]


def are_ratios(row, length):
    """Tell whether a row is a tuple of this length, with a fraction at each place."""
    return isinstance(row, tuple) and len(row) == length and all([is_ratio(value) for value in row])


def is_less(first, second):
    """Tell whether the first fraction is less than the second one."""
    return first[0] * second[1] < second[0] * first[1]


def first_greatest(ratios):
    """Return the first key of a dict with the greatest fraction; keys with None are passed over."""
    found = None
    for key, value in ratios.items():
        if value is not None and (found is None or is_less(ratios[found], value)):
            found = key
    return found


def ratio(over, under):
    """Return the fraction over / under in lowest terms; under is at least 1."""
    common = gcd(over, under)
    return (over // common, under // common)


def common_under(ratios):
    """Return the least positive integer that is a multiple of the second integers of all fractions."""
    common = 1
    for _, under in ratios:
        common = lcm(common, under)
    return common


def scaled(share, common):
    """Return a fraction times a multiple of its second integer, which is an integer."""
    over, under = share
    return over * (common // under)


def are_one_together(ratios):
    """Tell whether the sum of some fractions is 1."""
    common = common_under(ratios)
    return sum([scaled(share, common) for share in ratios]) == common


def dot(first, second):
    """Return the sum of the products of two rows."""
    return sum([left * right for left, right in zip(first, second)])


class Frame:
    """The words that can be told, what each pays in each case, and the demands that it must meet.

    The portions are the parts of the cases. Pays is a dict from all words, and demands from tuples whose first item is
    a word, to a list with an integer for each case. A demand is met if its integers, multiplied by the chances of the
    cases together with its word, are at least 0 together. All integers in both dicts are multiplied by the scale. A
    word cannot be told in a case if the barred pairs have both.
    """

    def __init__(self, portions, pays, demands, scale, barred=()):
        self.portions = portions
        self.pays = pays
        self.demands = demands
        self.scale = scale
        self.barred = barred

    def places(self, words):
        """Return a list of the pairs of one of these words and a case in which it can be told."""
        pairs = [(word, case) for word in words for case in range(len(self.portions))]
        return [pair for pair in pairs if pair not in self.barred]

    def _is_telling(self, told):
        """Tell whether a dict from words has a chance for each case, 1 together in each."""
        if not all([is_of_integers(word) and word in self.pays for word in told]):
            return False
        rows = list(told.values())
        if not all([are_ratios(row, len(self.portions)) for row in rows]):
            return False
        if not all([is_chance(share) for row in rows for share in row]):
            return False
        if not all([told[word][case] == (0, 1) for word, case in self.barred if word in told]):
            return False
        return all([are_one_together([row[case] for row in rows]) for case in range(len(self.portions))])

    def _weighed(self, told):
        """Return one divisor, and for each word a list with the chance of each case together with it."""
        common = common_under([share for row in told.values() for share in row])
        weighed = {}
        for word, row in told.items():
            weighed[word] = [portion * scaled(share, common) for portion, share in zip(self.portions, row)]
        return sum(self.portions) * common, weighed

    def is_followed(self, told):
        """Tell whether a dict from words is a telling that meets all demands on its words."""
        if not self._is_telling(told):
            return False
        _, weighed = self._weighed(told)
        claims = [demand for demand in self.demands if demand[0] in weighed]
        return all([dot(weighed[demand[0]], self.demands[demand]) >= 0 for demand in claims])

    def worth_told(self, told):
        """Return what a telling pays on average."""
        divisor, weighed = self._weighed(told)
        return ratio(sum([dot(weighed[word], self.pays[word]) for word in weighed]), divisor * self.scale)

    def _are_weights(self, weights):
        """Tell whether a dict has a fraction of at least 0 for some demands."""
        if not all([is_of_integers(demand) and demand in self.demands for demand in weights]):
            return False
        return all([is_ratio(weight) and weight[0] >= 0 for weight in weights.values()])

    def is_covered(self, prices, weights, words):
        """Tell whether the price of each case covers what each of these words pays if told there, with its weights."""
        if not are_ratios(prices, len(self.portions)) or not self._are_weights(weights):
            return False
        common = common_under(list(prices) + list(weights.values()))
        costs = [scaled(price, common) * self.scale for price in prices]
        charges = {word: [pay * common for pay in self.pays[word]] for word in words}
        for demand, weight in weights.items():
            if demand[0] in charges:
                added = [scaled(weight, common) * value for value in self.demands[demand]]
                charges[demand[0]] = [left + right for left, right in zip(charges[demand[0]], added)]
        return all([costs[case] >= charges[word][case] for word, case in self.places(words)])

    def cost(self, prices):
        """Return the average of the prices of all cases."""
        common = common_under(prices)
        return ratio(dot(self.portions, [scaled(price, common) for price in prices]), sum(self.portions) * common)


class Tableau:
    """The simplex method over integers: the most that some goals reach within limits, earlier goals above later ones.

    A limit is a list with an integer for each variable, and behind them the most, at least 0, that the variables may be
    together, each multiplied by its integer; a goal is such a list without an end. No variable is below 0. Each limit
    adds a variable, for what is left of it; these follow the given ones. All results are to be divided by the divisor.
    """

    def __init__(self, limits, goals):
        given = len(goals[0])
        self.divisor = 1
        self._rows = limits + [[-number for number in goal] + [0] for goal in goals]
        self._sides = list(range(given))
        self._heads = list(range(given, given + len(limits)))
        self._zeros = [0 for _ in goals]
        self._climb()

    def _climb(self):
        """Exchange variables for as long as that helps a goal."""
        by = self._entering()
        while by is not None:
            self._exchange(self._leaving(by), by)
            by = self._entering()

    def _entering(self):
        """Return the column of the variable to take in, None if none helps."""
        # The first variable of all that help, as among those that leave in a tie: so no tableau comes back (Bland).
        helping = [by for by in range(len(self._sides)) if self._losses_at(by) < self._zeros]
        return min(helping, key=lambda column: self._sides[column], default=None)

    def _leaving(self, by):
        """Return the row that limits the variable of a column most."""
        tightest = None
        for at in range(len(self._heads)):
            if self._rows[at][by] > 0 and (tightest is None or self._is_tighter(at, tightest, by)):
                tightest = at
        return tightest

    def _is_tighter(self, at, other, by):
        """Tell whether a row limits the variable of a column more than another one, or is first in a tie."""
        left = self._rows[at][-1] * self._rows[other][by]
        right = self._rows[other][-1] * self._rows[at][by]
        return (left, self._heads[at]) < (right, self._heads[other])

    def _exchange(self, at, by):
        """Exchange the variables of a row and of a column."""
        turn = self._rows[at]
        rows = [self._reduced(row, turn, by) for row in self._rows]
        rows[at] = turn[:by] + [self.divisor] + turn[by + 1:]
        self._rows = rows
        self.divisor = turn[by]
        self._heads[at], self._sides[by] = self._sides[by], self._heads[at]

    def _reduced(self, row, turn, by):
        """Return a row without the variable of a column, which the row called turn takes over."""
        # All numbers are determinants of the first rows, so the division by the last divisor leaves no rest.
        reduced = [(left * turn[by] - row[by] * right) // self.divisor for left, right in zip(row, turn)]
        reduced[by] = -row[by]
        return reduced

    def _losses_at(self, by):
        """Return a list of what each goal loses by more of the variable of a column."""
        return [row[by] for row in self._rows[len(self._heads):]]

    def reached(self):
        """Return a list of what each goal reaches."""
        return self._losses_at(-1)

    def losses(self):
        """Return a dict from all variables that are 0 to a list of what each goal loses by more of them."""
        return {variable: self._losses_at(by) for by, variable in enumerate(self._sides)}

    def amounts(self):
        """Return a dict from all other variables to their values."""
        return {variable: self._rows[at][-1] for at, variable in enumerate(self._heads)}


class Search:
    """The best telling with some words of a frame that meets all demands, and prices that show that none is better.

    Perhaps no telling meets them. So a case may also be told in part, and to tell more is a goal above the worth: as if
    each word paid a stake, too, as great as it takes. If a part stays untold, told and worth are None, and a greater
    stake lowers the prices, from which it is taken off again, below any goal.
    """

    def __init__(self, frame, words):
        self._frame = frame
        self._words = words
        self._places = frame.places(words)
        self._claims = [demand for demand in frame.demands if demand[0] in words]
        self._tableau = Tableau(self._limits(), self._goals())
        told_part, _ = self._tableau.reached()
        self._untold = sum(frame.portions) * self._tableau.divisor - told_part
        self.told = self._found() if self._untold == 0 else None
        self.worth = frame.worth_told(self.told) if self._untold == 0 else None

    def _limits(self):
        """Return a limit for each case, and then for each demand."""
        limits = []
        for at, portion in enumerate(self._frame.portions):
            limits.append([1 if case == at else 0 for _, case in self._places] + [portion])
        for demand in self._claims:
            values = self._frame.demands[demand]
            limits.append([-values[case] if word == demand[0] else 0 for word, case in self._places] + [0])
        return limits

    def _goals(self):
        """Return the goals: to tell as much as can be told, then the worth."""
        return [[1 for _ in self._places], [self._frame.pays[word][case] for word, case in self._places]]

    def _found(self):
        """Return the telling: a dict from all words to a tuple with a chance for each case."""
        amounts = self._tableau.amounts()
        rows = {word: [(0, 1) for _ in self._frame.portions] for word in self._words}
        for variable, (word, case) in enumerate(self._places):
            whole = self._frame.portions[case] * self._tableau.divisor
            rows[word][case] = ratio(amounts.get(variable, 0), whole)
        return {word: tuple(row) for word, row in rows.items()}

    def _stake(self, goal):
        """Return a stake by which no exchange helps, and the prices are below the goal if something stays untold."""
        losses = self._tableau.losses()
        stake = max([0] + [-(worth // told_part) for told_part, worth in losses.values() if told_part > 0])
        if self._untold == 0:
            return stake
        over, under = goal
        _, worth = self._tableau.reached()
        allowed = over * sum(self._frame.portions) * self._tableau.divisor * self._frame.scale
        return max(stake, (under * worth - allowed) // (under * self._untold) + 1)

    def proof(self, goal):
        """Return prices and weights; the prices cost the worth, or less than the goal if there is no worth."""
        stake = self._stake(goal)
        charged = {}
        for variable, (told_part, worth) in self._tableau.losses().items():
            charged[variable] = stake * told_part + worth
        divisor = self._tableau.divisor
        first = len(self._places)
        cases = len(self._frame.portions)
        prices = [charged.get(first + case, 0) - stake * divisor for case in range(cases)]
        weights = {}
        for at, demand in enumerate(self._claims):
            weight = charged.get(first + cases + at, 0)
            if weight > 0:
                weights[demand] = ratio(weight, divisor)
        return tuple([ratio(price, divisor * self._frame.scale) for price in prices]), weights
