"""What the tests share: matters at random, and an independent look at points [4] to [7], by Python's own fractions."""

import itertools
from fractions import Fraction

from saywhat.matters import Matter

NEVER, ALWAYS, HALF, THIRD = (0, 1), (1, 1), (1, 2), (1, 3)
COURT = Matter((2, 1), ((1, 0), (0, 1)), ((0, 1), (0, 1)))
WRONG_MATTERS = (None, True, False, 2, "court", (2, 1), [COURT], {}, Matter, object(),
                 ((2, 1), ((1, 0), (0, 1)), ((0, 1), (0, 1))))


def pair(number):
    """The fraction as the document writes it."""
    return (number.numerator, number.denominator)


def fractions(row):
    return [Fraction(*each) for each in row]


def some_matter(chance, cases, acts, widest):
    """A matter; with small numbers, equal averages are frequent."""
    parts = tuple(chance.randint(1, 6) for _ in range(cases))
    gains = tuple(tuple(chance.randint(-widest, widest) for _ in range(acts)) for _ in range(cases))
    worths = tuple(tuple(chance.randint(0, widest) for _ in range(acts)) for _ in range(cases))
    return Matter(parts, gains, worths)


def many_matters(chance):
    """Matters of all sizes, some with many equal averages."""
    for cases, acts in itertools.product((2, 3, 4), (2, 3, 4)):
        for widest in (1, 2, 9):
            yield some_matter(chance, cases, acts, widest)


def shown(matter):
    """What a failed test tells of its matter."""
    return (matter.parts, matter.gains, matter.worths)


def acts_of(matter):
    return range(len(matter.gains[0]))


def sets_of(matter):
    """All sets of acts, by their lengths, then as tuples."""
    many = len(matter.gains[0])
    return [acts for length in range(1, many + 1) for acts in itertools.combinations(range(many), length)]


def chances(matter):
    return [Fraction(part, sum(matter.parts)) for part in matter.parts]


def is_lowest(value):
    return (type(value) is tuple and len(value) == 2 and type(value[0]) is int and type(value[1]) is int
            and value == pair(Fraction(*value)))


def are_lowest(row, length):
    return type(row) is tuple and len(row) == length and all(map(is_lowest, row))


def followed_worth(matter, table):
    """The followed worth of an advice, None if the value is no advice, or one that is not followed."""
    if type(table) is not tuple or len(table) != len(matter.parts):
        return None
    if not all(are_lowest(row, len(matter.gains[0])) for row in table):
        return None
    rows = [fractions(row) for row in table]
    if any(sum(row) != 1 or min(row) < 0 or max(row) > 1 for row in rows):
        return None
    total = Fraction(0)
    for act in acts_of(matter):
        together = [each * row[act] for each, row in zip(chances(matter), rows)]
        if sum(together) > 0:
            belief = [each / sum(together) for each in together]
            averages = [sum(each * row[other] for each, row in zip(belief, matter.gains)) for other in acts_of(matter)]
            if averages[act] != max(averages):
                return None
            total += sum(each * row[act] for each, row in zip(together, matter.worths))
    return total


def cost(matter, prices):
    return sum(each * price for each, price in zip(chances(matter), fractions(prices)))


def covers(matter, prices, weights, acts):
    """Whether prices and weights are as point [4] says, for these acts."""
    pairs = [(act, other) for act in acts_of(matter) for other in acts_of(matter) if other != act]
    if not are_lowest(prices, len(matter.parts)) or not set(weights) <= set(pairs):
        return False
    if not all(is_lowest(weight) and weight[0] >= 0 for weight in weights.values()):
        return False
    for case, price in enumerate(fractions(prices)):
        for act in acts:
            least = Fraction(matter.worths[case][act])
            for other in acts_of(matter):
                if other != act:
                    weight = Fraction(*weights.get((act, other), (0, 1)))
                    least += weight * (matter.gains[case][act] - matter.gains[case][other])
            if price < least:
                return False
    return True


def solution(columns, goal):
    """The numbers by which the columns sum up to the goal, None if there are none or several."""
    rows = [[column[at] for column in columns] + [goal[at]] for at in range(len(goal))]
    for by in range(len(columns)):
        pivot = next((at for at in range(by, len(rows)) if rows[at][by] != 0), None)
        if pivot is None:
            return None
        rows[by], rows[pivot] = rows[pivot], rows[by]
        rows[by] = [number / rows[by][by] for number in rows[by]]
        for at, row in enumerate(rows):
            if at != by and row[by] != 0:
                rows[at] = [left - row[by] * right for left, right in zip(row, rows[by])]
    if any(row[-1] != 0 for row in rows[len(columns):]):
        return None
    return [row[-1] for row in rows[:len(columns)]]


def corners(matter, act):
    """The corners of the set of all beliefs by which an act is a best one."""
    cases = len(matter.parts)
    limits = [[Fraction(case == at) for case in range(cases)] for at in range(cases)]
    for other in acts_of(matter):
        if other != act:
            limits.append([Fraction(row[act] - row[other]) for row in matter.gains])
    found = []
    for tight in itertools.combinations(limits, cases - 1):
        rows = [*tight, [Fraction(1)] * cases]
        belief = solution([[row[case] for row in rows] for case in range(cases)], [Fraction(0)] * (cases - 1) + [1])
        if belief is not None and all(sum(a * b for a, b in zip(row, belief)) >= 0 for row in limits):
            if belief not in found:
                found.append(belief)
    return found


class Beliefs:
    """The greatest followed worths of a matter, from all ways to split its chances into a few corners."""

    def __init__(self, matter):
        self.matter = matter
        self.corners = [(act, belief) for act in acts_of(matter) for belief in corners(matter, act)]

    def value(self, act, belief):
        return sum(each * row[act] for each, row in zip(belief, self.matter.worths))

    def greatest(self, acts):
        """The greatest followed worth of an advice within a set of acts, None if none is followed."""
        values = {}
        for act, belief in self.corners:
            if act in acts:
                key = tuple(belief)
                values[key] = max(self.value(act, belief), values.get(key, Fraction(0)))
        greatest = None
        for length in range(1, len(self.matter.parts) + 1):
            for chosen in itertools.combinations(list(values), length):
                portions = solution(chosen, chances(self.matter))
                if portions is not None and min(portions) >= 0:
                    worth = sum(each * values[belief] for each, belief in zip(portions, chosen))
                    greatest = worth if greatest is None else max(greatest, worth)
        return greatest


class Signs:
    """What point [6] says of a matter with signs."""

    def __init__(self, matter, signs):
        self.matter = matter
        self.seen = [[Fraction(number, sum(row)) for number in row] for row in signs]
        self.plans = list(itertools.product(acts_of(matter), repeat=len(signs[0])))
        self.demands = [(plan, sign, other) for plan in self.plans for sign in range(len(signs[0]))
                        for other in acts_of(matter) if other != plan[sign]]

    def demand_value(self, demand, case):
        plan, sign, other = demand
        row = self.matter.gains[case]
        return self.seen[case][sign] * (row[plan[sign]] - row[other])

    def plan_worth(self, plan, case):
        return sum(each * self.matter.worths[case][act] for each, act in zip(self.seen[case], plan))

    def worth(self, told):
        """The worth of a signed table, None if the value is none, or one that is not followed."""
        cases = range(len(self.matter.parts))
        if not all(plan in self.plans and are_lowest(row, len(cases)) for plan, row in told.items()):
            return None
        rows = {plan: fractions(row) for plan, row in told.items()}
        if any(each < 0 or each > 1 for row in rows.values() for each in row):
            return None
        if any(sum(row[case] for row in rows.values()) != 1 for case in cases):
            return None
        together = {plan: [each * share for each, share in zip(chances(self.matter), row)]
                    for plan, row in rows.items()}
        for demand in self.demands:
            if demand[0] in together:
                if sum(together[demand[0]][case] * self.demand_value(demand, case) for case in cases) < 0:
                    return None
        return sum(row[case] * self.plan_worth(plan, case) for plan, row in together.items() for case in cases)

    def covers(self, prices, weights):
        """Whether prices and weights are as point [6] says."""
        if not are_lowest(prices, len(self.matter.parts)) or not set(weights) <= set(self.demands):
            return False
        if not all(is_lowest(weight) and weight[0] >= 0 for weight in weights.values()):
            return False
        for case, price in enumerate(fractions(prices)):
            for plan in self.plans:
                least = self.plan_worth(plan, case)
                for demand, weight in weights.items():
                    if demand[0] == plan:
                        least += Fraction(*weight) * self.demand_value(demand, case)
                if price < least:
                    return False
        return True


class Words:
    """What point [7] says of a matter with allowed words."""

    def __init__(self, matter, allowed):
        self.matter = matter
        self.allowed = allowed
        self.words = range(max(word for words in allowed for word in words) + 1)
        self.readings = list(itertools.product(acts_of(matter), repeat=len(self.words)))

    def pairs(self, reading):
        """All pairs of a word and another act than that of a reading for it."""
        return [(word, other) for word in self.words for other in acts_of(self.matter) if other != reading[word]]

    def table_rows(self, table):
        """The chances of a table with the right number of words, None if the value is none."""
        if type(table) is not tuple or len(table) != len(self.matter.parts):
            return None
        if not all(are_lowest(row, len(self.words)) for row in table):
            return None
        rows = [fractions(row) for row in table]
        return None if any(sum(row) != 1 or min(row) < 0 or max(row) > 1 for row in rows) else rows

    def worth(self, reading, table):
        """The worth of a table for a reading, None if it is not kept for it."""
        rows = self.table_rows(table)
        if reading not in self.readings or any(type(act) is not int for act in reading) or rows is None:
            return None
        for case, row in enumerate(rows):
            if any(row[word] > 0 and word not in self.allowed[case] for word in self.words):
                return None
        together = [[each * row[word] for each, row in zip(chances(self.matter), rows)] for word in self.words]
        for word, other in self.pairs(reading):
            act = reading[word]
            if sum(each * (row[act] - row[other]) for each, row in zip(together[word], self.matter.gains)) < 0:
                return None
        return sum((each * row[reading[word]] for word in self.words
                    for each, row in zip(together[word], self.matter.worths)), Fraction(0))

    def holds(self, limit, reading, worth):
        """Whether a Limit holds for a reading and a worth."""
        if not are_lowest(limit.prices, len(self.matter.parts)) or reading not in self.readings:
            return False
        if not all(type(key) is tuple and all(type(item) is int for item in key) for key in limit.weights):
            return False
        if not set(limit.weights) <= set(self.pairs(reading)):
            return False
        if not all(is_lowest(weight) and weight[0] >= 0 for weight in limit.weights.values()):
            return False
        for case, price in enumerate(fractions(limit.prices)):
            gains, worths = self.matter.gains[case], self.matter.worths[case]
            for word in self.allowed[case]:
                act = reading[word]
                least = Fraction(worths[act])
                for (charged, other), weight in limit.weights.items():
                    if charged == word:
                        least += Fraction(*weight) * (gains[act] - gains[other])
                if price < least:
                    return False
        return cost(self.matter, limit.prices) <= worth


def changed_row(chance, row):
    """A tuple of fractions with one change."""
    at = chance.randrange(len(row))
    kind = chance.choice(("more", "less", "length", "none"))
    if kind == "length":
        return row + (row[at],)
    if kind == "none":
        return row[:at] + row[at + 1:]
    step = Fraction(1 if kind == "more" else -1, chance.choice((1, 2, 7)))
    return row[:at] + (pair(Fraction(*row[at]) + step),) + row[at + 1:]


def changed_weights(chance, weights, good, wrong):
    """A dict of weights with one change: a weight, a good key more, one key less, or a wrong key more."""
    kind = chance.choice(("weight", "weight", "more", "less", "wrong"))
    if kind == "wrong":
        return {**weights, chance.choice(wrong): pair(Fraction(chance.randint(0, 2)))}
    if kind == "more" or not weights:
        return {**weights, chance.choice(good): pair(Fraction(chance.randint(-1, 3), 2))}
    key = chance.choice(list(weights))
    if kind == "less":
        return {other: weights[other] for other in weights if other != key}
    return {**weights, key: pair(Fraction(*weights[key]) + Fraction(chance.randint(-3, 3), 2))}


def turned(table):
    """A dict with its keys in the opposite order."""
    return {key: table[key] for key in reversed(list(table))}
