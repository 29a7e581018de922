"""What a given table leads to: what the hearer believes and does, and what both parties have of it."""

from saywhat.errors import BadTable
from saywhat.matters import check_matter
from saywhat.exact import are_one_together, common_under, is_chance, ratio, scaled

MOST_WORDS = 4


def are_chances(row, words):
    """Tell whether a row has a chance for each of so many words, 1 together."""
    if not isinstance(row, tuple) or len(row) != words:
        return False
    return all([is_chance(share) for share in row]) and are_one_together(row)


def is_table(matter, table):
    """Tell whether a value is a table for a matter."""
    if not isinstance(table, tuple) or len(table) != len(matter) or not isinstance(table[0], tuple):
        return False
    words = len(table[0])
    return 1 <= words <= MOST_WORDS and all([are_chances(row, words) for row in table])


def check_table(matter, table):
    """Refuse what is no Matter, then what is no table for it."""
    check_matter(matter)
    if not is_table(matter, table):
        raise BadTable("this is not a table for the matter")


def _joint_chances(matter, table):
    """Return one divisor, and for each word a list with the chance of each case together with it.

    The chances are integers, to be divided by the divisor.
    """
    common = common_under([share for row in table for share in row])
    weighed = [[part * scaled(share, common) for share in row] for part, row in zip(matter.parts, table)]
    joints = [[row[word] for row in weighed] for word in range(len(table[0]))]
    return sum(matter.parts) * common, joints


def _totals(rows, joint):
    """Return the sum over the cases for each act, each case multiplied by its number in joint."""
    return [sum([weight * row[act] for weight, row in zip(joint, rows)]) for act in range(len(rows[0]))]


def _act_done(matter, joint):
    """Return the act that the hearer does after a word with these chances, None if it is never said."""
    if not any(joint):
        return None
    gains = _totals(matter.gains, joint)
    worths = _totals(matter.worths, joint)
    greatest = max(gains)
    best_acts = [act for act, gain in enumerate(gains) if gain == greatest]
    return max(best_acts, key=lambda act: worths[act])


def _belief(joint):
    """Return the chances of all cases after a word, None if it is never said."""
    whole = sum(joint)
    if whole == 0:
        return None
    return tuple([ratio(weight, whole) for weight in joint])


def _overall(matter, table, rows):
    """Return the average, over cases and words, of what rows have for the act that is done."""
    divisor, joints = _joint_chances(matter, table)
    overall = 0
    for joint in joints:
        act = _act_done(matter, joint)
        if act is not None:
            overall += _totals(rows, joint)[act]
    return ratio(overall, divisor)


def beliefs(matter, table):
    """Return a list with the chances of all cases after each word, None if it is never said."""
    check_table(matter, table)
    _, joints = _joint_chances(matter, table)
    return [_belief(joint) for joint in joints]


def acts_after(matter, table):
    """Return a list with the act that is done after each word, None if it is never said."""
    check_table(matter, table)
    _, joints = _joint_chances(matter, table)
    return [_act_done(matter, joint) for joint in joints]


def worth_of(matter, table):
    """Return what a table is worth to the teller on average."""
    check_table(matter, table)
    return _overall(matter, table, matter.worths)


def gain_of(matter, table):
    """Return what the hearer gains by a table on average."""
    check_table(matter, table)
    return _overall(matter, table, matter.gains)


def swerves(matter, table):
    """Return a dict from pairs of a word and an act that is not done to what this act would lose."""
    check_table(matter, table)
    divisor, joints = _joint_chances(matter, table)
    losses = {}
    for word, joint in enumerate(joints):
        done = _act_done(matter, joint)
        if done is not None:
            gains = _totals(matter.gains, joint)
            for act, gain in enumerate(gains):
                if act != done:
                    losses[(word, act)] = ratio(gains[done] - gain, divisor)
    return losses


def told_by(table):
    """Return a table as a dict from its words to a tuple with a chance for each case."""
    return {word: tuple([row[word] for row in table]) for word in range(len(table[0]))}


def table_of(columns):
    """Return the table that has these words: a list with a tuple with a chance for each case."""
    return tuple([tuple([column[case] for column in columns]) for case in range(len(columns[0]))])


def whole_table(matter):
    """Return the table that says the number of the case."""
    check_matter(matter)
    cases = len(matter)
    return tuple([tuple([(1, 1) if word == case else (0, 1) for word in range(cases)]) for case in range(cases)])


def silent_table(matter):
    """Return the table with one word alone."""
    check_matter(matter)
    return tuple([((1, 1),) for _ in range(len(matter))])
