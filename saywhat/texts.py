"""Texts: how a matter and a table are written, and read again."""

from saywhat.errors import BadText
from saywhat.matters import (FEWEST_ACTS, FEWEST_CASES, LEAST_GAIN, LEAST_PART, LEAST_WORTH, MOST_ACTS, MOST_CASES,
                             MOST_GAIN, MOST_PART, MOST_WORTH, Matter, check_matter)
from saywhat.tellings import MOST_WORDS, are_chances, check_table

# Longer integers are guaranteed nothing, and Python itself reads them no more from about this length on.
MOST_DIGITS = 4000


def _line(words):
    """Return words as a line."""
    return " ".join(words) + "\n"


def _as_words(numbers):
    """Return a list of integers as words."""
    return [str(number) for number in numbers]


def matter_text(matter):
    """Return a matter as a text."""
    check_matter(matter)
    lines = [_line(["parts"] + _as_words(matter.parts))]
    for gains, worths in zip(matter.gains, matter.worths):
        lines.append(_line(["gains"] + _as_words(gains) + ["worths"] + _as_words(worths)))
    return "".join(lines)


def table_text(matter, table):
    """Return a table as a text."""
    check_table(matter, table)
    return "".join([_line([f"{over}/{under}" for over, under in row]) for row in table])


def _pieces(text):
    """Return a list of the lines of a text, and behind them what follows its last line feed."""
    if not isinstance(text, str):
        raise BadText(0)
    return text.split("\n")


def _numbers_in(words, least, most):
    """Return a tuple of the integers from least to most that words are, None if one of them is no such integer."""
    known = {str(number): number for number in range(least, most + 1)}
    if not all([word in known for word in words]):
        return None
    return tuple([known[word] for word in words])


def _parts_in(line):
    """Return the parts that a line tells, None if it tells none."""
    words = line.split(" ")
    if words[0] != "parts" or not FEWEST_CASES <= len(words) - 1 <= MOST_CASES:
        return None
    return _numbers_in(words[1:], LEAST_PART, MOST_PART)


def _case_in(line):
    """Return a tuple of the gains, and then the worths, that a line tells, None if it tells none."""
    words = line.split(" ")
    acts = len(words) // 2 - 1
    if len(words) != 2 * acts + 2 or not FEWEST_ACTS <= acts <= MOST_ACTS:
        return None
    if words[0] != "gains" or words[acts + 1] != "worths":
        return None
    gains = _numbers_in(words[1:acts + 1], LEAST_GAIN, MOST_GAIN)
    worths = _numbers_in(words[acts + 2:], LEAST_WORTH, MOST_WORTH)
    return None if gains is None or worths is None else gains + worths


def _is_natural(word):
    """Tell whether a word is an integer of at least 0 as it is written."""
    if not word.isascii() or not word.isdigit() or len(word) > MOST_DIGITS:
        return False
    return word == "0" or word[0] != "0"


def _ratio_in(word):
    """Return the two integers of a word with a bar between them, None if it is no such word."""
    halves = word.split("/")
    if len(halves) != 2 or not all([_is_natural(half) for half in halves]):
        return None
    return int(halves[0]), int(halves[1])


def _chances_in(line):
    """Return the chances of all words that a line tells, None if it tells none."""
    words = line.split(" ")
    if len(words) > MOST_WORDS:
        return None
    row = tuple([_ratio_in(word) for word in words])
    return row if are_chances(row, len(words)) else None


def _rows_in(pieces, first, cases, read):
    """Return a list of what a function reads in each line from the first one on, for so many cases, equally long."""
    lines = pieces[:-1]
    rows = []
    for line in lines[first:]:
        row = read(line)
        if row is None or len(rows) == cases or (rows and len(row) != len(rows[0])):
            raise BadText(first + len(rows))
        rows.append(row)
    if len(rows) < cases or pieces[-1]:
        raise BadText(len(lines))
    return rows


def read_matter(text):
    """Return the matter that a text tells."""
    pieces = _pieces(text)
    # If no line feed follows, this is no line; then lines are missing, and the row is 0 all the same.
    parts = _parts_in(pieces[0])
    if parts is None:
        raise BadText(0)
    rows = _rows_in(pieces, 1, len(parts), _case_in)
    acts = len(rows[0]) // 2
    return Matter(parts, tuple([row[:acts] for row in rows]), tuple([row[acts:] for row in rows]))


def read_table(matter, text):
    """Return the table that a text tells."""
    check_matter(matter)
    return tuple(_rows_in(_pieces(text), 0, len(matter), _chances_in))
