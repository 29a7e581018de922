"""Point [7]: words that must be true, against an independent look at each of its conditions."""

import doctest
import itertools
import random
import unittest
from fractions import Fraction

from looks import (ALWAYS, COURT, HALF, NEVER, THIRD, WRONG_MATTERS, Words, changed_row, changed_weights, pair, shown,
                   some_matter, turned)
from saywhat import honest as file_of_honest
from saywhat.best import Best, best_worth
from saywhat.errors import BadMatter, BadWords, TooLarge
from saywhat.few import Bound
from saywhat.honest import Honest, Limit, best_honest, honest_worth
from saywhat.matters import Matter
from saywhat.tellings import silent_table, whole_table, worth_of

EXAMPLE = """
>>> from saywhat.honest import Honest, Limit, best_honest, honest_worth
>>> from saywhat.matters import Matter
>>> court = Matter((2, 1), ((1, 0), (0, 1)), ((0, 1), (0, 1)))
>>> free, bound, some = ((0, 1), (0, 1)), ((0,), (1,)), ((0,), (0, 1))
>>> found = best_honest(court, some)
>>> shown = [found.shows(court, some), Limit(((0, 1), (1, 1)), {}).shows(court, some, (0, 1), (1, 3)), Limit(((0, 1), (0, 1)), {}).shows(court, some, (0, 1), (1, 3)), Honest(found.reading, found.table, {}).shows(court, some)]
>>> [[honest_worth(court, allowed) for allowed in (free, bound, some)], found.reading, found.table, shown]
[[(2, 3), (1, 3), (1, 3)], (0, 1), (((1, 1), (0, 1)), ((0, 1), (1, 1))), [True, True, False, False]]
"""

FREE, BOUND, SOME = ((0, 1), (0, 1)), ((0,), (1,)), ((0,), (0, 1))
# The numbers of acts and of words with at most 27 readings.
SIZES = ((2, 1), (3, 1), (4, 1), (2, 2), (3, 2), (4, 2), (2, 3), (3, 3))
ALL_SETS = [words for length in (1, 2, 3) for words in itertools.combinations(range(3), length)]
WRONG_ROWS = (None, True, False, 0, 1, "0", b"0", [0], [0, 1], {0: 1}, {0}, range(2), (), (1, 0), (0, 0), (0, 1, 1),
              (0, 2, 1), (3,), (0, 3), (0, 1, 2, 3), (-1,), (-1, 0), (10 ** 900,), (True,), (False,), (0, True),
              (False, 1), ("0",), (None,), (0, None), ((0,),), ([0],), COURT)
WRONG_WORDS = (None, True, False, 0, 1, "01", b"01", [], {}, set(), range(2), (), [(0,), (1,)], ((0,),),
               ((0,), (0,), (0,)), ((0,),) * 5, (0, 1), {(0,): 1, (1,): 1}, "ab", COURT, object())


def some_words(chance, cases, words):
    """Allowed words, so many in all."""
    sets = [allowed for allowed in ALL_SETS if allowed[-1] < words]
    rows = [chance.choice(sets) for _ in range(cases)]
    rows[chance.randrange(cases)] = chance.choice([allowed for allowed in sets if allowed[-1] == words - 1])
    return tuple(rows)


def many_words(chance, rounds=2):
    """Matters and allowed words of all sizes that are not too large."""
    for _ in range(rounds):
        for cases, (acts, words) in itertools.product((2, 3, 4), SIZES):
            for widest in (1, 9):
                yield some_matter(chance, cases, acts, widest), some_words(chance, cases, words)


def judged(found, matter, allowed):
    """What shows of an Honest should return, by point [7] alone."""
    look = Words(matter, allowed)
    worth = look.worth(found.reading, found.table)
    if worth is None or any(type(act) is not int for reading in found.caps for act in reading):
        return False
    if set(found.caps) != set(look.readings):
        return False
    return all(look.holds(limit, reading, worth) for reading, limit in found.caps.items())


def wrong_pairs(matter, allowed, reading):
    """Tuples of integers that are no pairs of a word and another act than that of the reading."""
    acts, words = len(matter.gains[0]), len(Words(matter, allowed).words)
    return [(words, 0), (-1, 0), (0, acts), (0, -1), (0, reading[0]), (words - 1, reading[-1]), (), (0,),
            (0, (reading[0] + 1) % acts, 0)]


def changed_limit(chance, matter, allowed, reading, limit):
    """A Limit with one change."""
    if chance.random() < 0.5:
        return Limit(changed_row(chance, limit.prices), limit.weights)
    look = Words(matter, allowed)
    return Limit(limit.prices, changed_weights(chance, limit.weights, look.pairs(reading),
                                               wrong_pairs(matter, allowed, reading)))


def changed(chance, matter, allowed, found):
    """An Honest with one change."""
    look = Words(matter, allowed)
    what = chance.choice(("reading", "row", "row", "swap", "less", "more", "cap", "cap", "cap"))
    if what == "reading":
        wrong = [(), found.reading[:-1], (*found.reading, 0), (9,) * len(found.reading)]
        return Honest(chance.choice([*look.readings, *wrong]), found.table, found.caps)
    if what == "row":
        at = chance.randrange(len(found.table))
        row = chance.choice((changed_row(chance, found.table[at]), found.table[at][::-1]))
        return Honest(found.reading, found.table[:at] + (row,) + found.table[at + 1:], found.caps)
    if what == "swap":
        table = chance.choice((found.table[::-1], found.table[:-1], (*found.table, found.table[0]),
                               tuple((*row, NEVER) for row in found.table), tuple(row[:-1] for row in found.table)))
        return Honest(found.reading, table, found.caps)
    chosen = chance.choice(list(found.caps))
    if what == "less":
        return Honest(found.reading, found.table, {key: found.caps[key] for key in found.caps if key != chosen})
    if what == "more":
        more = chance.choice([(), chosen[:-1], (*chosen, 0), (*chosen[:-1], len(matter.gains[0])), (*chosen[:-1], -1)])
        return Honest(found.reading, found.table, {**found.caps, more: found.caps[chosen]})
    limit = changed_limit(chance, matter, allowed, chosen, found.caps[chosen])
    return Honest(found.reading, found.table, {**found.caps, chosen: limit})


class TestManyWords(unittest.TestCase):
    def test_each_condition(self):
        barred = 0
        for matter, allowed in many_words(random.Random(70)):
            with self.subTest(matter=shown(matter), allowed=allowed):
                found = best_honest(matter, allowed)
                look = Words(matter, allowed)
                worth = look.worth(found.reading, found.table)
                self.assertIsNotNone(worth)
                self.assertEqual(honest_worth(matter, allowed), pair(worth))
                self.assertEqual(list(found.caps), look.readings)
                for reading, limit in found.caps.items():
                    self.assertIs(type(limit), Limit)
                    self.assertTrue(look.holds(limit, reading, worth))
                    self.assertIs(limit.shows(matter, allowed, reading, pair(worth)), True)
                self.assertIs(found.shows(matter, allowed), True)
                barred += any(len(words) < len(look.words) for words in allowed)
        self.assertGreater(barred, 30)

    def test_if_each_word_is_allowed_everywhere(self):
        chance = random.Random(71)
        for cases, acts, words in itertools.product((2, 3, 4), (2, 3), (2, 3)):
            for widest in (1, 9):
                matter, allowed = some_matter(chance, cases, acts, widest), (tuple(range(words)),) * cases
                with self.subTest(matter=shown(matter), words=words):
                    if words >= acts:
                        self.assertEqual(honest_worth(matter, allowed), best_worth(matter))
                    else:
                        self.assertLessEqual(Fraction(*honest_worth(matter, allowed)), Fraction(*best_worth(matter)))

    def test_if_one_word_is_allowed_in_each_case(self):
        chance = random.Random(72)
        for cases, (acts, words) in itertools.product((2, 3, 4), SIZES):
            matter = some_matter(chance, cases, acts, chance.choice((1, 2, 9)))
            told = [chance.randrange(words) for _ in range(cases)]
            count = max(told) + 1
            table = tuple(tuple(ALWAYS if word == each else NEVER for word in range(count)) for each in told)
            with self.subTest(matter=shown(matter), told=told):
                allowed = tuple((word,) for word in told)
                self.assertEqual(honest_worth(matter, allowed), worth_of(matter, table))
                self.assertEqual(best_honest(matter, allowed).table, table)

    def test_more_words_allowed_are_worth_no_less(self):
        chance = random.Random(73)
        for _ in range(30):
            matter = some_matter(chance, chance.randint(2, 4), chance.randint(2, 3), 9)
            allowed = some_words(chance, len(matter), 3)
            case = chance.randrange(len(matter))
            more = allowed[:case] + ((0, 1, 2),) + allowed[case + 1:]
            with self.subTest(matter=shown(matter), allowed=allowed, more=more):
                self.assertGreaterEqual(Fraction(*honest_worth(matter, more)), Fraction(*honest_worth(matter, allowed)))

    def test_shows_of_changed_ones(self):
        chance = random.Random(74)
        answers = {True: 0, False: 0}
        for matter, allowed in many_words(chance, 1):
            found = best_honest(matter, allowed)
            for _ in range(14):
                other = changed(chance, matter, allowed, found)
                with self.subTest(matter=shown(matter), allowed=allowed, reading=other.reading, table=other.table,
                                  caps={key: vars(other.caps[key]) for key in other.caps}):
                    expected = judged(other, matter, allowed)
                    self.assertIs(other.shows(matter, allowed), expected)
                    answers[expected] += 1
        self.assertGreater(answers[True], 30)
        self.assertGreater(answers[False], 300)

    def test_shows_of_changed_limits(self):
        chance = random.Random(75)
        answers = {True: 0, False: 0}
        for matter, allowed in many_words(chance, 1):
            found, worth = best_honest(matter, allowed), honest_worth(matter, allowed)
            look = Words(matter, allowed)
            for reading, limit in found.caps.items():
                other = changed_limit(chance, matter, allowed, reading, limit)
                goal = chance.choice((worth, worth, (9, 1), pair(Fraction(*worth) - Fraction(1, 100))))
                for asked in (reading, chance.choice(look.readings)):
                    with self.subTest(matter=shown(matter), allowed=allowed, limit=vars(other), reading=asked):
                        expected = look.holds(other, asked, Fraction(*goal))
                        self.assertIs(other.shows(matter, allowed, asked, goal), expected)
                        answers[expected] += 1
        self.assertGreater(answers[True], 100)
        self.assertGreater(answers[False], 300)

    def test_shows_for_other_words(self):
        chance = random.Random(76)
        for matter, allowed in many_words(chance, 1):
            found, other = best_honest(matter, allowed), some_words(chance, len(matter), chance.randint(1, 3))
            with self.subTest(matter=shown(matter), allowed=allowed, other=other):
                self.assertIs(found.shows(matter, other), judged(found, matter, other))


class TestShows(unittest.TestCase):
    """Word 1 says that it is case 1, word 0 says nothing."""

    READING, TABLE = (0, 1), ((ALWAYS, NEVER), (NEVER, ALWAYS))
    ZEROS = ((0, 1), (0, 1))
    CAPS = {(0, 0): Limit(ZEROS, {}), (0, 1): Limit(((0, 1), (1, 1)), {}),
            (1, 0): Limit(((-1, 1), (3, 1)), {(0, 0): (2, 1), (1, 1): (1, 1)}),
            (1, 1): Limit(((-1, 1), (3, 1)), {(0, 0): (2, 1)})}

    def shows(self, answer, reading=READING, table=TABLE, caps=None, allowed=SOME):
        found = Honest(reading, table, self.CAPS if caps is None else caps)
        with self.subTest(reading=reading, table=table, caps=caps):
            self.assertIs(found.shows(COURT, allowed), answer)

    def test_as_it_is(self):
        self.shows(True)
        self.shows(True, caps=turned(self.CAPS))
        self.shows(False, allowed=FREE)
        self.shows(False, allowed=BOUND[::-1])
        self.shows(False, allowed=((0,), (0, 2)))
        self.shows(True, allowed=BOUND)

    def test_reading(self):
        for wrong in ((), (0,), (0, 1, 0), (0, 0), (1, 1), (1, 0), (0, 2), (0, -1), (False, 1), (0, True),
                      (False, True)):
            self.shows(False, reading=wrong)

    def test_table(self):
        for wrong in ((), ((ALWAYS, NEVER),), (*self.TABLE, (ALWAYS, NEVER)), self.TABLE[::-1],
                      silent_table(COURT), ((ALWAYS, NEVER, NEVER), (NEVER, ALWAYS, NEVER)), ((), ()),
                      ((ALWAYS, NEVER), (NEVER,)), ((ALWAYS,), (NEVER,)), ((ALWAYS, NEVER), (HALF, HALF)),
                      ((ALWAYS, NEVER), (NEVER, NEVER)), ((ALWAYS, NEVER), (ALWAYS, ALWAYS)),
                      ((ALWAYS, NEVER), ((-1, 1), (2, 1))), ((ALWAYS, NEVER), ((0, 2), ALWAYS)),
                      ((ALWAYS, NEVER), (NEVER, (2, 2))), ((ALWAYS, NEVER), (NEVER, (True, 1)))):
            self.shows(False, table=wrong)

    def test_a_word_where_it_is_not_allowed(self):
        # With the half of case 0 the table is worth 2 / 3 and followed, but word 1 is not true there.
        best = ((HALF, HALF), (NEVER, ALWAYS))
        caps = {reading: Limit(((0, 1), (2, 1)), {(1, 0): (1, 1)} if reading[1] == 1 else {}) for reading in self.CAPS}
        self.assertIs(Honest((0, 1), best, caps).shows(COURT, SOME), False)
        self.assertIsNotNone(Words(COURT, FREE).worth((0, 1), best))
        self.assertIsNone(Words(COURT, SOME).worth((0, 1), best))
        found = best_honest(COURT, FREE)
        self.assertIs(Honest((0, 1), best, found.caps).shows(COURT, FREE), True)
        self.assertIs(Honest((0, 1), best, found.caps).shows(COURT, SOME), False)

    def test_caps(self):
        for reading in self.CAPS:
            self.shows(False, caps={key: self.CAPS[key] for key in self.CAPS if key != reading})
            self.shows(False, caps={**self.CAPS, reading: Limit(((9, 1), (9, 1)), {})})
            self.shows(False, caps={**self.CAPS, reading: Limit(((-9, 1), (9, 1)), {})})
        for wrong in ((), (0,), (0, 1, 0), (0, 2), (-1, 0), (2, 0)):
            self.shows(False, caps={**self.CAPS, wrong: self.CAPS[(0, 0)]})
        self.shows(False, caps={})

    def test_booleans_among_the_readings_of_the_caps(self):
        for reading, wrong in (((0, 1), (0, True)), ((0, 1), (False, 1)), ((1, 1), (True, True))):
            caps = {(wrong if key == reading else key): self.CAPS[key] for key in self.CAPS}
            self.shows(False, caps=caps)

    def test_the_current_attributes(self):
        found = Honest(self.READING, self.TABLE, self.CAPS)
        found.reading = (0, 0)
        self.assertIs(found.shows(COURT, SOME), False)
        found.reading = (0, 1)
        found.caps[(1, 1)].weights[(0, 0)] = (1, 1)
        self.assertIs(found.shows(COURT, SOME), False)
        found.caps[(1, 1)].weights[(0, 0)] = (2, 1)
        self.assertIs(found.shows(COURT, SOME), True)
        found.caps[(0, 1)].prices = ((1, 1), (1, 1))
        self.assertIs(found.shows(COURT, SOME), False)
        found.caps[(0, 1)].prices = ((0, 1), (1, 1))
        kept = found.caps.pop((1, 0))
        self.assertIs(found.shows(COURT, SOME), False)
        found.caps[(1, 0)] = kept
        self.assertIs(found.shows(COURT, SOME), True)
        found.table = whole_table(COURT)[::-1]
        self.assertIs(found.shows(COURT, SOME), False)


class TestLimits(unittest.TestCase):
    def shows(self, answer, prices, weights, reading=(1, 1), worth=THIRD, allowed=SOME):
        with self.subTest(prices=prices, weights=weights, reading=reading, worth=worth):
            self.assertIs(Limit(prices, weights).shows(COURT, allowed, reading, worth), answer)

    def test_prices(self):
        weights = {(0, 0): (2, 1)}
        self.shows(True, ((-1, 1), (3, 1)), weights)
        for wrong in ((), ((-1, 1),), ((-1, 1), (3, 1), (0, 1)), ((-1, 1), (2, 1)), ((-2, 1), (3, 1)), ((0, 1), (3, 1)),
                      ((-2, 2), (3, 1)), ((-1, 1), (3, True)), ((-1, 1), (13, 4))):
            self.shows(False, wrong, weights)

    def test_a_price_is_for_the_words_that_are_allowed_there_alone(self):
        # In case 0, only word 0 is allowed; the weight of word 1 raises nothing there.
        self.shows(True, ((0, 1), (1, 1)), {}, (0, 1))
        self.shows(True, ((0, 1), (1, 1)), {(1, 0): (0, 1)}, (0, 1))
        self.shows(False, ((0, 1), (1, 1)), {(1, 0): (1, 1)}, (0, 1))
        self.shows(False, ((0, 1), (1, 1)), {}, (0, 1), allowed=FREE)
        self.shows(True, ((0, 1), (2, 1)), {(1, 0): (1, 1)}, (0, 1), (2, 3), FREE)

    def test_weights(self):
        prices = ((-1, 1), (3, 1))
        for wrong in ((0, 1), (1, 1), (3, 1), (-2, 1), (4, 2), (True, 1), (2, True)):
            self.shows(False, prices, {(0, 0): wrong})
        self.shows(True, prices, {(0, 0): (2, 1), (1, 0): (1, 1)})
        self.shows(False, prices, {(0, 0): (2, 1), (1, 0): (-1, 1)})

    def test_pairs_that_are_none(self):
        prices = ((-1, 1), (3, 1))
        for wrong in ((0, 1), (1, 1), (2, 0), (-1, 0), (0, 2), (0, -1), (), (0,), (0, 0, 0), (1, False), (True, 0)):
            self.shows(False, prices, {(0, 0): (2, 1), wrong: (0, 1)})
        self.shows(False, prices, {(False, 0): (2, 1)})
        self.shows(False, prices, {(0, False): (2, 1)})

    def test_worths(self):
        prices, weights = ((-1, 1), (3, 1)), {(0, 0): (2, 1)}
        for good in ((1, 3), (1, 2), (9, 1), (10 ** 900 + 1, 3 * 10 ** 900)):
            self.shows(True, prices, weights, worth=good)
        for less in ((0, 1), (1, 4), (-1, 3), (10 ** 900 - 1, 3 * 10 ** 900)):
            self.shows(False, prices, weights, worth=less)
        for wrong in ((2, 6), (1, -3), (True, 1), (1, True), (1,), None):
            self.shows(False, prices, weights, worth=wrong)

    def test_a_word_that_is_allowed_nowhere(self):
        allowed = ((2,), (0, 2))
        self.shows(True, ((0, 1), (0, 1)), {(1, 1): (5, 1)}, (0, 0, 0), (0, 1), allowed)
        self.shows(True, ((0, 1), (0, 1)), {(1, 0): (5, 1)}, (0, 1, 0), (0, 1), allowed)
        self.shows(False, ((0, 1), (0, 1)), {(1, 1): (5, 1)}, (0, 1, 0), (0, 1), allowed)
        self.shows(False, ((0, 1), (0, 1)), {(3, 1): (5, 1)}, (0, 1, 0), (0, 1), allowed)

    def test_readings_that_are_none(self):
        zeros = ((0, 1), (0, 1))
        self.shows(True, zeros, {}, (0, 0))
        for wrong in ((), (0,), (0, 0, 0), (0, 2), (0, -1), (False, 0), (0, False)):
            self.shows(False, zeros, {}, wrong)


class TestEdges(unittest.TestCase):
    def test_one_word_says_nothing(self):
        allowed = ((0,), (0,))
        found = best_honest(COURT, allowed)
        self.assertEqual((found.reading, found.table), ((0,), silent_table(COURT)))
        self.assertEqual(list(found.caps), [(0,), (1,)])
        self.assertEqual(honest_worth(COURT, allowed), (0, 1))

    def test_words_that_are_allowed_nowhere_count(self):
        found = best_honest(COURT, ((2,), (2,)))
        self.assertEqual(list(found.caps), list(itertools.product((0, 1), repeat=3)))
        self.assertEqual(found.table, ((NEVER, NEVER, ALWAYS),) * 2)
        self.assertEqual(found.reading[2], 0)
        self.assertIs(found.shows(COURT, ((2,), (2,))), True)
        middle = best_honest(COURT, ((0,), (2,)))
        self.assertEqual(middle.table, ((ALWAYS, NEVER, NEVER), (NEVER, NEVER, ALWAYS)))
        self.assertEqual((middle.reading[0], middle.reading[2]), (0, 1))

    def test_readings_that_no_table_is_kept_for(self):
        found = best_honest(COURT, ((0,), (0,)))
        self.assertEqual(Words(COURT, ((0,), (0,))).worth((1,), silent_table(COURT)), None)
        cap = found.caps[(1,)]
        self.assertIs(cap.shows(COURT, ((0,), (0,)), (1,), (0, 1)), True)

    def test_a_worth_of_0_and_of_9(self):
        least = Matter((1, 1), ((1, 0), (0, 1)), ((0, 0), (0, 0)))
        greatest = Matter((6, 1), ((9, -9), (-9, 9)), ((9, 9), (9, 9)))
        for matter, worth in ((least, (0, 1)), (greatest, (9, 1))):
            for allowed in (FREE, BOUND, SOME, ((0, 2), (1, 2))):
                self.assertEqual(honest_worth(matter, allowed), worth)
                self.assertIs(best_honest(matter, allowed).shows(matter, allowed), True)

    def test_27_readings_and_more(self):
        chance = random.Random(77)
        for cases, (acts, words) in itertools.product((2, 3, 4), itertools.product((2, 3, 4), (1, 2, 3))):
            matter = some_matter(chance, cases, acts, 9)
            allowed = (tuple(range(words)),) * cases
            for function in (best_honest, honest_worth):
                with self.subTest(cases=cases, acts=acts, words=words):
                    if acts ** words <= 27:
                        function(matter, allowed)
                    else:
                        self.assertRaises(TooLarge, function, matter, allowed)

    def test_a_word_that_is_allowed_nowhere_makes_readings(self):
        four = Matter((1, 1), ((0, 0, 0, 0),) * 2, ((1, 2, 3, 4),) * 2)
        self.assertRaises(TooLarge, best_honest, four, ((2,), (2,)))
        self.assertEqual(honest_worth(four, ((1,), (1,))), (4, 1))

    def test_shows_of_64_readings(self):
        four = Matter((1, 1), ((0, 0, 0, 0),) * 2, ((1, 2, 3, 4),) * 2)
        allowed, row = ((0, 1, 2), (2,)), (NEVER, NEVER, ALWAYS)
        limit = Limit(((4, 1), (4, 1)), {})
        caps = {reading: limit for reading in itertools.product(range(4), repeat=3)}
        self.assertIs(limit.shows(four, allowed, (3, 3, 3), (4, 1)), True)
        self.assertIs(limit.shows(four, allowed, (3, 3, 3), (3, 1)), False)
        self.assertIs(Honest((0, 0, 3), (row, row), caps).shows(four, allowed), True)
        self.assertIs(Honest((0, 3, 0), (row, row), caps).shows(four, allowed), False)
        del caps[(3, 3, 3)]
        self.assertIs(Honest((0, 0, 3), (row, row), caps).shows(four, allowed), False)


class TestClasses(unittest.TestCase):
    def test_attributes_and_copies(self):
        weights = {(1, 0): (2, 1)}
        limit = Limit(((0, 1), (0, 1)), weights)
        caps = {(0, 1): limit}
        found = Honest((0, 1), silent_table(COURT), caps)
        self.assertEqual(vars(limit), {"prices": ((0, 1), (0, 1)), "weights": {(1, 0): (2, 1)}})
        self.assertEqual(vars(found), {"reading": (0, 1), "table": silent_table(COURT), "caps": {(0, 1): limit}})
        weights.clear()
        caps.clear()
        self.assertEqual(limit.weights, {(1, 0): (2, 1)})
        self.assertEqual(found.caps, {(0, 1): limit})
        found.caps[(1, 1)] = limit
        self.assertEqual(caps, {})

    def test_limits_that_are_changed_afterwards(self):
        limit = Limit(((0, 1), (0, 1)), {(1, 0): (2, 1)})
        found = Honest((0, 1), silent_table(COURT), {(0, 1): limit})
        limit.prices = None
        limit.weights.clear()
        self.assertEqual(found.caps, {(0, 1): Limit(((0, 1), (0, 1)), {(1, 0): (2, 1)})})

    def test_iteration(self):
        found = best_honest(COURT, SOME)
        expected = [(reading, found.caps[reading]) for reading in itertools.product((0, 1), repeat=2)]
        self.assertEqual(list(found), expected)
        self.assertEqual(list(found), expected)
        self.assertEqual([type(item) for item in found], [tuple] * 4)
        self.assertEqual([(one, other) for one, _ in found for other, _ in found],
                         [(one, other) for one, _ in expected for other, _ in expected])
        self.assertEqual(list(Honest((0, 1), None, turned(found.caps))), expected[::-1])
        found.caps = {}
        self.assertEqual(list(found), [])

    def unequal(self, first, other):
        self.assertIs(first == other, False)
        self.assertIs(first != other, True)
        self.assertIs(other == first, False)
        self.assertIs(other != first, True)

    def test_equality_of_limits(self):
        first = Limit(((0, 1), (1, 1)), {(0, 1): (1, 1), (1, 0): (0, 1)})
        self.assertIs(first == Limit(first.prices, turned(first.weights)), True)
        self.assertIs(first != Limit(first.prices, turned(first.weights)), False)
        for other in (Limit(((0, 1), (2, 1)), first.weights), Limit(first.prices, {(0, 1): (1, 1)}),
                      Bound(first.prices, first.weights), Best(None, first.prices, first.weights), COURT):
            self.unequal(first, other)

    def test_equality_of_honests(self):
        first = best_honest(COURT, SOME)
        same = Honest(first.reading, first.table, turned(best_honest(COURT, SOME).caps))
        self.assertIs(first == same, True)
        self.assertIs(first != same, False)
        for other in (Honest((1, 1), first.table, first.caps), Honest(first.reading, None, first.caps),
                      Honest(first.reading, first.table, {}),
                      Honest(first.reading, first.table, {**first.caps, (0, 0): first.caps[(1, 1)]}),
                      first.caps[(0, 0)], Best(first.reading, first.table, first.caps), COURT):
            self.unequal(first, other)

    def test_results_are_new(self):
        first = best_honest(COURT, SOME)
        first.caps[(0, 0)].weights[(0, 1)] = None
        first.caps.clear()
        self.assertIs(best_honest(COURT, SOME).shows(COURT, SOME), True)

    def test_parameters_may_be_passed_by_name(self):
        self.assertEqual(Limit(weights={}, prices=()), Limit((), {}))
        self.assertEqual(Honest(caps={}, table=None, reading=()), Honest((), None, {}))
        self.assertEqual(best_honest(allowed=SOME, matter=COURT), best_honest(COURT, SOME))
        self.assertEqual(honest_worth(allowed=SOME, matter=COURT), THIRD)
        self.assertIs(best_honest(COURT, SOME).shows(allowed=SOME, matter=COURT), True)
        limit = Limit(((0, 1), (1, 1)), {})
        self.assertIs(limit.shows(worth=THIRD, reading=(0, 1), allowed=SOME, matter=COURT), True)

    def test_methods_stand_in_their_classes_and_all_in_the_file(self):
        for name in ("__init__", "__eq__", "shows"):
            self.assertIn(name, vars(Limit))
            self.assertIn(name, vars(Honest))
        self.assertIn("__iter__", vars(Honest))
        for name in ("Limit", "Honest", "best_honest", "honest_worth"):
            self.assertEqual(getattr(file_of_honest, name).__module__, "saywhat.honest")


class TestErrors(unittest.TestCase):
    def functions(self):
        """All functions of a matter and allowed words, in one form."""
        found = best_honest(COURT, SOME)
        limit = found.caps[(0, 1)]
        return (best_honest, honest_worth, found.shows, Honest((), (), {}).shows,
                lambda matter, allowed: limit.shows(matter, allowed, (0, 1), THIRD),
                lambda matter, allowed: limit.shows(matter, allowed, (0, 5), (-1, 1)))

    def refused(self, error, function, *arguments):
        with self.subTest(function=function, arguments=arguments), self.assertRaises(error) as caught:
            function(*arguments)
        return caught.exception

    def test_things_that_are_no_matter_come_first(self):
        for function in self.functions():
            for wrong in WRONG_MATTERS:
                for allowed in (SOME, None, ((1, 0), (0,)), ((0,),)):
                    self.assertIsNone(self.refused(BadMatter, function, wrong, allowed).part)

    def test_wrong_words(self):
        for function in self.functions():
            for wrong in WRONG_WORDS:
                self.refused(BadWords, function, COURT, wrong)
            for row in WRONG_ROWS:
                self.refused(BadWords, function, COURT, (row, (0, 1)))
                self.refused(BadWords, function, COURT, ((0, 1), row))
                self.refused(BadWords, function, COURT, (row, row))

    def test_all_words_that_are_allowed(self):
        for allowed in itertools.product(ALL_SETS, repeat=2):
            self.assertIs(best_honest(COURT, allowed).shows(COURT, allowed), True)

    def test_wrong_words_come_before_sizes(self):
        four = Matter((1, 1), ((0, 0, 0, 0),) * 2, ((1, 2, 3, 4),) * 2)
        for function in (best_honest, honest_worth):
            self.refused(BadWords, function, four, ((0, 1, 2),))
            self.refused(BadWords, function, four, ((0, 1, 2), (0, 1, 2, 3)))
            self.refused(BadWords, function, four, ((0, 1, 2), (2, 1)))
            self.refused(TooLarge, function, four, ((0,), (2,)))

    def test_a_refused_call_changes_nothing(self):
        found = best_honest(COURT, SOME)
        self.refused(BadWords, found.shows, COURT, ((0,),))
        self.refused(BadMatter, found.shows, None, SOME)
        self.refused(BadWords, found.caps[(0, 0)].shows, COURT, (), (0, 0), (1, 1))
        self.assertEqual(found, best_honest(COURT, SOME))


class TestExamples(unittest.TestCase):
    def test_the_example_of_the_document(self):
        test = doctest.DocTestParser().get_doctest(EXAMPLE, {}, "honest", None, 0)
        self.assertEqual(doctest.DocTestRunner(verbose=False).run(test), (0, 7))


if __name__ == "__main__":
    unittest.main()
