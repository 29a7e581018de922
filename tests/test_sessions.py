"""Point [9]: sessions, their draws, undoing, branches and trials."""

import doctest
import itertools
import math
import random
import unittest
from fractions import Fraction

from looks import (ALWAYS, COURT, HALF, NEVER, THIRD, WRONG_MATTERS, chances, fractions, many_matters, pair, shown,
                   some_matter)
from saywhat import sessions
from saywhat.errors import BadDraw, BadDraws, BadMatter, BadTable, NothingDone, SayError
from saywhat.matters import Matter
from saywhat.sessions import Session
from saywhat.tellings import acts_after, silent_table, whole_table

EXAMPLE = """
>>> from saywhat.matters import Matter
>>> from saywhat.sessions import Session
>>> court = Matter((2, 1), ((1, 0), (0, 1)), ((0, 1), (0, 1)))
>>> table = (((1, 2), (1, 2)), ((0, 1), (1, 1)))
>>> session = Session(court, table)
>>> [session.tell((1, 1)), session.tell((2, 0)), session.teller(), session.hearer(), session.often(), session.tried([(0, 0)]), session.undo(), session.journal]
[(1, 1), (1, 1), 2, 1, ((0, 1), (1, 1)), [(0, 0)], (1, 1), [(0, 1)]]
"""

TABLE = ((HALF, HALF), (NEVER, ALWAYS))
# The first two belong to case 0, the third one to case 1; words 0, 1 and 1.
DRAWS = [(0, 0), (1, 1), (2, 0)]
PAIRS = [(0, 0), (0, 1), (1, 1)]
TOLD = [(0, 0), (1, 1), (1, 1)]
WRONG_DRAWS = (None, True, False, 0, 1, "00", b"00", [], [0, 0], {}, {0: 0, 1: 1}, {0, 1}, range(2), (), (0,),
               (0, 0, 0), (3, 0), (-1, 0), (0, 2), (0, -1), (2, 1), (2, -1), (0, 10 ** 900), (10 ** 900, 0),
               (-10 ** 900, 0), (True, 0), (0, False), (False, False), (0, True), ("0", 0), (0, "0"), (None, 0),
               (0, None), ((0,), 0), (0, (0,)), ((0, 1), (0, 1)), COURT, object())


class Left(Exception):
    """What leaves a trial."""


def expected_pair(matter, table, draw):
    """The pair of a case and a word of a draw, by point [9] alone; None if it is not a draw."""
    first, second = draw
    if not 0 <= first < sum(matter.parts):
        return None
    case = next(case for case in range(len(matter)) if first < sum(matter.parts[:case + 1]))
    many = math.lcm(*[under for _, under in table[case]])
    if not 0 <= second < many:
        return None
    row = fractions(table[case])
    return case, next(word for word in range(len(row)) if second < many * sum(row[:word + 1]))


def some_table(chance, matter, words):
    """A table, with words that are never said and unequal divisors among others."""
    rows = []
    for _ in range(len(matter)):
        portions = [chance.choice((0, 0, 1, 2, 3)) for _ in range(words)]
        portions[chance.randrange(words)] += 1
        rows.append(tuple(pair(Fraction(portion, sum(portions))) for portion in portions))
    return tuple(rows)


def all_of(session):
    """All that a session shows."""
    return (session.journal, list(session), len(session), session.teller(), session.hearer(), session.often())


def filled(draws=DRAWS):
    session = Session(COURT, TABLE)
    for draw in draws:
        session.tell(draw)
    return session


class SessionTest(unittest.TestCase):
    def refused(self, error, function, *arguments):
        with self.subTest(function=function, arguments=arguments), self.assertRaises(error) as caught:
            function(*arguments)
        return caught.exception


class TestTelling(SessionTest):
    def test_all_draws_of_many_tables(self):
        chance = random.Random(90)
        for matter in many_matters(chance):
            table = some_table(chance, matter, chance.randint(1, 4))
            self.all_draws(matter, table)

    def all_draws(self, matter, table):
        session, acts, pairs = Session(matter, table), acts_after(matter, table), []
        for first in range(-1, sum(matter.parts) + 2):
            for second in range(-1, 20):
                with self.subTest(matter=shown(matter), table=table, draw=(first, second)):
                    found = expected_pair(matter, table, (first, second))
                    if found is None:
                        self.assertRaises(BadDraw, session.tell, (first, second))
                    else:
                        pairs.append(found)
                        self.assertEqual(session.tell((first, second)), (found[1], acts[found[1]]))
        self.assertEqual(session.journal, pairs)
        self.assertEqual(session.teller(), sum(matter.worths[case][acts[word]] for case, word in pairs))
        self.assertEqual(session.hearer(), sum(matter.gains[case][acts[word]] for case, word in pairs))
        said = [word for _, word in pairs]
        shares = [pair(Fraction(said.count(word), len(said))) for word in range(len(table[0]))]
        self.assertEqual(session.often(), tuple(shares))

    def test_draws_are_as_frequent_as_the_chances(self):
        chance = random.Random(91)
        for matter in many_matters(chance):
            table = some_table(chance, matter, chance.randint(1, 4))
            totals = {}
            for case, part in enumerate(matter.parts):
                many = math.lcm(*[under for _, under in table[case]])
                for first, second in itertools.product(range(sum(matter.parts)), range(many)):
                    found = expected_pair(matter, table, (first, second))
                    if found is not None and found[0] == case:
                        session = Session(matter, table)
                        session.tell((first, second))
                        told = session.undo()
                        totals[told] = totals.get(told, 0) + Fraction(1, sum(matter.parts) * many)
            for case, word in itertools.product(range(len(matter)), range(len(table[0]))):
                expected = chances(matter)[case] * Fraction(*table[case][word])
                self.assertEqual(totals.get((case, word), 0), expected)

    def test_draws_at_their_bounds(self):
        matter = Matter((1, 2, 3), ((1, 0),) * 3, ((0, 1),) * 3)
        table = (((1, 2), THIRD, (1, 6)), (NEVER, NEVER, ALWAYS), ((1, 4), NEVER, (3, 4)))
        session = Session(matter, table)
        for draw, expected in (((0, 0), (0, 0)), ((0, 2), (0, 0)), ((0, 3), (0, 1)), ((0, 4), (0, 1)),
                               ((0, 5), (0, 2)), ((1, 0), (1, 2)), ((2, 0), (1, 2)), ((3, 0), (2, 0)),
                               ((3, 1), (2, 2)), ((5, 3), (2, 2))):
            with self.subTest(draw=draw):
                word, act = session.tell(draw)
                self.assertEqual((session.journal[-1], word, act), (expected, expected[1], 0))
        for wrong in ((0, 6), (1, 1), (2, 1), (3, 4), (5, 4), (6, 0), (-1, 0), (0, -1)):
            self.refused(BadDraw, session.tell, wrong)
        self.assertEqual(len(session), 10)

    def test_long_fractions(self):
        long = 10 ** 900
        session = Session(COURT, (((1, long), (long - 1, long)), (NEVER, ALWAYS)))
        self.assertEqual([session.tell((0, 0))[0], session.tell((0, 1))[0], session.tell((0, long - 1))[0]], [0, 1, 1])
        self.refused(BadDraw, session.tell, (0, long))

    def test_what_is_told(self):
        session = Session(COURT, TABLE)
        self.assertEqual([session.tell(draw) for draw in DRAWS], TOLD)
        self.assertEqual({type(told) for told in map(session.tell, DRAWS)}, {tuple})
        self.assertEqual(session.journal, PAIRS * 2)

    def test_wrong_draws(self):
        for draws in ([], DRAWS):
            session = filled(draws)
            before = all_of(session)
            for wrong in WRONG_DRAWS:
                self.refused(BadDraw, session.tell, wrong)
                self.assertEqual(all_of(session), before)

    def test_an_empty_session(self):
        session = Session(COURT, TABLE)
        self.assertEqual(all_of(session), ([], [], 0, 0, 0, None))

    def test_sums_below_0(self):
        matter = Matter((1, 1), ((-9, -9), (-8, -8)), ((9, 0), (0, 9)))
        session = Session(matter, whole_table(matter))
        session.tell((0, 0))
        session.tell((1, 0))
        self.assertEqual((session.hearer(), session.teller()), (-17, 18))
        self.assertEqual((type(session.hearer()), type(session.teller())), (int, int))

    def test_often(self):
        session = Session(COURT, (((1, 4), (1, 4), HALF, NEVER), (NEVER, ALWAYS, NEVER, NEVER)))
        self.assertIsNone(session.often())
        session.tell((0, 0))
        self.assertEqual(session.often(), (ALWAYS, NEVER, NEVER, NEVER))
        session.tell((0, 1))
        self.assertEqual(session.often(), (HALF, HALF, NEVER, NEVER))
        session.tell((2, 0))
        session.tell((0, 3))
        self.assertEqual(session.often(), ((1, 4), HALF, (1, 4), NEVER))


class TestJournal(SessionTest):
    def test_the_journal_is_new_each_time(self):
        session = filled()
        journal = session.journal
        self.assertIs(type(journal), list)
        self.assertEqual([type(item) for item in journal], [tuple] * 3)
        journal.clear()
        self.assertEqual(session.journal, PAIRS)
        self.assertIsNot(session.journal, session.journal)

    def test_a_journal_taken_before_stays_as_it_was(self):
        session = filled()
        before = session.journal
        session.tell((0, 0))
        self.assertEqual(before, PAIRS)
        session.undo()
        session.undo()
        self.assertEqual(before, PAIRS)

    def test_the_journal_cannot_be_assigned(self):
        with self.assertRaises(AttributeError):
            filled().journal = []

    def test_length_and_iteration(self):
        session = Session(COURT, TABLE)
        for many, draw in enumerate(DRAWS):
            self.assertEqual((len(session), list(session)), (many, PAIRS[:many]))
            session.tell(draw)
        self.assertEqual(list(session), PAIRS)
        self.assertEqual(list(session), PAIRS)
        self.assertEqual([(one, other) for one in session for other in session],
                         list(itertools.product(PAIRS, repeat=2)))


class TestUndoing(SessionTest):
    def test_undoing_all(self):
        session = filled()
        states = [all_of(filled(DRAWS[:many])) for many in range(4)]
        for many in (3, 2, 1):
            self.assertEqual(all_of(session), states[many])
            self.assertEqual(session.undo(), PAIRS[many - 1])
        self.assertEqual(all_of(session), states[0])

    def test_nothing_to_undo(self):
        session = Session(COURT, TABLE)
        self.refused(NothingDone, session.undo)
        session.tell((2, 0))
        self.assertEqual(session.undo(), (1, 1))
        self.refused(NothingDone, session.undo)
        self.assertEqual(all_of(session), all_of(Session(COURT, TABLE)))

    def test_telling_after_undoing(self):
        session = filled()
        session.undo()
        session.tell((0, 0))
        self.assertEqual(session.journal, [(0, 0), (0, 1), (0, 0)])


class TestBranches(SessionTest):
    def test_a_branch_is_as_its_session(self):
        session = filled()
        branch = session.branch()
        self.assertIs(type(branch), Session)
        self.assertIsNot(branch, session)
        self.assertEqual(all_of(branch), all_of(session))
        self.assertEqual([branch.tell(draw) for draw in DRAWS], TOLD)

    def test_they_are_independent(self):
        session = filled()
        branch = session.branch()
        branch.tell((0, 0))
        self.assertEqual(all_of(session), all_of(filled()))
        session.undo()
        self.assertEqual(branch.journal, [*PAIRS, (0, 0)])
        self.assertEqual(session.journal, PAIRS[:2])
        for expected in [(0, 0), *PAIRS[::-1]]:
            self.assertEqual(branch.undo(), expected)
        self.refused(NothingDone, branch.undo)
        self.assertEqual(session.journal, PAIRS[:2])

    def test_a_branch_within_a_trial(self):
        session = filled()
        with session.trial():
            session.tell((0, 0))
            branch = session.branch()
            self.assertEqual(branch.journal, [*PAIRS, (0, 0)])
            for expected in [(0, 0), *PAIRS[::-1]]:
                self.assertEqual(branch.undo(), expected)
            self.refused(NothingDone, branch.undo)
            branch.tell((1, 1))
            self.assertEqual(session.journal, [*PAIRS, (0, 0)])
        self.assertEqual(branch.journal, [(0, 1)])
        self.assertEqual(session.journal, PAIRS)

    def test_a_branch_stays_after_the_trial(self):
        session = Session(COURT, TABLE)
        with session.trial():
            session.tell((2, 0))
            branch = session.branch()
        self.assertEqual((branch.journal, session.journal), ([(1, 1)], []))
        with branch.trial():
            self.refused(NothingDone, branch.undo)
            session.tell((0, 0))
            self.assertEqual(session.undo(), (0, 0))
        self.assertEqual(branch.undo(), (1, 1))


class TestTrials(SessionTest):
    def test_the_with_block_gives_the_session(self):
        session = filled()
        with session.trial() as inner:
            self.assertIs(inner, session)

    def test_all_is_as_at_the_beginning(self):
        for draws in ([], DRAWS):
            session = filled(draws)
            before = all_of(session)
            with session.trial() as inner:
                self.assertEqual(all_of(inner), before)
                inner.tell((0, 1))
                inner.tell((2, 0))
                self.assertEqual(inner.journal, before[0] + [(0, 1), (1, 1)])
                self.assertEqual(inner.undo(), (1, 1))
            self.assertEqual(all_of(session), before)

    def test_only_its_own_pairs_can_be_undone(self):
        session = filled()
        with session.trial():
            self.refused(NothingDone, session.undo)
            session.tell((0, 0))
            self.assertEqual(session.undo(), (0, 0))
            self.refused(NothingDone, session.undo)
            self.assertEqual(session.journal, PAIRS)
        self.assertEqual(session.undo(), PAIRS[-1])

    def test_trials_within_one_another(self):
        session = filled()
        with session.trial():
            session.tell((0, 0))
            with session.trial() as inner:
                self.refused(NothingDone, inner.undo)
                inner.tell((1, 1))
                with inner.trial():
                    inner.tell((2, 0))
                    inner.tell((2, 0))
                    self.assertEqual(inner.undo(), (1, 1))
                self.assertEqual(session.journal, [*PAIRS, (0, 0), (0, 1)])
                self.assertEqual(session.undo(), (0, 1))
                self.refused(NothingDone, session.undo)
            self.assertEqual(session.journal, [*PAIRS, (0, 0)])
            self.assertEqual(session.undo(), (0, 0))
            self.refused(NothingDone, session.undo)
        self.assertEqual(all_of(session), all_of(filled()))
        self.assertEqual([session.undo() for _ in PAIRS], PAIRS[::-1])

    def test_an_error_is_passed_on(self):
        session = filled()
        for error in (Left(), KeyError("x"), StopIteration(), KeyboardInterrupt(), BadDraw("x")):
            with self.assertRaises(type(error)) as caught:
                with session.trial():
                    session.tell((0, 0))
                    with session.trial():
                        session.tell((2, 0))
                        raise error
            self.assertIs(caught.exception, error)
            self.assertEqual(all_of(session), all_of(filled()))
        self.assertEqual(session.undo(), PAIRS[-1])

    def test_an_error_of_the_session_itself(self):
        session = filled()
        with self.assertRaises(NothingDone):
            with session.trial():
                session.tell((0, 0))
                session.undo()
                session.undo()
        with self.assertRaises(BadDraw):
            with session.trial():
                session.tell((0, 0))
                session.tell((3, 0))
        self.assertEqual(all_of(session), all_of(filled()))
        self.assertEqual(session.undo(), PAIRS[-1])

    def test_an_error_that_is_caught_in_the_outer_trial(self):
        session = filled()
        with session.trial():
            session.tell((0, 0))
            with self.assertRaises(Left):
                with session.trial():
                    session.tell((2, 0))
                    raise Left()
            self.assertEqual(session.journal, [*PAIRS, (0, 0)])
            self.assertEqual(session.undo(), (0, 0))
        self.assertEqual(session.journal, PAIRS)

    def test_left_by_return_and_by_break(self):
        session = filled()

        def told():
            with session.trial():
                return session.tell((0, 0))

        self.assertEqual(told(), (0, 0))
        for _ in range(2):
            with session.trial():
                session.tell((0, 0))
                break
        self.assertEqual(session.journal, PAIRS)
        self.assertEqual(session.undo(), PAIRS[-1])

    def test_a_trial_begins_with_the_block(self):
        session = Session(COURT, TABLE)
        trial = session.trial()
        self.assertEqual(session.journal, [])
        session.tell((0, 0))
        with trial:
            session.tell((2, 0))
        self.assertEqual(session.journal, [(0, 0)])
        self.assertEqual(session.undo(), (0, 0))

    def test_one_trial_used_twice_and_within_itself(self):
        session = Session(COURT, TABLE)
        trial = session.trial()
        with trial:
            session.tell((0, 0))
            with trial as inner:
                self.assertIs(inner, session)
                session.tell((2, 0))
                self.assertEqual(session.undo(), (1, 1))
                self.refused(NothingDone, session.undo)
            self.assertEqual(session.journal, [(0, 0)])
            self.assertEqual(session.undo(), (0, 0))
        session.tell((1, 1))
        with trial:
            session.tell((0, 0))
        self.assertEqual(session.journal, [(0, 1)])
        self.assertEqual(session.undo(), (0, 1))

    def test_a_trial_without_anything(self):
        session = filled()
        with session.trial():
            pass
        self.assertEqual(session.undo(), PAIRS[-1])

    def test_many_steps_against_a_simple_list(self):
        chance = random.Random(92)
        for _ in range(60):
            session, journal = Session(COURT, TABLE), []
            self.steps(chance, session, journal, 0, 3)
            self.assertEqual(session.journal, journal)

    def steps(self, chance, session, journal, floor, depth):
        for _ in range(chance.randint(1, 8)):
            what = chance.choice(("tell", "tell", "undo", "trial", "error"))
            if what == "tell":
                at = chance.randrange(3)
                self.assertEqual(session.tell(DRAWS[at]), TOLD[at])
                journal.append(PAIRS[at])
            elif what == "undo" and len(journal) > floor:
                self.assertEqual(session.undo(), journal.pop())
            elif what == "undo":
                self.assertRaises(NothingDone, session.undo)
            elif depth > 0:
                try:
                    with session.trial():
                        self.steps(chance, session, list(journal), len(journal), depth - 1)
                        if what == "error":
                            raise Left()
                except Left:
                    pass
            self.assertEqual((session.journal, len(session)), (journal, len(journal)))


class TestTried(SessionTest):
    def test_what_it_returns(self):
        for kind in (list, tuple):
            session = filled()
            self.assertEqual(session.tried(kind(DRAWS)), TOLD)
            self.assertIs(type(session.tried(kind(DRAWS))), list)
            self.assertEqual(session.tried(kind()), [])
            self.assertEqual(all_of(session), all_of(filled()))
            self.assertEqual(session.undo(), PAIRS[-1])

    def test_twenty_and_more(self):
        session = filled()
        self.assertEqual(session.tried([(0, 0)] * 20), [(0, 0)] * 20)
        self.assertIsNone(self.refused(BadDraws, session.tried, [(0, 0)] * 21).index)
        self.assertIsNone(self.refused(BadDraws, session.tried, ((0, 0),) * 21).index)
        self.assertIsNone(self.refused(BadDraws, session.tried, [None] * 21).index)
        self.assertEqual(all_of(session), all_of(filled()))

    def test_what_is_no_list_or_tuple(self):
        session = filled()
        for wrong in (None, True, False, 0, 3, "", "0", b"", {}, {(0, 0): 1}, {(0, 0)}, range(0), iter([]), object(),
                      session, COURT):
            self.assertIsNone(self.refused(BadDraws, session.tried, wrong).index)
        self.assertEqual(all_of(session), all_of(filled()))

    def test_the_first_that_is_not_a_draw(self):
        session = filled()
        for wrong in WRONG_DRAWS:
            for at in (0, 1, 5, 19):
                draws = [(0, 0)] * at + [wrong] + [(0, 0)] * (19 - at)
                for kind in (list, tuple):
                    self.assertEqual(self.refused(BadDraws, session.tried, kind(draws)).index, at)
        self.assertEqual(self.refused(BadDraws, session.tried, [(0, 0), (0, 2), None, (3, 0)]).index, 1)
        self.assertEqual(self.refused(BadDraws, session.tried, (0, 0)).index, 0)
        self.assertEqual(all_of(session), all_of(filled()))
        self.assertEqual(session.undo(), PAIRS[-1])

    def test_within_a_trial(self):
        session = filled()
        with session.trial():
            session.tell((0, 0))
            self.assertEqual(session.tried(DRAWS), TOLD)
            self.assertEqual(session.undo(), (0, 0))
            self.refused(NothingDone, session.undo)
        self.assertEqual(session.journal, PAIRS)

    def test_arguments_are_not_modified(self):
        draws = list(DRAWS)
        filled().tried(draws)
        self.assertEqual(draws, DRAWS)


class TestForm(SessionTest):
    def test_errors_of_the_class(self):
        for wrong in WRONG_MATTERS:
            for table in (TABLE, None, ()):
                self.assertIsNone(self.refused(BadMatter, Session, wrong, table).part)
        for wrong in (None, True, [], (), "12", TABLE[0], (TABLE[0],), (*TABLE, TABLE[0]), list(TABLE), (HALF, HALF),
                      ((HALF, HALF), (NEVER, NEVER)), ((HALF, HALF), (ALWAYS,)), ((HALF, (2, 4)), TABLE[1]),
                      ((HALF, HALF), (NEVER, (True, 1))), ((), ()), ((HALF, HALF), [NEVER, ALWAYS]), COURT):
            self.refused(BadTable, Session, COURT, wrong)

    def test_other_sizes(self):
        chance = random.Random(93)
        for cases, acts in itertools.product((2, 3, 4), (2, 3, 4)):
            matter = some_matter(chance, cases, acts, 9)
            for table in (silent_table(matter), whole_table(matter)):
                session = Session(matter, table)
                told = [session.tell((first, 0)) for first in range(sum(matter.parts))]
                self.assertEqual(len(told), sum(matter.parts))
                case, word = session.journal[-1]
                self.assertEqual((case, word), (cases - 1, 0 if len(table[0]) == 1 else cases - 1))

    def test_parameters_may_be_passed_by_name(self):
        session = Session(table=TABLE, matter=COURT)
        self.assertEqual(session.tell(draw=(0, 1)), (1, 1))
        self.assertEqual(session.tried(draws=DRAWS), TOLD)

    def test_methods_stand_in_the_class_and_the_class_in_its_file(self):
        for name in ("__init__", "journal", "__len__", "__iter__", "tell", "teller", "hearer", "often", "undo",
                     "branch", "trial", "tried"):
            self.assertIn(name, vars(Session))
        self.assertIsInstance(vars(Session)["journal"], property)
        self.assertEqual(sessions.Session.__module__, "saywhat.sessions")

    def test_errors_are_say_errors(self):
        session = Session(COURT, TABLE)
        for function, argument in ((session.tell, (None,)), (session.undo, ()), (session.tried, (None,))):
            self.assertIsInstance(self.refused(SayError, function, *argument), ValueError)

    def test_the_example_of_the_document(self):
        test = doctest.DocTestParser().get_doctest(EXAMPLE, {}, "sessions", None, 0)
        self.assertEqual(doctest.DocTestRunner(verbose=False).run(test), (0, 6))


if __name__ == "__main__":
    unittest.main()
