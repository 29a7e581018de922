"""The interface as a whole, and point [1] over all of it: names, parameters, equality, what is kept of arguments."""

import importlib
import inspect
import itertools
import unittest

from looks import ALWAYS, COURT, HALF, NEVER, THIRD
from saywhat import errors
from saywhat.best import Best, best
from saywhat.errors import BadMatter, SayError
from saywhat.few import Bound, Fewest, fewest
from saywhat.honest import Honest, Limit, best_honest
from saywhat.matters import Matter
from saywhat.sessions import Session
from saywhat.signs import Signed, best_signed
from saywhat.splits import acts_by, splits
from saywhat.tellings import acts_after, beliefs, swerves

FUNCTIONS = {
    "tellings": {"beliefs": "matter table", "acts_after": "matter table", "worth_of": "matter table",
                 "gain_of": "matter table", "swerves": "matter table", "whole_table": "matter",
                 "silent_table": "matter"},
    "best": {"best": "matter", "best_worth": "matter"},
    "few": {"fewest": "matter goal", "fewest_words": "matter goal", "most_with": "matter acts"},
    "signs": {"best_signed": "matter signs", "signed_worth": "matter signs", "silent_worth": "matter signs"},
    "honest": {"best_honest": "matter allowed", "honest_worth": "matter allowed"},
    "splits": {"splits": "matter", "best_split": "matter", "acts_by": "matter split", "split_table": "matter split"},
    "texts": {"matter_text": "matter", "table_text": "matter table", "read_matter": "text",
              "read_table": "matter text"},
}
CLASSES = {
    ("matters", "Matter"): {"__init__": "parts gains worths", "__len__": "", "__eq__": "other"},
    ("best", "Best"): {"__init__": "table prices weights", "__eq__": "other", "shows": "matter"},
    ("few", "Bound"): {"__init__": "prices weights", "__eq__": "other", "shows": "matter acts goal"},
    ("few", "Fewest"): {"__init__": "acts table doubts", "__eq__": "other", "__iter__": "", "shows": "matter goal"},
    ("signs", "Signed"): {"__init__": "told prices weights", "__eq__": "other", "__iter__": "",
                          "shows": "matter signs"},
    ("honest", "Limit"): {"__init__": "prices weights", "__eq__": "other", "shows": "matter allowed reading worth"},
    ("honest", "Honest"): {"__init__": "reading table caps", "__eq__": "other", "__iter__": "",
                           "shows": "matter allowed"},
    ("sessions", "Session"): {"__init__": "matter table", "__len__": "", "__iter__": "", "tell": "draw", "teller": "",
                              "hearer": "", "often": "", "undo": "", "branch": "", "trial": "", "tried": "draws"},
}
PROPERTIES = {("matters", "Matter"): ("parts", "gains", "worths"), ("sessions", "Session"): ("journal",)}
SIGNS, WORDS, GOAL = ((3, 1), (1, 3)), ((0,), (0, 1)), (2, 3)
TABLE = ((HALF, HALF), (NEVER, ALWAYS))
ZEROS = (NEVER, NEVER)


def parameters(function):
    return " ".join(name for name in inspect.signature(function).parameters if name != "self")


def found(file, name):
    return getattr(importlib.import_module(f"saywhat.{file}"), name)


class TestNames(unittest.TestCase):
    def test_functions(self):
        for file, functions in FUNCTIONS.items():
            for name, expected in functions.items():
                with self.subTest(file=file, name=name):
                    function = found(file, name)
                    self.assertTrue(inspect.isfunction(function))
                    self.assertEqual(parameters(function), expected)
                    self.assertEqual(function.__module__, f"saywhat.{file}")

    def test_classes(self):
        for (file, name), methods in CLASSES.items():
            kind = found(file, name)
            self.assertEqual(kind.__module__, f"saywhat.{file}")
            for method, expected in methods.items():
                with self.subTest(name=name, method=method):
                    self.assertIn(method, vars(kind))
                    self.assertEqual(parameters(vars(kind)[method]), expected)
            for each in PROPERTIES.get((file, name), ()):
                self.assertIsInstance(vars(kind)[each], property)


class TestEquality(unittest.TestCase):
    def objects(self):
        """One object of each class, made of the same values where that is possible."""
        return [COURT, Best(ZEROS, ZEROS, {}), Bound(ZEROS, {}), Fewest(ZEROS, ZEROS, {}), Signed({}, ZEROS, {}),
                Limit(ZEROS, {}), Honest(ZEROS, ZEROS, {}), Session(COURT, TABLE)]

    def test_objects_of_different_classes_are_not_equal(self):
        for one, other in itertools.permutations(self.objects(), 2):
            with self.subTest(one=one, other=other):
                self.assertIs(one == other, False)
                self.assertIs(one != other, True)

    def test_objects_of_one_class_are(self):
        for one, other in zip(self.objects()[:-1], self.objects()[:-1]):
            with self.subTest(one=one):
                self.assertIs(one == other, True)
                self.assertIs(one != other, False)

    def test_the_order_of_dicts_does_not_matter(self):
        first, second = {(0, 1): THIRD, (1, 0): HALF}, {(1, 0): HALF, (0, 1): THIRD}
        for made in (lambda each: Best(TABLE, ZEROS, each), lambda each: Bound(ZEROS, each),
                     lambda each: Limit(ZEROS, each), lambda each: Signed(each, ZEROS, each),
                     lambda each: Fewest((0,), TABLE, each), lambda each: Honest((0,), TABLE, each)):
            self.assertIs(made(first) == made(second), True)
            self.assertIs(made(first) == made({(0, 1): THIRD}), False)


class TestArguments(unittest.TestCase):
    def test_dicts_are_not_kept(self):
        for made, name in ((lambda each: Best(TABLE, ZEROS, each), "weights"),
                           (lambda each: Bound(ZEROS, each), "weights"), (lambda each: Limit(ZEROS, each), "weights"),
                           (lambda each: Signed(each, ZEROS, {}), "told"),
                           (lambda each: Signed({}, ZEROS, each), "weights"),
                           (lambda each: Fewest((0,), TABLE, each), "doubts"),
                           (lambda each: Honest((0,), TABLE, each), "caps")):
            with self.subTest(name=name, made=type(made({}))):
                given = {(0, 1): THIRD}
                held = made(given)
                given[(1, 0)] = HALF
                self.assertEqual(getattr(held, name), {(0, 1): THIRD})
                getattr(held, name).clear()
                self.assertEqual(given, {(0, 1): THIRD, (1, 0): HALF})

    def test_bounds_and_limits_are_not_kept(self):
        for part, made in ((Bound, lambda each: Fewest((0,), TABLE, each).doubts),
                           (Limit, lambda each: Honest((0,), TABLE, each).caps)):
            given = part(ZEROS, {(0, 1): THIRD})
            held = made({(0,): given})
            given.prices = None
            given.weights.clear()
            self.assertEqual(held, {(0,): part(ZEROS, {(0, 1): THIRD})})
            held[(0,)].weights[(1, 0)] = HALF
            self.assertEqual(given.weights, {})

    def test_shows_modifies_nothing(self):
        for make, arguments in ((best, ()), (fewest, (GOAL,)), (best_signed, (SIGNS,)), (best_honest, (WORDS,))):
            held = make(COURT, *arguments)
            self.assertIs(held.shows(COURT, *arguments), True)
            self.assertEqual(held, make(COURT, *arguments))
            self.assertRaises(BadMatter, held.shows, None, *arguments)
            self.assertEqual(held, make(COURT, *arguments))

    def test_returned_lists_and_dicts_are_new(self):
        session = Session(COURT, TABLE)
        session.tell((0, 0))
        for make in (lambda: beliefs(COURT, TABLE), lambda: acts_after(COURT, TABLE), lambda: swerves(COURT, TABLE),
                     lambda: splits(COURT), lambda: acts_by(COURT, ((0,), (1,))), lambda: session.journal,
                     lambda: session.tried([(0, 0)]), lambda: best(COURT).weights,
                     lambda: fewest(COURT, GOAL).doubts, lambda: best_signed(COURT, SIGNS).told,
                     lambda: best_signed(COURT, SIGNS).weights, lambda: best_honest(COURT, WORDS).caps):
            first, second = make(), make()
            self.assertEqual(first, second)
            first.clear()
            self.assertNotEqual(second, first)
            self.assertEqual(make(), second)

    def test_two_calls_share_nothing(self):
        for make in (lambda: fewest(COURT, GOAL), lambda: best_honest(COURT, WORDS)):
            first = make()
            for _, part in first:
                part.weights[(0, 1)] = part.prices = None
            self.assertNotEqual(make(), first)


class TestErrors(unittest.TestCase):
    def test_each_error_that_is_raised_has_its_attribute(self):
        for name, attribute in (("BadMatter", "part"), ("BadDraws", "index"), ("BadText", "row")):
            kind = getattr(errors, name)
            self.assertEqual(list(vars(kind(None))), [attribute])
            self.assertTrue(issubclass(kind, SayError))

    def test_tables_are_matters_of_their_own(self):
        # A table that is good for one matter is none for one with another number of cases.
        three = Matter((1, 1, 1), ((0, 1),) * 3, ((0, 1),) * 3)
        for function in (beliefs, acts_after, swerves, Session, found("texts", "table_text")):
            function(COURT, TABLE)
            self.assertRaises(errors.BadTable, function, three, TABLE)


if __name__ == "__main__":
    unittest.main()
