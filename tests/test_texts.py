"""Point [10]: how matters and tables are written, and which texts can be read."""

import doctest
import itertools
import random
import unittest
from fractions import Fraction

from looks import ALWAYS, COURT, HALF, NEVER, WRONG_MATTERS, many_matters, pair, shown, some_matter
from saywhat import texts
from saywhat.errors import BadMatter, BadTable, BadText
from saywhat.matters import Matter
from saywhat.tellings import silent_table, whole_table
from saywhat.texts import matter_text, read_matter, read_table, table_text

EXAMPLE = r"""
>>> from saywhat.matters import Matter
>>> from saywhat.texts import matter_text, read_matter, read_table, table_text
>>> court = Matter((2, 1), ((1, 0), (0, 1)), ((0, 1), (0, 1)))
>>> table = (((1, 2), (1, 2)), ((0, 1), (1, 1)))
>>> texts = [matter_text(court), table_text(court, table), read_table(court, '1/3 2/3\n0/1 1/1\n')]
>>> [texts, read_matter(matter_text(court)) == court, read_matter('parts 1 1\ngains -2 0 worths 0 9\ngains 0 3 worths 4 0\n').gains]
[['parts 2 1\ngains 1 0 worths 0 1\ngains 0 1 worths 0 1\n', '1/2 1/2\n0/1 1/1\n', (((1, 3), (2, 3)), ((0, 1), (1, 1)))], True, ((-2, 0), (0, 3))]
"""

COURT_LINES = ["parts 2 1", "gains 1 0 worths 0 1", "gains 0 1 worths 0 1"]
TABLE_LINES = ["1/2 1/2", "0/1 1/1"]
TABLE = ((HALF, HALF), (NEVER, ALWAYS))
NO_STRINGS = (None, True, False, 0, 1, b"parts 1 1\n", b"", [], ["parts 2 1\n"], (), {}, COURT, object(), str)

WRONG_PARTS = ("", " ", "parts", "parts ", "parts 1", "parts 1 1 1 1 1", "parts 0 1", "parts 7 1", "parts 1 -1",
               "parts -0 1", "parts +1 1", "parts 01 1", "parts 1 06", "parts 1  1", " parts 1 1", "parts 1 1 ",
               "parts  1 1", "parts\t1 1", "parts 1\t1", "parts 1 1\r", "\tparts 1 1", "Parts 1 1", "PARTS 1 1",
               "part 1 1", "parts: 1 1", "parts 1,1", "parts 1, 1", "parts 1.0 1", "parts 1/1 1", "parts one 1",
               "parts 1 1 gains", "1 1", "parts1 1", "gains 1 1", "gains 1 0 worths 0 1", "parts 1_0 1", "parts 1 1_",
               "parts 0x1 1", "parts \u0661 1", "parts 1 \u00b2", "parts \uff11 1", "parts 1\x0b1", "parts 1\u00a01",
               "parts True 1", "parts 1 1\x0c", "parts 1 1\x1c", "parts 1 1\u2028", "parts 1 10", "parts " + "9" * 5000)
WRONG_CASES = ("", " ", "gains", "worths", "gains worths", "gains 1 worths 1", "gains 1 0", "worths 0 1",
               "gains 1 0 worths", "gains 1 0 worths 0", "gains 1 0 worths 0 1 1", "gains 1 0 1 worths 0 1",
               "gains 1 worths 0 1", "gains worths 0 1", "gains 1 0 0 1", "worths 0 1 gains 1 0", "1 0 worths 0 1",
               "gains 1 0 worths 0 1 ", " gains 1 0 worths 0 1", "gains  1 0 worths 0 1", "gains 1  0 worths 0 1",
               "gains 1 0  worths 0 1", "gains 1 0 worths  0 1", "gains 1 0 worths 0  1", "gains\t1 0 worths 0 1",
               "gains 1 0 worths 0\t1", "gains 1 0 worths 0 1\r", "gains 1 0 worths 0 1\t", "gains 10 0 worths 0 1",
               "gains -10 0 worths 0 1", "gains 1 0 worths -1 1", "gains 1 0 worths 0 10", "gains +1 0 worths 0 1",
               "gains -0 0 worths 0 1", "gains 01 0 worths 0 1", "gains -01 0 worths 0 1", "gains 1 00 worths 0 1",
               "gains 1 0 worths 00 1", "gains 1 0 worths -0 1", "gains 1 0 worths 0 +1", "gains - 1 worths 0 1",
               "gains -  worths 0 1", "gains 1 0 Worths 0 1", "Gains 1 0 worths 0 1", "gains 1 0 worth 0 1",
               "gain 1 0 worths 0 1", "gains 1,0 worths 0 1", "gains 1 0 worths 0 1.0", "gains 1 0 worths 0 one",
               "gains 1/1 0 worths 0 1", "gains 1 0 worths 0 1 worths 0 1", "gains 1 0; worths 0 1", "parts 2 1",
               "gains \u0661 0 worths 0 1", "gains \u22121 0 worths 0 1", "gains 1 0 worths 0 \u00b9",
               "gains 1 0 worths 0 1\x0b", "gains 1 0 worths 0 1\x85", "gains 1 0 worths 0 1\u2029",
               "gains --1 0 worths 0 1",
               "gains 1 0 1 0 1 worths 0 1 0 1 0", "gains 1- 0 worths 0 1", "gains 1 0 worths 0 " + "1" * 5000)
WRONG_ROWS = ("", " ", "1", "1 0", "1/2", "1/1 0", "1/2 1/2 ", " 1/2 1/2", "1/2  1/2", "1/2\t1/2", "1/2 1/2\r",
              "1/2 1/2\t", "2/4 1/2", "1/2 2/4", "2/2 0/1", "0/2 1/1", "1/2 1/3", "1/2 1/1", "0/1 0/1", "1/1 1/1",
              "-1/2 3/2", "3/2 -1/2", "-1/1 2/1", "1/-2 1/2", "-1/-2 1/2", "-0/1 1/1", "0/-1 1/1", "+1/2 1/2",
              "1/+2 1/2", "01/2 1/2", "1/02 1/2", "00/1 1/1", "0/01 1/1", "1 /2 1/2", "1/ 2 1/2", "1//2 1/2",
              "1/2/1 1/2", "/2 1/2", "1/ 1/2", "/ 1/1", "1/2, 1/2", "1/2,1/2", "0.5 0.5", "1/2 1/2 1/2",
              "1/5 1/5 1/5 1/5 1/5", "1/1 0/1 0/1 0/1 0/1", "1/0 0/1", "0/0 1/1", "1/0 1/0", "a/b c/d", "1:2 1:2",
              "1/\u0662 1/2", "\u0661/2 1/2", "\u00b9/2 1/2", "\u00bd \u00bd", "1\u20442 1/2", "1_0/20 1/2",
              "1/2\x0b1/2", "1/2\u00a01/2", "1/2 1/2\x0c", "1/2 1/2\x1e", "1/2 1/2\u2028", "parts 1 1", "0x1/2 1/2",
              "1/2 1/2 0", "1/2 0/1 1/2 0/1 0/1", "1/2 1/2 /", "1/2 1/2 0/", "1/" + "9" * 5000 + " 1/2",
              "9" * 5000 + "/2 1/2", "0" * 5000 + "/1 1/1", "0/" + "0" * 5000 + "1 1/1")


def joined(lines):
    return "".join(line + "\n" for line in lines)


def written(matter):
    """A matter as point [10] says."""
    lines = ["parts " + " ".join(str(part) for part in matter.parts)]
    for gains, worths in zip(matter.gains, matter.worths):
        lines.append("gains " + " ".join(map(str, gains)) + " worths " + " ".join(map(str, worths)))
    return joined(lines)


def some_table(chance, matter, words):
    rows = []
    for _ in range(len(matter)):
        portions = [chance.choice((0, 1, 2, chance.randint(0, 10 ** 30))) for _ in range(words)]
        portions[chance.randrange(words)] += 1
        rows.append(tuple(pair(Fraction(portion, sum(portions))) for portion in portions))
    return tuple(rows)


class TextTest(unittest.TestCase):
    def refused(self, error, function, *arguments):
        with self.subTest(function=function, arguments=arguments), self.assertRaises(error) as caught:
            function(*arguments)
        return caught.exception

    def no_matter(self, row, text):
        self.assertEqual(self.refused(BadText, read_matter, text).row, row)

    def no_table(self, row, text, matter=COURT):
        self.assertEqual(self.refused(BadText, read_table, matter, text).row, row)


class TestWriting(TextTest):
    def test_matters(self):
        self.assertEqual(matter_text(COURT), joined(COURT_LINES))
        for matter in many_matters(random.Random(100)):
            self.assertEqual(matter_text(matter), written(matter))

    def test_the_ends_of_all_ranges(self):
        matter = Matter((1, 6), ((-9, 9), (9, 0)), ((0, 9), (9, 0)))
        self.assertEqual(matter_text(matter), "parts 1 6\ngains -9 9 worths 0 9\ngains 9 0 worths 9 0\n")

    def test_tables(self):
        self.assertEqual(table_text(COURT, TABLE), joined(TABLE_LINES))
        self.assertEqual(table_text(COURT, silent_table(COURT)), "1/1\n1/1\n")
        self.assertEqual(table_text(COURT, whole_table(COURT)), "1/1 0/1\n0/1 1/1\n")
        four = some_matter(random.Random(101), 4, 2, 9)
        row = ((1, 12), NEVER, (2, 3), (1, 4))
        self.assertEqual(table_text(four, (row,) * 4), "1/12 0/1 2/3 1/4\n" * 4)

    def test_long_fractions(self):
        long = 10 ** 3999
        table = (((1, long), (long - 1, long)), (NEVER, ALWAYS))
        text = f"1/{long} {long - 1}/{long}\n0/1 1/1\n"
        self.assertEqual(table_text(COURT, table), text)
        self.assertEqual(read_table(COURT, text), table)

    def test_errors(self):
        for wrong in WRONG_MATTERS:
            self.assertIsNone(self.refused(BadMatter, matter_text, wrong).part)
            for table in (TABLE, None, ()):
                self.assertIsNone(self.refused(BadMatter, table_text, wrong, table).part)
        for wrong in (None, True, [], (), "1/2 1/2\n0/1 1/1\n", (TABLE[0],), (*TABLE, TABLE[0]), list(TABLE),
                      ((HALF, HALF), (NEVER, NEVER)), ((HALF, HALF), (ALWAYS,)), ((HALF, (2, 4)), TABLE[1]),
                      ((HALF, HALF), (NEVER, (True, 1))), COURT):
            self.refused(BadTable, table_text, COURT, wrong)


class TestReading(TextTest):
    def test_what_is_written_can_be_read(self):
        chance = random.Random(102)
        for matter in many_matters(chance):
            with self.subTest(matter=shown(matter)):
                found = read_matter(matter_text(matter))
                self.assertIs(type(found), Matter)
                self.assertEqual(found, matter)
                self.assertEqual(shown(found), shown(matter))
                for words in (1, 2, 3, 4):
                    table = some_table(chance, matter, words)
                    self.assertEqual(read_table(matter, table_text(matter, table)), table)

    def test_all_integers_of_a_matter(self):
        for number in range(-12, 13):
            for text, good in ((f"parts {number} 1\n" + joined(COURT_LINES[1:]), 1 <= number <= 6),
                               (f"parts 1 1\ngains {number} 0 worths 0 0\ngains 0 0 worths 0 0\n", -9 <= number <= 9),
                               (f"parts 1 1\ngains 0 0 worths 0 {number}\ngains 0 0 worths 0 0\n", 0 <= number <= 9)):
                if good:
                    self.assertEqual(matter_text(read_matter(text)), text)
                else:
                    self.no_matter(0 if text.startswith(f"parts {number} ") and not 1 <= number <= 6 else 1, text)

    def test_no_strings(self):
        for wrong in NO_STRINGS:
            self.no_matter(0, wrong)
            self.no_table(0, wrong)

    def test_the_matter_comes_before_the_text(self):
        for wrong in WRONG_MATTERS:
            for text in (joined(TABLE_LINES), "", None, "x\n"):
                self.assertIsNone(self.refused(BadMatter, read_table, wrong, text).part)


class TestMatterLines(TextTest):
    def test_wrong_lines(self):
        for wrong in WRONG_PARTS:
            self.no_matter(0, joined([wrong, *COURT_LINES[1:]]))
            self.no_matter(0, joined([wrong]))
        for wrong in WRONG_CASES:
            self.no_matter(1, joined([COURT_LINES[0], wrong, COURT_LINES[2]]))
            self.no_matter(2, joined([*COURT_LINES[:2], wrong]))
            self.no_matter(1, joined([COURT_LINES[0], wrong, wrong]))

    def test_the_first_wrong_line_counts(self):
        self.no_matter(0, "parts\ngains\ngains")
        self.no_matter(1, "parts 2 1\ngains\ngains\nx\nmore")
        self.no_matter(2, "parts 2 1\ngains 1 0 worths 0 1\ngains\nx\nmore")
        self.no_matter(1, "parts 2 1\ngains\n")
        self.no_matter(1, "parts 2 1\ngains\nrest")

    def test_lines_of_different_lengths(self):
        for many, other in itertools.permutations((2, 3, 4), 2):
            first, second = (f"gains{' 1' * count} worths{' 2' * count}" for count in (many, other))
            self.no_matter(2, joined(["parts 1 1", first, second]))
            self.no_matter(3, joined(["parts 1 1 1", first, first, second]))
            self.no_matter(2, joined(["parts 1 1 1", first, second, first]))
            self.assertEqual(len(read_matter(joined(["parts 1 1", first, first])).gains[0]), many)

    def test_missing_lines(self):
        for cases in (2, 3, 4):
            lines = ["parts" + " 1" * cases] + ["gains 1 0 worths 0 1"] * cases
            for many in range(cases + 1):
                self.no_matter(many, joined(lines[:many]))
            read_matter(joined(lines))

    def test_more_lines(self):
        for cases in (2, 3, 4):
            lines = ["parts" + " 1" * cases] + ["gains 1 0 worths 0 1"] * cases
            for more in ("gains 1 0 worths 0 1", "", " ", "parts 1 1", "x"):
                self.no_matter(cases + 1, joined([*lines, more]))
                self.no_matter(cases + 1, joined([*lines, more, more]))
                self.no_matter(cases + 1, joined([*lines, more]) + "rest")

    def test_the_end(self):
        text = joined(COURT_LINES)
        for rest in ("x", " ", "gains 1 0 worths 0 1", "\r", "\t"):
            self.no_matter(3, text + rest)
        self.no_matter(2, text[:-1])
        self.no_matter(1, joined(COURT_LINES[:1]) + COURT_LINES[1])
        self.no_matter(0, COURT_LINES[0])
        self.no_matter(0, "")
        self.no_matter(0, "x")
        self.no_matter(0, "\n")
        self.no_matter(0, "\n" + text)
        self.no_matter(3, text + "\n")

    def test_each_text_with_a_line_left_out_or_twice(self):
        for matter in many_matters(random.Random(103)):
            lines = written(matter).splitlines()
            last = len(lines) - 1
            for at in range(len(lines)):
                left = joined(lines[:at] + lines[at + 1:])
                self.no_matter(0 if at == 0 else last, left)
                twice = joined(lines[:at + 1] + lines[at:])
                self.no_matter(1 if at == 0 else last + 1, twice)

    def test_each_text_with_one_character_changed(self):
        chance = random.Random(104)
        good = 0
        for matter in many_matters(chance):
            text = written(matter)
            for _ in range(60):
                at = chance.randrange(len(text))
                new = chance.choice(("", " ", "0", "1", "9", "-", "\n", "x", text[at] * 2, "\r"))
                changed = text[:at] + new + text[at + 1:]
                with self.subTest(text=text, changed=changed):
                    # What can be read is written in exactly this way.
                    try:
                        self.assertEqual(matter_text(read_matter(changed)), changed)
                        good += 1
                    except BadText as error:
                        row = text[:at].count("\n")
                        self.assertGreaterEqual(error.row, 0 if row == 0 else 1)
                        self.assertLessEqual(error.row, len(matter) + 2)
                        self.assertNotEqual(changed, text)
        self.assertGreater(good, 100)

    def test_other_line_ends(self):
        for end in ("\r\n", "\r", "\x0b", "\x0c", "\u2028", "\x85"):
            self.no_matter(0, "".join(line + end for line in COURT_LINES))


class TestTableLines(TextTest):
    def test_wrong_lines(self):
        for wrong in WRONG_ROWS:
            self.no_table(0, joined([wrong, TABLE_LINES[1]]))
            self.no_table(1, joined([TABLE_LINES[0], wrong]))
            self.no_table(0, joined([wrong, wrong]))

    def test_the_first_wrong_line_counts(self):
        self.no_table(0, "x\nx\nx\nrest")
        self.no_table(1, "1/1\nx\nx\nrest")
        self.no_table(2, "1/1\n1/1\nx\nrest")
        self.no_table(0, "x\n")
        self.no_table(1, "1/1\nx")

    def test_lines_of_different_lengths(self):
        rows = [" ".join(["1/1"] + ["0/1"] * many) for many in range(4)]
        for first, second in itertools.permutations(rows, 2):
            self.no_table(1, joined([first, second]))
        for row in rows:
            self.assertEqual(len(read_table(COURT, joined([row, row]))[0]), row.count("/"))

    def test_missing_and_more_lines(self):
        for cases in (2, 3, 4):
            matter = some_matter(random.Random(cases), cases, 2, 9)
            for many in range(8):
                text = "1/1\n" * many
                if many == cases:
                    self.assertEqual(read_table(matter, text), silent_table(matter))
                else:
                    self.no_table(min(many, cases), text, matter)
            for more in ("", " ", "x", "1/1 0/1", "parts 1 1"):
                self.no_table(cases, "1/1\n" * cases + more + "\n", matter)

    def test_the_end(self):
        text = joined(TABLE_LINES)
        for rest in ("x", " ", "1/2 1/2", "\r", "0"):
            self.no_table(2, text + rest)
        self.no_table(1, text[:-1])
        self.no_table(0, TABLE_LINES[0])
        self.no_table(0, "")
        self.no_table(0, "x")
        self.no_table(0, "\n")
        self.no_table(0, "\n" + text)
        self.no_table(2, text + "\n")

    def test_other_line_ends(self):
        for end in ("\r\n", "\r", "\x0b", "\x0c", "\u2028", "\x85"):
            self.no_table(0, "".join(line + end for line in TABLE_LINES))

    def test_all_fractions_of_small_integers(self):
        for over, under in itertools.product(range(-2, 8), range(-2, 8)):
            text = f"{over}/{under} {under - over}/{under}"
            good = under >= 1 and 0 <= over <= under and pair(Fraction(over, under)) == (over, under)
            rest = (under - over, under)
            if good and pair(Fraction(*rest)) == rest:
                self.assertEqual(read_table(COURT, joined([text, text])), (((over, under), rest),) * 2)
            else:
                self.no_table(0, joined([text, "1/1 0/1"]))
                self.no_table(1, joined(["1/1 0/1", text]))

    def test_each_text_with_one_character_changed(self):
        chance = random.Random(105)
        good = 0
        for _ in range(800):
            matter = some_matter(chance, chance.randint(2, 4), 2, 9)
            table = tuple(chance.choice((((1, 3), (2, 3)), (HALF, HALF), (ALWAYS, NEVER), ((3, 10), (7, 10))))
                          for _ in range(len(matter)))
            text = table_text(matter, table)
            at = chance.randrange(len(text))
            new = chance.choice(("", " ", "0", "1", "2", "/", "-", "\n", text[at] * 2, text[at]))
            changed = text[:at] + new + text[at + 1:]
            with self.subTest(text=text, changed=changed):
                try:
                    self.assertEqual(table_text(matter, read_table(matter, changed)), changed)
                    good += 1
                except BadText as error:
                    self.assertIn(error.row, range(len(matter) + 1))
                    self.assertNotEqual(changed, text)
        self.assertGreater(good, 40)


class TestForm(TextTest):
    def test_parameters_may_be_passed_by_name(self):
        self.assertEqual(matter_text(matter=COURT), joined(COURT_LINES))
        self.assertEqual(table_text(table=TABLE, matter=COURT), joined(TABLE_LINES))
        self.assertEqual(read_matter(text=joined(COURT_LINES)), COURT)
        self.assertEqual(read_table(text=joined(TABLE_LINES), matter=COURT), TABLE)

    def test_kinds_of_values(self):
        self.assertIs(type(matter_text(COURT)), str)
        self.assertIs(type(table_text(COURT, TABLE)), str)
        found = read_table(COURT, joined(TABLE_LINES))
        self.assertEqual([type(found), type(found[0]), type(found[0][0]), type(found[0][0][0])], [tuple] * 3 + [int])
        matter = read_matter(joined(COURT_LINES))
        for group in (matter.parts, matter.gains, matter.gains[0], matter.worths, matter.worths[1]):
            self.assertIs(type(group), tuple)

    def test_all_stand_in_the_file(self):
        for name in ("matter_text", "table_text", "read_matter", "read_table"):
            self.assertEqual(getattr(texts, name).__module__, "saywhat.texts")

    def test_the_example_of_the_document(self):
        test = doctest.DocTestParser().get_doctest(EXAMPLE, {}, "texts", None, 0)
        self.assertEqual(doctest.DocTestRunner(verbose=False).run(test), (0, 6))


if __name__ == "__main__":
    unittest.main()
