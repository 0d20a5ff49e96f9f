"""Points 28 and 29: texts of tables and of lays."""

import re
import unittest
from itertools import permutations, product

from laytogether.errors import BadLays, BadTable, BadText, InvalidText
from laytogether.laytexts import read_lays, read_table, write_lays, write_table
from tests import plain
from tests.inputs import NO_TEXTS, TOLD, WIDE

TABLES = plain.small_tables() + plain.three_by_two() + plain.more_tables()
# What is no number, or none that has its plain form.
NO_NUMBERS = [
    "00", "01", "007", "+1", "-1", "-0", "+0", "1.0", "1_0", "1,", ",", "100", "999", "9" * 400, "x", "1x", "0x1",
    "1e1", "\t", "1\t", "\t1", "\r", "1\r", "\x0b1", "\x0c", "\u00a01", "1\u2003", "\u0661", "\u00b2", "\uff11",
    "1\x00", "\u2028", "1\u20281", "None", "True", "(1,", "1>0", ">", "'1'",
]


def plain_table(text):
    """The table of a text, or the pair (line, word) of the first word that cannot stand."""
    rows = []
    for number, line in enumerate(re.split("\n", text), 1):
        words = re.findall("[^ ]+", line)
        wanted = len(rows[0]) if rows else 5
        for at, word in enumerate(words, 1):
            if len(rows) == 6 or at > wanted or not re.fullmatch("[0-9]|[1-9][0-9]", word):
                return number, at
        if words and rows and len(words) < wanted:
            return number, len(words) + 1
        if words:
            rows.append(tuple(int(word) for word in words))
    return tuple(rows) or (1, 1)


def plain_lays(many, text):
    """The lays of a text, or the pair (line, word) of the first word that cannot stand, as a list."""
    lays, first = [], None
    for number, line in enumerate(re.split("\n", text), 1):
        for at, word in enumerate(re.findall("[^ ]+", line), 1):
            first = first or number
            fits = re.fullmatch("([0-9])>([0-9])", word)
            if number != first or not fits or at > 60:
                return [number, at]
            one, other = int(fits[1]), int(fits[2])
            if one >= many or other >= many or one == other:
                return [number, at]
            lays.append((one, other))
    return tuple(lays)


class TextCase(unittest.TestCase):

    def invalid(self, line, word, told, *given):
        with self.assertRaises(InvalidText) as caught:
            told(*given)
        self.assertEqual(vars(caught.exception), {"line": line, "word": word}, given)


class Examples(TextCase):

    def test_examples(self):
        self.assertEqual(write_table(((3, 1), (0, 4))), "3 1\n0 4")
        self.assertEqual(write_lays(((1,), (2,)), ((0, 1), (1, 0))), "0>1 1>0")
        self.assertEqual(read_table(" 3  1\n\n0 4"), ((3, 1), (0, 4)))
        self.assertEqual(read_lays(((1,), (2,)), " 1>0 "), ((1, 0),))
        self.invalid(2, 2, read_table, "3 1\n0")


class PlainAnswers(TextCase):

    def test_written_and_read_back(self):
        for table in TABLES + [WIDE, ((0,),), ((99,) * 5,) * 6, ((10, 9), (90, 0))]:
            text = write_table(table)
            self.assertEqual(text, "\n".join(" ".join(f"{heap}" for heap in row) for row in table))
            self.assertEqual(read_table(text), table)
            spaced = text.replace(" ", "   ").replace("\n", "  \n\n ")
            self.assertEqual(read_table("\n  \n " + spaced + "  \n \n"), table)

    def test_lays_written_and_read_back(self):
        for table in (TOLD, WIDE, ((1,), (2,)), ((1,),)):
            pairs = list(permutations(range(len(table)), 2))
            for lays in [(), tuple(pairs), tuple((pairs * 60)[:60])] + [(pair,) for pair in pairs]:
                text = write_lays(table, lays)
                self.assertEqual(text, " ".join(f"{one}>{other}" for one, other in lays))
                self.assertEqual(read_lays(table, text), lays)
                self.assertEqual(read_lays(table, " \n\n  " + text.replace(" ", "  ") + " \n   \n"), lays)

    def read_or_invalid(self, found, told, *given):
        """Hold an answer against what was found: a tuple of tuples, otherwise a line and a word."""
        if len(found) == 2 and isinstance(found[0], int):
            self.invalid(*found, told, *given)
        else:
            self.assertEqual(told(*given), found, given)

    def test_all_texts_of_a_few_pieces(self):
        for many in range(7):
            for pieces in product(("1", " ", "\n", "x"), repeat=many):
                text = "".join(pieces)
                self.read_or_invalid(plain_table(text), read_table, text)

    def test_all_texts_of_lays_of_a_few_pieces(self):
        for many in range(7):
            for pieces in product(("0>1", "2", ">", " ", "\n"), repeat=many):
                text = "".join(pieces)
                self.read_or_invalid(plain_lays(3, text), read_lays, TOLD, text)

    def test_texts_of_some_lines(self):
        lines = ["", "  ", "1", " 0 99 ", "1 2 3 4 5", "1 2 3 4 5 6", "1 2 3 4 5 x", "01", "5 100", "2 3", "4  5 +6"]
        for many in range(4):
            for told in product(lines, repeat=many):
                self.read_or_invalid(plain_table("\n".join(told)), read_table, "\n".join(told))


class Tables(TextCase):

    def test_one_heap(self):
        self.assertEqual((read_table("0"), read_table("99")), (((0,),), ((99,),)))
        for number in range(100):
            self.assertEqual(read_table(f"\n {number}"), ((number,),))

    def test_spaces_and_blank_lines(self):
        for text in ("3 1\n0 4\n", "\n3 1\n0 4", "3 1   \n0 4 ", " 3 1\n 0 4", "3      1\n   \n\n0 4\n   \n\n"):
            self.assertEqual(read_table(text), ((3, 1), (0, 4)))

    def test_no_words_at_all(self):
        for text in ("", " ", "\n", "\n\n\n", "   \n  \n "):
            self.invalid(1, 1, read_table, text)

    def test_as_many_lines_as_are_allowed_and_one_more(self):
        six = "1 2\n\n" * 6
        self.assertEqual(read_table(six), ((1, 2),) * 6)
        self.assertEqual(read_table(six + "\n   \n"), ((1, 2),) * 6)
        for line in ("1 2", "1", "1 2 3", "x", "  1 2"):
            self.invalid(13, 1, read_table, six + line)
            self.invalid(15, 1, read_table, six + "\n  \n" + line)
        self.invalid(7, 1, read_table, "\n".join("1234567"))
        self.invalid(7, 1, read_table, "\n".join("12345678"))
        # What comes first counts.
        self.invalid(6, 2, read_table, "1\n2\n3\n4\n5\n6 6\n7")

    def test_a_word_too_many_and_one_that_is_lacking(self):
        self.assertEqual(read_table("1 2 3 4 5"), ((1, 2, 3, 4, 5),))
        self.invalid(1, 6, read_table, "1 2 3 4 5 6")
        self.invalid(1, 6, read_table, "1 2 3 4 5 6 7")
        self.invalid(1, 3, read_table, "1 2 x 4 5 6 7")
        self.invalid(2, 6, read_table, "1 2 3 4 5\n1 2 3 4 5 6")
        self.invalid(3, 3, read_table, "1 2\n\n1 2 3")
        self.invalid(3, 2, read_table, "1 2\n\n1\n1 2")
        self.invalid(2, 5, read_table, "1 2 3 4 5\n1 2 3 4")
        self.invalid(4, 1, read_table, "\n1 2\n3 4\nx")
        self.invalid(2, 1, read_table, "1 2\nx")

    def test_words_that_are_no_numbers(self):
        for word in NO_NUMBERS:
            self.invalid(1, 1, read_table, word)
            self.invalid(2, 2, read_table, f"5 6\n7 {word}\n8 9 10")
            self.invalid(3, 1, read_table, f"5 6\n\n {word} 7")

    def test_values_that_are_no_text(self):
        for value in NO_TEXTS:
            self.assertRaises(BadText, read_table, value)
            self.assertRaises(BadText, read_lays, TOLD, value)
            self.assertRaises(BadTable, read_lays, None, value)

    def test_a_long_text(self):
        self.assertEqual(read_table("\n" * 5000 + " " * 5000 + "7" + " " * 5000), ((7,),))
        self.invalid(5001, 1, read_table, "\n" * 5000 + "x " * 5000)
        self.invalid(1, 6, read_table, "1 " * 5000)


class Lays(TextCase):

    def test_one_line_or_none(self):
        for text in ("", " ", "\n", "\n \n\n"):
            self.assertEqual(read_lays(TOLD, text), ())
            self.assertEqual(read_lays(((0,),), text), ())
        self.assertEqual(write_lays(((0,),), ()), "")
        self.assertEqual(read_lays(TOLD, "\n\n  0>1   2>0  \n \n"), ((0, 1), (2, 0)))

    def test_a_line_too_many(self):
        self.invalid(2, 1, read_lays, TOLD, "0>1\n1>0")
        self.invalid(5, 1, read_lays, TOLD, "\n0>1\n\n  \n x 1>0\n1>2")
        self.invalid(1, 2, read_lays, TOLD, "0>1 x\n1>0")

    def test_sixty_lays_and_one_more(self):
        text = "0>1 1>0 " * 30
        self.assertEqual(read_lays(TOLD, text), ((0, 1), (1, 0)) * 30)
        self.assertEqual(read_lays(TOLD, write_lays(TOLD, ((2, 1),) * 60)), ((2, 1),) * 60)
        self.invalid(1, 61, read_lays, TOLD, text + "0>1")
        self.invalid(3, 61, read_lays, TOLD, "\n\n" + text + "x 0>1")
        self.invalid(1, 60, read_lays, TOLD, text[:-4] + "1>1 0>1")
        self.assertRaises(BadLays, write_lays, TOLD, ((0, 1),) * 61)

    def test_words_that_are_no_lays(self):
        wrong = [
            "0", "0>", ">1", ">", "0>1>2", "0>>1", "0<1", "0-1", "0,1", "0>3", "3>0", "0>0", "2>2", "00>1", "0>01",
            "+0>1", "0>+1", "-0>1", "0>-1", "0>1,", "0>1\t", "\t0>1", "0\t>1", "0>1\r", "\u0660>1", "0>\u00b9",
            "(0, 1)", "x>1", "0>x", "0>1.", "10>1", "0>10", "0\u003e\u00a01", "a",
            "0>1\x0b0>1", "0>1\x0c", "0>1\u20280>1",
        ]
        for word in wrong:
            self.invalid(1, 1, read_lays, TOLD, word)
            self.invalid(2, 3, read_lays, TOLD, f" \n 0>1  2>1 {word} 9\n0>1")
        self.invalid(1, 1, read_lays, TOLD, "0 > 1")
        self.invalid(1, 1, read_lays, ((0,),), "0>0")
        self.invalid(1, 1, read_lays, ((0,),), "0>1")

    def test_six_people(self):
        self.assertEqual(read_lays(WIDE, "5>0 0>5"), ((5, 0), (0, 5)))
        self.invalid(1, 2, read_lays, WIDE, "5>0 6>5")


if __name__ == "__main__":
    unittest.main()
