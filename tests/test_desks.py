"""Point 30: desks, which keep a table and do lines."""

import unittest
from itertools import product

from laytogether.crowds import crowd, tower
from laytogether.desks import Desk
from laytogether.errors import BadLine, BadTable, BadText, NothingToUndo
from laytogether.lays import lay
from laytogether.laytexts import write_table
from laytogether.tables import count_at_odds, people
from tests import plain
from tests.inputs import KINDS, NO_TEXTS, TOLD, WIDE

CHANGING = ["lay 0 1", "lay 2 0", "lay 1 2", "heap 0 0 9", "heap 2 1 0", "sort", "tower"]
ANSWERING = ["row 0", "row 2", "rows", "odds", "people"]


def plain_line(table, line):
    """The table behind a line and its answer, told by the functions that do the same."""
    word, *told = line.split()
    numbers = [int(number) for number in told]
    if word == "lay":
        return lay(table, *numbers), None
    if word == "heap":
        person, good, heap = numbers
        row = table[person][:good] + (heap,) + table[person][good + 1:]
        return table[:person] + (row,) + table[person + 1:], None
    if word in ("sort", "tower"):
        return (crowd if word == "sort" else tower)(table), None
    if word == "row":
        return table, write_table((table[numbers[0]],))
    return table, {"rows": write_table, "odds": count_at_odds, "people": people}[word](table)


class DeskCase(unittest.TestCase):

    def refused(self, desk, line, word):
        table, depth = desk.table, desk.depth
        with self.assertRaises(BadLine) as caught:
            desk.run(line)
        self.assertEqual(vars(caught.exception), {"word": word}, line)
        self.assertEqual((desk.table, desk.depth), (table, depth))


class Examples(DeskCase):

    def test_examples(self):
        desk = Desk(((3, 1), (0, 4)))
        self.assertEqual((desk.run("odds"), desk.run("lay 1 0"), desk.run(" row  1 ")), (1, None, "3 4"))
        self.assertEqual((desk.run("heap 0 0 9"), desk.run("rows"), desk.run("sort")), (None, "9 1\n3 4", None))
        self.assertEqual((desk.undo(), desk.table, desk.depth), (None, ((9, 1), (3, 4)), 2))
        self.refused(desk, "lay 0 0", 3)

    def test_parts_stand_in_the_class_itself(self):
        self.assertLessEqual({"__init__", "run", "undo", "table", "depth"}, set(vars(Desk)))
        self.assertEqual(Desk.__bases__, (object,))
        for name in ("table", "depth"):
            self.assertIs(type(vars(Desk)[name]), property)

    def test_names_of_arguments(self):
        self.assertEqual(Desk(table=TOLD).run(line="people"), 3)


class Lines(DeskCase):

    def test_rows_of_lines(self):
        for lines in product(CHANGING + ANSWERING, repeat=3):
            with self.subTest(lines=lines):
                self.check_lines(TOLD, lines)
        for lines in product(CHANGING, repeat=4):
            self.check_lines(((0, 99), (0, 99), (1, 0)), lines + ("rows",))

    def check_lines(self, table, lines):
        desk, tables = Desk(table), [table]
        for line in lines:
            behind, answer = plain_line(tables[-1], line)
            given = desk.run(line)
            self.assertEqual((given, type(given)), (answer, type(answer)))
            if line in CHANGING:
                tables.append(behind)
            self.assertEqual((desk.table, desk.depth), (tables[-1], len(tables) - 1))
        while len(tables) > 1:
            tables.pop()
            self.assertIsNone(desk.undo())
            self.assertEqual((desk.table, desk.depth), (tables[-1], len(tables) - 1))
        self.assertRaises(NothingToUndo, desk.undo)
        self.assertEqual((desk.table, desk.depth), (table, 0))

    def test_all_lines_of_one_desk(self):
        for table in plain.more_tables() + [WIDE]:
            many, goods = len(table), len(table[0])
            lines = [f"lay {one} {other}" for one, other in product(range(many), repeat=2) if one != other]
            lines += [f"heap {one} {good} 99" for one in range(many) for good in range(goods)]
            lines += [f"heap {one} {good} 0" for one in range(many) for good in range(goods)]
            lines += [f"row {person}" for person in range(many)] + ["sort", "tower", "rows", "odds", "people"]
            for line in lines:
                desk = Desk(table)
                self.assertEqual((desk.run(line), desk.table)[::-1], plain_line(table, line))

    def test_spaces(self):
        desk = Desk(TOLD)
        self.assertEqual((desk.run("   people"), desk.run("odds     "), desk.run("  row   2   ")), (3, 3, "0 4"))
        self.assertIsNone(desk.run("     lay    0    2   "))
        self.assertEqual(desk.table, ((3, 4), (1, 2), (0, 1)))


class Undo(DeskCase):

    def test_lines_that_change_the_table_to_what_it_was_are_kept(self):
        desk = Desk(((5, 5), (2, 2)))
        for depth, line in enumerate(["sort", "tower", "lay 0 1", "heap 0 0 5", "sort"], 1):
            self.assertIsNone(desk.run(line))
            self.assertEqual((desk.table, desk.depth), (((5, 5), (2, 2)), depth))
        self.assertIsNone(desk.run("lay 1 0"))
        for depth in range(5, -1, -1):
            self.assertIsNone(desk.undo())
            self.assertEqual((desk.table, desk.depth), (((5, 5), (2, 2)), depth))
        self.assertRaises(NothingToUndo, desk.undo)

    def test_lines_that_answer_or_are_refused_are_not_kept(self):
        desk = Desk(TOLD)
        desk.run("sort")
        desk.run("lay 2 1")
        for line in ANSWERING:
            desk.run(line)
        self.refused(desk, "lay 0 9", 3)
        self.refused(desk, "", 1)
        for value in NO_TEXTS:
            self.assertRaises(BadText, desk.run, value)
        self.assertEqual(desk.depth, 2)
        desk.undo()
        self.assertEqual((desk.table, desk.depth), (crowd(TOLD), 1))

    def test_once_too_often(self):
        desk = Desk(TOLD)
        self.assertRaises(NothingToUndo, desk.undo)
        desk.run("odds")
        self.assertRaises(NothingToUndo, desk.undo)
        desk.run("tower")
        desk.undo()
        for _ in range(3):
            self.assertRaises(NothingToUndo, desk.undo)
            self.assertEqual((desk.table, desk.depth), (TOLD, 0))
        desk.run("lay 0 1")
        self.assertEqual((desk.depth, desk.run("row 0")), (1, "3 2"))

    def test_lines_behind_undo(self):
        desk = Desk(TOLD)
        desk.run("lay 0 1")
        desk.undo()
        desk.run("heap 0 0 7")
        desk.run("sort")
        desk.undo()
        self.assertEqual((desk.table, desk.depth), (((7, 1), (1, 2), (0, 4)), 1))
        desk.undo()
        self.assertEqual((desk.table, desk.depth), (TOLD, 0))

    def test_many_lines(self):
        desk = Desk(TOLD)
        for turn in range(3000):
            desk.run(f"heap 1 1 {turn % 100}")
        self.assertEqual((desk.depth, desk.run("row 1")), (3000, "1 99"))
        for _ in range(2999):
            desk.undo()
        self.assertEqual((desk.depth, desk.run("row 1")), (1, "1 0"))

    def test_desks_do_not_share(self):
        one, other = Desk(TOLD), Desk(TOLD)
        one.run("tower")
        self.assertEqual((other.table, other.depth, one.depth), (TOLD, 0, 1))


class Refused(DeskCase):

    def test_lines_without_words_and_unknown_words(self):
        desk = Desk(TOLD)
        for line in ("", " ", "     ", "x", "x lay 0 1", "LAY 0 1", "Rows", "undo", "table", "depth", "0", "lay0 1",
                     "\n", "\t", "rows\n", "\nrows", "rows\t", "odds\r", "people\x0b", "sort;", "lay>0>1",
                     "row\u00a00"):
            self.refused(desk, line, 1)

    def test_words_too_many(self):
        desk = Desk(TOLD)
        for line, word in (("sort 0", 2), ("tower tower", 2), ("rows 1", 2), ("odds x y", 2), ("people  0", 2),
                           ("row 0 0", 3), ("row 0 x", 3), ("lay 0 1 2", 4), ("lay 0 1 x y", 4), ("heap 0 0 0 0", 5),
                           ("heap 0 0 0 x x x", 5), (" sort  \n ", 2)):
            self.refused(desk, line, word)

    def test_words_that_are_lacking(self):
        desk = Desk(TOLD)
        for line, word in (("lay", 2), ("lay 0", 3), ("  lay  2  ", 3), ("heap", 2), ("heap 0", 3), ("heap 0 0", 4),
                           ("row", 2), (" row ", 2)):
            self.refused(desk, line, word)

    def test_numbers_out_of_range(self):
        desk = Desk(TOLD)
        for line, word in (("lay 3 0", 2), ("lay 0 3", 3), ("lay 3 3", 2), ("lay 1 1", 3), ("lay 0 0 0", 3),
                           ("row 3", 2), ("heap 3 0 0", 2), ("heap 0 2 0", 3), ("heap 0 0 100", 4), ("lay 9", 2),
                           ("heap 2 2 100 0", 3), ("heap 9 9 999 9", 2), ("heap 9", 2), ("row 9 9", 2),
                           ("heap 0 9", 3)):
            self.refused(desk, line, word)
        one = Desk(((7,),))
        for line, word in (("lay 0 0", 3), ("lay 0 1", 3), ("lay 1 0", 2), ("row 1", 2), ("heap 0 1 0", 3)):
            self.refused(one, line, word)
        self.assertIsNone(one.run("heap 0 0 99"))
        six = Desk(WIDE)
        self.refused(six, "row 6", 2)
        self.refused(six, "heap 5 5 0", 3)
        self.assertEqual((six.run("row 5"), six.run("heap 5 4 99")), ("0 5 4 1 3", None))
        self.assertEqual(six.run("row 5"), "0 5 4 1 99")

    def test_numbers_with_signs_or_needless_zeros(self):
        desk = Desk(TOLD)
        for number in ("00", "01", "+1", "-1", "-0", "1.", "0x1", "1_0", "x", "\u0661", "\u00b9", "1\t", "1\n", "\r1",
                       "1\u2003"):
            self.refused(desk, f"lay {number} 0", 2)
            self.refused(desk, f"lay 2 {number}", 3)
            self.refused(desk, f"row {number}", 2)
            self.refused(desk, f"heap {number} 0 0", 2)
            self.refused(desk, f"heap 0 {number} 0", 3)
            self.refused(desk, f"heap 0 0 {number}", 4)

    def test_heaps_from_0_to_99(self):
        desk = Desk(TOLD)
        for heap in range(100):
            desk.run(f"heap 0 1 {heap}")
            self.assertEqual(desk.table, ((3, heap), (1, 2), (0, 4)))
        self.refused(desk, "heap 0 1 100", 4)

    def test_values_that_are_no_line(self):
        desk = Desk(TOLD)
        for value in NO_TEXTS:
            self.assertRaises(BadText, desk.run, value)
        self.assertEqual((desk.table, desk.depth), (TOLD, 0))

    def test_values_that_are_no_table(self):
        for value, error, fields in KINDS["table"][1]:
            with self.assertRaises(BadTable) as caught:
                Desk(value)
            self.assertEqual((type(caught.exception), vars(caught.exception)), (error, fields))


class Kept(DeskCase):

    def test_the_table_is_not_changed_from_outside(self):
        desk = Desk(TOLD)
        desk.run("lay 0 1")
        table = desk.table
        self.assertIs(type(table), tuple)
        self.assertTrue(all(type(row) is tuple for row in table))
        for name, value in (("table", TOLD), ("depth", 0)):
            with self.assertRaises(AttributeError):
                setattr(desk, name, value)
        desk.run("tower")
        self.assertEqual(table, ((3, 2), (1, 1), (0, 4)))
        self.assertEqual((desk.table, desk.depth), (tower(TOLD), 2))

    def test_equal_rows_and_towers(self):
        desk = Desk(((7, 7),) * 6)
        self.assertEqual((desk.run("odds"), desk.run("people")), (0, 6))
        self.assertEqual((desk.run("tower"), desk.run("sort"), desk.depth), (None, None, 2))
        self.assertEqual(desk.run("rows"), "\n".join(["7 7"] * 6))

    def test_one_person(self):
        desk = Desk(((0, 99),))
        self.assertEqual((desk.run("rows"), desk.run("row 0"), desk.run("odds"), desk.run("people")),
                         ("0 99", "0 99", 0, 1))
        self.assertEqual((desk.run("sort"), desk.run("tower"), desk.table), (None, None, ((0, 99),)))


if __name__ == "__main__":
    unittest.main()
