"""A desk, which keeps a table and does lines."""

from laytogether.basics import MOST_HEAP, check_table, crowd_of, laid, odds_pairs, tower_of
from laytogether.errors import BadLine, NothingToUndo
from laytogether.laytexts import check_text, number_told, row_text, table_text, words_of

# What each line tells behind its first word.
TOLD = {
    "lay": ("person", "other"),
    "heap": ("person", "good", "heap"),
    "sort": (),
    "tower": (),
    "row": ("person",),
    "rows": (),
    "odds": (),
    "people": (),
}


class Desk:
    """A table that lines change, and the tables that it was."""

    def __init__(self, table):
        check_table(table)
        self._tables = [table]

    def run(self, line):
        """Do a line; return its answer, None for a line that changes the table."""
        check_text(line)
        words = words_of(line)
        now = self._tables[-1]
        numbers = numbers_told(now, words)
        changed = changed_by(now, words[0], numbers)
        if changed is None:
            return answer_to(now, words[0], numbers)
        self._tables.append(changed)
        return None

    def undo(self):
        """Take back the last line that is kept and has not been taken back."""
        if len(self._tables) == 1:
            raise NothingToUndo("no line is left")
        self._tables.pop()

    @property
    def table(self):
        """The table as it is now."""
        return self._tables[-1]

    @property
    def depth(self):
        """How many lines can be taken back."""
        return len(self._tables) - 1


def numbers_told(table, words):
    """Return the list of the numbers of a line; raise BadLine for the first word that cannot stand."""
    if not words or words[0] not in TOLD:
        raise BadLine(1)
    kinds = TOLD[words[0]]
    most = {"person": len(table) - 1, "other": len(table) - 1, "good": len(table[0]) - 1, "heap": MOST_HEAP}
    numbers = []
    for place, kind in enumerate(kinds, start=1):
        number = number_told(words[place], most[kind]) if place < len(words) else None
        # One who is told twice has nobody to lay with.
        if number is None or (kind == "other" and number in numbers):
            raise BadLine(place + 1)
        numbers.append(number)
    if len(words) > len(kinds) + 1:
        raise BadLine(len(kinds) + 2)
    return numbers


def changed_by(table, word, numbers):
    """Return the table that a line makes, None for a line that only answers."""
    if word == "lay":
        one, other = numbers
        return laid(table, one, other)
    if word == "heap":
        return with_heap(table, numbers)
    if word == "sort":
        return crowd_of(table)
    if word == "tower":
        return tower_of(table)
    return None


def with_heap(table, numbers):
    """Return the table in which the heap of a person and a good is another one."""
    person, good, heap = numbers
    rows = [list(row) for row in table]
    rows[person][good] = heap
    return tuple(tuple(row) for row in rows)


def answer_to(table, word, numbers):
    """Return the answer to a line that changes nothing."""
    if word == "row":
        return row_text(table[numbers[0]])
    if word == "rows":
        return table_text(table)
    if word == "odds":
        return len(odds_pairs(table))
    return len(table)
