"""Texts of tables and of lays, written and read."""

from laytogether.basics import MOST_GOODS, MOST_HEAP, MOST_LAYS, MOST_PEOPLE, check_lays, check_table, is_lay
from laytogether.errors import BadText, InvalidText


def write_table(table):
    """Return the text of a table: a line of heaps for each person."""
    check_table(table)
    return table_text(table)


def read_table(text):
    """Return the table of a text."""
    check_text(text)
    rows = []
    for line, words in lines_with_words(text):
        if len(rows) == MOST_PEOPLE:
            raise InvalidText(line, 1)
        rows.append(row_told(line, words, len(rows[0]) if rows else None))
    if not rows:
        raise InvalidText(1, 1)
    return tuple(rows)


def write_lays(table, lays):
    """Return the text of lays: one and other of each with > between."""
    check_table(table)
    check_lays(lays, len(table))
    return " ".join([f"{one}>{other}" for one, other in lays])


def read_lays(table, text):
    """Return the lays of a text."""
    check_table(table)
    check_text(text)
    lines = lines_with_words(text)
    if not lines:
        return ()
    line, words = lines[0]
    lays = lays_told(line, words, len(table))
    if len(lines) > 1:
        raise InvalidText(lines[1][0], 1)
    return lays


def check_text(text):
    """Raise BadText for a value that is no string."""
    if not isinstance(text, str):
        raise BadText("no string")


def row_text(row):
    """Return the text of a row."""
    return " ".join([str(heap) for heap in row])


def table_text(table):
    """Return the text of a table, without checks."""
    return "\n".join([row_text(row) for row in table])


def words_of(line):
    """Return the list of the words of a line, which only spaces separate."""
    return [word for word in line.split(" ") if word]


def lines_with_words(text):
    """Return the list of the pairs (number from 1 on, words) of the lines that are not blank."""
    lines = [(number, words_of(line)) for number, line in enumerate(text.split("\n"), start=1)]
    return [(number, words) for number, words in lines if words]


def number_told(word, most):
    """Return the number from 0 to most that a word tells, None without one."""
    # Signs, needless zeros and digits of other scripts, which int would take, are not in these texts.
    texts = [str(number) for number in range(most + 1)]
    return texts.index(word) if word in texts else None


def row_told(line, words, many):
    """Return the row that the words of a line tell; many is how many heaps it is to have, None for the first line."""
    most = MOST_GOODS if many is None else many
    heaps = []
    for number, word in enumerate(words, start=1):
        heap = number_told(word, MOST_HEAP)
        if number > most or heap is None:
            raise InvalidText(line, number)
        heaps.append(heap)
    if many is not None and len(heaps) < many:
        raise InvalidText(line, len(heaps) + 1)
    return tuple(heaps)


def lays_told(line, words, many):
    """Return the lays of so many people that the words of a line tell."""
    lays = []
    for number, word in enumerate(words, start=1):
        pair = tuple(number_told(part, many - 1) for part in word.split(">"))
        if number > MOST_LAYS or not is_lay(pair, many):
            raise InvalidText(line, number)
        lays.append(pair)
    return tuple(lays)
