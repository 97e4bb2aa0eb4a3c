"""The lines of a text: which words may stand at which place, and which blocks are open there."""

from heapcode.errors import BadLine
from heapcode.parts import read_number, read_test

LOOPS = ("down", "up")
TOP_WORDS = (
    "tell", "grab", "grab last", "grab given", "lay", "longer", "shorter", "trade", "to start", "note", "quit",
)
LOOP_WORDS = ("go", "pull", "swap", "lay", "note", "note mate", "stop", "quit")


class Row:
    """A line that is right at its place.

    The place is "top" outside loops, otherwise the way of the loop; a loop's own line and its end
    count as within it. The number is that of a `pick`, the test that of an `if` or a loop.
    """

    def __init__(self, word, place, number=None, test=()):
        self.word = word
        self.place = place
        self.number = number
        self.test = test


def row_with_test(word, place, text, width):
    """The row of an `if` or a loop, or None if the text is no test there."""
    test = read_test(text, place, width)
    return None if test is None else Row(word, place, test=test)


def row_of_pick(place, text, width):
    """The row of a `pick`, or None if it has no right number or is not on the way down."""
    number = read_number(text, width)
    return None if place != "down" or number is None else Row("pick", place, number)


def row_of_block_word(word, place, opened):
    """The row of an `else` or an `end`, or None if no open block takes it."""
    takers = ("if",) if word == "else" else ("if", "else", "down", "up")
    return Row(word, place) if opened and opened[-1] in takers else None


def read_row(line, opened, width):
    """The row of the line behind the blocks that are open there, or None if it is none."""
    loops = [block for block in opened if block in LOOPS]
    place = loops[0] if loops else "top"
    if line in ("else", "end"):
        return row_of_block_word(line, place, opened)
    if line in (LOOP_WORDS if loops else TOP_WORDS):
        return Row(line, place)
    word, _, text = line.partition(" ")
    if word == "if":
        return row_with_test(word, place, text, width)
    if word in LOOPS and not loops:
        return row_with_test(word, word, text, width)
    return row_of_pick(place, text, width) if word == "pick" else None


def blocks_behind(word, opened):
    """The blocks that are open behind a line with the word."""
    if word == "if" or word in LOOPS:
        return opened + [word]
    if word == "else":
        return opened[:-1] + [word]
    return opened[:-1] if word == "end" else opened


def read_rows(lines, width):
    """The rows of all lines; raises BadLine for the first one that is none."""
    rows = []
    opened = []
    for number, line in enumerate(lines, start=1):
        row = read_row(line, opened, width)
        if row is None:
            raise BadLine(number)
        rows.append(row)
        opened = blocks_behind(row.word, opened)
    if opened:
        raise BadLine(len(lines) + 1)
    return rows
