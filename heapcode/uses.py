"""Uses: which lines, sides of tests and stations are met in some play, on lists of every size."""

from heapcode.answers import all_uses, case_of
from heapcode.cases import is_integer
from heapcode.errors import NoLine


def used_lines(code):
    """The numbers of the lines that are used, ascending."""
    return tuple(sorted([event[1] for event in all_uses(code) if event[0] == "line"]))


def used_sides(code):
    """The pairs (line, side) of tests that come out so, ascending."""
    return tuple(sorted([(event[1], event[2]) for event in all_uses(code) if event[0] == "side"]))


def check_line(code, line):
    """Raises NoLine for a number that is no line of the code."""
    if not is_integer(line) or not 1 <= line <= len(code):
        raise NoLine(line)


def case_for_line(code, line):
    """A case in whose play the line is used, or None."""
    check_line(code, line)
    return case_of(code, "uses", ("line", line))


def case_for_side(code, line, side):
    """A case in whose play the test of the line comes out so, or None."""
    check_line(code, line)
    return case_of(code, "uses", ("side", line, side))


def all_stations(code):
    """All stations that occur in some play, each once."""
    return [event[1] for event in all_uses(code) if event[0] == "station"]


def is_station(value):
    """Whether the value has the form of a station; 0 and 1 are not taken for False and True, nor these for them."""
    if not isinstance(value, tuple) or len(value) != 4:
        return False
    line, kids, root, rank = value
    return is_integer(line) and is_integer(kids) and isinstance(root, bool) and (rank is None or is_integer(rank))


def case_for_station(code, station):
    """A case in whose play the station occurs, or None."""
    if not is_station(station):
        return None
    return case_of(code, "uses", ("station", station))
