"""Plays: a code is played on a list of its kind."""

from heapcode.cases import check_case
from heapcode.kinds import WITH_START
from heapcode.player import Player
from heapcode.promises import broken_by
from heapcode.tables import Table


class Play:
    """What came of a play; it never changes."""

    def __init__(self, player, broken, table):
        self.ended = player.ended
        self.left = tuple(player.row)
        self.told = player.told
        self.compares = player.compares
        self.broken = broken
        self._table = table
        self._lines = tuple(sorted(player.used))
        self._sides = tuple(sorted(player.sides_seen))
        self._stations = tuple(player.stations_met)

    def table(self):
        """The table at the end: a dict from marks to places."""
        return self._table.whole()

    def lines(self):
        """The numbers of the lines that were played, ascending."""
        return self._lines

    def sides(self):
        """The pairs (line, side) of the tests that were asked, ascending."""
        return self._sides

    def stations(self):
        """The stations in the order in which they were met."""
        return self._stations


def first_place(kind, count, start):
    """Where a play of the kind starts on a list of so many items."""
    if kind in WITH_START:
        return start
    return count if kind == "put" else 0


def play(code, items, start=None, given=None):
    """Plays the code on a case."""
    check_case(code, items, start, given)
    entries = {item[1]: place for place, item in enumerate(items)}
    player = Player(code, items, first_place(code.kind, len(items), start), given)
    player.run()
    broken = broken_by(code, items, start, given, player, entries)
    return Play(player, broken, Table(Table(None, entries), player.noted))
