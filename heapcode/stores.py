"""Stores: lists that are kept by codes over long times; and lists that are built by a code for trees."""

from heapcode.cases import check_items, check_start_and_given
from heapcode.codes import Code
from heapcode.errors import BadCase, BadKind, BadName, BadWidth, NoDeed, NothingToUndo
from heapcode.items import parent
from heapcode.kinds import is_width
from heapcode.play import Play, first_place
from heapcode.player import Player
from heapcode.promises import broken_by
from heapcode.tables import Table


def check_deeds(width, codes):
    """Raises BadName for the first key that is no name or has no code of the width."""
    for name, code in codes.items():
        if not isinstance(name, str) or not isinstance(code, Code) or code.width != width:
            raise BadName(name)


def items_to_restore(old, new):
    """What has to be written to the new list, behind those of its places that the old one has, to get the old one."""
    return [(place, item) for place, item in enumerate(old) if place >= len(new) or new[place] != item]


def restored(new, count, changes):
    """The old list of so many items, from the new one."""
    row = list(new[:count])
    for place, item in changes:
        if place < len(row):
            row[place] = item
        else:
            row.append(item)
    return tuple(row)


class Store:
    """A list of items with a table, and a code for each of some deeds."""

    def __init__(self, width, codes, items=()):
        if not is_width(width):
            raise BadWidth(width)
        check_deeds(width, codes)
        check_items(items)
        self.width = width
        self._codes = dict(codes)
        self._items = tuple(items)
        self._entries = {item[1]: place for place, item in enumerate(items)}
        # The same as the entries, for the plays, which keep theirs while those of the store go on.
        self._table = Table(None, dict(self._entries))
        # For each deed that can be taken back what it changed, not all that was there: there may be many deeds.
        self._past = []

    def do(self, name, start=None, given=None):
        """Does a deed and returns its play; if this is not done nothing changes."""
        if not isinstance(name, str) or name not in self._codes:
            raise NoDeed(name)
        code = self._codes[name]
        check_start_and_given(code.kind, self._items, start, given)
        if code.kind != "put" and not self._items:
            raise BadCase("items")
        player = Player(code, self._items, first_place(code.kind, len(self._items), start), given)
        player.run()
        broken = broken_by(code, self._items, start, given, player, self._entries)
        found = Play(player, broken, Table(self._table, player.noted))
        if found.ended == "done":
            self._keep(found.left, player.noted)
        return found

    def _keep(self, left, noted):
        """Makes what a deed leaves the present list and table."""
        entries = [(mark, self._entries.get(mark)) for mark in noted]
        self._past.append((len(self._items), items_to_restore(self._items, left), entries, self._table))
        self._items = left
        self._entries.update(noted)
        if self._table.depth > len(self._entries):
            self._table = Table(None, dict(self._entries))
        elif noted:
            self._table = Table(self._table, dict(noted))

    def undo(self):
        """Takes back the last deed that is not taken back yet."""
        if not self._past:
            raise NothingToUndo()
        count, changes, entries, table = self._past.pop()
        self._items = restored(self._items, count, changes)
        for mark, place in entries:
            if place is None:
                del self._entries[mark]
            else:
                self._entries[mark] = place
        self._table = table

    def undoable(self):
        """How many deeds can be taken back."""
        return len(self._past)

    def present(self):
        """The list, a tuple."""
        return self._items

    def table(self):
        """The table: a dict from marks to places."""
        return dict(self._entries)

    def __len__(self):
        return len(self._items)


def build(code, items):
    """The list that comes when the code is played on it from each parent, the last one first."""
    if code.kind != "tree":
        raise BadKind(code.kind)
    check_items(items)
    row = tuple(items)
    last = parent(len(row) - 1, code.width) if len(row) > 1 else -1
    for start in range(last, -1, -1):
        player = Player(code, row, start, None)
        player.run()
        if player.ended != "done":
            return row
        row = tuple(player.row)
    return row
