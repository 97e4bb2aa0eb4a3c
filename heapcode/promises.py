"""The promises, and which of them a play that has come to its end breaks."""

from heapcode.items import is_heap, parent
from heapcode.kinds import WITH_TOLD

PROMISES = ("inside", "ends", "items", "order", "told", "places")


def is_promise(value):
    """Whether the value, of any kind, is a promise."""
    return isinstance(value, str) and value in PROMISES


def tree_of(start, width, count):
    """The places of the tree of the start in a list of so many places, as a dict of True."""
    within = {start: True}
    for place in range(start + 1, count):
        if parent(place, width) in within:
            within[place] = True
    return within


def owed_items(kind, items, given, told):
    """The items that the list is to have at the end, in order, or None if nothing can be right."""
    whole = list(items) if given is None else list(items) + [given]
    if kind in WITH_TOLD:
        if told not in whole:
            return None
        whole.remove(told)
    return sorted(whole)


def keeps_items(kind, width, items, start, given, left, told):
    """Whether the play leaves the right items."""
    if sorted(left) != owed_items(kind, items, given, told):
        return False
    if kind != "tree":
        return True
    within = tree_of(start, width, len(items))
    return all([left[place] == item for place, item in enumerate(items) if place not in within])


def keeps_order(kind, width, start, left):
    """Whether the list at the end is a heap; for tree the tree of the start."""
    if kind != "tree":
        return is_heap(left, width)
    within = tree_of(start, width, len(left))
    return all([left[parent(place, width)][0] <= left[place][0] for place in within if place != start])


def keeps_told(kind, items, start, told):
    """Whether the told item is the one that is owed."""
    if kind == "out":
        return told == items[start]
    if kind in WITH_TOLD:
        return told in items and told[0] == min([key for key, _ in items])
    return True


def keeps_places(left, entries, noted):
    """Whether the table, with what was noted since, tells for each item of the list its place."""
    return all([noted.get(mark, entries.get(mark)) == place for place, (_, mark) in enumerate(left)])


def broken_at_end(code, items, start, given, player, entries):
    """The promises that a play breaks that is done."""
    left = player.row
    if not keeps_items(code.kind, code.width, items, start, given, left, player.told):
        return ("items",)
    broken = []
    if not keeps_order(code.kind, code.width, start, left):
        broken.append("order")
    if not keeps_told(code.kind, items, start, player.told):
        broken.append("told")
    if not keeps_places(left, entries, player.noted):
        broken.append("places")
    return tuple(broken)


def broken_by(code, items, start, given, player, entries):
    """The promises that the play breaks, in their order; the entries are those of the table at its start."""
    if player.ended == "beyond":
        return ("inside",)
    if player.ended == "endless":
        return ("ends",)
    return broken_at_end(code, items, start, given, player, entries)
