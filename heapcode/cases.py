"""Cases: whether a list, a start and a given item are right for a kind of deed."""

from heapcode.errors import BadCase, BadItem
from heapcode.items import is_heap, parent
from heapcode.kinds import OF_HEAPS, WITH_GIVEN, WITH_START


def is_integer(value):
    """Whether the value, of any kind, is an integer."""
    return isinstance(value, int) and not isinstance(value, bool)


def is_item(value):
    """Whether the value, of any kind, is an item."""
    return isinstance(value, tuple) and len(value) == 2 and is_integer(value[0]) and is_integer(value[1])


def first_bad_item(values):
    """The index of the first value that is no item or whose mark stands already, or None."""
    marks = {}
    for index, value in enumerate(values):
        if not is_item(value) or value[1] in marks:
            return index
        marks[value[1]] = True
    return None


def start_fits(kind, count, start):
    """Whether the start is right for the kind and a list of so many items."""
    if kind in WITH_START:
        return is_integer(start) and 0 <= start < count
    return start is None


def given_fits(kind, items, given):
    """Whether the given item is right for the kind and the list."""
    if kind in WITH_GIVEN:
        return is_item(given) and given[1] not in [mark for _, mark in items]
    return given is None


def trees_are_heaps(items, width, start):
    """Whether the tree of each child of the start is a heap by itself."""
    within = {start: True}
    for place in range(start + 1, len(items)):
        above = parent(place, width)
        if above in within:
            within[place] = True
            if above != start and items[place][0] < items[above][0]:
                return False
    return True


def is_heap_but_for(items, width, start):
    """Whether all items but that of the start stand as in a heap."""
    above = parent(start, width)
    for place in range(1, len(items)):
        low = parent(place, width)
        if low == start:
            low = above
        if place != start and low is not None and items[place][0] < items[low][0]:
            return False
    return True


def leans_right(kind, items, width, start):
    """Whether the item of the start is one that the kind above or below wants there."""
    key = items[start][0]
    if kind == "above":
        first = width * start + 1
        return all([key <= item[0] for item in items[first:first + width]])
    return kind != "below" or start == 0 or items[parent(start, width)][0] <= key


def list_fits(kind, width, items, start):
    """Whether the list is one of the kind; the start is right for the list."""
    if kind in OF_HEAPS:
        return (kind == "put" or len(items) > 0) and is_heap(items, width)
    if kind == "tree":
        return trees_are_heaps(items, width, start)
    return is_heap_but_for(items, width, start) and leans_right(kind, items, width, start)


def check_items(items):
    """Raises BadItem for the first value that is no item or has a mark that stands already."""
    bad = first_bad_item(items)
    if bad is not None:
        raise BadItem(bad)


def check_start_and_given(kind, items, start, given):
    """Raises what is wrong about the start or the given item, for the kind and the list."""
    if not start_fits(kind, len(items), start):
        raise BadCase("start")
    if not given_fits(kind, items, given):
        raise BadCase("given")


def check_case(code, items, start, given):
    """Raises what is wrong about a case for the code."""
    check_items(items)
    check_start_and_given(code.kind, items, start, given)
    if not list_fits(code.kind, code.width, items, start):
        raise BadCase("items")
