"""Cases made of what was assumed about the keys of a list of one size."""

from heapcode.items import parent
from heapcode.kinds import OF_HEAPS, WITH_GIVEN, WITH_START
from heapcode.promises import tree_of


def edge_facts(kind, width, size, start):
    """What the kind tells of the keys: facts (low, high, strict) of places; `size + 1` is the start's bound."""
    within = tree_of(start, width, size) if kind == "tree" else {}
    found = []
    for place in range(1, size):
        above = parent(place, width)
        if kind == "tree":
            if above in within and above != start:
                found.append((above, place, False))
        elif kind in OF_HEAPS:
            found.append((above, place, False))
        else:
            low = size + 1 if above == start else above
            high = size + 1 if place == start else place
            found.append((low, high, False))
    if kind == "above":
        found.append((start, size + 1, False))
    if kind == "below":
        found.append((size + 1, start, False))
    return found


def least_keys(count, facts):
    """The least keys from 0 for which all the facts hold; they do not contradict each other."""
    keys = [0] * count
    changed = True
    while changed:
        changed = False
        for low, high, strict in facts:
            least = keys[low] + (1 if strict else 0)
            if keys[high] < least:
                keys[high] = least
                changed = True
    return keys


def make_case(code, size, start, facts):
    """A case of a list of the size for which the facts hold."""
    keys = least_keys(size + 2, edge_facts(code.kind, code.width, size, start) + facts)
    items = tuple([(keys[place], place) for place in range(size)])
    given = (keys[size], size) if code.kind in WITH_GIVEN else None
    return (items, start if code.kind in WITH_START else None, given)
