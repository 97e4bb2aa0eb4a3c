"""All small cases of a kind, up to the names of the marks: lists, starts and given items with few keys."""

import itertools

from tests.second import tree


def edges_of_kind(kind, width, count, start):
    """The pairs of places (low, high) whose items have to be in order at the start."""
    edges = [((place - 1) // width, place) for place in range(1, count)]
    if kind in ("put", "take", "top", "out"):
        return edges
    if kind == "tree":
        within = tree(start, width, count)
        return [(above, place) for above, place in edges if above in within and above != start]
    kids = [place for above, place in edges if above == start]
    found = [(above, place) for above, place in edges if start not in (above, place)]
    if start:
        found += [((start - 1) // width, kid) for kid in kids]
    if kind == "above":
        found += [(start, kid) for kid in kids]
    if kind == "below" and start:
        found.append(((start - 1) // width, start))
    return found


def first_places(kind, count):
    """The places where plays of the kind start on lists of so many items."""
    if kind == "put":
        return [count]
    if kind in ("take", "top"):
        return [0] if count else []
    return list(range(count))


def mark_of(place):
    """Marks that are no places and not in their order."""
    return 50 - 7 * place


def cases(kind, width, count, keys):
    """All cases with so many items and keys below `keys`, as tuples (items, start, given)."""
    for place in first_places(kind, count):
        edges = edges_of_kind(kind, width, count, place)
        for chosen in itertools.product(range(keys), repeat=count):
            if all(chosen[low] <= chosen[high] for low, high in edges):
                items = tuple((key, mark_of(at)) for at, key in enumerate(chosen))
                start = None if kind in ("put", "take", "top") else place
                for given in range(keys) if kind in ("put", "top") else (None,):
                    yield items, start, None if given is None else (given, mark_of(count))


def first_place(kind, items, start):
    """Where a play starts on the case."""
    return len(items) if kind == "put" else start or 0
