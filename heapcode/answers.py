"""What was found out about a code, worked out once and kept with it."""

from heapcode.keys import make_case
from heapcode.search import Search
from heapcode.shapes import AllSizes
from heapcode.sizes import OneSize

# The promises that the aspects of a search ask for, and for each promise the aspect.
ASKED = {"uses": ("inside", "ends"), "items": ("items", "order", "told"), "entries": ("places",)}
ASPECTS = {
    "inside": "uses", "ends": "uses", "items": "items", "order": "items", "told": "items", "places": "entries",
}


def all_found(code, aspect):
    """What a search over lists of all sizes finds, as a dict."""
    if aspect not in code.memory:
        search = Search(code, AllSizes(code.kind, code.width), aspect, ASKED[aspect])
        search.run()
        code.memory[aspect] = search.found
    return code.memory[aspect]


def all_uses(code):
    """All lines, sides and stations that are met in some play, and how plays end early."""
    return all_found(code, "uses")


def is_broken(code, promise):
    """Whether some play breaks the promise."""
    return (promise,) in all_found(code, ASPECTS[promise])


def found_at(code, aspect, size):
    """What a search over the lists of one size finds, as a dict."""
    key = (aspect, size)
    if key not in code.memory:
        found = all_found(code, aspect)
        wanted = [promise for promise in ASKED[aspect] if (promise,) in found]
        search = Search(code, OneSize(code.kind, code.width, size), aspect, wanted)
        search.run()
        code.memory[key] = search.found
    return code.memory[key]


def least_size(code, levels):
    """The least size of a list whose tree has so many levels below the place 0; for put the given item counts."""
    first = 0
    for _ in range(levels):
        first = code.width * first + 1
    return first if code.kind == "put" else first + 1


def case_of(code, aspect, event):
    """A case in which the event is met, on a list as short as can be, or None."""
    found = all_found(code, aspect)
    if event not in found:
        return None
    size = least_size(code, found[event])
    while event not in found_at(code, aspect, size):
        size += 1
    start, facts = found_at(code, aspect, size)[event]
    return make_case(code, size, start, facts)


def least_breaking_case(code, promise):
    """A case with the fewest items whose play breaks the promise, or None."""
    return case_of(code, ASPECTS[promise], (promise,))
