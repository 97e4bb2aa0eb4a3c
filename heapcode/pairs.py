"""Pairs: whether two codes always leave the same list and tell the same item."""

from heapcode.answers import least_size
from heapcode.costs import COUNTED
from heapcode.errors import BadKind, OtherKinds, OtherWidths
from heapcode.kinds import WITH_GIVEN
from heapcode.tracks import keys_of_track
from heapcode.trees import AnyTree, OneTree
from heapcode.twins import Twins
from heapcode.walks import nearest_parting


def check_pair(code, other):
    """Raises what is wrong about the two codes."""
    if code.kind != other.kind:
        raise OtherKinds()
    if code.width != other.width:
        raise OtherWidths()
    if code.kind not in COUNTED:
        raise BadKind(code.kind)


def parting_of(code, other):
    """The twins of the codes, and the least number of levels to a place where they part, or None."""
    # Only what was asked last is kept: the twins of many pairs would take much room.
    last, twins, levels = code.memory.get("parting", (None, None, None))
    if last != other.text:
        twins = Twins(code, other)
        found = nearest_parting(twins, AnyTree(code.kind, code.width))
        levels = None if found is None else found[0]
        code.memory["parting"] = (other.text, twins, levels)
    return twins, levels


def alike(code, other):
    """Whether the plays of the two codes end in the same manner and leave the same on all lists, on one path."""
    check_pair(code, other)
    return parting_of(code, other)[1] is None


def parting_case(code, other):
    """A case with the fewest items for which the two codes differ, or None."""
    check_pair(code, other)
    twins, levels = parting_of(code, other)
    if levels is None:
        return None
    size = least_size(code, levels)
    found = None
    while found is None:
        tree = OneTree(code.kind, code.width, size)
        found = nearest_parting(twins, tree)
        size += 1
    told, rest, given = keys_of_track(tree, found[1])
    items = tuple([(told.get(place, rest), place) for place in range(tree.size)])
    return (items, None, (given, tree.size) if code.kind in WITH_GIVEN else None)
