"""Costs: the most comparisons of a play, for lists of any size."""

from heapcode.cases import is_integer
from heapcode.errors import BadKind, BadSize
from heapcode.kinds import WITH_GIVEN
from heapcode.strides import Stride
from heapcode.tracks import keys_of_track
from heapcode.trees import OneTree
from heapcode.walks import longest

COUNTED = ("put", "take", "top")


def check_size(code, n):
    """Raises what is wrong about the code or the size."""
    if code.kind not in COUNTED:
        raise BadKind(code.kind)
    if not is_integer(n) or n < (0 if code.kind == "put" else 1):
        raise BadSize(n)


def longest_play(code, tree):
    """The most comparisons of a play in the tree, and the track of such a play."""
    if "stride" not in code.memory:
        code.memory["stride"] = Stride(code)
    return longest(code.memory["stride"], tree)


def most(code, n):
    """The greatest number of comparisons in a play on a list of n items."""
    check_size(code, n)
    return longest_play(code, OneTree(code.kind, code.width, n))[0]


def worst(code, n):
    """A case with so many comparisons: (told, rest, start, given)."""
    check_size(code, n)
    tree = OneTree(code.kind, code.width, n)
    told, rest, given = keys_of_track(tree, longest_play(code, tree)[1])
    return (told, rest, None, given if code.kind in WITH_GIVEN else None)
