"""Verdicts: which promises a code keeps for lists of every size and contents."""

from heapcode.answers import is_broken, least_breaking_case
from heapcode.errors import BadKind, BadPromise
from heapcode.kinds import SETTLING
from heapcode.promises import PROMISES, is_promise

# What a code has to keep for a kind of disorder to mend it.
MENDING = ("inside", "ends", "items", "order")


def keeps(code, promise):
    """Whether the code keeps the promise."""
    if not is_promise(promise):
        raise BadPromise(promise)
    return not is_broken(code, promise)


def kept(code):
    """The promises that the code keeps, in their order."""
    return tuple([promise for promise in PROMISES if keeps(code, promise)])


def least_case(code, promise):
    """A case with the fewest items whose play breaks the promise, or None if it is kept."""
    if not is_promise(promise):
        raise BadPromise(promise)
    return least_breaking_case(code, promise)


def mends_kind(code, kind):
    """Whether the code, taken as one of the settling kind, puts the list in order."""
    taken = code if kind == code.kind else code.as_kind(kind)
    return all([keeps(taken, promise) for promise in MENDING])


def mends(code):
    """The settling kinds that the code of a settling kind mends, in their order."""
    if code.kind not in SETTLING:
        raise BadKind(code.kind)
    if "mends" not in code.memory:
        code.memory["mends"] = tuple([kind for kind in SETTLING if mends_kind(code, kind)])
    return code.memory["mends"]
