"""Asking tests in worlds: where both answers can be, the world parts into two."""

from heapcode.looks import kid_item, mate_item
from heapcode.worlds import GIVEN, HAND, HERE, World

# By how many places the list is looked at as longer by `has K`, `has K less` and `has K more`.
SHIFTS = {"": 0, "less": -1, "more": 1}


def side_item(search, world, side):
    """The item that a side of a comparison names, or NONE if there is none."""
    word, number = side
    if word == "mate":
        return mate_item(search, world)
    if word == "kid":
        return kid_item(search, world, number)
    if word == "hand":
        return world.cells[HAND]
    return world.cells[HERE if word == "at" else GIVEN]


def compare(search, world, strict, left, right):
    """The pairs (world, answer) of a comparison; none if the play is beyond there."""
    low = side_item(search, world, left)
    high = side_item(search, world, right)
    if low < 0 or high < 0:
        search.end_beyond(world)
        return []
    world.compares = world.compares + 1
    answer = world.known(low, high, strict)
    if answer is not None:
        return [(world, answer)]
    other = World(world)
    world.assume(low, high, strict)
    other.assume(high, low, not strict)
    return [(world, True), (other, False)]


def look_around(world, word, number, shift):
    """The answer of a part that is no comparison."""
    if word == "has":
        return number <= world.site[2] + world.extra + SHIFTS[shift]
    if word == "inside":
        return world.cells[HERE] >= 0
    if word == "below root":
        return not world.site[0]
    return world.level != 0


def ask_part(search, world, part):
    """The pairs (world, whether the part holds); none if the play is beyond there."""
    holds, word, left, right = part
    if word in ("<", "<="):
        pairs = compare(search, world, word == "<", left, right)
    else:
        pairs = [(world, look_around(world, word, left, right))]
    return [(found, answer == holds) for found, answer in pairs]


def ask(search, world, test):
    """The worlds in which the test holds, and those in which it does not."""
    holding = [world]
    failing = []
    for part in test:
        asked = holding
        holding = []
        for one in asked:
            for found, holds in ask_part(search, one, part):
                if holds:
                    holding.append(found)
                else:
                    failing.append(found)
    return holding, failing
