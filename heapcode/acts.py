"""What each line does in a world. Each act returns the worlds in which the play goes on at once."""

from heapcode.asks import ask
from heapcode.looks import mate_item
from heapcode.moves import come_home
from heapcode.shapes import GOAL
from heapcode.worlds import (
    GIVEN, HAND, HERE, HERE_PLACE, KID, KID_BOUND, KID_PLACE, LAST, NONE, TOLD, UNSEEN, UP, UP_BOUND, UP_PLACE,
)


def onward(search, world):
    """The play goes on behind the row."""
    world.row = search.flow.after[world.row]
    return [world]


def tell(search, world, row):
    """The item at the present place is told."""
    if world.cells[HERE] < 0:
        return search.end_beyond(world)
    world.cells[TOLD] = world.cells[HERE]
    return onward(search, world)


def grab(search, world, row):
    """The hand holds the item at the present place."""
    if world.cells[HERE] < 0:
        return search.end_beyond(world)
    world.cells[HAND] = world.cells[HERE]
    return onward(search, world)


def grab_last(search, world, row):
    """The hand holds the item of the last place."""
    world.cells[HAND] = world.cells[HERE] if world.site[1] & GOAL else world.cells[LAST]
    return onward(search, world)


def grab_given(search, world, row):
    """The hand holds the given item."""
    world.cells[HAND] = world.cells[GIVEN]
    return onward(search, world)


def lay(search, world, row):
    """The present place gets the item of the hand."""
    cells = world.cells
    if cells[HAND] < 0 or cells[HERE] < 0:
        return search.end_beyond(world)
    cells[HERE] = cells[HAND]
    return onward(search, world)


def longer(search, world, row):
    """The list gets one place more, the present one, with the given item."""
    world.extra = world.extra + 1
    world.cells[HERE] = world.cells[GIVEN]
    return onward(search, world)


def shorter(search, world, row):
    """The last place goes, which is the goal."""
    world.extra = world.extra - 1
    # What is met on the way down later is followed behind an errand, and the last place is there still.
    if world.errand is None:
        world.cells[LAST] = NONE
    if world.site[1] & GOAL:
        world.cells[HERE] = NONE
    return onward(search, world)


def trade(search, world, row):
    """The items of the present place and of the last place are exchanged."""
    cells = world.cells
    if not world.site[1] & GOAL:
        here = cells[HERE]
        cells[HERE] = cells[LAST]
        cells[LAST] = here
    return onward(search, world)


def to_start(search, world, row):
    """The present place is the start again; a turn does not come here."""
    if world.over:
        return []
    row_behind = search.flow.after[world.row]
    for one in come_home(search, world):
        one.row = row_behind
        search.keep_state(one)
    return []


def note(search, world, row):
    """The table tells the present place for the item there."""
    if world.cells[HERE] < 0:
        return search.end_beyond(world)
    search.write_entry(world, world.cells[HERE], HERE_PLACE)
    return onward(search, world)


def note_mate(search, world, row):
    """The table tells the mate's place for the item there."""
    item = mate_item(search, world)
    if item < 0:
        return search.end_beyond(world)
    place = UP_PLACE if row.place == "up" else KID_PLACE + world.mate
    search.write_entry(world, item, place)
    return onward(search, world)


def go(search, world, row):
    """The mate becomes the present place."""
    if mate_item(search, world) < 0:
        return search.end_beyond(world)
    if row.place == "down":
        return search.leave_down(world, world.mate)
    search.leave_up(world)
    return []


def pull(search, world, row):
    """The present place gets the item of the mate."""
    item = mate_item(search, world)
    if item < 0 or world.cells[HERE] < 0:
        return search.end_beyond(world)
    world.cells[HERE] = item
    return onward(search, world)


def swap(search, world, row):
    """The items of the present place and of the mate are exchanged."""
    item = mate_item(search, world)
    cells = world.cells
    if item < 0 or cells[HERE] < 0:
        return search.end_beyond(world)
    cells[UP if row.place == "up" else KID + world.mate] = cells[HERE]
    cells[HERE] = item
    return onward(search, world)


def pick(search, world, row):
    """A child of the present place becomes the mate."""
    world.mate = row.number
    return onward(search, world)


def leave_loop(search, world, row):
    """The loop ends."""
    world.row = search.flow.other[world.loop]
    world.loop = -1
    return [world]


def end_play(search, world, row):
    """The play ends."""
    search.end_done(world)
    return []


def part_ways(search, world, row):
    """The worlds on the two sides of the test of the row."""
    at = world.row
    holding, failing = ask(search, world, row.test)
    for one in holding:
        search.see(one, ("side", at + 1, True))
        one.row = search.flow.after[at]
    for one in failing:
        search.see(one, ("side", at + 1, False))
        one.row = search.flow.other[at]
    return holding, failing


def branch(search, world, row):
    """The test of an `if` is asked."""
    holding, failing = part_ways(search, world, row)
    return holding + failing


def sight(world, way):
    """What can change at a place while the play stays there; a child not looked at is as one left as it was."""
    cells = world.cells
    if way == "up":
        return (cells[HERE], UNSEEN if cells[UP] == cells[UP_BOUND] else cells[UP])
    kids = []
    for number in range(1, 5):
        token = cells[KID + number]
        kids.append(UNSEEN if token == cells[KID_BOUND + number] else token)
    return (cells[HERE], world.mate, kids[0], kids[1], kids[2], kids[3])


def meet_head(search, world, row):
    """A loop is met at its head, and its test is asked if the play goes on."""
    if world.loop != world.row:
        return search.enter_loop(world)
    found = []
    for one in search.see_station(world):
        found.extend(ask_head(search, one, row))
    return found


def ask_head(search, world, row):
    """The test of a loop is asked, unless the play turns out endless."""
    seen = sight(world, row.word)
    if seen in world.seen:
        return search.end_endless(world)
    world.seen = world.seen + [seen]
    search.see(world, ("line", world.row + 1))
    holding, failing = part_ways(search, world, row)
    for one in failing:
        one.loop = -1
    return holding + failing


ACTS = {
    "tell": tell, "grab": grab, "grab last": grab_last, "grab given": grab_given, "lay": lay, "longer": longer,
    "shorter": shorter, "trade": trade, "to start": to_start, "note": note, "note mate": note_mate, "go": go,
    "pull": pull, "swap": swap, "pick": pick, "stop": leave_loop, "quit": end_play, "if": branch,
    "down": meet_head, "up": meet_head,
}
