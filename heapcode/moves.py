"""Going from place to place in worlds: down, up, back to the start, and back in a turn.

A turn is followed as point [28] tells. Where the way down leaves a place it is guessed whether the
way back comes to it again. If so, what the way back does at the place is followed at once, from the
`go` on by which it comes, and so is all that it does above the start and behind the loops; this is
the world's *errand*, a tuple (number, back, row, loop, extra, group): the number of the child that
the way down goes to, the row of that `go`, the row and the loop and the length to go on with on the
way down, and the sites that the child can be. Where the way down ends, the way back has to leave by
the row that was guessed.
"""

from heapcode.frames import broken_worlds, close_kids, leave_behind, loose_kids, parent_pairs, settle_parent
from heapcode.looks import forget_kids, is_final
from heapcode.shapes import seen_from_above
from heapcode.worlds import (
    BOUND, HERE, HERE_PLACE, HOME, HOME_BOUND, HOME_KID, HOME_PLACE, HOME_UP, KID, KID_BOUND, KID_PLACE, LOW, NEXT,
    NEXT_BOUND, NEXT_PLACE, NEXT_UP, NEXT_UP_PLACE, NONE, UNSEEN, UP, UP_AT_END, UP_BOUND, UP_PLACE, World,
)


def may_come_home(search, world):
    """Whether the play leaves the start now and may come back to it by `to start`."""
    return world.level == 0 and not world.homed and search.homes[world.loop]


def keep_home(world, number):
    """Keeps what is left at the start, for when the play comes back to it."""
    cells = world.cells
    world.home = (world.site, world.up_site, number)
    cells[HOME] = cells[HERE]
    cells[HOME_BOUND] = cells[BOUND]
    world.places = list(world.places)
    world.places[HOME_PLACE] = world.places[HERE_PLACE]
    for kid in range(1, 5):
        cells[HOME_KID + kid] = cells[KID + kid]
    if number:
        # What is left there is told where the play leaves the child.
        cells[HOME_KID + number] = NONE


def come_to(search, world, item, bound, group):
    """Makes the child the present place, with each site that it can be."""
    cells = world.cells
    cells[HERE] = item
    cells[BOUND] = bound
    cells[UP_BOUND] = NONE
    cells[LOW] = NONE
    forget_kids(world)
    world.level = min(max(world.level, 0) + 1, 2)
    world.levels = world.levels + 1
    world.mate = 0
    world.way = 0
    world.seen = []
    world.up_site = None
    world.kids_open = True
    world.up_open = False
    world.low_place = -1
    world.low_counts = True
    for site in group:
        other = World(world)
        other.site = site
        search.set_kid_places(other)
        search.keep_state(other)


def descend(search, world, number):
    """The child of this number, which was looked at, becomes the present place."""
    group = tuple(search.shape.kid_sites(world.site, world.way, number, world.extra))
    groups = [group]
    if search.follows_order(world) and loose_kids(search, world, number):
        groups = [(site,) for site in search.shape.split_sites(world.site, world.way, number, group)]
    found = []
    for sites in groups:
        if world.back < 0:
            go_down(search, World(world), number, sites)
        if not world.homed:
            for back in search.turns[world.loop]:
                found.extend(run_errand(search, World(world), number, sites, back))
    return found


def go_down(search, world, number, group):
    """Goes to the child and does not come back in a turn."""
    hold = may_come_home(search, world)
    for one in leave_behind(search, world, number, group, hold, True):
        cells = one.cells
        if hold:
            keep_home(one, number)
        elif one.home is not None and one.level == 1:
            cells[HOME_KID + one.home[2]] = cells[HERE]
        cells[UP] = cells[HERE]
        cells[UP_AT_END] = NONE
        one.places = list(one.places)
        one.places[UP_PLACE] = one.places[HERE_PLACE]
        one.places[HERE_PLACE] = one.places[KID_PLACE + number]
        one.row = search.flow.after[one.row]
        come_to(search, one, cells[KID + number], cells[KID_BOUND + number], group)


def run_errand(search, world, number, group, back):
    """Begins to follow what the way back does, which comes from the child by the row told as back."""
    found = []
    for one in close_kids(search, world, number, group):
        cells = one.cells
        one.errand = (number, back, search.flow.after[one.row], one.loop, one.extra, group)
        cells[NEXT] = cells[KID + number]
        cells[NEXT_BOUND] = cells[KID_BOUND + number]
        cells[NEXT_UP] = cells[HERE]
        one.places = list(one.places)
        one.places[NEXT_PLACE] = one.places[KID_PLACE + number]
        one.places[NEXT_UP_PLACE] = one.places[HERE_PLACE]
        one.row = search.flow.after[back]
        one.loop = search.flow.loop_of[back]
        one.mate = 0
        one.seen = []
        one.events = []
        found.append(one)
    return found


def end_errand(search, world, ended):
    """The way back has left the place or has ended there; goes on with the way down."""
    number, back, row, loop, extra, group = world.errand
    if ended and world.level > 0 and world.back >= 0:
        return
    if ended and world.extra != search.shape.end_extra:
        search.spoil(world)
    for one in leave_behind(search, world, number, group, False, True):
        cells = one.cells
        if one.level >= 0:
            cells[UP_AT_END] = cells[HERE]
        if one.home is not None and one.level == 1:
            cells[HOME_KID + one.home[2]] = cells[HERE]
        cells[UP] = cells[NEXT_UP]
        item = cells[NEXT]
        bound = cells[NEXT_BOUND]
        cells[NEXT] = cells[NEXT_BOUND] = cells[NEXT_UP] = NONE
        one.places = list(one.places)
        one.places[UP_PLACE] = one.places[NEXT_UP_PLACE]
        one.places[HERE_PLACE] = one.places[NEXT_PLACE]
        one.places[NEXT_PLACE] = one.places[NEXT_UP_PLACE] = NONE
        one.sealed = one.sealed | one.fresh
        one.fresh = 0
        one.errand = None
        one.extra = extra
        one.back = back
        one.over = True
        one.loop = loop
        one.row = row
        come_to(search, one, item, bound, group)


def go_up(search, world):
    """The parent of the present place becomes the present place."""
    if world.level <= 0:
        ascend(search, world)
    elif world.errand is not None:
        if world.back == world.row:
            end_errand(search, world, False)
    elif world.back == world.row:
        search.end_turn(world)


def ascend(search, world):
    """Goes to the parent, at the start or above it."""
    hold = may_come_home(search, world)
    skip = world.errand[0] if world.errand is not None else 0
    group = world.errand[5] if world.errand is not None else ()
    for one in leave_behind(search, world, skip, group, hold, False):
        cells = one.cells
        if hold:
            keep_home(one, 0)
        elif one.home is not None and one.level == -1:
            cells[HOME_UP] = cells[HERE]
        if one.errand is not None and one.level == 0:
            cells[UP_AT_END] = cells[HERE]
        one.low_counts = is_final(search, one.site)
        one.low_place = one.site[3]
        cells[LOW] = cells[HERE]
        cells[HERE] = cells[UP]
        cells[BOUND] = cells[UP_BOUND]
        cells[UP_BOUND] = NONE
        forget_kids(one)
        one.places = list(one.places)
        one.places[HERE_PLACE] = one.places[UP_PLACE]
        for kid in range(1, 5):
            one.places[KID_PLACE + kid] = NONE
        one.level = max(one.level - 1, -2)
        one.levels = one.levels + 1
        one.site = one.up_site
        one.row = search.flow.after[one.row]
        one.way = 0
        one.seen = []
        come_up(search, one)


def come_up(search, world):
    """Makes the parent of the new present place one that was not looked at, with each site that it can be."""
    world.up_open = True
    if world.site[0]:
        world.cells[UP] = NONE
        world.up_site = None
        search.keep_state(world)
        return
    world.cells[UP] = UNSEEN
    for site in search.shape.up_sites(world.site):
        other = World(world)
        other.up_site = site
        search.set_up_place(other)
        search.keep_state(other)


def close_parent(search, world):
    """The parent of the start gets no other item any more; the worlds in which the play goes on."""
    worlds = [world]
    if search.follows_order(world) and search.heaped:
        worlds = worlds + broken_worlds(world, parent_pairs(search, world))
    for one in worlds:
        if search.follows_items(one):
            settle_parent(search, one)
        one.up_open = False
    return worlds


def come_home(search, world):
    """The present place is the start again; the worlds in which this is so."""
    worlds = [world]
    if world.level != 0:
        worlds = leave_behind(search, world, 0, (), False, True)
        for one in worlds:
            restore_start(search, one)
    else:
        if not world.kids_open:
            world.kids_open = True
            search.set_kid_places(world)
        if world.up_open and world.cells[UP] >= 0:
            worlds = close_parent(search, world)
    for one in worlds:
        one.homed = True
        one.home = None
        one.seen = []
    return worlds


def restore_start(search, world):
    """What was left at the start and around it is near again."""
    cells = world.cells
    site, up_site, number = world.home
    forget_kids(world)
    if world.level > 0:
        if world.level == 1:
            cells[HOME_KID + number] = cells[HERE]
        for kid in range(1, 5):
            cells[KID + kid] = cells[HOME_KID + kid]
    elif world.level == -1:
        cells[HOME_UP] = cells[HERE]
    world.kids_open = world.level < 0
    world.up_open = world.level > 0
    cells[UP] = UNSEEN if world.level > 0 else cells[HOME_UP]
    if site[0]:
        cells[UP] = NONE
    cells[UP_BOUND] = NONE
    cells[UP_AT_END] = NONE
    cells[LOW] = NONE
    cells[HERE] = cells[HOME]
    cells[BOUND] = cells[HOME_BOUND]
    cells[HOME] = cells[HOME_BOUND] = cells[HOME_UP] = NONE
    for kid in range(1, 5):
        cells[HOME_KID + kid] = UNSEEN
    world.places = list(world.places)
    world.places[HERE_PLACE] = world.places[HOME_PLACE]
    world.places[HOME_PLACE] = NONE
    world.way = 0
    world.site = seen_from_above(site, search.width) if world.level > 0 else site
    world.level = 0
    world.low_place = -1
    world.low_counts = True
    world.up_site = up_site
    search.set_kid_places(world)
    search.set_up_place(world)
