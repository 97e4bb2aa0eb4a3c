"""What is wrong, or can be, about items that the play leaves behind: point [27].

An edge can be broken where it does not follow that the item of the place is at least that of its
parent; then a world parts off in which it is broken. What it takes for that is told as pairs of
tokens of which the first one has to be at most the second one.
"""

from heapcode.items import parent
from heapcode.looks import final_kids, ghost, is_final, kid_label, new_kid, up_item
from heapcode.shapes import WAY
from heapcode.worlds import (
    BOUND, HERE, HERE_PLACE, KID, KID_BOUND, KID_PLACE, LAST_BOUND, LOW, UNSEEN, UP, UP_AT_END, UP_BOUND, UP_PLACE,
    World,
)


def kid_pairs(search, world, skip):
    """The edges from the present place to its children but the one to skip."""
    pairs = []
    unseen = 0
    for number in range(1, final_kids(search, world.site) + 1):
        token = world.cells[KID + number]
        if token == UNSEEN and number != skip:
            unseen = number
        elif number != skip and token >= 0:
            pairs.append((world.cells[HERE], token))
    if unseen:
        token = new_kid(search, world, unseen)
        world.placed = world.placed | (1 << token)
        pairs.append((world.cells[HERE], token))
    return pairs


def has_kids_at_end(search, world, number, skip, group):
    """Whether a child can have children at the end; where the play goes to the child to skip, this is in group."""
    if skip:
        return any([search.shape.may_have_kids(world.site, world.way, skip, below, number) for below in group])
    below = search.shape.kid_sites(world.site, world.way, number, world.extra)
    return any([final_kids(search, site) > 0 for site in below])


def loose_kids(search, world, skip):
    """The children that got an item that can be greater than what lies below."""
    found = []
    for number in range(1, final_kids(search, world.site) + 1):
        token = world.cells[KID + number]
        if number != skip and token >= 0 and not (world.le[token] >> world.cells[KID_BOUND + number]) & 1:
            found.append(number)
    return found


def low_kid_pairs(search, world, skip, group):
    """The edges from children of the present place to their own children."""
    pairs = []
    for number in loose_kids(search, world, skip):
        if has_kids_at_end(search, world, number, skip, group):
            below = ghost(world, search.width * kid_label(search, world, number) + 1)
            world.learn(world.cells[KID_BOUND + number], below, False)
            pairs.append((world.cells[KID + number], below))
    return pairs


def parent_pairs(search, world):
    """The edges of the parent of the present place to other places, if it got another item."""
    cells = world.cells
    if not world.up_open or cells[UP] < 0 or cells[UP] == cells[UP_BOUND]:
        return []
    pairs = []
    root, _, reach, place = world.up_site
    if not root:
        above = ghost(world, parent(place, search.width) if world.labels else 0)
        world.learn(above, cells[UP_BOUND], False)
        if cells[LAST_BOUND] >= 0 and all([site[1] & WAY for site in search.shape.up_sites(world.up_site)]):
            world.learn(above, cells[LAST_BOUND], False)
        pairs.append((above, cells[UP]))
    count = final_kids(search, world.up_site)
    if count > is_final(search, world.site):
        first = search.width * place + 1
        below = ghost(world, first + 1 if first == world.site[3] else first)
        world.learn(cells[UP_BOUND], below, False)
        pairs.append((cells[UP], below))
    return pairs


def up_pairs(search, world):
    """The edge from the parent to the present place, and those of the parent, where it is not left yet."""
    cells = world.cells
    if world.level > 0:
        top = cells[UP] if cells[UP_AT_END] < 0 else cells[UP_AT_END]
        comes_back = world.level == 1 and world.home is not None
        return [] if comes_back or not is_final(search, world.site) else [(top, cells[HERE])]
    if world.site[0] or not search.heaped:
        return []
    pairs = [(up_item(search, world), cells[HERE])] if is_final(search, world.site) else []
    return pairs + parent_pairs(search, world)


def pairs_above_start(search, world):
    """The edges from the present place to its children, where it lies above the start."""
    if not search.heaped:
        return []
    cells = world.cells
    pairs = []
    if world.low_counts and not (world.level == -1 and world.home is not None):
        pairs.append((cells[HERE], cells[LOW]))
    if final_kids(search, world.site) > world.low_counts:
        first = search.width * world.site[3] + 1
        below = ghost(world, first + 1 if first == world.low_place else first)
        world.learn(cells[BOUND], below, False)
        pairs.append((cells[HERE], below))
    return pairs


def frame_pairs(search, world, skip, group, hold, with_up):
    """All edges that are left behind with the present place; hold tells that the play may come back to it."""
    if world.level < 0:
        pairs = pairs_above_start(search, world)
    else:
        pairs = low_kid_pairs(search, world, skip, group) if world.kids_open else []
        if not hold and is_final(search, world.site):
            pairs = pairs + kid_pairs(search, world, skip)
    if with_up and not hold:
        pairs = pairs + up_pairs(search, world)
    return pairs


def broken_worlds(world, pairs):
    """The worlds in which one of the edges is broken."""
    found = []
    for low, high in pairs:
        if not (world.le[low] >> high) & 1:
            other = World(world)
            other.assume(high, low, True)
            other.broken = "order"
            found.append(other)
    return found


def settle_kids(search, world, skip):
    """The children of the present place but the one to skip get no other item any more."""
    if world.kids_open:
        for number in range(1, final_kids(search, world.site) + 1):
            if number != skip and world.cells[KID + number] >= 0:
                search.settle(world, world.cells[KID + number], KID_PLACE + number)


def settle_parent(search, world):
    """The parent of the present place gets no other item any more."""
    cells = world.cells
    if world.level <= 0 and world.up_open and cells[UP] >= 0:
        if not search.heaped and cells[UP] != cells[UP_BOUND]:
            search.spoil(world)
        search.settle(world, cells[UP], UP_PLACE)


def settle_cells(search, world, skip, hold, with_up):
    """The present place and what lies around it get no other items any more."""
    cells = world.cells
    if world.level >= 0:
        if not hold and cells[HERE] >= 0 and is_final(search, world.site):
            search.settle(world, cells[HERE], HERE_PLACE)
        settle_kids(search, world, skip)
    else:
        if not search.heaped and cells[HERE] != cells[BOUND]:
            search.spoil(world)
        search.settle(world, cells[HERE], HERE_PLACE)
    if with_up and not hold:
        settle_parent(search, world)


def close_kids(search, world, skip, group):
    """The children but the one to skip get no other items any more; the worlds in which the play goes on."""
    worlds = [world]
    if world.kids_open and search.follows_order(world):
        worlds = worlds + broken_worlds(world, low_kid_pairs(search, world, skip, group))
    for one in worlds:
        if search.follows_items(one):
            settle_kids(search, one, skip)
        one.kids_open = False
    return worlds


def leave_behind(search, world, skip, group, hold, with_up):
    """Looks at what is left behind with the present place; the worlds in which the play goes on."""
    worlds = [world]
    if search.follows_order(world):
        worlds = worlds + broken_worlds(world, frame_pairs(search, world, skip, group, hold, with_up))
    for one in worlds:
        if search.follows_items(one):
            settle_cells(search, one, skip, hold, with_up)
    return worlds
