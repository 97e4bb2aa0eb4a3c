"""Looking at items: what a world knows of an item that the play meets for the first time."""

from heapcode.items import parent
from heapcode.shapes import GOAL, WAY, children_at
from heapcode.worlds import (
    BOUND, FROM_PARENT, KID, KID_BOUND, KID_PLACE, LAST, LAST_BOUND, NONE, UNSEEN, UP, UP_BOUND, UP_PLACE,
)


def is_final(search, site):
    """Whether the place is one of the list at the end, if the play leaves the right items."""
    return not site[1] & GOAL or search.shape.end_extra >= 0


def final_kids(search, site):
    """How many children the place has at the end, if the play leaves the right items."""
    return children_at(site, search.shape.end_extra, search.width)


def kid_label(search, world, number):
    """The place of a child of the present place, for lists of one size."""
    return search.width * world.site[3] + number


def is_goal_kid(search, world, number):
    """Whether the child is the last place of the list, whose item may be another one now."""
    return search.shape.tracked and bool(world.site[1] & WAY) and world.site[2] == number


def new_kid(search, world, number):
    """A token for the item of a child that nothing was written to yet."""
    token = world.new_token(kid_label(search, world, number))
    bound = world.cells[BOUND]
    if bound >= 0:
        world.learn(bound, token, False)
    last = world.cells[LAST_BOUND]
    if last >= 0 and world.way == number:
        world.learn(token, last, False)
    return token


def meet_kid(search, world, number):
    """Looks at a child of the present place for the first time; it is one of the list."""
    cells = world.cells
    if is_goal_kid(search, world, number):
        token = cells[LAST]
        cells[LAST] = NONE
    else:
        token = new_kid(search, world, number)
        search.first_entry(world, token, KID_PLACE + number)
    cells[KID + number] = token
    # Below the last place there is nothing, so there it does not matter what the bound is.
    cells[KID_BOUND + number] = token
    return token


def kid_item(search, world, number):
    """The item of the child of the present place, or NONE if it is none of the list."""
    if number == 0 or number > world.site[2] + world.extra:
        return NONE
    token = world.cells[KID + number]
    return meet_kid(search, world, number) if token == UNSEEN else token


def up_item(search, world):
    """The item of the parent of the present place, or NONE if there is no parent."""
    cells = world.cells
    if world.site[0]:
        return NONE
    if cells[UP] == UNSEEN:
        label = parent(world.site[3], search.width) if world.labels else FROM_PARENT
        token = world.new_token(label)
        if search.heaped and cells[BOUND] >= 0:
            world.learn(token, cells[BOUND], False)
        if cells[LAST_BOUND] >= 0 and world.up_site[1] & WAY:
            world.learn(token, cells[LAST_BOUND], False)
        cells[UP] = token
        cells[UP_BOUND] = token
        search.first_entry(world, token, UP_PLACE)
    return cells[UP]


def mate_item(search, world):
    """The item of the mate, or NONE if there is no mate or it is none of the list."""
    if search.flow.rows[world.loop].word == "up":
        return up_item(search, world)
    return kid_item(search, world, world.mate)


def ghost(world, label):
    """A token for an item that the play never looks at; it stays at its place."""
    token = world.new_token(label)
    world.placed = world.placed | (1 << token)
    return token


def forget_kids(world):
    """The children of another place are met anew."""
    cells = world.cells
    for number in range(1, 5):
        cells[KID + number] = UNSEEN
        cells[KID_BOUND + number] = NONE
