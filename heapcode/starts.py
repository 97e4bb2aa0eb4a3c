"""The worlds in which plays begin."""

from heapcode.kinds import LOSING, WITH_GIVEN
from heapcode.shapes import GOAL, WAY
from heapcode.worlds import (
    BOUND, FROM_GIVEN, FROM_LAST, GIVEN, GONE, HERE, HERE_PLACE, LAST, LAST_BOUND, NONE, UNSEEN, UP, Beginning, World,
)


def start_sites(search):
    """The pairs of sites of the start and its parent; what can be told of a parent that is never met is left out."""
    pairs = search.shape.starts()
    if search.climbs or search.shape.labels:
        return pairs
    plain = {}
    for site, up_site in pairs:
        plain[(site, None if up_site is None else (False, up_site[1] & WAY, 0, -1))] = True
    return list(plain)


def bare_world(search, site, up_site):
    """A world with a start and without items."""
    world = World(Beginning(search.shape.labels, search.shape.first_extra, search.traced))
    world.site = site
    world.up_site = up_site
    world.trail = (site[3],)
    world.cells[UP] = NONE if up_site is None else UNSEEN
    world.places = list(world.places)
    world.places[HERE_PLACE] = max(site[3], 0)
    search.set_kid_places(world)
    search.set_up_place(world)
    return world


def labels_at_start(search):
    """The labels of the given item and of that of the last place."""
    labels = search.shape.labels
    return (labels - 2, labels - 3) if labels else (FROM_GIVEN, FROM_LAST)


def add_last(world, label):
    """The item of the last place, where it matters, and what is known of it."""
    cells = world.cells
    if world.site[1] & GOAL:
        cells[LAST] = cells[LAST_BOUND] = cells[HERE]
        return
    token = world.new_token(label)
    cells[LAST] = cells[LAST_BOUND] = token
    if world.site[1] & WAY:
        world.learn(cells[HERE], token, False)


def add_bound(world, kind):
    """The bound of the start of a settling kind other than tree, a number without an item."""
    token = world.new_token(world.labels - 1)
    world.placed = world.placed | (1 << token)
    world.cells[BOUND] = token
    if kind == "above":
        world.learn(world.cells[HERE], token, False)
    if kind == "below":
        world.learn(token, world.cells[HERE], False)


def first_world(search, site, up_site):
    """The world in which a play with this start begins."""
    kind = search.kind
    given_label, last_label = labels_at_start(search)
    world = bare_world(search, site, up_site)
    cells = world.cells
    if kind != "put":
        token = world.new_token(site[3])
        cells[HERE] = token
        search.first_entry(world, token, HERE_PLACE)
        if kind in LOSING or kind == "top":
            cells[BOUND] = token
        elif kind != "tree":
            add_bound(world, kind)
    if kind in LOSING:
        add_last(world, last_label)
        if cells[LAST] != cells[HERE]:
            # The last place goes, so no entry that tells it will be right.
            search.put_entry(world, cells[LAST], GONE)
    if kind in WITH_GIVEN:
        cells[GIVEN] = world.new_token(given_label)
    return world


def first_worlds(search):
    """All worlds in which plays begin."""
    return [first_world(search, site, up_site) for site, up_site in start_sites(search)]
