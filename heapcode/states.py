"""States: worlds with all forgotten that nothing can reach any more, as keys of a table, point [30]."""

from heapcode.looks import final_kids
from heapcode.shapes import GOAL, WAY, seen_from_above
from heapcode.worlds import (
    BOUND, GIVEN, GONE, HAND, HERE, HOME, HOME_BOUND, HOME_KID, HOME_UP, KID, KID_BOUND, KID_PLACE, LAST, LAST_BOUND,
    LOW, NEXT, NEXT_UP, NONE, SETTLED, TELLING, TOLD, UNSEEN, UP, UP_AT_END, UP_PLACE,
)


def needs_last(search, world):
    """Whether the play can still come to the last place of the list."""
    if world.extra < 0 and world.errand is None:
        return False
    if world.errand is not None:
        return world.errand[4] == 0
    down = world.loop < 0 or search.flow.rows[world.loop].word == "down"
    if down and world.level >= 0 and world.site[1] & WAY and not world.site[1] & GOAL:
        return True
    comes_home = not world.homed and (world.loop < 0 or search.homes[world.loop])
    site = world.site if world.home is None else world.home[0]
    return comes_home and bool(site[1] & WAY)


def trim_last(search, world):
    """Forgets the last place, and its first item as a bound, where they do not matter any more."""
    cells = world.cells
    if cells[LAST] >= 0 and not needs_last(search, world):
        cells[LAST] = NONE
    last = cells[LAST_BOUND]
    # What is on the way is at most its key, and so at most all that is known to be no less.
    if last >= 0 and not any([token == last for at, token in enumerate(cells) if at != LAST_BOUND]):
        if not any([(world.le[last] >> token) & 1 for token in cells if token >= 0 and token != last]):
            cells[LAST_BOUND] = NONE


def trim_below(search, world, orders):
    """Forgets what does not matter at a place below the start."""
    cells = world.cells
    down = search.flow.rows[world.loop].word == "down"
    turning = not down or world.back >= 0 or (not world.homed and search.may_turn[world.loop])
    if not turning:
        world.places = list(world.places)
        world.places[UP_PLACE] = NONE
        if not orders:
            cells[UP] = NONE
    if world.back < 0 or not orders:
        cells[UP_AT_END] = NONE
    trim_kids(search, world, orders)
    if final_kids(search, world.site) == 0 and world.site[2] + world.extra <= 0:
        cells[BOUND] = NONE
    if not down and not orders:
        cells[BOUND] = NONE


def trim_kids(search, world, orders):
    """Forgets what does not matter of the children at an up loop."""
    cells = world.cells
    if search.flow.rows[world.loop].word == "down":
        return
    if world.homed or not search.homes[world.loop]:
        world.site = seen_from_above(world.site, search.width)
    world.places = list(world.places)
    for number in range(1, 5):
        cells[KID_BOUND + number] = NONE
        world.places[KID_PLACE + number] = NONE
        if not orders:
            cells[KID + number] = UNSEEN


def thin_kids(search, world, base, bound, site):
    """Forgets children that need not be looked at for order, as another one is known to be no greater."""
    cells = world.cells
    count = final_kids(search, site)
    least = [cells[base + number] for number in range(1, count + 1) if cells[base + number] >= 0]
    unseen = bound >= 0 and any([cells[base + number] == UNSEEN for number in range(1, count + 1)])
    for number in range(1, 5):
        token = cells[base + number]
        if token < 0:
            continue
        if number > count or (unseen and (world.le[bound] >> token) & 1):
            cells[base + number] = NONE
        elif any([other != token and (world.le[other] >> token) & 1 for other in least]):
            cells[base + number] = NONE
            least.remove(token)


def trim(search, world):
    """Forgets the cells that do not matter any more."""
    cells = world.cells
    orders = search.follows_order(world)
    if world.level > 0 and world.loop >= 0:
        trim_below(search, world, orders)
    elif world.level == 0 and world.loop >= 0:
        trim_kids(search, world, orders)
    if not orders:
        cells[LOW] = NONE
        cells[HOME_UP] = NONE
        for number in range(1, 5):
            cells[HOME_KID + number] = UNSEEN
    elif world.home is not None:
        thin_kids(search, world, HOME_KID, cells[HOME_BOUND], world.home[0])
    elif world.level >= 0 and not world.kids_open:
        thin_kids(search, world, KID, cells[BOUND], world.site)
    if world.row > search.last_given:
        cells[GIVEN] = NONE
    if search.shape.tracked:
        trim_last(search, world)


def lost_tokens(world):
    """A mask of the tokens that have no place at the end and can get none any more."""
    carried = 0
    for cell in (HAND, HERE, UP, TOLD, LAST, HOME, NEXT, NEXT_UP, KID + 1, KID + 2, KID + 3, KID + 4):
        token = world.cells[cell]
        if token >= 0:
            carried = carried | (1 << token)
    return world.alive & ~world.placed & ~carried


def entry_is_right(world, token):
    """Whether the entry of a token that has its place at the end tells this place."""
    spot = world.spots.get(token, NONE)
    return spot in (NONE, TELLING) or world.notes.get(token, NONE) == spot


def look_at_entries(search, world, live):
    """Looks at the entries of all tokens that are forgotten, and at places that entries cannot name any more."""
    named = {place: True for place in world.places if place >= 0}
    notes = {}
    spots = {}
    for token in list(world.spots):
        if not entry_is_right(world, token) and (token not in live or world.spots[token] not in named):
            search.spoil_entries(world)
    for token in live:
        note = world.notes.get(token, NONE)
        spot = world.spots.get(token, NONE)
        if spot >= 0 and spot not in named:
            note = spot = SETTLED
        notes[token] = note if note < 0 or note in named else GONE
        spots[token] = spot
    world.notes = notes
    world.spots = spots


def renumber_places(world):
    """Numbers the places that entries can name in the order of their names."""
    index = {place: place for place in world.places if place >= 0}
    if not world.labels:
        index = {place: at for at, place in enumerate(list(index))}
    world.places = [index.get(place, NONE) for place in world.places]
    world.notes = {token: index.get(place, place) for token, place in world.notes.items()}
    world.spots = {token: index.get(place, place) for token, place in world.spots.items()}


def shrunk(mask, index):
    """The mask with its bits renumbered; those without a new number go."""
    found = 0
    for token, at in index.items():
        if (mask >> token) & 1:
            found = found | (1 << at)
    return found


def renumber(world, live):
    """Numbers the tokens in the order of the cells; for lists of one size they stay as they are."""
    index = {token: at for at, token in enumerate(live)}
    if not world.labels and live != list(range(len(world.le))):
        world.cells = [index.get(token, token) for token in world.cells]
        world.le = [shrunk(world.le[token], index) for token in live]
        world.lt = [shrunk(world.lt[token], index) for token in live]
        world.placed = shrunk(world.placed, index)
        world.sealed = shrunk(world.sealed, index)
        world.fresh = shrunk(world.fresh, index)
        world.notes = {index[token]: note for token, note in world.notes.items()}
        world.spots = {index[token]: spot for token, spot in world.spots.items()}
        world.alive = (1 << len(live)) - 1
    elif world.labels:
        world.alive = sum([1 << token for token in live])
        world.placed = world.placed & world.alive
        world.sealed = world.sealed & world.alive
        world.fresh = world.fresh & world.alive


def live_tokens(world):
    """The tokens in the cells, in the order of their first cells."""
    return list({token: True for token in world.cells if token >= 0})


def order_key(world, live):
    """What is known of the keys of the tokens in the cells, as two tuples."""
    if not world.labels:
        return (tuple(world.le), tuple(world.lt))
    alive = world.alive
    return (tuple([world.le[token] & alive for token in live]), tuple([world.lt[token] & alive for token in live]))


def state_of(search, world):
    """The key of a world that was trimmed; the world is renumbered."""
    live = live_tokens(world)
    if search.follows_notes(world):
        look_at_entries(search, world, live)
        renumber_places(world)
    if not search.follows_notes(world):
        world.notes = {}
        world.spots = {}
        world.sealed = 0
        world.fresh = 0
    renumber(world, live)
    if not world.labels:
        live = list(range(len(live)))
    table = ()
    if world.notes:
        table = (tuple([(world.notes[token], world.spots[token]) for token in live]), tuple(world.places))
    return (
        world.row, world.loop, world.mate, world.level, world.extra, world.way, world.site, world.up_site, world.home,
        world.homed, world.told_asked, world.back, world.over, world.errand, world.broken, world.kids_open,
        world.up_open, world.low_place, world.low_counts, world.placed, world.sealed, world.fresh,
        tuple(world.cells), order_key(world, live), table,
    )
