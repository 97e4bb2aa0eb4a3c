"""The search: all states in which a play can be, on lists of all sizes or on those of one size.

A search has an *aspect*, what it is asked for. USES finds what is ever met: lines, sides, stations,
and plays that are beyond or endless. ITEMS finds whether plays that are done break the promises
items, order and told, ENTRIES whether they break places. What is found is told as `found`, a dict
from what it is to the start and the assumptions under which it happens, for lists of one size, and
for lists of all sizes to a number of levels that the tree has at least below the place 0 then.
"""

from heapcode.acts import ACTS
from heapcode.ahead import goes_home, last_row_with_given, turning_loops, ways_back
from heapcode.frames import close_kids, leave_behind
from heapcode.items import parent
from heapcode.kinds import WITH_TOLD
from heapcode.moves import come_home, descend, end_errand, go_up
from heapcode.rows import LOOPS
from heapcode.shapes import children_at
from heapcode.starts import first_worlds
from heapcode.states import entry_is_right, lost_tokens, state_of, trim
from heapcode.worlds import BOUND, GIVEN, HAND, HERE, KID_PLACE, NONE, TELLING, TOLD, UP_PLACE, World

USES = "uses"
ITEMS = "items"
ENTRIES = "entries"


class Search:
    """A search for one code, over the lists of a shape."""

    def __init__(self, code, shape, aspect, wanted):
        self.flow = code.flow
        self.kind = code.kind
        self.width = code.width
        self.shape = shape
        self.aspect = aspect
        # The promises that are asked for and not known to be broken yet.
        self.wanted = {promise: True for promise in wanted}
        self.found = {}
        # For tree nothing is known of the items above the start, and nothing is asked of their order.
        self.heaped = code.kind != "tree"
        loops = [row for row in range(self.flow.size) if self.flow.rows[row].word in LOOPS]
        self.homes = {row: goes_home(self.flow, row) for row in loops}
        self.may_turn = {row: len(turning_loops(self.flow, row)) > 0 for row in loops}
        self.turns = {row: ways_back(self.flow, row) for row in loops}
        self.climbs = any([self.flow.rows[row].word == "up" for row in loops])
        self.last_given = last_row_with_given(self.flow)
        # Whether what is assumed of keys is kept, so that a case can be made of it.
        self.traced = shape.labels > 0
        self.states = {}
        # The states that are to be followed, by the levels that they take.
        self.waiting = {0: []}
        # In turns: how each state was come to, and where the way down ended as it was guessed.
        self.links = {}
        self.ends = []

    def run(self):
        """Searches until all states are met or all that is wanted is found."""
        for world in first_worlds(self):
            self.follow(world)
        levels = 0
        while self.waiting and (self.wanted or self.aspect == USES):
            # What takes few levels comes first, so that the least number of levels is found.
            while self.waiting.get(levels):
                self.visit(self.waiting[levels].pop())
            del self.waiting[levels]
            levels += 1
        self.join_turns()

    def visit(self, world):
        """Follows the play on from a state; on the way down the way to the last item is guessed."""
        if world.loop < 0 or self.flow.rows[world.loop].word == "up":
            self.follow(world)
            return
        for way in self.shape.ways_on(world.site):
            one = World(world)
            one.way = way
            self.follow(one)

    def follow(self, world):
        """Follows the play up to the next states, whatever the comparisons tell."""
        going = [world]
        while going:
            one = going.pop()
            if one.row == self.flow.size:
                self.end_done(one)
            else:
                row = self.flow.rows[one.row]
                if row.word not in LOOPS:
                    self.see(one, ("line", one.row + 1))
                act = ACTS[row.word]
                going.extend(act(self, one, row))

    def follows_items(self, world):
        """Whether it is still open in the world if the right items are left."""
        return self.aspect != USES and world.broken not in ("items", "lost")

    def follows_order(self, world):
        """Whether broken edges are still looked for in the world."""
        return self.aspect == ITEMS and world.broken == "" and "order" in self.wanted

    def follows_notes(self, world):
        """Whether wrong entries are still looked for in the world."""
        return self.aspect == ENTRIES and world.broken == ""

    def spoil(self, world):
        """The right items are not left any more; a world in which another promise is broken is of no use then."""
        if self.aspect != USES and world.broken != "items":
            world.broken = "items" if world.broken == "" else "lost"

    def spoil_entries(self, world):
        """An entry is wrong at the end."""
        if world.broken == "":
            world.broken = "places"

    def settle(self, world, token, place):
        """The item stays at the place until the end."""
        bit = 1 << token
        if world.placed & bit:
            self.spoil(world)
        world.placed = world.placed | bit
        if self.follows_notes(world):
            world.spots = {**world.spots, token: place if place < 0 else world.places[place]}

    def put_entry(self, world, token, place):
        """The entry of the token tells the place."""
        if self.follows_notes(world):
            world.notes = {**world.notes, token: place}

    def first_entry(self, world, token, place):
        """The entry of a token that is met tells where it lies."""
        self.put_entry(world, token, world.places[place])

    def write_entry(self, world, token, place):
        """The entry is written in the play, unless one that is later in the play is known already."""
        if not (world.sealed >> token) & 1:
            self.put_entry(world, token, world.places[place])
            if world.errand is not None:
                world.fresh = world.fresh | (1 << token)

    def set_kid_places(self, world):
        """Names the places of the children."""
        if self.aspect == ENTRIES:
            world.places = list(world.places)
            first = self.width * world.site[3] if world.labels else max(world.places)
            for number in range(1, self.width + 1):
                world.places[KID_PLACE + number] = first + number

    def set_up_place(self, world):
        """Names the place of the parent."""
        if self.aspect == ENTRIES and not world.site[0]:
            world.places = list(world.places)
            world.places[UP_PLACE] = parent(world.site[3], self.width) if world.labels else max(world.places) + 1

    def see(self, world, event):
        """Something is met that the search may look for."""
        if self.aspect == USES:
            self.see_with(world, event, [])

    def see_with(self, world, event, facts):
        """Something is met if these facts are added, which can be so."""
        if world.errand is not None:
            world.events = world.events + [event]
        elif not world.over and event not in self.found:
            self.found[event] = self.witness(world.trail, world.facts + facts, world.levels)

    def see_station(self, world):
        """The head of a loop is met; the worlds in which the play goes on."""
        if self.aspect != USES:
            return [world]
        ranks = possible_ranks(world)
        kids = children_at(world.site, world.extra, self.width)
        found = [world]
        # What is met on an errand comes later in the play than what is followed later, so the rank has to be kept.
        if world.errand is not None and len(ranks) > 1:
            found = [World(world) for _ in ranks]
        for at, (rank, facts) in enumerate(ranks):
            one = found[min(at, len(found) - 1)]
            if len(found) > 1:
                for low, high, strict in facts:
                    one.assume(low, high, strict)
            self.see_with(one, ("station", (world.row + 1, kids, world.site[0], rank)), facts)
        return found

    def witness(self, trail, facts, levels):
        """The start and all assumptions under which something happens, or the levels, as `found` tells them."""
        if not self.shape.labels:
            return levels
        found = list(facts)
        while len(trail) == 2:
            found.extend(trail[1])
            trail = trail[0]
        return (trail[0], found)

    def keep_state(self, world):
        """Keeps the world to be followed later, if it is a state that was not met yet."""
        if world.broken and world.broken not in self.wanted:
            return
        trim(self, world)
        if self.follows_items(world) and lost_tokens(world):
            self.spoil(world)
            if world.broken not in self.wanted:
                return
            trim(self, world)
        key = state_of(self, world)
        tied = self.aspect == USES and (world.over or world.errand is not None)
        if tied:
            link = (world.source, world.events, world.facts, world.trail, world.levels)
            self.links.setdefault(key, []).append(link)
        if key in self.states:
            return
        self.states[key] = True
        world.trail = (world.trail, world.facts)
        world.facts = []
        world.events = []
        world.source = key if tied else None
        self.waiting.setdefault(world.levels, []).append(world)

    def join_turns(self):
        """What was seen on errands is met if the way down ends as it was guessed."""
        endings = {}
        waiting = []
        for source, facts in self.ends:
            if source not in endings:
                endings[source] = facts
                waiting.append(source)
        while waiting:
            key = waiting.pop()
            for source, events, facts, trail, levels in self.links[key]:
                ending = facts + endings[key]
                for event in events:
                    self.join_event(event, self.witness(trail, ending, levels))
                if source is not None and source not in endings:
                    endings[source] = ending
                    waiting.append(source)

    def join_event(self, event, witness):
        """What was seen on an errand is met; where levels are told, the fewest ones count."""
        if event not in self.found or (not self.shape.labels and witness < self.found[event]):
            self.found[event] = witness

    def ask_told(self, world):
        """Behind the last line that can tell an item: whether it is the right one; the worlds in which that goes on."""
        token = world.cells[TOLD]
        world.cells[TOLD] = NONE
        world.told_asked = True
        if self.aspect == USES or self.kind not in WITH_TOLD:
            return [world]
        if token < 0:
            self.spoil(world)
            return [world]
        worlds = [world] + self.wrongly_told(world, token)
        for one in worlds:
            if self.follows_items(one):
                self.settle(one, token, TELLING)
        return worlds

    def wrongly_told(self, world, token):
        """The worlds in which the token is not the item that is owed, which is the start's or one that is not less."""
        owed = world.cells[BOUND]
        if self.aspect != ITEMS or world.broken or "told" not in self.wanted or token == owed:
            return []
        other = World(world)
        other.broken = "told"
        if self.kind != "out" and token != world.cells[GIVEN]:
            if (world.le[token] >> owed) & 1:
                return []
            other.assume(owed, token, True)
        return [other]

    def leave_down(self, world, number):
        """The play goes on to the child; the worlds in which it goes on at once, for what it does later here."""
        return descend(self, world, number)

    def leave_up(self, world):
        """The play goes on to the parent."""
        go_up(self, world)

    def enter_loop(self, world):
        """A loop is met from outside; there is nothing to go on with at once."""
        for one in [world] if world.told_asked else self.ask_told(world):
            one.loop = one.row
            one.mate = 0
            one.seen = []
            if not self.shape.tracked and one.extra != self.shape.end_extra:
                self.spoil(one)
            worlds = [one]
            if self.flow.rows[one.row].word == "up" and one.level >= 0:
                worlds = close_kids(self, one, 0, ())
            for two in worlds:
                two.way = 0
                self.keep_state(two)
        return []

    def end_beyond(self, world):
        """The play is beyond."""
        return self.end_early(world, ("inside",))

    def end_endless(self, world):
        """The play is endless."""
        return self.end_early(world, ("ends",))

    def end_early(self, world, event):
        """The play ends and is not done; there is nothing to go on with but for an errand."""
        self.see(world, event)
        if self.aspect == USES and world.errand is not None:
            end_errand(self, world, True)
        return []

    def end_done(self, world):
        """The play is done."""
        for one in [world] if world.told_asked else self.ask_told(world):
            if one.errand is not None:
                end_errand(self, one, True)
            elif not one.over and self.aspect != USES:
                if one.extra != self.shape.end_extra:
                    self.spoil(one)
                self.judge(one)

    def end_turn(self, world):
        """The way down has ended as it was guessed, and the way back leaves the place by the right row."""
        if self.aspect == USES:
            self.ends.append((world.source, world.facts))
        else:
            self.judge(world)

    def judge(self, world):
        """Looks at all that a play leaves that is done; what waits at the start for a way back is looked at, too."""
        worlds = [world] if world.home is None else come_home(self, world)
        for one in worlds:
            for two in leave_behind(self, one, 0, (), False, True):
                self.judge_items(two)

    def judge_items(self, world):
        """Tells which promise is broken in a world in which all items have their places."""
        broken = world.broken
        if world.alive & ~world.placed and broken != "items":
            broken = "items" if broken == "" else "lost"
        if broken == "" and not all([entry_is_right(world, token) for token in list(world.spots)]):
            broken = "places"
        if broken in self.wanted:
            del self.wanted[broken]
            self.found[(broken,)] = self.witness(world.trail, world.facts, world.levels)


def possible_ranks(world):
    """How the hand's item can stand to that of the present place, with the facts that each rank takes."""
    hand = world.cells[HAND]
    here = world.cells[HERE]
    if hand < 0 or here < 0:
        return [(None, [])]
    found = []
    if world.known(hand, here, True) is not False:
        found.append((-1, [(hand, here, True)]))
    if world.known(hand, here, True) is not True and world.known(here, hand, True) is not True:
        found.append((0, [(hand, here, False), (here, hand, False)]))
    if world.known(here, hand, True) is not False:
        found.append((1, [(here, hand, True)]))
    return found
