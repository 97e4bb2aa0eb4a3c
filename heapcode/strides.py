"""Strides: one play of put, take or top is followed from place to place, as point [30] tells.

A *step* is all that a play does at one place; a *state* is what matters of a world that comes to a
place. The steps that can follow a state do not depend on how the place lies in the tree otherwise,
so they are worked out once for lists of all sizes, and a walk over a tree (walks.py) joins them.
"""

from heapcode.looks import forget_kids
from heapcode.moves import run_errand
from heapcode.search import USES, Search
from heapcode.shapes import AllSizes
from heapcode.starts import first_world
from heapcode.states import live_tokens, state_of, trim
from heapcode.trees import above
from heapcode.worlds import (
    BOUND, HERE, KID, KID_BOUND, LOW, NEXT, NEXT_BOUND, NEXT_UP, NONE, TOLD, UNSEEN, UP, UP_AT_END, UP_BOUND, World,
)

# How a step ends: the play goes to a child or to the parent, or it ends; or two plays part.
DOWN = "down"
UPWARD = "up"
END = "end"
PART = "part"


class Step:
    """A step: how it ends, the number of the child that it goes to, and the world behind it.

    `links` tells for each site at which the play arrives the number of the state there, and the
    tokens of this world that the tokens 0, 1, .. of the state are.
    """

    def __init__(self, ending, number, world):
        self.ending = ending
        self.number = number
        self.world = world
        self.links = {}


class Stride(Search):
    """The states and steps of the plays of one code."""

    def __init__(self, code):
        Search.__init__(self, code, AllSizes(code.kind, code.width), USES, ())
        self.traced = True
        self.worlds = []
        self.numbers = {}
        self.known_steps = {}
        self.taken = []

    def world_at_start(self, site):
        """The world in which a play begins that starts at the site."""
        return first_world(self, site, None if site[0] else above(False))

    def begin(self, site):
        """The number of the state in which a play begins that starts at the site."""
        return self.number_of(("begin", site), self.world_at_start(site))

    def number_of(self, key, world):
        """The number of the state with the key; the world is kept for it if it is new."""
        if key not in self.numbers:
            self.numbers[key] = len(self.worlds)
            self.worlds.append(world)
        return self.numbers[key]

    def steps_from(self, number, way):
        """The steps that can follow the state, where the way to the last place goes to the child told as way."""
        if (number, way) not in self.known_steps:
            world = World(self.worlds[number])
            world.way = way
            self.known_steps[(number, way)] = self.steps_of(world)
        return self.known_steps[(number, way)]

    def steps_of(self, world):
        """The steps that can follow in the world."""
        self.taken = []
        self.follow(world)
        return self.taken

    def arrive(self, step, site):
        """The number of the state in which the step comes to the site."""
        if site not in step.links:
            world = moved(step, site)
            trim(self, world)
            live = live_tokens(world)
            key = state_of(self, world)
            step.links[site] = (self.number_of(key, world), live)
        return step.links[site][0]

    def see(self, world, event):
        """What is met is not told here."""

    def see_station(self, world):
        """The head of a loop is met; what can be seen there is not told here."""
        return [world]

    def enter_loop(self, world):
        """A loop is met from outside, and the play goes on within the step."""
        world.loop = world.row
        world.mate = 0
        world.seen = []
        return [world]

    def leave_down(self, world, number):
        """The play goes on to the child; the worlds for what it does later here, if it comes back in a turn."""
        if world.back < 0:
            one = World(world)
            one.cells[NEXT] = one.cells[KID + number]
            one.cells[NEXT_BOUND] = one.cells[KID_BOUND + number]
            one.cells[NEXT_UP] = one.cells[HERE]
            one.row = self.flow.after[world.row]
            self.taken.append(Step(DOWN, number, one))
        found = []
        for back in self.turns[world.loop]:
            found.extend(run_errand(self, World(world), number, (), back))
        return found

    def leave_up(self, world):
        """The play goes on to the parent."""
        if world.level <= 0:
            world.row = self.flow.after[world.row]
            self.taken.append(Step(UPWARD, 0, world))
        elif world.back == world.row:
            if world.errand is not None:
                self.finish_errand(world)
            else:
                self.taken.append(Step(END, 0, world))

    def finish_errand(self, world):
        """What the way back does here is known; goes on with the way down, to the child."""
        number, back, row, loop, extra, _ = world.errand
        world.extra = extra
        world.errand = None
        world.back = back
        world.over = True
        world.loop = loop
        world.row = row
        self.taken.append(Step(DOWN, number, world))

    def end_play_here(self, world, manner):
        """The play ends in this manner, unless it was guessed otherwise."""
        if world.errand is None:
            if not world.over:
                world.manner = manner
                world.last_extra = world.extra
                self.taken.append(Step(END, 0, world))
        elif world.level == 0 or world.back < 0:
            world.manner = manner
            world.last_extra = world.extra
            self.finish_errand(world)

    def end_early(self, world, event):
        """The play ends and is not done."""
        self.end_play_here(world, "beyond" if event == ("inside",) else "endless")
        return []

    def end_done(self, world):
        """The play is done."""
        self.end_play_here(world, "done")


def moved(step, site):
    """The world in which the play has come to the site by the step."""
    world = World(step.world)
    cells = world.cells
    if step.ending == DOWN:
        move_down(cells)
        world.level = 1
    else:
        move_up(cells, site)
        world.level = -1
    cells[UP_BOUND] = cells[UP_AT_END] = cells[LOW] = cells[TOLD] = NONE
    forget_kids(world)
    world.site = site
    world.up_site = None if step.ending == DOWN or site[0] else above(False)
    world.mate = 0
    world.way = 0
    world.seen = []
    world.kids_open = True
    world.up_open = False
    settle_trace(world)
    return world


def move_down(cells):
    """The child becomes the present place."""
    cells[HERE] = cells[NEXT]
    cells[BOUND] = cells[NEXT_BOUND]
    cells[UP] = cells[NEXT_UP]
    cells[NEXT] = cells[NEXT_BOUND] = cells[NEXT_UP] = NONE


def move_up(cells, site):
    """The parent becomes the present place, at the site."""
    cells[HERE] = cells[UP]
    cells[BOUND] = cells[UP_BOUND]
    cells[UP] = NONE if site[0] else UNSEEN


def settle_trace(world):
    """A new state begins: what happened ahead of it is kept elsewhere."""
    world.origins = []
    world.facts = []
    world.compares = 0
