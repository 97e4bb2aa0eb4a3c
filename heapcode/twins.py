"""Twins: two plays on one list are followed together, place by place, as long as they are on one path.

What is known of keys is known for both; each has cells of its own, as each writes to a list of its
own. At each place one play is followed until it leaves it, and then the other one. A play that has
ended *stays*: its world goes along with the other one, for what it has left at the places to come.
"""

from heapcode.looks import forget_kids, is_goal_kid
from heapcode.shapes import GOAL, WAY
from heapcode.states import live_tokens, renumber, trim
from heapcode.strides import DOWN, END, PART, UPWARD, Step, Stride, moved, settle_trace
from heapcode.worlds import (
    HERE, KID, KID_BOUND, LAST, LAST_BOUND, NONE, TOLD, UNSEEN, UP, UP_BOUND, World,
)

# How the step of a play that has ended at another place ends, and the row at which it is.
STAY = "stay"
NOWHERE = -1


class Twin:
    """Two worlds at one place, and how the lists that the plays leave are known to differ.

    `apart` tells that they differ, or the told items do, whatever comes; `apart_last` that they differ
    at the goal, which counts if this is a place of both lists at the end.
    """

    def __init__(self, one, two, apart, apart_last):
        self.one = one
        self.two = two
        self.apart = apart
        self.apart_last = apart_last


class TwinStep(Step):
    """A step of two plays; the twin is what there is behind it, first and second are the steps of the plays."""

    def __init__(self, ending, number, twin, first, second):
        Step.__init__(self, ending, number, twin.two)
        self.twin = twin
        self.first = first
        self.second = second


class Twins:
    """The states and steps of the plays of two codes of one kind and width."""

    def __init__(self, code, other):
        self.one = Stride(code)
        self.two = Stride(other)
        self.tracked = self.one.shape.tracked
        self.twins = []
        self.numbers = {}
        self.known_steps = {}

    def begin(self, site):
        """The number of the state in which both plays begin at the site."""
        world = self.one.world_at_start(site)
        return self.number_of(("begin", site), Twin(world, World(world), False, False))

    def number_of(self, key, twin):
        """The number of the state with the key; the twin is kept for it if it is new."""
        if key not in self.numbers:
            self.numbers[key] = len(self.twins)
            self.twins.append(twin)
        return self.numbers[key]

    def steps_from(self, number, way):
        """The steps that can follow the state, where the way to the last place goes to the child told as way."""
        if (number, way) not in self.known_steps:
            self.known_steps[(number, way)] = self.steps_of(self.twins[number], way)
        return self.known_steps[(number, way)]

    def steps_of(self, twin, way):
        """The steps that can follow the twin."""
        found = []
        for first in steps_of_play(self.one, World(twin.one), way):
            two = World(twin.two)
            self.share(two, first.world)
            for second in steps_of_play(self.two, two, way):
                one = World(first.world)
                self.share(one, second.world)
                found.extend(self.pair_up(twin, Step(first.ending, first.number, one), second))
        return found

    def share(self, world, other):
        """Tells the world what the other one has learned, and the items that it has met where they lay at the start."""
        world.le = other.le
        world.lt = other.lt
        world.alive = other.alive
        world.origins = other.origins
        world.facts = other.facts
        cells = world.cells
        for number in range(1, 5):
            if cells[KID + number] == UNSEEN and not is_goal_kid(self.one, world, number):
                if other.cells[KID_BOUND + number] >= 0:
                    cells[KID + number] = cells[KID_BOUND + number] = other.cells[KID_BOUND + number]
        if cells[UP] == UNSEEN and other.cells[UP_BOUND] >= 0:
            cells[UP] = cells[UP_BOUND] = other.cells[UP_BOUND]

    def pair_up(self, twin, first, second):
        """The step that the two steps make together, as a list; none if it is no pair of plays."""
        ending, number = joint_ending(first, second)
        if ending == PART and (first.world.over or second.world.over):
            # Ahead of all that was guessed the same two ways are parted, too.
            return []
        apart = twin.apart or self.parts_here(first.world, second.world, number)
        apart_last = twin.apart_last or parts_at_goal(first.world, second.world)
        if ending == END:
            apart_last = apart_last or self.last_item(first.world) != self.last_item(second.world)
            # Above a play of put that ends here its parent can have got another item, and no place further up.
            apart = apart or (self.one.kind == "put" and first.world.cells[UP] != second.world.cells[UP])
            if not parted(first.world, second.world, apart, apart_last):
                return []
            ending = PART
        return [TwinStep(ending, number, Twin(first.world, second.world, apart, apart_last), first, second)]

    def parts_here(self, one, two, number):
        """Whether the lists differ at places that are left now: the present one and its children but that to skip."""
        if one.cells[TOLD] != two.cells[TOLD]:
            return True
        if not one.site[1] & GOAL and one.cells[HERE] != two.cells[HERE]:
            return True
        kids = [kid for kid in range(1, 5) if kid != number and not is_goal_kid(self.one, one, kid)]
        return any([one.cells[KID + kid] != two.cells[KID + kid] for kid in kids])

    def last_item(self, world):
        """What is left at the goal, if the play comes near it no more."""
        if not self.tracked:
            return NONE
        if world.site[1] & GOAL:
            return world.cells[HERE]
        near = [kid for kid in range(1, 5) if is_goal_kid(self.one, world, kid) and world.cells[KID + kid] >= 0]
        return world.cells[KID + near[0]] if near else world.cells[LAST]

    def arrive(self, step, site):
        """The number of the state in which the step comes to the site."""
        if site not in step.links:
            apart_last = step.twin.apart_last
            if self.tracked and not site[1] & WAY:
                apart_last = apart_last or self.last_item(step.twin.one) != self.last_item(step.twin.two)
            one = self.come(step.first, step, site)
            two = self.come(step.second, step, site)
            twin = Twin(one, two, step.twin.apart, apart_last)
            settle(twin)
            self.trim_both(one, two)
            live = list({token: True for token in live_tokens(one) + live_tokens(two)})
            renumber(one, live)
            renumber(two, live)
            step.links[site] = (self.number_of(key_of(twin), twin), live)
        return step.links[site][0]

    def come(self, part, step, site):
        """The world of one of the plays where the step of both has come to the site."""
        if part.ending == step.ending:
            return moved(part, site)
        world = World(part.world)
        item = world.cells[UP]
        last = NONE
        if step.ending == DOWN:
            goal = is_goal_kid(self.one, world, step.number)
            item = self.last_item(world) if goal else world.cells[KID + step.number]
            if site[1] & WAY and not goal:
                last = world.cells[LAST]
        world.cells = [NONE] * len(world.cells)
        forget_kids(world)
        world.cells[HERE] = item
        world.cells[LAST] = last
        if step.ending == UPWARD and not site[0]:
            world.cells[UP] = UNSEEN
        world.row = world.loop = world.back = NOWHERE
        world.over = False
        world.extra = world.last_extra
        world.site = site
        settle_trace(world)
        return world

    def trim_both(self, one, two):
        """Forgets what does not matter any more; the last place's first item matters for both or for none."""
        last = max(one.cells[LAST_BOUND], two.cells[LAST_BOUND])
        for stride, world in ((self.one, one), (self.two, two)):
            if not has_stayed(world):
                trim(stride, world)
            if self.tracked and not world.site[1] & WAY:
                world.cells[LAST] = NONE
            world.cells[LAST_BOUND] = NONE
        if last >= 0 and one.site[1] & WAY:
            tokens = live_tokens(one) + live_tokens(two)
            if any([(one.le[last] >> token) & 1 for token in tokens]):
                one.cells[LAST_BOUND] = two.cells[LAST_BOUND] = last


def has_stayed(world):
    """Whether the play of the world has ended at another place."""
    return world.row == NOWHERE


def steps_of_play(stride, world, way):
    """The steps of one of the plays that can follow in the world."""
    if has_stayed(world):
        return [Step(STAY, 0, world)]
    world.way = way
    return stride.steps_of(world)


def joint_ending(first, second):
    """How the step of two plays ends that they make by these steps, and to which child it goes."""
    if first.ending == second.ending == DOWN and first.number != second.number:
        return (PART, 0)
    for ending in (DOWN, UPWARD):
        for step in (first, second):
            if step.ending == ending:
                return (ending, step.number)
    return (END, 0)


def parts_at_goal(one, two):
    """Whether the plays are at the goal and leave other items there."""
    return bool(one.site[1] & GOAL) and one.cells[HERE] != two.cells[HERE]


def may_keep_last(world):
    """Whether the goal can be a place of the list at the end."""
    return (world.extra if world.manner == "" else world.last_extra) == 0


def parted(one, two, apart, apart_last):
    """Whether two plays that have ended are not alike."""
    if one.manner != two.manner:
        return True
    if one.manner != "done":
        return False
    return apart or one.last_extra != two.last_extra or (apart_last and one.last_extra == 0)


def settle(twin):
    """Forgets of the differences what does not matter any more, and then what those that have ended have left."""
    one = twin.one
    two = twin.two
    done = one.manner in ("", "done") and two.manner in ("", "done")
    if not done:
        twin.apart = False
    if not done or twin.apart or not (may_keep_last(one) and may_keep_last(two)):
        twin.apart_last = False
    if not done or twin.apart:
        for world in (one, two):
            if has_stayed(world):
                world.cells[HERE] = world.cells[LAST] = NONE


def view_of(world):
    """What matters of one of the worlds of a state, but for the keys."""
    return (
        world.row, world.loop, world.extra, world.back, world.over, world.manner, world.last_extra, tuple(world.cells),
    )


def key_of(twin):
    """The key of a state."""
    one = twin.one
    return (one.site, view_of(one), view_of(twin.two), twin.apart, twin.apart_last, tuple(one.le), tuple(one.lt))
