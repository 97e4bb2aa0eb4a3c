"""Trees as plays go through them: positions, and the sites (shapes.py) that a play can tell there.

A *position* stands for places that no play can tell from one another, whatever it does later. Plays of
put start behind the last place and go up; of their places only the start and the place 0 can be told.
The place in a site is told as 0, so that a token is labelled by the number of the child it comes from.
"""

from heapcode.items import child, parent
from heapcode.kinds import LOSING
from heapcode.shapes import FULL, GOAL, LEFT, MANY, RIGHT, WAY, AllSizes


def behind_last(root):
    """The site where plays of put start."""
    return (root, GOAL, 0 if root else -1, 0)


def above(root):
    """The site of a place from which a play does not go down any more: only the place 0 can be told."""
    return (root, 0, MANY, 0)


class AnyTree:
    """The trees of the lists of all sizes; the positions are sites with all that is told of neighbours of the way."""

    def __init__(self, kind, width):
        self.kind = kind
        self.shape = AllSizes(kind, width)

    def starts(self):
        """The positions at which plays can start."""
        return [behind_last(True), behind_last(False)] if self.kind == "put" else self.shape.first_places()

    def site_at(self, position):
        """What a play can tell at the position."""
        root, bits, reach, _ = position
        return (root, bits & (GOAL | WAY), reach, 0)

    def ways_from(self, position):
        """The numbers of the child to which the way to the last place can go; 0 where this is known."""
        return self.shape.ways_on(position)

    def kids(self, position, way, number):
        """The positions that the child of this number can have."""
        found = self.shape.sites_below(position, way, number, LEFT | RIGHT)
        if not self.shape.tracked or self.shape.width > 2 or not position[0] or position[2] < MANY:
            return found
        # The places 1 and 2 are all of their level, so one tells more of the other than neighbours do elsewhere.
        if (way, number) == (1, 2):
            return [site for site in found if site[2] >= 0]
        if (way, number) == (2, 1):
            return [(False, site[1] | FULL if site[2] == MANY else site[1], site[2], -1) for site in found]
        return found

    def parents(self, position):
        """The positions that the parent can have."""
        return [above(False), above(True)]


class OneTree:
    """The tree of the lists of one size; the positions are pairs (level, place)."""

    def __init__(self, kind, width, size):
        self.kind = kind
        self.width = width
        self.size = size
        self.tracked = kind in LOSING
        self.goal = size - 1 if self.tracked else size
        # The places on the way to the goal, and the first places of the levels, to one behind the goal's.
        self.line = self.line_to_goal()
        self.firsts = [0]
        for _ in self.line:
            self.firsts.append(child(self.firsts[-1], 1, width))

    def line_to_goal(self):
        """The places on the way from the place 0 to the goal."""
        places = []
        place = self.goal
        while place is not None:
            places.append(place)
            place = parent(place, self.width)
        return places[::-1]

    def starts(self):
        """The position at which plays start, as a list."""
        return [(0, self.size if self.kind == "put" else 0)]

    def site_at(self, position):
        """What a play can tell at the position."""
        level, place = position
        if self.kind == "put":
            return behind_last(place == 0) if place == self.goal else above(place == 0)
        bits = 0
        if self.tracked and place == self.line[level]:
            bits = GOAL | WAY if place == self.goal else WAY
        reach = self.goal - self.width * place
        return (place == 0, bits, MANY if reach > self.width + 1 else max(reach, -1), 0)

    def ways_from(self, position):
        """The number of the child to which the way to the last place goes, or 0, as a list."""
        level, place = position
        if not self.tracked or place != self.line[level] or self.goal <= self.width * (place + 1):
            return [0]
        return [self.line[level + 1] - self.width * place]

    def kids(self, position, way, number):
        """The position of the child of this number, as a list."""
        level, place = position
        return [(level + 1, self.likeness(level + 1, child(place, number, self.width)))]

    def parents(self, position):
        """The position of the parent, as a list."""
        return [(0, parent(position[1], self.width))]

    def likeness(self, level, place):
        """The place, or one on its level from which all looks the same: far from the way and from the level's ends."""
        first = self.firsts[level]
        turn = self.line[level]
        if place == first or place == self.firsts[level + 1] - 1 or turn - 1 <= place <= turn + 1:
            return place
        return first + 1 if place < turn else turn + 2
