"""The places of lists of one size, told as sites: see shapes.py."""

from heapcode.items import parent
from heapcode.kinds import LOSING
from heapcode.shapes import GOAL, WAY


class OneSize:
    """The sites of lists of one size, and how they lie together."""

    def __init__(self, kind, width, size):
        self.kind = kind
        self.width = width
        self.size = size
        self.tracked = kind in LOSING
        # The items by their places, the given one, and the bound of a start that is not its item's key.
        self.labels = size + 2
        self.first_extra = 0 if self.tracked else -1
        self.end_extra = 0 if kind == "put" else -1
        self.goal = size - 1 if self.tracked else size
        self.turnings = self.way_to_goal() if self.tracked else {}

    def way_to_goal(self):
        """From each place on the way to the goal the number of the child to which it goes on; 0 at the goal."""
        found = {self.goal: 0}
        place = self.goal
        while place > 0:
            above = parent(place, self.width)
            found[above] = place - self.width * above
            place = above
        return found

    def site_of(self, place):
        """The site of a place."""
        bits = 0
        if place in self.turnings:
            bits = WAY
        if place == self.goal and (self.tracked or self.kind == "put"):
            bits = bits | GOAL
        return (place == 0, bits, self.goal - self.width * place, place)

    def starts(self):
        """The pairs of sites that the start and its parent can be; the parent of the place 0 is None."""
        if self.kind == "put":
            places = [self.size]
        elif self.kind in ("take", "top"):
            places = [0] if self.size else []
        else:
            places = list(range(self.size))
        return [(self.site_of(place), self.site_above(place)) for place in places]

    def site_above(self, place):
        """The site of the parent of a place, or None."""
        above = parent(place, self.width)
        return None if above is None else self.site_of(above)

    def ways_on(self, site):
        """The number of the child to which the way to the goal goes, or 0, as a list."""
        return [self.turnings.get(site[3], 0)]

    def kid_sites(self, site, way, number, extra):
        """The site of the child of this number, as a list."""
        return [self.site_of(self.width * site[3] + number)]

    def up_sites(self, site):
        """The site of the parent, as a list."""
        return [self.site_of(parent(site[3], self.width))]

    def split_sites(self, site, way, number, group):
        """The same: there is nothing to be split."""
        return list(group)

    def may_have_kids(self, site, way, number, below, other):
        """Whether the child `other` has children at the end."""
        return self.goal - self.width * (self.width * site[3] + other) + self.end_extra >= 1
