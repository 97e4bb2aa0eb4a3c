"""What matters of a place in a tree of any size: points [24] to [26].

Let the goal be the place of the last item at the start, for take and out; for the other kinds the
first place behind the list at the start. The *reach* of a place v is the goal less d * v: with so
many places more than up to the goal (`extra`, 0 or -1) the child K is in the list if
K <= reach + extra.

A *site* is a tuple (root, bits, reach, place): whether the place is the place 0; bits as below; the
reach, as exact as it can matter; the place itself, where lists of one size are looked at, else -1.
"""

from heapcode.kinds import LOSING

# The place is the goal; it is on the way to the goal; the place behind it is; the place ahead of it is.
GOAL = 1
WAY = 2
LEFT = 4
RIGHT = 8
# The place lies ahead of the way, and the children of places behind the way, on its level, are in the list, too.
FULL = 16
# Stands for all reaches above the width and one, where the children of the place are not yet decided.
MANY = 1000000


def children_at(site, extra, width):
    """How many children of the place are in the list."""
    return min(max(site[2] + extra, 0), width)


def seen_from_above(site, width):
    """The site with only that told which matters where the play does not go down from it any more."""
    root, bits, reach, place = site
    return (root, bits & (GOAL | WAY), min(reach, width + 1), place)


class AllSizes:
    """The sites of lists of all sizes, and how they lie together."""

    def __init__(self, kind, width):
        self.kind = kind
        self.width = width
        # Where the last item matters the way to it is followed.
        self.tracked = kind in LOSING
        self.labels = 0
        self.first_extra = 0 if self.tracked else -1
        self.end_extra = 0 if kind == "put" else -1

    def first_places(self):
        """The sites that the place 0 can be."""
        if not self.tracked:
            return [(True, 0, reach, -1) for reach in list(range(1, self.width + 2)) + [MANY]]
        more = [(True, WAY, reach, -1) for reach in list(range(1, self.width + 2)) + [MANY]]
        return [(True, GOAL | WAY, 0, -1)] + more

    def starts(self):
        """The pairs of sites that the start and its parent can be; the parent of the place 0 is None."""
        if self.kind == "put":
            found = [((True, GOAL, 0, -1), None)]
            for root in (True, False):
                for reach in range(1, self.width + 1):
                    found.append(((False, GOAL, -1, -1), (root, 0, reach, -1)))
            return found
        first = [(site, None) for site in self.first_places()]
        if self.kind in ("take", "top"):
            return first
        return self.all_places(first)

    def all_places(self, first):
        """All pairs of sites that a place and its parent can be, from those of the place 0."""
        found = {pair: True for pair in first}
        waiting = [site for site, _ in first]
        met = {site: True for site in waiting}
        while waiting:
            above = waiting.pop()
            for way in self.ways_on(above):
                for number in range(1, children_at(above, self.first_extra, self.width) + 1):
                    for site in self.sites_below(above, way, number, LEFT | RIGHT):
                        found[(site, self.clipped(above))] = True
                        if site not in met:
                            met[site] = True
                            waiting.append(site)
        return list(found)

    def clipped(self, site):
        """The site of a parent of the start: of its reach only the number of children matters."""
        root, bits, reach, place = site
        return (root, bits & WAY, min(reach, self.width + 1), place)

    def ways_on(self, site):
        """The numbers of the child to which the way to the goal can go; 0 if this is known or there is none."""
        if self.tracked and site[1] & WAY and site[2] == MANY:
            return list(range(1, self.width + 1))
        # Above a parent of the goal that is known by its reach there is only the place 0, above its child 1.
        return [1] if self.tracked and site[0] and site[2] == self.width + 1 else [0]

    def kid_sites(self, site, way, number, extra):
        """The sites that the child of this number can be."""
        return self.sites_below(site, way, number, RIGHT if extra == 0 else LEFT)

    def sites_below(self, site, way, number, keep):
        """The same; of the bits for what is beside the way those in keep are told."""
        if not self.tracked:
            return self.plain_sites(site, number)
        if site[2] < MANY:
            return [self.exact_site(site, number)]
        if site[1] & WAY:
            return self.sites_at_way(site, way, number, keep)
        side = (LEFT if number == self.width else 0) | (RIGHT if number == 1 else 0)
        return self.sites_of_side(site[1] & side & keep, self.none_beside(site, number))

    def plain_sites(self, site, number):
        """The sites of a child where the way is not followed; a reach below 0 is told as 0."""
        root, _, reach, _ = site
        if reach < MANY:
            return [(False, 0, max(reach - self.width * number, 0) if root else 0, -1)]
        least = 2 if root and number == 1 else 0
        return [(False, 0, below, -1) for below in list(range(least, self.width + 2)) + [MANY]]

    def exact_site(self, site, number):
        """The site of a child of a place whose reach is known."""
        root, bits, reach, _ = site
        if bits & WAY and number == reach:
            return (False, GOAL | WAY, -1, -1)
        below = max(reach - self.width * number, -1) if root else -1
        # Only the child 1 of the place 0 can have the goal as its child here.
        return (False, WAY if below > 0 else 0, below, -1)

    def sites_at_way(self, site, way, number, keep):
        """The sites of a child of a place on the way, from which the way goes to the child `way`."""
        root = site[0]
        if number == way:
            least = 2 if root and number == 1 else 1
            return [(False, WAY, below, -1) for below in list(range(least, self.width + 1)) + [MANY]]
        side = 0
        if number == way - 1 or (root and number == self.width and way == 1):
            side = side | LEFT
        if number == way + 1 or (root and number == 1 and way == self.width):
            side = side | RIGHT
        if number < way:
            return self.sites_of_side(side & keep, [])
        # Where a reach of 0 gives no child it is told all the same: the child ahead may have some by it.
        none = 0 if number == way + 1 and not keep & RIGHT else -1
        return self.sites_of_side(side & keep, [none])

    def none_beside(self, site, number):
        """The reaches that the child of a place beside the way can have if it has no children."""
        if not site[1] & FULL:
            return [-1]
        if self.width > 2:
            return []
        # The child 1 of the place 1, where the place 2 has both children and there are no more.
        return [0] if number == 1 else [-1]

    def sites_of_side(self, side, without):
        """The sites of a place beside the way with these bits; those without children have the reaches told."""
        found = [(False, side, MANY, -1)] + [(False, 0, reach, -1) for reach in without]
        if side & LEFT:
            found.append((False, LEFT, self.width + 1, -1))
        if side & RIGHT and without:
            found.append((False, RIGHT, 0, -1))
        return found

    def up_sites(self, site):
        """The sites that the parent of a place above the start can be."""
        if not self.tracked:
            return [(False, 0, MANY, -1), (True, 0, MANY, -1)]
        found = [(False, WAY, MANY, -1), (True, WAY, MANY, -1)]
        if site[1] & WAY:
            return found
        return [(False, 0, MANY, -1)] + found

    def split_sites(self, site, way, number, group):
        """The sites of the child one by one, with those added by which more can be told of children beside it."""
        found = list(group)
        if self.tracked and site[1] & WAY and site[2] == MANY and number < way and (site[0] or self.width > 2):
            found.extend([(False, below[1] | FULL, MANY, -1) for below in group if below[2] == MANY])
        return found

    def may_have_kids(self, site, way, number, below, other):
        """Whether a child `other` can have children at the end, where the child `number` is the site below."""
        if site[2] < MANY:
            return site[0] and site[2] - self.width * other + self.end_extra >= 1
        if self.tracked and below[2] <= 0:
            # The children of the place lie on the last level but one, if the way goes through one of them.
            if not site[1] & WAY or other > way:
                return False
            if other < way:
                return True
        if self.tracked and site[1] & WAY and number < way and not below[1] & FULL:
            if other > way or (other == way and site[0] and self.width == 2):
                return False
        return below[2] + self.width * (number - other) + self.end_extra >= 1
