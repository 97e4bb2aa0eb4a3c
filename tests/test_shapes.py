"""Points [24] to [26]: the sites of all sizes against those of many single sizes."""

import unittest

from heapcode.shapes import GOAL, WAY, AllSizes, children_at
from heapcode.sizes import OneSize


def seen(shape, site, extra):
    """What a play, and what is known of keys, can tell of a site."""
    root, bits, reach, _ = site
    way = bits & WAY if shape.tracked else 0
    return root, bits & GOAL, way, max(-1, min(reach + extra, shape.width + 1))


def known_way(shape, site):
    """The child to which the way goes, where it is not told by the reach."""
    if not shape.tracked or not site[1] & WAY or site[2] <= shape.width:
        return [0]
    return shape.ways_on(site)


def kids_of(shape, site, extra):
    """For each child: its number, the way, a site that it can be, and a child beside it that can have children."""
    for way in known_way(shape, site):
        for number in range(1, children_at(site, extra, shape.width) + 1):
            sites = shape.kid_sites(site, way, number, extra)
            for below in shape.split_sites(site, way, number, sites):
                beside = [other for other in range(1, shape.width + 1) if other != number]
                yield number, way, below, 0
                for other in beside:
                    if shape.may_have_kids(site, way, number, below, other):
                        yield number, way, below, other


def paths_down(shape, site, extra, levels):
    """All that can be seen on the ways down from a site, as a set of tuples."""
    found = {(seen(shape, site, extra),)}
    if levels:
        for number, way, below, other in kids_of(shape, site, extra):
            for path in paths_down(shape, below, extra, levels - 1):
                found.add((seen(shape, site, extra), number, way, other) + path)
    return found


def paths_up(shape, site, extra, low_counts, levels):
    """All that can be seen on the ways up from the site of a parent."""
    if site is None or not levels:
        return {()}
    more = children_at(site, shape.end_extra, shape.width) > low_counts
    here = (seen(shape, site, extra)[:3], children_at(site, extra, shape.width), more)
    if site[0]:
        return {(here,)}
    found = {(here,)}
    for above in shape.up_sites(site):
        found |= {(here,) + path for path in paths_up(shape, above, extra, True, levels - 1)}
    return found


def paths_of_starts(shape, extra, down, up):
    """All that can be seen below and above all starts, together."""
    found = set()
    for site, above in shape.starts():
        low_counts = not site[1] & GOAL or shape.end_extra >= 0
        for path in paths_up(shape, above, extra, low_counts, up):
            found |= {(path, below) for below in paths_down(shape, site, extra, down)}
    return found


class TestShapes(unittest.TestCase):

    def check(self, kind, width, sizes, down, up):
        for extra in (0, -1) if kind in ("take", "out", "put") else (-1,):
            single = set()
            for size in range(sizes):
                single |= paths_of_starts(OneSize(kind, width, size), extra, down, up)
            told = paths_of_starts(AllSizes(kind, width), extra, down, up)
            self.assertEqual(single, told, (kind, width, extra))

    def test_width_2(self):
        self.check("take", 2, 140, 3, 0)
        self.check("top", 2, 140, 3, 0)
        self.check("put", 2, 140, 0, 4)
        self.check("out", 2, 75, 1, 2)
        self.check("tree", 2, 75, 1, 2)

    def test_width_3(self):
        self.check("take", 3, 130, 2, 0)
        self.check("top", 3, 130, 2, 0)
        self.check("put", 3, 130, 0, 3)
        self.check("out", 3, 130, 0, 2)
        self.check("tree", 3, 130, 1, 1)

    def test_width_4(self):
        self.check("take", 4, 350, 2, 0)
        self.check("top", 4, 350, 2, 0)
        self.check("put", 4, 90, 0, 2)


class TestLevels(unittest.TestCase):

    def test_the_last_places_of_full_levels(self):
        for width, ends in ((2, (1, 3, 7, 15)), (3, (1, 4, 13, 40))):
            for end in ends:
                for size in range(max(end - 2, 1), end + 3):
                    shape = OneSize("take", width, size)
                    for place in range(size):
                        for extra in (0, -1):
                            kids = [kid for kid in range(width * place + 1, width * place + width + 1) if kid < size + extra]
                            self.assertEqual(children_at(shape.site_of(place), extra, width), len(kids))

    def test_the_way_to_the_last_place(self):
        shape = OneSize("out", 2, 12)
        self.assertEqual([place for place in range(12) if shape.site_of(place)[1] & WAY], [0, 2, 5, 11])
        self.assertEqual([place for place in range(12) if shape.site_of(place)[1] & GOAL], [11])
        self.assertEqual([shape.ways_on(shape.site_of(place)) for place in (0, 2, 5, 11, 1)], [[2], [1], [1], [0], [0]])


if __name__ == "__main__":
    unittest.main()
