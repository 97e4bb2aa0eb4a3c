"""Walks: the steps of plays joined along the levels of a tree.

A walker (strides.py, twins.py) tells the steps; a tree (trees.py) tells how its places lie. What was
walked to come to a state is kept as a *track*: None, or a tuple (track ahead, step, site), the site
being that at which the step arrives, None for the last step.
"""

from heapcode.strides import DOWN, END, PART, UPWARD


def first_nodes(walker, tree):
    """The pairs (state, position) with which plays begin."""
    return [(walker.begin(tree.site_at(position)), position) for position in tree.starts()]


def steps_at(walker, tree, node):
    """All pairs (step, position at which it arrives, None if it goes nowhere) from the node."""
    state, position = node
    found = []
    for way in tree.ways_from(position):
        for step in walker.steps_from(state, way):
            goals = [None]
            if step.ending == DOWN:
                goals = tree.kids(position, way, step.number)
            elif step.ending == UPWARD:
                goals = tree.parents(position)
            found.extend([(step, goal) for goal in goals])
    return found


def longest(walker, tree):
    """The most comparisons of a play in the tree, and the track of such a play."""
    best = (-1, None)
    level = {node: (0, None) for node in first_nodes(walker, tree)}
    while level:
        below = {}
        for node, (count, track) in level.items():
            for step, goal in steps_at(walker, tree, node):
                total = count + step.world.compares
                if step.ending == END and total > best[0]:
                    best = (total, (track, step, None))
                if goal is not None:
                    site = tree.site_at(goal)
                    arrival = (walker.arrive(step, site), goal)
                    if arrival not in below or below[arrival][0] < total:
                        below[arrival] = (total, (track, step, site))
        level = below
    return best


def nearest_parting(walker, tree):
    """The least number of levels ahead of a step by which two plays part, with its track; or None."""
    levels = 0
    level = {node: None for node in first_nodes(walker, tree)}
    met = {node: True for node in level}
    while level:
        below = {}
        for node, track in level.items():
            for step, goal in steps_at(walker, tree, node):
                if step.ending == PART:
                    return (levels, (track, step, None))
                if goal is not None:
                    site = tree.site_at(goal)
                    arrival = (walker.arrive(step, site), goal)
                    if arrival not in met:
                        met[arrival] = True
                        below[arrival] = (track, step, site)
        level = below
        levels += 1
    return None
