"""Keys for a walk: what its steps assumed, told of the places of the tree, and the least keys that fit."""

from heapcode.items import child, parent
from heapcode.strides import DOWN
from heapcode.worlds import FROM_GIVEN, FROM_LAST, FROM_PARENT, FROM_START


def steps_in_order(track):
    """The pairs (step, site) of a track, from the first one."""
    found = []
    while track is not None:
        track, step, site = track
        found.append((step, site))
    return found[::-1]


def label_of(tree, place, origin):
    """The place where an item lay that is met at the place; the size of the list for the given one."""
    if origin == FROM_GIVEN:
        return tree.size
    if origin == FROM_LAST:
        return tree.size - 1
    if origin == FROM_PARENT:
        return parent(place, tree.width)
    return place if origin == FROM_START else child(place, origin, tree.width)


def labelled_facts(tree, track):
    """The labels of all items that are met, as a dict of True, and the facts (low, high, strict) about them."""
    place = tree.starts()[0][1]
    labels = []
    met = {}
    facts = []
    for step, site in steps_in_order(track):
        labels = labels + [label_of(tree, place, origin) for origin in step.world.origins]
        met.update({label: True for label in labels})
        facts.extend([(labels[low], labels[high], strict) for low, high, strict in step.world.facts])
        if site is not None:
            labels = [labels[token] for token in step.links[site][1]]
            place = child(place, step.number, tree.width) if step.ending == DOWN else parent(place, tree.width)
    return met, facts


def with_forebears(tree, met):
    """The labels with all forebears of the places among them, the least ones first."""
    found = {}
    for label in met:
        place = label if label < tree.size else None
        found[label] = True
        while place is not None and parent(place, tree.width) not in found:
            place = parent(place, tree.width)
            if place is not None:
                found[place] = True
    return sorted(found)


def heap_facts(tree, labels):
    """What follows for the places among the labels as the list is a heap."""
    pairs = [(parent(label, tree.width), label) for label in labels if 0 < label < tree.size]
    return [(above, label, False) for above, label in pairs]


def least_keys_of(labels, facts):
    """The least keys from 0 for which the facts hold, as a dict; they do not contradict each other."""
    keys = {label: 0 for label in labels}
    above = {label: [] for label in labels}
    for low, high, strict in facts:
        above[low].append((high, 1 if strict else 0))
    waiting = list(labels)
    while waiting:
        raised = {}
        for low in waiting:
            for high, more in above[low]:
                if keys[high] < keys[low] + more:
                    keys[high] = keys[low] + more
                    raised[high] = True
        waiting = sorted(raised)
    return keys


def keys_of_track(tree, track):
    """Keys for the walk: (told, rest, given), as `worst` tells them."""
    met, facts = labelled_facts(tree, track)
    labels = with_forebears(tree, met)
    keys = least_keys_of(labels, heap_facts(tree, labels) + facts)
    told = {label: keys[label] for label in labels if label < tree.size}
    rest = max(list(told.values()), default=-1) + 1
    return (told, rest, keys.get(tree.size, 0))
