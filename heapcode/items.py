"""Lists of items as trees: parents, children, and whether a list is a heap."""


def parent(place, width):
    """The parent of the place, or None for the place 0."""
    if place == 0:
        return None
    return (place - 1) // width


def child(place, number, width):
    """The child of this number, from 1 to the width, of the place."""
    return width * place + number


def first_fault(items, width):
    """The least place whose item is less than that of its parent, or None."""
    for place in range(1, len(items)):
        if items[place][0] < items[parent(place, width)][0]:
            return place
    return None


def is_heap(items, width):
    """Whether no item of the list is less than that of its parent."""
    return first_fault(items, width) is None
