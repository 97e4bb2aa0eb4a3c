"""The plain second player on lists of any size, of which only some keys are told."""

from tests.second import Second


class Sparse(Second):
    """A play on a list of so many items: the key of a place is the told one, or else the rest; its mark the place."""

    def __init__(self, width, nodes, count, told, rest, start, given):
        self.count, self.keys, self.rest = count, told, rest
        super().__init__(width, nodes, {}, start, given)

    def begin(self, things):
        self.things = things
        self.table = {}

    def length(self):
        return self.count

    def lengthen(self, thing):
        self.things[self.count] = thing
        self.count += 1

    def shorten(self):
        self.count -= 1

    def first_thing(self, place):
        return (self.keys.get(place, self.rest), place)

    def picture(self):
        # What was only looked at is no change.
        changed = [(place, thing) for place, thing in self.things.items() if thing != self.first_thing(place)]
        return self.count, frozenset(changed)

    def at(self, place):
        if place is not None and 0 <= place < self.count and place not in self.things:
            self.things[place] = self.first_thing(place)
        return super().at(place)
