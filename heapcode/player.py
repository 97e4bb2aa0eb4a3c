"""The player: follows a code line by line on a list of items."""

from heapcode.items import child, parent
from heapcode.rows import LOOPS

# By how many places the list is looked at as longer by `has K`, `has K less` and `has K more`.
SHIFTS = {"": 0, "less": -1, "more": 1}


class Player:
    """One play of a code, from its first line until it has ended.

    The start is right for the kind of the code and for the list.
    """

    def __init__(self, code, items, start, given):
        self.flow = code.flow
        self.width = code.width
        self.row = list(items)
        self.start = start
        self.given = given
        # The entries that the play writes to the table.
        self.noted = {}
        self.place = start
        self.hand = None
        self.mate = None
        self.told = None
        self.compares = 0
        self.ended = None
        # The row that comes next, the loop that was met last, and what was seen at its head at this place.
        self.at = 0
        self.loop = -1
        self.met = []
        self.used = {}
        self.sides_seen = {}
        self.stations_met = []

    def item(self, place):
        """The item at the place, or None if this is none of the list."""
        if place is None or place >= len(self.row):
            return None
        return self.row[place]

    def mate_place(self):
        """The place of the mate, or None."""
        if self.flow.rows[self.loop].word == "up":
            return parent(self.place, self.width)
        return self.mate

    def move(self, place):
        """Makes the place the present one; what was seen at another place does not come again."""
        self.place = place
        self.mate = None
        self.met = []

    def run(self):
        """Plays until the end."""
        while self.ended is None:
            if self.at == self.flow.size:
                self.ended = "done"
            else:
                self.step(self.flow.rows[self.at])

    def step(self, row):
        """Plays the row that comes next."""
        if row.word in LOOPS and not self.meet_head():
            return
        self.used[self.at + 1] = True
        if row.test:
            self.branch(row.test)
        elif row.word == "quit":
            self.ended = "done"
        elif row.word == "stop":
            self.at = self.flow.other[self.loop]
        else:
            action = ACTIONS[row.word]
            if action(self, row):
                self.at = self.flow.after[self.at]
            else:
                self.ended = "beyond"

    def meet_head(self):
        """Meets the head of a loop; whether the play goes on."""
        if self.loop != self.at:
            self.loop = self.at
            self.move(self.place)
        self.stations_met.append(self.station())
        sight = (self.mate, self.hand, tuple(self.row))
        if sight in self.met:
            self.ended = "endless"
            return False
        self.met.append(sight)
        return True

    def station(self):
        """What can be seen at the head of a loop."""
        first = child(self.place, 1, self.width)
        children = min(max(len(self.row) - first, 0), self.width)
        here = self.item(self.place)
        rank = None
        if self.hand is not None and here is not None:
            rank = (self.hand[0] > here[0]) - (self.hand[0] < here[0])
        return (self.at + 1, children, self.place == 0, rank)

    def branch(self, test):
        """Asks a test and goes to its side."""
        for part in test:
            holds = self.ask(part)
            if holds is None:
                self.ended = "beyond"
                return
            if not holds:
                break
        self.sides_seen[(self.at + 1, holds)] = True
        self.at = self.flow.after[self.at] if holds else self.flow.other[self.at]

    def ask(self, part):
        """Whether a part of a test holds, or None if it makes the play beyond."""
        holds, word, left, right = part
        if word in ("<", "<="):
            one = self.named_item(left)
            two = self.named_item(right)
            if one is None or two is None:
                return None
            self.compares += 1
            found = one[0] < two[0] or (word == "<=" and one[0] == two[0])
        elif word == "has":
            found = child(self.place, left, self.width) < len(self.row) + SHIFTS[right]
        elif word == "inside":
            found = self.place < len(self.row)
        elif word == "below root":
            found = self.place > 0
        else:
            found = self.place != self.start
        return found == holds

    def named_item(self, side):
        """The item that a side of a comparison names, or None if there is none."""
        word, number = side
        if word == "hand":
            return self.hand
        if word == "given":
            return self.given
        if word == "at":
            return self.item(self.place)
        if word == "kid":
            return self.item(child(self.place, number, self.width))
        return self.item(self.mate_place())

    def put_down(self, place, item):
        """Writes an item at the place; whether both are there."""
        if item is None or self.item(place) is None:
            return False
        self.row[place] = item
        return True

    def exchange(self, one, two):
        """Exchanges the items of two places; whether both are places of the list."""
        first = self.item(one)
        second = self.item(two)
        if first is None or second is None:
            return False
        self.row[one] = second
        self.row[two] = first
        return True

    def note_place(self, place):
        """The table tells the place for the item there; whether it is a place of the list."""
        item = self.item(place)
        if item is None:
            return False
        self.noted[item[1]] = place
        return True


def tell(player, row):
    """The item at the present place is told; where there is none, the one that was told before stays."""
    item = player.item(player.place)
    if item is None:
        return False
    player.told = item
    return True


def grab(player, row):
    """The hand holds the item that the row names."""
    if row.word == "grab given":
        player.hand = player.given
    else:
        if not player.row:
            return False
        held = player.item(player.place if row.word == "grab" else len(player.row) - 1)
        if held is None:
            return False
        player.hand = held
    return True


def lay(player, row):
    """The present place gets the item of the hand."""
    return player.put_down(player.place, player.hand)


def longer(player, row):
    """The list gets one place more, with the given item."""
    player.row.append(player.given)
    return True


def shorter(player, row):
    """The last place goes."""
    if not player.row:
        return False
    player.row.pop()
    return True


def trade(player, row):
    """The items of the present place and of the last place are exchanged."""
    return len(player.row) > 0 and player.exchange(player.place, len(player.row) - 1)


def to_start(player, row):
    """The present place is the start again."""
    player.move(player.start)
    return True


def note(player, row):
    """The table tells the present place for the item there."""
    return player.note_place(player.place)


def note_mate(player, row):
    """The table tells the mate's place for the item there."""
    return player.note_place(player.mate_place())


def go(player, row):
    """The mate becomes the present place."""
    place = player.mate_place()
    if player.item(place) is None:
        return False
    player.move(place)
    return True


def pull(player, row):
    """The present place gets the item of the mate."""
    return player.put_down(player.place, player.item(player.mate_place()))


def swap(player, row):
    """The items of the present place and of the mate are exchanged."""
    return player.exchange(player.place, player.mate_place())


def pick(player, row):
    """A child of the present place becomes the mate."""
    player.mate = child(player.place, row.number, player.width)
    return True


ACTIONS = {
    "tell": tell, "grab": grab, "grab last": grab, "grab given": grab, "lay": lay, "longer": longer,
    "shorter": shorter, "trade": trade, "to start": to_start, "note": note, "note mate": note_mate, "go": go,
    "pull": pull, "swap": swap, "pick": pick,
}
