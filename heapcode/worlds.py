"""Worlds: what is known of a play that is followed for all contents at once, point [23].

Items are *tokens*, told by numbers; what is known of their keys is kept as two lists of masks: bit b
of le[a] is set where the key of a is at most that of b, bit b of lt[a] where it is less; both are
closed. A world holds only what lies near the present place, in *cells*, which are told below. For a
list of one size a token's number is the place where it lay at the start, and what was assumed about
the keys is kept, so that a case can be made of it; otherwise tokens are numbered as they are met.
"""

NONE = -1
# An item that the play has not looked at yet.
UNSEEN = -2

# The cells: the item of the hand, of the present place, of its parent; the bounds of these two places.
HAND = 0
HERE = 1
BOUND = 2
UP = 3
UP_BOUND = 4
# On the way up, the item at the child that the play came from; the told item; the given one.
LOW = 5
TOLD = 6
GIVEN = 7
# The item that lay at the last place at the start, and the item there now, while nothing else tells it.
LAST_BOUND = 8
LAST = 9
# Where the play will come back by `to start`: the start's item, its bound, the item of its parent.
HOME = 10
HOME_BOUND = 11
HOME_UP = 12
# In a turn: the parent's item at the end, where UP is what the way down has left there.
UP_AT_END = 13
# While the way back is followed ahead: the item and the bound of the child that the way down goes to
# later, and what the way down has left at its parent.
NEXT = 14
NEXT_BOUND = 15
NEXT_UP = 16
# Behind these: the items of the children 1, 2, .., their bounds, and those of the start's children.
KID = 16
KID_BOUND = 20
HOME_KID = 24

# The places that entries can name: the present one, its parent, the start, the child that the way
# down goes to later and its parent; behind these the children 1, 2, ..
HERE_PLACE = 0
UP_PLACE = 1
HOME_PLACE = 2
NEXT_PLACE = 3
NEXT_UP_PLACE = 4
KID_PLACE = 4
WIDE_PLACES = 9
# What an entry is that names another place, and where a token stands at the end that is told, or that
# stands at a place which its entry names and which nothing can reach any more.
GONE = -2
TELLING = -3
SETTLED = -4


# Where a token comes from, if it is not a child of the present place, which is told by its number: see `origins`.
FROM_START = 0
FROM_GIVEN = -2
FROM_LAST = -3
FROM_PARENT = -4


class Beginning:
    """What all worlds of a search begin with."""

    def __init__(self, labels, extra, traced):
        self.labels = labels
        self.cells = [NONE] * (KID + 1) + [UNSEEN] * 4 + [NONE] * 4 + [UNSEEN] * 4
        self.le = [1 << token for token in range(labels)]
        self.lt = [0] * labels
        # Masks of tokens: those that are met and not forgotten; those that have their place at the end.
        self.alive = 0
        self.placed = 0
        # What the search assumed of keys since the last state of the table, and ahead of it.
        self.facts = []
        self.trail = ()
        # The promise that is broken for sure, if the rest of the play does what it asks; empty for none.
        self.broken = ""
        # Whether the children and the parent of the present place can still get other items.
        self.kids_open = True
        self.up_open = True
        # The place that the play came from on the way up, for lists of one size, and whether it is there at the end.
        self.low_place = -1
        self.low_counts = True
        self.begin_place(extra)
        self.begin_turn()
        self.begin_table()
        self.begin_trace(traced)

    def begin_place(self, extra):
        """Where the play is."""
        self.row = 0
        self.loop = -1
        self.mate = 0
        # The levels below the start, from -2 to 2, where 2 and -2 stand for more, too.
        self.level = 0
        # How many levels of the tree the play has come to but that of the start.
        self.levels = 0
        self.extra = extra
        # The number of the child to which the way to the last place goes, where it is guessed.
        self.way = 0
        self.site = None
        self.up_site = None
        # Once the play has left the start and may come back: the sites of the start and its parent, and the child.
        self.home = None
        self.homed = False
        self.told_asked = False
        # What was seen at the head of the loop at this place.
        self.seen = []

    def begin_turn(self):
        """What is guessed of a turn."""
        # The row by which the way back leaves the present place, or -1; whether the end of the play is known.
        self.back = -1
        self.over = False
        self.errand = None
        # What was met on the errand since the last state, and this state, where it is tied to a turn.
        self.events = []
        self.source = None

    def begin_table(self):
        """What is known of entries, and of places at the end: dicts from tokens to places."""
        self.notes = {}
        self.spots = {}
        self.places = [NONE] * WIDE_PLACES
        # Masks of tokens whose entries are not changed by what is followed later; those that this errand wrote.
        self.sealed = 0
        self.fresh = 0

    def begin_trace(self, traced):
        """What is kept of what happened since the last state."""
        # Whether what is assumed of keys is kept, and where numbered tokens come from: a child's number, or as above.
        self.traced = traced
        self.origins = []
        self.compares = 0
        # How the play ends, if this is known, and by how many places more than up to the goal the list is longer then.
        self.manner = ""
        self.last_extra = 0


class World:
    """A world; it begins as a copy of another one."""

    def __init__(self, old):
        self.labels = old.labels
        self.cells = list(old.cells)
        # These are never changed in place.
        self.le = old.le
        self.lt = old.lt
        self.alive = old.alive
        self.placed = old.placed
        self.facts = old.facts
        self.trail = old.trail
        self.broken = old.broken
        self.kids_open = old.kids_open
        self.up_open = old.up_open
        self.low_place = old.low_place
        self.low_counts = old.low_counts
        self.copy_place(old)
        self.copy_turn(old)
        self.copy_table(old)
        self.copy_trace(old)

    def copy_place(self, old):
        """Copies where the play is."""
        self.row = old.row
        self.loop = old.loop
        self.mate = old.mate
        self.level = old.level
        self.levels = old.levels
        self.extra = old.extra
        self.way = old.way
        self.site = old.site
        self.up_site = old.up_site
        self.home = old.home
        self.homed = old.homed
        self.told_asked = old.told_asked
        self.seen = old.seen

    def copy_turn(self, old):
        """Copies what is guessed of a turn."""
        self.back = old.back
        self.over = old.over
        self.errand = old.errand
        self.events = old.events
        self.source = old.source

    def copy_table(self, old):
        """Copies what is known of entries and of places at the end."""
        self.notes = old.notes
        self.spots = old.spots
        self.places = old.places
        self.sealed = old.sealed
        self.fresh = old.fresh

    def copy_trace(self, old):
        """Copies what is kept of what happened."""
        self.traced = old.traced
        self.origins = old.origins
        self.compares = old.compares
        self.manner = old.manner
        self.last_extra = old.last_extra

    def new_token(self, label):
        """A token of an item: for lists of one size its number is the label, else the label tells where it is from."""
        token = label
        if not self.labels:
            token = len(self.le)
            if self.traced:
                self.origins = self.origins + [label]
            self.le = self.le + [1 << token]
            self.lt = self.lt + [0]
        self.alive = self.alive | (1 << token)
        return token

    def learn(self, low, high, strict):
        """Adds that the key of low is at most that of high, or less; closes what is known."""
        if ((self.lt[low] if strict else self.le[low]) >> high) & 1:
            return
        at_most = list(self.le)
        less = list(self.lt)
        above = self.le[high]
        far_above = self.lt[high]
        for token, mask in enumerate(self.le):
            if (mask >> low) & 1:
                at_most[token] = mask | above
                if strict or (self.lt[token] >> low) & 1:
                    less[token] = less[token] | above
                else:
                    less[token] = less[token] | far_above
        self.le = at_most
        self.lt = less

    def assume(self, low, high, strict):
        """Learns what does not follow from the kind of the list."""
        self.learn(low, high, strict)
        if self.traced:
            self.facts = self.facts + [(low, high, strict)]

    def known(self, low, high, strict):
        """Whether the key of low is less than that of high, or at most it; None if both can be."""
        if strict:
            if (self.lt[low] >> high) & 1:
                return True
            return False if (self.le[high] >> low) & 1 else None
        if (self.le[low] >> high) & 1:
            return True
        return False if (self.lt[high] >> low) & 1 else None
