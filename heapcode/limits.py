"""The limits that each way through the top level of a text keeps.

The ways double with each `if`, so they are not followed one by one: those that no later line can
tell apart are followed as one. A way is a tuple (loops, home, cut, once): the loops that it has
passed; the line of the first `to start` behind the last of them, or 0; the line of the first
`shorter` behind the last of them, or 0; and which of the words in ONCE it has met.
"""

from heapcode.kinds import allows
from heapcode.parts import names_given
from heapcode.rows import LOOPS

ONCE = ("longer", "shorter", "trade")
AHEAD_OF_LOOPS = ("tell", "grab last", "grab given", "longer", "trade")
FRESH = ((), 0, 0, ())


def keeps_order(way, word):
    """Whether the way may have the word behind what it has met, whatever comes later."""
    loops, home, _, once = way
    if word in AHEAD_OF_LOOPS and loops:
        return False
    if word == "grab":
        return not loops or home > 0
    if word == "to start":
        return bool(loops) and home == 0
    if word == "longer":
        return word not in once
    if word in ("grab last", "trade"):
        return "shorter" not in once
    if word == "shorter":
        return word not in once and not (loops and "trade" in once)
    return True


def way_behind(way, line, word):
    """The way behind a line with the word that is no block's."""
    loops, home, cut, once = way
    if word == "to start" and loops:
        home = home or line
    if word == "shorter" and loops:
        cut = cut or line
    return (loops, home, cut, tuple([known for known in ONCE if known == word or known in once]))


def is_turn(way, word):
    """Whether the loop of the word makes a turn with the loop ahead of it."""
    loops, home, _, _ = way
    return word == "up" and loops[-1:] == ("down",) and home == 0


def may_begin(way, word):
    """Whether the loop of the word may follow what the way has met."""
    loops, home, _, _ = way
    if word in loops:
        return False
    # Behind an up loop the word can only be "down" here.
    return loops[-1:] != ("up",) or home > 0


class Walk:
    """One walk over the rows of a text, along all ways at once."""

    def __init__(self, kind):
        self.kind = kind
        self.broken = []
        self.ways = {FRESH: True}
        # For each open `if`: the ways that come to its line, and those that come out of its first side.
        self.forks = []
        self.turning = False

    def step(self, line, row):
        """Goes over one row."""
        if row.word in LOOPS:
            self.begin_loop(line, row.word)
        elif row.place != "top":
            self.stay_in_loop(line, row.word)
        elif row.word in ("if", "else", "end"):
            self.fork(line, row)
        else:
            self.pass_line(line, row.word)

    def begin_loop(self, line, word):
        """All ways pass a loop; those that may not go on are left, all else they break lies behind."""
        self.turning = any([is_turn(way, word) for way in list(self.ways)])
        behind = {}
        for way in list(self.ways):
            loops, _, cut, once = way
            if cut:
                self.broken.append(cut)
            if may_begin(way, word):
                behind[(loops + (word,), 0, 0, once)] = True
            else:
                self.broken.append(line)
        self.ways = behind

    def stay_in_loop(self, line, word):
        """Of the lines within a loop only a `swap` can break a limit."""
        if word == "swap" and self.turning:
            self.broken.append(line)

    def fork(self, line, row):
        """Parts the ways at an `if`, and joins them at its end."""
        if row.word == "if":
            if self.ways and names_given(row.test) and not allows(self.kind, "given"):
                self.broken.append(line)
            # Without an `else` the ways of the other side are those that come to the `if`.
            self.forks.append((list(self.ways), []))
        elif row.word == "else":
            ahead, _ = self.forks.pop()
            self.forks.append(([], list(self.ways)))
            self.ways = {way: True for way in ahead}
        else:
            ahead, first = self.forks.pop()
            self.ways = {way: True for way in list(self.ways) + ahead + first}

    def pass_line(self, line, word):
        """All ways pass a line of the top level that is no block's."""
        for way in list(self.ways):
            if not allows(self.kind, word) or not keeps_order(way, word):
                self.broken.append(line)
        if word == "quit":
            self.end_ways()
        self.ways = {way_behind(way, line, word): True for way in list(self.ways)}

    def end_ways(self):
        """All ways end here: a `to start` that waits for a loop has none behind it."""
        for _, home, _, _ in list(self.ways):
            if home:
                self.broken.append(home)
        self.ways = {}


def least_break(kind, rows):
    """The least line at which some way breaks a limit, or None."""
    walk = Walk(kind)
    for line, row in enumerate(rows, start=1):
        walk.step(line, row)
    walk.end_ways()
    return min(walk.broken, default=None)
