"""Where a play goes on behind each row of a code. Rows are told by their indexes here, from 0."""

from heapcode.rows import LOOPS


def match_blocks(rows):
    """The dicts `heads` and `ends`: from each `else` and `end` to its block's first row, and back to the `end`."""
    heads = {}
    ends = {}
    opened = []
    for at, row in enumerate(rows):
        if row.word == "if" or row.word in LOOPS:
            opened.append(at)
        elif row.word == "else":
            heads[at] = opened[-1]
        elif row.word == "end":
            heads[at] = opened.pop()
            ends[heads[at]] = at
    return heads, ends


class Flow:
    """The ways through the rows of a code.

    `after` tells for each row where a play goes on behind it (into the block where its test holds),
    `other` where it goes if the test of an `if` or a loop does not hold, `loop_of` the loop that a
    row belongs to, or -1. The index behind the last row is the end of the code.
    """

    def __init__(self, rows):
        self.rows = tuple(rows)
        self.size = len(self.rows)
        self.heads, self.ends = match_blocks(self.rows)
        self.after = tuple([self.landing(at + 1) for at in range(self.size)])
        self.other = tuple([self.way_past(at) for at in range(self.size)])
        self.loop_of = tuple(self.find_loops())

    def landing(self, at):
        """Where a play is that comes to the row: `else` and `end` are passed."""
        while at < self.size and at in self.heads:
            head = self.heads[at]
            if self.rows[at].word == "end" and self.rows[head].word in LOOPS:
                return head
            at = self.ends[head] + 1
        return at

    def way_past(self, at):
        """Where a play goes on that does not enter the block that begins at the row."""
        if at not in self.ends:
            return self.size
        for place, head in self.heads.items():
            if head == at and self.rows[place].word == "else":
                return self.landing(place + 1)
        return self.landing(self.ends[at] + 1)

    def find_loops(self):
        """For each row the loop that it belongs to, or -1; a loop's own row belongs to it."""
        found = [-1] * self.size
        for head, end in self.ends.items():
            if self.rows[head].word in LOOPS:
                for at in range(head, end + 1):
                    found[at] = head
        return found
