"""What may come in a code behind a loop."""

from heapcode.parts import names_given
from heapcode.rows import LOOPS


def rows_ahead(flow, at):
    """The loops and `to start`s that a play can come to first behind the row, itself included."""
    found = []
    waiting = [at]
    met = {}
    while waiting:
        row = waiting.pop()
        if row == flow.size or row in met:
            continue
        met[row] = True
        word = flow.rows[row].word
        if word in LOOPS or word == "to start":
            found.append(row)
        elif word != "quit":
            waiting.append(flow.after[row])
            if word == "if":
                waiting.append(flow.other[row])
    return sorted(found)


def goes_home(flow, loop):
    """Whether `to start` can come behind the loop, ahead of another one."""
    return any([flow.rows[row].word == "to start" for row in rows_ahead(flow, flow.other[loop])])


def turning_loops(flow, loop):
    """The up loops that can follow the down loop in a turn."""
    if flow.rows[loop].word != "down":
        return []
    return [row for row in rows_ahead(flow, flow.other[loop]) if flow.rows[row].word == "up"]


def ways_back(flow, loop):
    """The `go` rows of the up loops that can follow the down loop in a turn."""
    ups = turning_loops(flow, loop)
    return [row for row in range(flow.size) if flow.loop_of[row] in ups and flow.rows[row].word == "go"]


def last_row_with_given(flow):
    """The last row whose test names the given item, or -1."""
    return max([row for row in range(flow.size) if names_given(flow.rows[row].test)], default=-1)
