"""The limits of point [11] asked of one way after the other, sentence by sentence.

This is slow and plain on purpose: the package follows all ways at once, and is compared with it.
A way is a list of events (line, word, swaps): swaps are the lines of the swaps of a loop, and the
word "given" stands for an `if` whose test names the given item.
"""

LOOPS = ("down", "up")
AHEAD = ("tell", "grab", "grab last", "grab given", "lay", "longer", "shorter", "trade", "note", "if", "given", "quit")
BETWEEN = ("lay", "note", "if", "given", "quit")
BEHIND = ("lay", "note", "shorter", "if", "given", "quit")
FOR_KINDS = {
    "longer": ("put",), "shorter": ("take", "out"), "grab last": ("take", "out"), "trade": ("take", "out"),
    "grab given": ("put", "top"), "given": ("put", "top"),
}
STARTING = ("out", "either", "above", "below", "tree")


def read_block(lines, at):
    """The block that begins at the index, as a list of nodes, and the index of its `else` or `end`."""
    nodes = []
    while at < len(lines) and lines[at] not in ("else", "end"):
        word = lines[at].split(" ")[0]
        line = at + 1
        if word in LOOPS:
            swaps, depth = [], 1
            while depth:
                at += 1
                depth += lines[at].startswith("if ")
                depth -= lines[at] == "end"
                if lines[at] == "swap":
                    swaps.append(at + 1)
            nodes.append((line, word, swaps))
        elif word == "if":
            first, at = read_block(lines, at + 1)
            second = []
            if lines[at] == "else":
                second, at = read_block(lines, at + 1)
            nodes.append((line, "given" if "given" in lines[line - 1] else "if", [], first, second))
        else:
            nodes.append((line, lines[at], []))
        at += 1
    return nodes, at


def ways_through(nodes):
    """All ways through the nodes, as pairs (events, whether the way ended at a `quit`)."""
    ways = [([], False)]
    for node in nodes:
        sides = node[3:] or ([],)
        onward = [(node[:3], events, ended) for side in sides for events, ended in ways_through(side)]
        ways = [
            (events + [event] + more, node[1] == "quit" or over)
            for events, ended in ways if not ended for event, more, over in onward
        ] + [way for way in ways if way[1]]
    return ways


def gap_breaks(kind, gap):
    """The lines between two loops that break a limit, and whether `to start` stands there."""
    broken, home = [], False
    for line, word, _ in gap:
        if word == "to start":
            if home or kind not in STARTING:
                broken.append(line)
            home = True
        elif word not in BETWEEN and not (word == "grab" and home):
            broken.append(line)
    return broken, home


def order_breaks(kind, way):
    """The breaks of the sentences about the order of the loops and what stands around them."""
    heads = [at for at, event in enumerate(way) if event[1] in LOOPS]
    first, last = (heads[0], heads[-1]) if heads else (len(way), len(way))
    broken = [line for line, word, _ in way[:first] if word not in AHEAD]
    broken += [line for line, word, _ in way[last + 1:] if word not in BEHIND]
    for word in LOOPS:
        broken += [way[at][0] for at in heads if way[at][1] == word][1:]
    for one, two in zip(heads, heads[1:]):
        found, home = gap_breaks(kind, way[one + 1:two])
        broken += found
        if not home and (way[one][1], way[two][1]) == ("up", "down"):
            broken.append(way[two][0])
        if not home and (way[one][1], way[two][1]) == ("down", "up"):
            broken += way[two][2]
    return broken, first


def way_breaks(kind, way):
    """All lines at which the way breaks a limit."""
    broken, first = order_breaks(kind, way)
    broken += [line for line, word, _ in way if word in FOR_KINDS and kind not in FOR_KINDS[word]]
    for once in ("longer", "shorter"):
        broken += [line for line, word, _ in way if word == once][1:]
    shorter = [at for at, event in enumerate(way) if event[1] == "shorter"]
    trade = [at for at, event in enumerate(way) if event[1] == "trade"]
    if trade:
        broken += [way[max(at, trade[0])][0] for at in shorter if at > first]
    if shorter:
        broken += [line for line, word, _ in way[shorter[0]:] if word in ("grab last", "trade")]
    return broken


def least_break(kind, lines):
    """The least line at which some way breaks a limit, or None."""
    nodes, _ = read_block(lines, 0)
    broken = [line for events, _ in ways_through(nodes) for line in way_breaks(kind, events)]
    return min(broken, default=None)
