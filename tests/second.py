"""A plain second player, written for the tests alone, after points [8] to [14] and [17].

It plays a text on a list of any things. How two of them compare is told by a function
less(one, two, strict); how the hand's stands to the present one by a function rank(one, two).
"""


class Beyond(Exception):
    pass


class Endless(Exception):
    pass


class Quit(Exception):
    pass


class Stop(Exception):
    pass


def read(text):
    """The text as nested nodes: (word, line, test, block, other block) or ("line", line, text)."""
    lines = text.split("\n") if text else []
    nodes, at = read_block(lines, 0)
    assert at == len(lines)
    return nodes


def read_block(lines, at):
    nodes = []
    while at < len(lines) and lines[at] not in ("else", "end"):
        word, _, test = lines[at].partition(" ")
        line = at + 1
        if word in ("if", "down", "up"):
            block, at = read_block(lines, at + 1)
            other = []
            if lines[at] == "else":
                other, at = read_block(lines, at + 1)
            nodes.append((word, line, test, block, other))
        else:
            nodes.append(("line", line, lines[at]))
        at += 1
    return nodes, at


def less_key(one, two, strict):
    return one[0] < two[0] if strict else one[0] <= two[0]


def rank_key(one, two):
    return -1 if one[0] < two[0] else 1 if one[0] > two[0] else 0


class Second:
    """A play; the table is kept from things to places."""

    def __init__(self, width, nodes, things, start, given, less=less_key, rank=rank_key):
        self.width, self.start, self.place, self.given = width, start, start, given
        self.begin(things)
        self.less, self.rank = less, rank
        self.hand = self.mate = self.told = self.way = None
        self.been = [start]
        self.lines, self.sides, self.stations, self.compares = set(), set(), [], 0
        try:
            self.block(nodes)
            self.ended = "done"
        except Quit:
            self.ended = "done"
        except Beyond:
            self.ended = "beyond"
        except Endless:
            self.ended = "endless"

    def begin(self, things):
        self.things = list(things)
        self.table = {thing: place for place, thing in enumerate(things)}

    def enter(self, thing, place):
        self.table[thing] = place

    def entry(self, thing):
        return self.table.get(thing)

    def length(self):
        return len(self.things)

    def lengthen(self, thing):
        self.things.append(thing)

    def shorten(self):
        self.things.pop()

    def picture(self):
        return tuple(self.things)

    def at(self, place):
        if place is None or not 0 <= place < self.length():
            raise Beyond
        return self.things[place]

    def mates_place(self):
        if self.way == "up":
            if self.place == 0:
                raise Beyond
            return (self.place - 1) // self.width
        if self.mate is None:
            raise Beyond
        return self.mate

    def named(self, name):
        if name == "hand":
            if self.hand is None:
                raise Beyond
            return self.hand
        if name == "given":
            return self.given
        if name == "at":
            return self.at(self.place)
        if name == "mate":
            return self.at(self.mates_place())
        return self.at(self.width * self.place + int(name[-1]))

    def holds(self, part):
        if part.startswith("not "):
            return not self.holds(part[4:])
        for sign in (" < ", " <= "):
            if sign in part:
                one, two = map(self.named, part.split(sign))
                self.compares += 1
                return self.less(one, two, sign == " < ")
        words = part.split(" ")
        if words[0] == "has":
            length = self.length() + {"less": -1, "more": 1}.get(words[-1], 0)
            return self.width * self.place + int(words[1]) < length
        if part == "inside":
            return self.place < self.length()
        return self.place > 0 if part == "below root" else self.place != self.start

    def ask(self, line, test):
        self.lines.add(line)
        answer = True
        for part in test.split(" and "):
            if not self.holds(part):
                answer = False
                break
        self.sides.add((line, answer))
        return answer

    def block(self, nodes):
        for node in nodes:
            if node[0] == "if":
                self.block(node[3] if self.ask(node[1], node[2]) else node[4])
            elif node[0] == "line":
                self.lines.add(node[1])
                self.do(node[2])
            else:
                self.way, self.mate = node[0], None
                try:
                    self.loop(node)
                except Stop:
                    pass
                self.way = None

    def loop(self, node):
        met = set()
        while True:
            self.stations.append(self.station(node[1]))
            sight = (self.place, self.mate, self.hand, self.picture())
            if sight in met:
                raise Endless
            met.add(sight)
            if not self.ask(node[1], node[2]):
                return
            self.block(node[3])

    def station(self, line):
        children = [self.width * self.place + k for k in range(1, self.width + 1)]
        rank = None
        if self.hand is not None and self.place < self.length():
            rank = self.rank(self.hand, self.at(self.place))
        return (line, sum(child < self.length() for child in children), self.place == 0, rank)

    def write(self, place, thing):
        self.at(place)
        self.things[place] = thing

    def do(self, line):
        last = self.length() - 1
        if line == "tell":
            self.told = self.at(self.place)
        elif line == "grab":
            self.hand = self.at(self.place)
        elif line == "grab last":
            self.hand = self.at(last)
        elif line == "grab given":
            self.hand = self.given
        elif line == "lay":
            self.write(self.place, self.named("hand"))
        elif line == "longer":
            self.lengthen(self.given)
        elif line == "shorter":
            self.at(last)
            self.shorten()
        elif line == "trade":
            self.exchange(self.place, last)
        elif line == "to start":
            self.place = self.start
        elif line == "note":
            self.enter(self.at(self.place), self.place)
        elif line == "note mate":
            self.enter(self.named("mate"), self.mates_place())
        elif line == "go":
            self.named("mate")
            self.place, self.mate = self.mates_place(), None
            self.been.append(self.place)
        elif line == "pull":
            self.write(self.place, self.named("mate"))
        elif line == "swap":
            self.exchange(self.place, self.mates_place())
        elif line.startswith("pick "):
            self.mate = self.width * self.place + int(line[-1])
        else:
            raise {"quit": Quit, "stop": Stop}[line]

    def exchange(self, one, two):
        first, second = self.at(one), self.at(two)
        self.things[one], self.things[two] = second, first


def tree(start, width, count):
    """The places of the tree of the start."""
    within = {start}
    for place in range(start + 1, count):
        if (place - 1) // width in within:
            within.add(place)
    return within


def right_things(kind, width, things, start, given, play):
    """Whether a play that is done leaves the right things."""
    left = list(play.things)
    owed = list(things) + ([given] if kind in ("put", "top") else [])
    if kind in ("take", "top", "out"):
        left.append(play.told)
    if None in left or sorted(left) != sorted(owed):
        return False
    if kind != "tree":
        return True
    outside = set(range(len(things))) - tree(start, width, len(things))
    return all(play.things[place] == things[place] for place in outside)


def broken_by(kind, width, things, start, given, play, less=less_key):
    """The promises that the play breaks, in their order; start is the place where it starts."""
    if play.ended != "done":
        return ("inside",) if play.ended == "beyond" else ("ends",)
    if not right_things(kind, width, things, start, given, play):
        return ("items",)
    left = play.things
    within = tree(start, width, len(left)) if kind == "tree" else set(range(len(left)))
    edges = [((place - 1) // width, place) for place in within if place and (place - 1) // width in within]
    broken = []
    if not all(less(left[above], left[place], False) for above, place in edges):
        broken.append("order")
    if kind == "out" and play.told != things[start]:
        broken.append("told")
    if kind in ("take", "top"):
        if play.told not in things or not all(less(play.told, thing, False) for thing in things):
            broken.append("told")
    if any(play.entry(thing) != place for place, thing in enumerate(left)):
        broken.append("places")
    return tuple(broken)
