"""All plays on the lists of one size at once, whatever the keys: the second player on things without keys.

Things are numbers, the places where they lay, the given one the number of items. What is known of
their keys is a closed set of pairs; where a comparison is open both answers are tried, one after
the other, by playing anew from the beginning.
"""

from tests.second import Second, broken_by, read
from tests.small_lists import edges_of_kind, first_places


class Known:
    """A closed set of pairs a <= b and a < b."""

    def __init__(self, count):
        self.at_most = [[one == two for two in range(count)] for one in range(count)]
        self.less = [[False] * count for _ in range(count)]

    def add(self, low, high, strict):
        count = range(len(self.less))
        for one in count:
            if self.at_most[one][low]:
                far = strict or self.less[one][low]
                for two in count:
                    if self.at_most[high][two]:
                        self.at_most[one][two] = True
                        if far or self.less[high][two]:
                            self.less[one][two] = True

    def tell(self, low, high, strict):
        if strict:
            return True if self.less[low][high] else False if self.at_most[high][low] else None
        return True if self.at_most[low][high] else False if self.less[high][low] else None


class Playing:
    """The comparisons of one play: the answers told first, then always yes; what else could be is kept."""

    def __init__(self, known, answers):
        self.known, self.answers, self.taken, self.others = known, answers, [], []

    def less(self, low, high, strict):
        told = self.known.tell(low, high, strict)
        if told is not None:
            return told
        at = len(self.taken)
        answer = self.answers[at] if at < len(self.answers) else True
        if at >= len(self.answers):
            self.others.append(self.taken + [False])
        self.taken.append(answer)
        self.known.add(*((low, high, strict) if answer else (high, low, not strict)))
        return answer

    def ranks(self, one, two):
        """All ranks that can be, as a tuple."""
        below, above = self.known.tell(one, two, True), self.known.tell(two, one, True)
        found = [-1] if below is not False else []
        found += [0] if not below and not above else []
        return tuple(found + ([1] if above is not False else []))

    def surely(self, low, high, strict):
        return self.known.tell(low, high, strict) is True


def events_of(kind, width, count, place, given, play, playing):
    """What the play meets and which promises it can break."""
    found = {("line", line) for line in play.lines} | {("side", line, side) for line, side in play.sides}
    for line, children, root, ranks in play.stations:
        found |= {("station", (line, children, root, rank)) for rank in ranks or (None,)}
    broken = broken_by(kind, width, list(range(count)), place, given, play, playing.surely)
    return found | {(promise,) for promise in broken}


def plays(codes, count):
    """All plays of the codes on one list of so many items, as tuples (start, given, plays, their comparisons)."""
    kind, width = codes[0].kind, codes[0].width
    texts = [read(code.text) for code in codes]
    given = count if kind in ("put", "top") else None
    for place in first_places(kind, count):
        waiting = [[]]
        while waiting:
            known = Known(count + 1)
            for low, high in edges_of_kind(kind, width, count, place):
                known.add(low, high, False)
            playing = Playing(known, waiting.pop())
            found = [
                Second(width, nodes, range(count), place, given, playing.less, playing.ranks) for nodes in texts
            ]
            waiting += playing.others
            yield place, given, found, playing


def events(code, count):
    """What is met in some play on a list of so many items, and the promises that some play breaks."""
    found = set()
    for place, given, (play,), playing in plays([code], count):
        found |= events_of(code.kind, code.width, count, place, given, play, playing)
    return found


def most_comparisons(code, count):
    """The most comparisons of a play on a list of so many items; None if there is no list of the kind."""
    return max((play.compares for _, _, (play,), _ in plays([code], count)), default=None)


def on_one_path(places, width):
    """Whether of each two of the places one is a forebear of the other."""
    line, place = {0}, max(places)
    while place:
        line.add(place)
        place = (place - 1) // width
    return set(places) <= line


def differ(one, two):
    """Whether two plays on one list are not alike."""
    if one.ended != two.ended or not on_one_path(one.been + two.been, one.width):
        return True
    return one.ended == "done" and (one.things != two.things or one.told != two.told)


def parts(code, other, count):
    """Whether the two codes differ on some list of so many items."""
    return any(differ(*found) for _, _, found, _ in plays([code, other], count))
