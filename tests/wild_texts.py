"""Texts of codes made at random from all lines of the language, with loops in all orders."""

from tests.texts import code_or_none

KINDS = ("put", "take", "top", "out", "either", "above", "below", "tree")
SIGNS = (" < ", " <= ")
HEADS = {
    "put": (["longer"], ["longer", "grab given"], ["longer", "grab"], ["grab given"]),
    "take": (["tell", "grab last", "shorter"], ["tell", "trade", "shorter", "grab"], ["tell", "grab last"]),
    "top": (["tell", "grab given"], ["tell", "grab given", "lay"], ["tell"]),
    "out": (["tell", "grab last", "shorter"], ["tell", "trade", "shorter"], ["tell", "grab last"], ["tell", "trade"]),
}
AHEAD = ("tell", "grab", "lay", "note", "quit", "grab last", "trade", "shorter", "longer", "grab given")
IN_LOOPS = ("go", "go", "pull", "pull", "lay", "note", "note mate", "stop", "quit", "swap", "if", "if")


class Maker:
    """Makes codes of one kind and width, by chance."""

    def __init__(self, chance, kind, width):
        self.chance, self.kind, self.width = chance, kind, width

    def number(self):
        return self.chance.randint(1, self.width)

    def comparison(self, place):
        names = ["hand", "at"]
        if place != "top":
            names.append("mate")
        elif self.kind in ("put", "top"):
            names.append("given")
        if place == "down":
            names += [f"kid {number}" for number in range(1, self.width + 1)]
        one, two = self.chance.sample(names, 2)
        return one + self.chance.choice(SIGNS) + two

    def part(self, place):
        draw = self.chance.random()
        denied = "not " if self.chance.random() < 0.15 else ""
        if draw < 0.5:
            return denied + self.comparison(place)
        if place == "down" and draw < 0.85:
            return denied + f"has {self.number()}" + self.chance.choice(("", "", "", " less", " more"))
        return denied + self.chance.choice(("inside", "below root", "below start"))

    def test(self, place):
        return " and ".join(self.part(place) for _ in range(self.chance.choice((1, 1, 2, 2, 3))))

    def rows(self, way, depth):
        lines = []
        words = IN_LOOPS + (("pick",) * 4 if way == "down" else ())
        for _ in range(self.chance.randint(1, 5)):
            word = self.chance.choice(words)
            if word == "pick":
                lines.append(f"pick {self.number()}")
            elif word == "if":
                if depth < 2:
                    lines += ["if " + self.test(way)] + self.rows(way, depth + 1)
                    lines += (["else"] + self.rows(way, depth + 1) if self.chance.random() < 0.4 else []) + ["end"]
            elif word not in ("quit", "stop") or self.chance.random() < 0.5:
                lines.append(word)
        return lines

    def likely(self, way):
        """The rows of a loop as people write it, or nearly so."""
        if way == "up":
            test = self.chance.choice(("below root", "below root and hand < mate", "below root and at < mate"))
            moves = (["pull", "go"], ["swap", "go"], ["pull", "note", "go"], ["swap", "note", "note mate", "go"], ["go"])
            return ["up " + test] + self.chance.choice(moves) + ["end"]
        rows = ["pick 1"]
        for number in range(2, self.width + 1):
            more = self.chance.choice(("", "", "", " less", " more"))
            rows += [f"if has {number}{more} and kid {number}{self.chance.choice(SIGNS)}mate", f"pick {number}", "end"]
        moves = self.chance.choice((["pull", "go"], ["swap", "go"], ["pull", "note", "go"], ["swap", "note", "go", "note"]))
        if self.chance.random() < 0.7:
            test = self.chance.choice(("mate < hand", "mate < at", "mate <= hand", "not hand <= mate"))
            moves = ["if " + test] + moves + ["else", self.chance.choice(("stop", "quit")), "end"]
        return ["down has 1" + self.chance.choice(("", "", " less", " more"))] + rows + moves + ["end"]

    def loop(self, way):
        if self.chance.random() < 0.6:
            return self.likely(way)
        return [f"{way} {self.test(way)}"] + self.rows(way, 0) + ["end"]

    def middle(self):
        return list(self.chance.choice(([], ["lay"], ["lay", "note"], ["note"], ["if inside", "lay", "end"])))

    def home(self, way):
        return ["to start"] + self.chance.choice(([], ["grab"])) + self.loop(way)

    def loops(self):
        form = self.chance.randrange(9)
        either = "if " + self.test("top")
        if form == 0:
            return []
        if form == 1:
            return self.loop("down")
        if form == 2:
            return self.loop("up")
        if form == 3:
            return self.loop("down") + self.middle() + self.loop("up")
        if form == 4:
            return self.loop("up") + self.middle() + self.home("down")
        if form == 5:
            return self.loop("down") + self.middle() + self.home("up")
        if form == 6:
            return [either] + self.loop("down") + ["else"] + self.loop("up") + ["end"]
        if form == 7:
            return [either] + self.loop("down") + self.chance.choice(([], ["quit"])) + ["end"] + self.loop("up")
        return self.loop("down") + self.middle() + [either] + self.home("up") + ["else"] + self.loop("up") + ["end"]

    def lines(self):
        lines = list(self.chance.choice(HEADS.get(self.kind, (["grab"], ["grab"], []))))
        for _ in range(self.chance.choice((0, 0, 0, 1, 2))):
            lines.insert(self.chance.randrange(len(lines) + 1), self.chance.choice(AHEAD))
        lines += self.loops() + self.middle()
        if self.kind in ("take", "out") and self.chance.random() < 0.35:
            lines.append("shorter")
        if self.chance.random() < 0.15:
            lines += ["if " + self.test("top"), self.chance.choice(("lay", "quit", "note")), "end"]
        return lines


def wild_codes(chance, many, widths=(2, 2, 2, 3), kinds=KINDS):
    """So many codes, in the order of chance."""
    found = []
    while len(found) < many:
        kind, width = chance.choice(kinds), chance.choice(widths)
        code = code_or_none(kind, width, Maker(chance, kind, width).lines())
        if code is not None:
            found.append(code)
    return found
