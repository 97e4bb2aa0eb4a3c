"""Texts of codes for the tests: right ones of all kinds, ones with a slip, and ones made at random."""

from heapcode.codes import Code
from heapcode.errors import HeapError

UP = "longer\nup below root and at < mate\nswap\ngo\nend"
SIFT = (
    "down has 1\npick 1\nif has 2 and kid 2 < kid 1\npick 2\nend\nif mate < hand\npull\ngo\nelse\nstop\nend\nend\n"
)
LEAST = "tell\ngrab last\nshorter\n" + SIFT + "if inside\nlay\nend"
ONE = (
    "tell\ngrab last\nshorter\ndown has 1\npick 1\nif mate < hand\npull\ngo\nelse\nstop\nend\nend\nif inside\nlay\nend"
)
RISE = "up below root and hand < mate\npull\ngo\nend\n"


def least_kid(width, less=""):
    """The least child becomes the mate; `less` looks at a list shorter by one."""
    lines = ["pick 1"]
    for number in range(2, width + 1):
        lines += [f"if has {number}{less} and kid {number} < mate", f"pick {number}", "end"]
    return lines


def noted(lines, notes):
    return lines if notes else [line for line in lines if not line.startswith("note")]


def sift_hand(width, less=""):
    found = [f"down has 1{less}"] + least_kid(width, less)
    return found + ["if mate < hand", "pull", "note", "go", "else", "stop", "end", "end"]


def sift_swap(width):
    found = ["down has 1"] + least_kid(width)
    return found + ["if mate < at", "swap", "note", "note mate", "go", "else", "stop", "end", "end"]


def to_bottom(width, less=""):
    return [f"down has 1{less}"] + least_kid(width, less) + ["pull", "note", "go", "end"]


def rise_hand(more=""):
    return [f"up below root{more} and hand < mate", "pull", "note", "go", "end"]


def rise_swap():
    return ["up below root and at < mate", "swap", "note", "note mate", "go", "end"]


def right_puts(width):
    yield ["longer", "note"] + rise_swap()
    yield ["longer", "grab given"] + rise_hand() + ["lay", "note"]
    yield ["longer", "grab", "note"] + rise_hand() + ["lay", "note"]


def right_takes(width):
    inside = ["if inside", "lay", "note", "end"]
    yield ["tell", "grab last", "shorter"] + sift_hand(width) + inside
    yield ["tell", "grab last", "shorter"] + to_bottom(width) + rise_hand() + inside
    yield ["tell", "grab last"] + sift_hand(width, " less") + ["shorter"] + inside
    yield ["tell", "grab last"] + to_bottom(width, " less") + rise_hand() + ["shorter"] + inside
    yield ["tell", "trade", "shorter", "if inside", "note", "end"] + sift_swap(width)
    yield ["tell", "grab last", "shorter"] + inside + sift_swap(width)


def right_tops(width):
    yield ["tell", "grab given"] + sift_hand(width) + ["lay", "note"]
    yield ["tell", "grab given", "lay", "note"] + sift_swap(width)
    yield ["tell", "grab given"] + to_bottom(width) + rise_hand() + ["lay", "note"]
    yield ["tell", "grab given", "if given <= at", "lay", "note", "quit", "end"] + sift_hand(width) + ["lay", "note"]


def right_outs(width):
    lay = ["lay", "note"]
    start = ["tell", "grab last", "shorter", "if inside"]
    yield start + rise_hand() + lay + ["to start", "grab"] + sift_hand(width) + lay + ["end"]
    yield start + sift_hand(width) + lay + ["to start", "grab"] + rise_hand() + lay + ["end"]
    yield start + to_bottom(width) + rise_hand() + lay + ["end"]
    yield start + ["if hand < at"] + rise_hand() + ["else"] + sift_hand(width) + ["end"] + lay + ["end"]
    yield start + sift_hand(width) + ["if below start"] + lay + ["quit", "end"] + rise_hand() + lay + ["end"]
    yield ["tell", "trade", "shorter", "if inside", "note"] + rise_swap() + ["to start"] + sift_swap(width) + ["end"]


def right_eithers(width):
    lay = ["lay", "note"]
    yield ["grab"] + rise_hand() + lay + ["to start", "grab"] + sift_hand(width) + lay
    yield ["grab"] + sift_hand(width) + lay + ["to start", "grab"] + rise_hand() + lay
    yield rise_swap() + ["to start"] + sift_swap(width)
    yield ["grab"] + to_bottom(width) + rise_hand() + lay


def right_aboves(width):
    yield ["grab"] + rise_hand() + ["lay", "note"]
    yield rise_swap()


def right_belows(width):
    yield ["grab"] + sift_hand(width) + ["lay", "note"]
    yield sift_swap(width)
    yield ["grab"] + to_bottom(width) + rise_hand(" and below start") + ["lay", "note"]


RIGHT = {
    "put": right_puts, "take": right_takes, "top": right_tops, "out": right_outs, "either": right_eithers,
    "above": right_aboves, "below": right_belows, "tree": right_belows,
}


def right_codes(width, notes, kinds=tuple(RIGHT)):
    """Right codes of all the kinds, in several forms."""
    for kind in kinds:
        for lines in RIGHT[kind](width):
            yield Code(kind, width, "\n".join(noted(lines, notes)))


WORDS = (("mate", "hand"), ("hand", "mate"), ("hand", "at"), ("at", "mate"), ("root", "start"), ("inside", "not inside"))


def turned(chance, line, width):
    """The line with one word or number turned into another."""
    ways = [line.replace(" < ", " <= "), line.replace(" <= ", " < ")]
    ways += [line.replace(" " + one, " " + two, 1) for one, two in WORDS]
    for one in range(1, width + 1):
        for word in ("has", "kid", "pick"):
            ways.append(line.replace(f"{word} {one}", f"{word} {chance.randint(1, width)}", 1))
        ways.append(line.replace(f"has {one}", f"has {one} {chance.choice(('less', 'more'))}", 1))
    return chance.choice([way for way in ways if way != line] or [line])


def blocks_at(lines, at):
    """Whether the line at the index stands in a loop, and of which way."""
    opened = []
    for line in lines[:at]:
        word = line.split(" ")[0]
        if word in ("if", "down", "up"):
            opened.append(word)
        elif line == "end" and opened:
            opened.pop()
    return next((word for word in opened if word != "if"), "top")


NEW_LINES = {
    "top": ("lay", "note", "quit", "tell", "grab", "shorter", "grab last", "trade", "to start", "grab given"),
    "up": ("pull", "swap", "lay", "note", "note mate", "go", "stop", "quit"),
    "down": ("pull", "swap", "lay", "note", "note mate", "go", "stop", "quit", "pick 1", "pick 2"),
}


def slipped(chance, lines, width):
    """The lines with one slip."""
    lines = list(lines)
    at = chance.randrange(len(lines))
    draw = chance.random()
    if draw < 0.25:
        del lines[at]
    elif draw < 0.45:
        lines.insert(at, chance.choice(NEW_LINES[blocks_at(lines, at)]))
    elif draw < 0.55:
        other = chance.randrange(len(lines))
        lines[at], lines[other] = lines[other], lines[at]
    else:
        lines[at] = turned(chance, lines[at], width)
    return lines


def code_or_none(kind, width, lines):
    try:
        return Code(kind, width, "\n".join(lines))
    except HeapError:
        return None


def slipped_codes(chance, many, widths=(2, 2, 2, 3), kinds=tuple(RIGHT)):
    """So many codes that are right but for some slips, in the order of chance."""
    found = []
    while len(found) < many:
        width = chance.choice(widths)
        kind = chance.choice(kinds)
        lines = noted(chance.choice(list(RIGHT[kind](width))), chance.random() < 0.5)
        for _ in range(chance.choice((1, 1, 2, 3))):
            lines = slipped(chance, lines, width) if lines else lines
        if kind in ("either", "above", "below", "tree"):
            kind = chance.choice(("either", "above", "below", "tree"))
        code = code_or_none(kind, width, lines)
        if code is not None:
            found.append(code)
    return found
