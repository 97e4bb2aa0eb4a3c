"""Tests: the parts that they have, and where each part may stand.

A test that is read is a tuple of parts, a part a tuple (holds, word, left, right): holds is False
behind a `not`. For a comparison the word is its sign, left and right are its two sides; for `has`
left is the number and right is "", "less" or "more". A side is a pair (name, number), the number 0
but for a child. The place of a test is "top" for an `if` outside loops, and otherwise the way of
the loop that it belongs to, "down" or "up".
"""

NUMBERS = ("1", "2", "3", "4")
SIGNS = ("<", "<=")
GIVEN = ("given", 0)

# The names that each place knows, apart from children.
SIDES = {
    "top": ("hand", "at", "given"),
    "down": ("hand", "at", "mate"),
    "up": ("hand", "at", "mate"),
}


def read_number(word, width):
    """The number from 1 to the width that the word writes, or None."""
    if word in NUMBERS[:width]:
        return int(word)
    return None


def read_side(words, place, width):
    """The side of a comparison that the words name, or None."""
    if len(words) == 1 and words[0] in SIDES[place]:
        return (words[0], 0)
    if place == "down" and len(words) == 2 and words[0] == "kid":
        number = read_number(words[1], width)
        return None if number is None else ("kid", number)
    return None


def read_comparison(words, place, width):
    """The sign and the two sides of a comparison, or None."""
    signs = [at for at, word in enumerate(words) if word in SIGNS]
    if len(signs) != 1:
        return None
    left = read_side(words[:signs[0]], place, width)
    right = read_side(words[signs[0] + 1:], place, width)
    if left is None or right is None or left == right:
        return None
    return (words[signs[0]], left, right)


def read_has(words, place, width):
    """The `has`, its number and what is said behind it, or None."""
    if place != "down" or len(words) < 2 or words[2:] not in ([], ["less"], ["more"]):
        return None
    number = read_number(words[1], width)
    return None if number is None else ("has", number, "".join(words[2:]))


def read_plain_part(text, place, width):
    """The word, left and right of a part without `not`, or None."""
    if text in ("inside", "below root", "below start"):
        return (text, None, None)
    words = text.split(" ")
    if words[0] == "has":
        return read_has(words, place, width)
    return read_comparison(words, place, width)


def read_part(text, place, width):
    """A part, or None if the text is none at the place."""
    denied = text.startswith("not ")
    plain = read_plain_part(text[len("not "):] if denied else text, place, width)
    return None if plain is None else (not denied, *plain)


def read_test(text, place, width):
    """A test, or None if the text is none at the place."""
    parts = [read_part(part, place, width) for part in text.split(" and ")]
    return None if None in parts else tuple(parts)


def names_given(test):
    """Whether a part of the test names the given item."""
    return any([GIVEN in (left, right) for _, _, left, right in test])
