"""The kinds of deeds and the widths."""

KINDS = ("put", "take", "top", "out", "either", "above", "below", "tree")
WIDTHS = (2, 3, 4)
SETTLING = ("either", "above", "below", "tree")
# The kinds that are told a start, that are handed an item, that tell one, whose list is a heap at first.
WITH_START = ("out", "either", "above", "below", "tree")
WITH_GIVEN = ("put", "top")
WITH_TOLD = ("take", "top", "out")
OF_HEAPS = ("put", "take", "top", "out")
# The kinds whose list loses its last place, so that all depends on where the last item lies.
LOSING = ("take", "out")

# What stands for some kinds alone: lines, and `given` where a test names it.
ALLOWED = {
    "longer": ("put",),
    "shorter": ("take", "out"),
    "grab last": ("take", "out"),
    "trade": ("take", "out"),
    "grab given": ("put", "top"),
    "given": ("put", "top"),
    "to start": ("out", "either", "above", "below", "tree"),
}


def is_kind(value):
    """Whether the value, of any kind, is a kind of deed."""
    return isinstance(value, str) and value in KINDS


def is_width(value):
    """Whether the value, of any kind, is a width."""
    return isinstance(value, int) and value in WIDTHS


def allows(kind, word):
    """Whether the word may stand in a code of the kind at all."""
    return word not in ALLOWED or kind in ALLOWED[word]
