"""The errors of the package.

Their messages are fixed words: the values that an error is made from may be of any kind,
and not every value can be written as a text.
"""


class HeapError(ValueError):
    """What all errors of the package are."""


class BadKind(HeapError):
    """The value is no kind of deed, or no kind that is asked for."""

    def __init__(self, kind):
        HeapError.__init__(self, "this is no kind for it")
        self.kind = kind


class BadWidth(HeapError):
    """The value is no width."""

    def __init__(self, width):
        HeapError.__init__(self, "the width is not 2, 3 or 4")
        self.width = width


class BadLine(HeapError):
    """The line is none at its place, or its end is missing."""

    def __init__(self, line):
        HeapError.__init__(self, "the line is none at its place")
        self.line = line


class Refused(HeapError):
    """Some way through the text breaks a limit at the line."""

    def __init__(self, line):
        HeapError.__init__(self, "a way through the text breaks a limit at the line")
        self.line = line


class BadItem(HeapError):
    """The value with this index is no item, or its mark stands already."""

    def __init__(self, index):
        HeapError.__init__(self, "the value is no item, or its mark stands already")
        self.index = index


class BadCase(HeapError):
    """This part of the case is wrong for the kind."""

    def __init__(self, what):
        HeapError.__init__(self, "this part of the case is wrong for the kind")
        self.what = what


class BadPromise(HeapError):
    """The value is no promise."""

    def __init__(self, promise):
        HeapError.__init__(self, "this is no promise")
        self.promise = promise


class NoLine(HeapError):
    """The code has no line of this number."""

    def __init__(self, line):
        HeapError.__init__(self, "the code has no line of this number")
        self.line = line


class BadSize(HeapError):
    """The kind has no list of this size."""

    def __init__(self, n):
        HeapError.__init__(self, "the kind has no list of this size")
        self.n = n


class OtherKinds(HeapError):
    """The two codes are of different kinds."""

    def __init__(self):
        HeapError.__init__(self, "the two codes are of different kinds")


class OtherWidths(HeapError):
    """The two codes are of different widths."""

    def __init__(self):
        HeapError.__init__(self, "the two codes are of different widths")


class BadName(HeapError):
    """The key is no name of a deed, or has no code of the width."""

    def __init__(self, name):
        HeapError.__init__(self, "the key is no name of a deed, or has no code of the width")
        self.name = name


class NoDeed(HeapError):
    """The store has no deed of this name."""

    def __init__(self, name):
        HeapError.__init__(self, "the store has no deed of this name")
        self.name = name


class NothingToUndo(HeapError):
    """The store has no deed that is not taken back yet."""

    def __init__(self):
        HeapError.__init__(self, "there is no deed to take back")


class TooMany(HeapError):
    """There are more of them than the most that may be."""

    def __init__(self, what, many, most):
        HeapError.__init__(self, "there are too many of them")
        self.what = what
        self.many = many
        self.most = most
