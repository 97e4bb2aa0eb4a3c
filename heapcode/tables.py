"""Tables: what they tell at one time, kept so that many tables that follow one another take little room."""


class Table:
    """A table that never changes: an older one, or None, and the entries that it tells otherwise."""

    def __init__(self, older, entries):
        self.older = older
        self.entries = entries
        self.depth = 0 if older is None else older.depth + 1

    def whole(self):
        """All entries: a new dict from marks to places."""
        layers = []
        table = self
        while table is not None:
            layers.append(table.entries)
            table = table.older
        found = {}
        for entries in layers[::-1]:
            found.update(entries)
        return found
