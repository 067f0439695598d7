"""The rules by which a cell stores a way, and cells that can be changed."""

from armedexits.errors import ArmedTwice, NotArmed


class Lost:
    """A new way takes the place of all that the cell holds."""

    def __call__(self, held, way):
        return (way,)


class Beneath:
    """A new way lies upon the newest `depth` ways that the cell holds."""

    def __init__(self, depth=1):
        self.depth = depth

    def __call__(self, held, way):
        # Counted from the front, since held[-0:] would keep all ways at depth 0.
        start = max(0, len(held) - self.depth)
        return held[start:] + (way,)


class Refused:
    """A cell that is not empty takes no new way."""

    def __call__(self, held, way):
        if held:
            raise ArmedTwice(held, way)
        return (way,)


class Exits:
    """The cells of the paragraphs, into which ways are stored by a rule."""

    def __init__(self, rule, cells):
        self._rule = rule
        self._contents = [tuple(ways) for ways in cells]

    def __getitem__(self, at):
        return self._contents[at]

    def __setitem__(self, at, worth):
        self._contents[at] = tuple(worth)

    def __contains__(self, x):
        return len(self._contents[x]) > 0

    def __iter__(self):
        return iter(self._contents)

    @property
    def cells(self):
        """The contents of all cells, in order."""
        return tuple(self._contents)

    def arm(self, p, way):
        """Store a way in the cell of paragraph p."""
        self._contents[p] = self._rule(self._contents[p], way)

    def take(self, p):
        """Remove the newest way from the cell of paragraph p and return it."""
        held = self._contents[p]
        if not held:
            raise NotArmed(p)
        self._contents[p] = held[:-1]
        return held[-1]
