"""All runs of both meanings, side by side, as a finite table of levels and rows."""

from armedexits.searches import Search

KINDS = ("wrong", "lost", "refused")


class Comparison:
    """The levels and rows that runs reach, and a shortest run to each kind of parting."""

    def __init__(self, levels, rows, partings):
        self.levels = tuple(levels)
        self.rows = tuple(rows)
        self.wrong = partings.get("wrong")
        self.lost = partings.get("lost")
        self.refused = partings.get("refused")

    @property
    def shortest(self):
        """The answers and steps of a shortest run that parts the meanings, or None."""
        best = None
        for parting in (self.wrong, self.lost, self.refused):
            if parting is not None and (best is None or parting[1] < best[1]):
                best = parting
        return best

    @property
    def alike(self):
        """Whether no run parts the meanings."""
        return self.shortest is None


def compare(program, rule):
    """The Comparison of both meanings of the program."""
    search = Search(program, rule)
    search.find_all()
    levels = [(level.way, level.entry, level.steps) for level in search.levels]
    return Comparison(levels, _rows_of(search), _partings_of(search))


def first_parting(program, rule):
    """The kind, the answers and the steps of a shortest run that parts the meanings, or None.

    This is the `shortest` of the Comparison, found without a search through the runs that are longer.
    """
    search = Search(program, rule)
    search.find_parting()
    partings = _partings_of(search)
    for kind in KINDS:
        if kind in partings:
            answers, steps = partings[kind]
            return kind, answers, steps
    return None


def _rows_of(search):
    rows = []
    for (level, place, _, _, _), time in zip(search.rows, search.times):
        point, cells = search.places.listed[place]
        rows.append((level, point, cells, time - search.levels[level].steps))
    return rows


def _partings_of(search):
    """For each kind of parting, the answers and the steps of a shortest run to it."""
    return {kind: (search.answers_before(row), search.times[row]) for kind, row in search.partings.items()}
