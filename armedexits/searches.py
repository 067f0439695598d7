"""The search through all runs of both meanings, side by side, for rows, levels and partings."""

from armedexits.errors import LostReturn, RefusedPerform, WrongReturn
from armedexits.moves import asks_at, behind
from armedexits.runs import START, empty_cells, joint_step


class Places:
    """Points with cells, each known by a number, and what both meanings do there."""

    def __init__(self, program, rule):
        self.program = program
        self.rule = rule
        self.listed = []
        self._numbers = {}
        self._deeds = {}

    def number_of(self, point, cells):
        """The number of the place."""
        place = (point, cells)
        if place not in self._numbers:
            self._numbers[place] = len(self.listed)
            self.listed.append(place)
        return self._numbers[place]

    def deed_at(self, way, place):
        """What is done at the place while the newest frame is `way`, or, with None, while there is no frame.

        It is a kind, and for each answer that may be given a pair of it and the place to which the step leads.
        """
        if (way, place) not in self._deeds:
            self._deeds[way, place] = self._new_deed(way, place)
        return self._deeds[way, place]

    def _new_deed(self, way, place):
        point, cells = self.listed[place]
        frames = () if way is None else (way,)
        answers = (False, True) if asks_at(self.program, point) else (None,)
        exits = []
        try:
            for answer in answers:
                # The errors are asked for their kind only; so the number of steps in them may be any.
                following, held, left = joint_step(self.program, self.rule, point, cells, frames, answer, made=0)
                if following is None:
                    return "done", ()
                exits.append((answer, self.number_of(following, held)))
        except WrongReturn:
            return "wrong", ()
        except LostReturn:
            return "lost", ()
        except RefusedPerform:
            return "refused", ()
        return _kind_of_step(len(left) - len(frames)), tuple(exits)


def _kind_of_step(growth):
    """The kind of a step that parts nothing and ends nothing, by the number of frames that it adds."""
    match growth:
        case 1:
            return "call"
        case -1:
            return "return"
        case _:
            return "step"


class Level:
    """What is known of a level. Rows are given by their numbers."""

    def __init__(self, way, cells, steps, opener):
        self.way = way
        self.entry = cells
        self.steps = steps
        # The caller from which a shortest run begins the level; None for the outermost one.
        self.opener = opener
        self.callers = []
        self.returns = []
        # The places of its rows.
        self.reached = {}


class Search:
    """Levels and rows, in the order in which the shortest runs come to them.

    Nothing in a level depends on the frames below its own. So it is searched once, from its earliest beginning, and
    what leads from there to its returns leads to them from each of its callers in as many steps.

    A row is (level, place, before, answer, last), all but the answer by number: the row and the answer from which a
    step leads to it, or the caller `before` to which the row `last` returns, or neither where the level begins. As
    tuples of mere numbers, rows cost the garbage collection no time, and there may be a million of them.
    """

    def __init__(self, program, rule):
        self.places = Places(program, rule)
        self.levels = []
        self.rows = []
        # For each row, the steps of a shortest run to it.
        self.times = []
        # For each kind of parting that has been found, the number of the row before the step.
        self.partings = {}
        self._numbers = {}
        # For each number of steps, the rows that are reached then, if not before.
        self._agenda = {}
        self._time = 0
        self._begin(None, self.places.number_of(START, empty_cells(program)), 0, None)

    def find_all(self):
        """Search through all runs."""
        while self._agenda:
            self._go_on()

    def find_parting(self):
        """Search until a shortest run has been found that parts the meanings, and all others of its length."""
        while self._agenda and not self.partings:
            self._go_on()

    def answers_before(self, row):
        """The answers given in a shortest run to the row."""
        answers = []
        callers = []
        while row is not None:
            level, _, before, answer, last = self.rows[row]
            if answer is not None:
                answers.append(answer)
            if last is not None:
                # First back through the level that returned, to its beginning, then on from its caller.
                callers.append(before)
                row = last
            elif before is not None:
                row = before
            elif callers:
                row = callers.pop()
            else:
                row = self.levels[level].opener
        return tuple(answers[::-1])

    def _go_on(self):
        arrivals = self._agenda.pop(self._time, ())
        for row in arrivals:
            level, place, _, _, _ = row
            if place not in self.levels[level].reached:
                self._add(row)
        self._time += 1

    def _begin(self, way, place, time, opener):
        number = len(self.levels)
        _, cells = self.places.listed[place]
        self.levels.append(Level(way, cells, time, opener))
        self._numbers[way, place] = number
        self._plan(time, (number, place, None, None, None))

    def _plan(self, time, row):
        level, place, _, _, _ = row
        if place not in self.levels[level].reached:
            self._agenda.setdefault(time, []).append(row)

    def _add(self, row):
        """Add a row, and plan the rows to which it leads."""
        number = len(self.rows)
        self.rows.append(row)
        self.times.append(self._time)
        level, place, _, _, _ = row
        self.levels[level].reached[place] = True
        kind, exits = self.places.deed_at(self.levels[level].way, place)
        match kind:
            case "step":
                for answer, following in exits:
                    self._plan(self._time + 1, (level, following, number, answer, None))
            case "call":
                self._call(number, place, exits[0][1])
            case "return":
                self._return(number, level, exits[0][1])
            case "wrong" | "lost" | "refused":
                self.partings.setdefault(kind, number)

    def _call(self, caller, place, entry):
        point, _ = self.places.listed[place]
        way = behind(point)
        if (way, entry) not in self._numbers:
            self._begin(way, entry, self._time + 1, caller)
        level = self.levels[self._numbers[way, entry]]
        level.callers.append(caller)
        for last, following in level.returns:
            self._come_back(caller, last, following)

    def _return(self, last, number, following):
        level = self.levels[number]
        level.returns.append((last, following))
        for caller in level.callers:
            self._come_back(caller, last, following)

    def _come_back(self, caller, last, following):
        """Plan the row to which a level returns, with the steps from its beginning, as from its caller."""
        outer, _, _, _, _ = self.rows[caller]
        inner, _, _, _, _ = self.rows[last]
        within = self.times[last] - self.levels[inner].steps
        self._plan(self.times[caller] + 1 + within + 1, (outer, following, caller, None, last))
