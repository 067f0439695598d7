"""Programs written out as procedures, runs of these, and the fewest jumps to redirect before that."""

from itertools import combinations

from armedexits.errors import NotProcedures
from armedexits.moves import behind, beyond, landing, statement_at
from armedexits.programs import Stretch
from armedexits.tables import first_parting


class Procedure:
    """The rows (point, deed) of a stretch, or, with None, of the run as a whole."""

    def __init__(self, stretch, rows):
        self.stretch = stretch
        self.rows = tuple(rows)

    def __iter__(self):
        return iter(self.rows)


def written_out(program, rule):
    """The procedures of a program whose meanings run alike."""
    parting = first_parting(program, rule)
    if parting is not None:
        kind, answers, steps = parting
        raise NotProcedures(kind, answers, steps)
    outlines = _outlines_of(program)
    spans = [span for span in _spans_of(program) if span in outlines]
    numbers = {span: number for number, span in enumerate(spans, start=1)}
    procedures = [Procedure(None, _numbered(outlines[None], numbers))]
    for first, last in spans:
        procedures.append(Procedure(Stretch(first, last), _numbered(outlines[first, last], numbers)))
    return tuple(procedures)


def _outlines_of(program):
    """The rows of each procedure by its span: the indexes (first, last), or None for procedure 0.

    A call in these rows has the span of its procedure, as numbers can be given only when all spans are known.
    """
    outlines = {}
    ahead = [None]
    while ahead:
        span = ahead.pop()
        if span not in outlines:
            outlines[span] = _outline_of(program, span)
            ahead.extend([deed[1] for _, deed in outlines[span] if deed[0] == "call"])
    return outlines


def _outline_of(program, span):
    deeds = {}
    ahead = [(0, 0) if span is None else (span[0], 0)]
    while ahead:
        point = ahead.pop()
        if point not in deeds:
            deeds[point] = _deed_at(program, point, span)
            ahead.extend(_points_after(deeds[point]))
    return [(point, deeds[point]) for point in _points_of(program) if point in deeds]


def _deed_at(program, point, span):
    paragraph, _ = point
    match statement_at(program, point):
        case None if span is not None and span[1] == paragraph:
            return ("return",)
        case None:
            return _deed_beyond(program, paragraph)
        case ("act", word):
            return ("act", word, behind(point))
        case ("go", target):
            return ("go", landing(program, paragraph, target))
        case ("if", test, target):
            return ("ask", test, behind(point), landing(program, paragraph, target))
        case ("perform", _, _):
            stretch = program.stretch_of(behind(point))
            return ("call", (stretch.first, stretch.last), behind(point))
        case _:
            return ("done",)


def _deed_beyond(program, paragraph):
    following = beyond(program, paragraph)
    if following is None:
        return ("done",)
    return ("go", following)


def _points_after(deed):
    """The points to which a deed leads in its procedure if every call comes back."""
    match deed[0]:
        case "ask":
            return [deed[2], deed[3]]
        case "act" | "go" | "call":
            return [deed[-1]]
        case _:
            return []


def _numbered(rows, numbers):
    """The rows with the number of a procedure in each call."""
    numbered = []
    for point, deed in rows:
        if deed[0] == "call":
            _, span, following = deed
            numbered.append((point, ("call", numbers[span], following)))
        else:
            numbered.append((point, deed))
    return numbered


def _spans_of(program):
    """The spans of all stretches, in ascending order."""
    many = len(program.names)
    return [(first, last) for first in range(many) for last in range(first, many)]


def _points_of(program):
    """All points, in ascending order."""
    return [(paragraph, at) for paragraph, body in enumerate(program.bodies) for at in range(len(body) + 1)]


class Journal:
    """What a run of procedures leaves behind; `depth` is the number of calls in progress."""

    def __init__(self):
        self.points = [(0, 0)]
        self.ending = None
        self.calls = []
        self.depth = 0


class Call:
    """A call in progress, from the beginning of a `with` to its end."""

    def __init__(self, journal, number):
        self.journal = journal
        self.number = number

    def __enter__(self):
        self.journal.calls.append(("in", self.number))
        self.journal.depth += 1
        return self

    def __exit__(self, kind, value, trace):
        self.journal.calls.append(("out", self.number))
        self.journal.depth -= 1


class Performance:
    """A run of procedures, with the answers and the steps that it may use."""

    def __init__(self, procedures, answers, steps):
        self.journal = Journal()
        self._stretches = [procedure.stretch for procedure in procedures]
        self._deeds = [{point: deed for point, deed in procedure} for procedure in procedures]
        self._answers = tuple(answers)
        self._given = 0
        self._steps = steps

    def perform(self, number):
        """Run a procedure until it returns or the run stops."""
        journal = self.journal
        while journal.ending is None:
            deed = self._deeds[number][journal.points[-1]]
            journal.ending = self._stop_before(deed)
            if journal.ending is not None or deed[0] == "return":
                return
            if deed[0] == "call":
                _, called, following = deed
                journal.points.append((self._stretches[called].first, 0))
                with Call(journal, called):
                    self.perform(called)
                if journal.ending is None:
                    journal.points.append(following)
            else:
                self._do(deed)

    def _stop_before(self, deed):
        """The ending if the run stops before this deed, or None."""
        # Each step made so far has added a point; that of a return has been added by its caller.
        if len(self.journal.points) - 1 == self._steps:
            return "cut"
        if deed[0] == "ask" and self._given == len(self._answers):
            return "waits"
        return None

    def _do(self, deed):
        """A deed other than a call or a return."""
        match deed:
            case ("done",):
                self.journal.ending = "done"
            case ("ask", _, no, yes):
                self.journal.points.append(yes if self._answers[self._given] else no)
                self._given += 1
            case _:
                self.journal.points.append(deed[-1])


def run_procedures(procedures, answers, *, steps):
    """The Journal of a run of the procedures."""
    performance = Performance(procedures, answers, steps)
    performance.perform(0)
    return performance.journal


def fewest_redirects(program, rule):
    """The first choice of jumps to redirect with which the meanings run alike, and why those before it fail."""
    jumps = list(program.jumps)
    barred = []
    for many in range(len(jumps) + 1):
        for choice in combinations(jumps, many):
            parting = first_parting(program.redirected(choice), rule)
            if parting is None:
                return choice, tuple(barred)
            _, answers, steps = parting
            barred.append((choice, answers, steps))
    return None, tuple(barred)
