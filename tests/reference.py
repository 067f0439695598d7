"""Both meanings once more, in the tests' own words, and searches that follow runs one by one."""

import itertools
import random

from armedexits.errors import ArmedTwice
from armedexits.exits import Beneath, Lost, Refused
from armedexits.programs import Program

LETTERS = "abcdefgh"

RULES = {
    "Lost()": Lost(),
    "Beneath(0)": Beneath(0),
    "Beneath(1)": Beneath(1),
    "Beneath(2)": Beneath(2),
    "Refused()": Refused(),
}

# More steps than a program for which `settle` is used here makes without an event, unless it makes them forever.
MANY = 1000


def example():
    """The program of the example in point 12."""
    return Program([
        ("main", [("perform", "b", "b"), ("stop",)]),
        ("b", [("if", "late", "d")]),
        ("c", [("act", "x")]),
        ("d", [("perform", "b", "c"), ("stop",)]),
    ])


def some_program(chance, paragraphs=3, statements=3, performs=2, jumps=2, words=("x",), stops=0.1, gaps=0.3):
    """A program with these numbers of paragraphs, performs and jumps, and at most so many statements in each."""
    names = LETTERS[:paragraphs]
    slots = [(p, k) for p in range(paragraphs) for k in range(statements)]
    chosen = chance.sample(slots, performs + jumps)
    bodies = {name: [] for name in names}
    for p, k in slots:
        name = names[p]
        target = chance.choice(names) if chance.random() < 0.85 else ""
        if (p, k) in chosen[:performs]:
            # Most stretches begin late, or else most programs would do nothing but perform themselves.
            first = max(chance.randrange(paragraphs), chance.randrange(paragraphs))
            bodies[name].append(("perform", names[first], names[chance.randrange(first, paragraphs)]))
        elif (p, k) in chosen and chance.random() < 0.7:
            bodies[name].append(("if", chance.choice(words), target))
        elif (p, k) in chosen:
            bodies[name].append(("go", target))
        elif chance.random() >= gaps:
            bodies[name].append(("stop",) if chance.random() < stops else ("act", chance.choice(words)))
    return Program(list(bodies.items()))


def some_programs(seed, many, **sizes):
    """Always the same programs for a seed."""
    chance = random.Random(seed)
    return [some_program(chance, **sizes) for _ in range(many)]


def largest_programs(seed, many):
    """Programs at the bounds of point 3."""
    return some_programs(seed, many, paragraphs=8, statements=4, performs=4, jumps=6, stops=0.02, gaps=0)


def rows_of_answers(length):
    """All rows of at most so many answers."""
    return [row for many in range(length + 1) for row in itertools.product((False, True), repeat=many)]


class Machine:
    """The steps of a program under a rule."""

    def __init__(self, program, rule):
        self.bodies = [list(body) + [("end",)] for body in program.bodies]
        self.index = {name: p for p, name in enumerate(program.names)}
        self.rule = rule
        self.settled = {}
        self.points = [(p, k) for p, body in enumerate(self.bodies) for k in range(len(body))]
        self.start = ((0, 0), ((),) * len(self.bodies))
        # The stretch (first, last) of each way.
        self.stretches = {
            (p, k + 1): (self.index[self.bodies[p][k][1]], self.index[self.bodies[p][k][2]])
            for p, k in self.points if self.word((p, k)) == "perform"
        }

    def statement(self, point):
        p, k = point
        return self.bodies[p][k]

    def word(self, point):
        return self.statement(point)[0]

    def answers(self, point):
        return (False, True) if self.word(point) == "if" else (None,)

    def next_point(self, point, answer):
        """The next point if nothing leads back."""
        p, k = point
        word, *rest = self.statement(point)
        if word == "stop" or word == "end" and p + 1 == len(self.bodies):
            return None
        if word == "end":
            return (p + 1, 0)
        if word == "perform":
            return (self.index[rest[0]], 0)
        if word == "act" or word == "if" and not answer:
            return (p, k + 1)
        return (self.index[rest[-1]], 0) if rest[-1] else (p, len(self.bodies[p]) - 1)

    def cell_step(self, point, cells, answer=None):
        p, k = point
        cells, way = list(cells), (p, k + 1)
        if self.word(point) == "end" and cells[p]:
            *below, newest = cells[p]
            cells[p] = tuple(below)
            return newest, tuple(cells)
        if self.word(point) == "perform":
            last = self.stretches[way][1]
            cells[last] = self.rule(cells[last], way)
        return self.next_point(point, answer), tuple(cells)

    def stack_step(self, point, frames, answer=None):
        p, k = point
        if self.word(point) == "end" and self.is_end_of(frames[-1:], p):
            return frames[-1], frames[:-1]
        if self.word(point) == "perform":
            frames = (*frames, (p, k + 1))
        return self.next_point(point, answer), frames

    def is_end_of(self, newest, paragraph):
        """Whether the frame, if there is one, ends at the paragraph."""
        return any(self.stretches[way][1] == paragraph for way in newest)

    def parting(self, point, cells, frames):
        """The kind of parting in the step from here, or None."""
        p, _ = point
        if self.word(point) == "perform":
            try:
                self.cell_step(point, cells)
            except ArmedTwice:
                return "refused"
        if self.word(point) == "end":
            ends = self.is_end_of(frames[-1:], p)
            return {(True, False): "wrong", (False, True): "lost"}.get((bool(cells[p]), ends))
        return None

    def follow(self, answers, steps):
        """The points, the ending or the kind of parting, and the frames then."""
        (point, cells), frames = self.start, ()
        points, answers = [point], list(answers)
        while True:
            if len(points) == steps + 1:
                return tuple(points), "cut", frames
            if self.word(point) == "if" and not answers:
                return tuple(points), "waits", frames
            kind = self.parting(point, cells, frames)
            if kind is not None:
                return tuple(points), kind, frames
            answer = answers.pop(0) if self.word(point) == "if" else None
            following, cells = self.cell_step(point, cells, answer)
            other, frames = self.stack_step(point, frames, answer)
            assert other == following
            if following is None:
                return tuple(points), "done", frames
            point = following
            points.append(point)

    def settle(self, point, cells):
        """The stand to which the cells meaning leads."""
        if (point, cells) not in self.settled:
            self.settled[point, cells] = self.settle_at_last(point, cells)
        return self.settled[point, cells]

    def settle_at_last(self, point, cells):
        for _ in range(MANY):
            if point is None:
                return ("done",), None, ()
            word, *rest = self.statement(point)
            if word == "act" or word == "if":
                return ("act" if word == "act" else "ask", rest[0]), point, cells
            try:
                point, cells = self.cell_step(point, cells)
            except ArmedTwice:
                return ("refused",), None, ()
        return ("loops",), None, ()

    def stands(self, answers, most):
        """The stands of the run of the cells meaning with these answers, at most `most` events apart from the first."""
        stands, answers = [self.settle(*self.start)], list(answers)
        while len(stands) <= most and stands[-1][1] is not None:
            (word, _), point, cells = stands[-1]
            if word == "ask" and not answers:
                break
            answer = answers.pop(0) if word == "ask" else None
            stands.append(self.settle(*self.cell_step(point, cells, answer)))
        return stands


class Runs:
    """All runs of both meanings side by side, as long as there are not too many, and what they reach."""

    def __init__(self, program, rule, most_steps, most_runs=2000):
        self.machine = Machine(program, rule)
        # The fewest steps to each level (way, cells), row ((way, cells), point, cells) and kind of parting.
        self.levels, self.rows, self.partings = {}, {}, {}
        point, cells = self.machine.start
        # Each frame is a way, the cells after its perform, and the number of steps made then.
        runs = {(point, cells, ((None, cells, 0),))}
        self.horizon = -1
        while runs and self.horizon < most_steps and len(runs) <= most_runs:
            self.horizon += 1
            runs = {later for run in runs for later in self.step(*run)}

    def step(self, point, cells, stack):
        """What is reached with the run, and the runs that are one step longer."""
        way, entry, begun = stack[-1]
        frames = tuple(frame[0] for frame in stack[1:])
        row = ((way, entry), point, cells)
        self.levels.setdefault((way, entry), begun)
        self.rows[row] = min(self.horizon - begun, self.rows.get(row, self.horizon))
        kind = self.machine.parting(point, cells, frames)
        if kind is not None:
            self.partings.setdefault(kind, self.horizon)
            return
        for answer in self.machine.answers(point):
            following, held = self.machine.cell_step(point, cells, answer)
            _, left = self.machine.stack_step(point, frames, answer)
            if following is not None and len(left) > len(frames):
                yield following, held, (*stack, (left[-1], held, self.horizon + 1))
            elif following is not None:
                yield following, held, stack[:len(left) + 1]
