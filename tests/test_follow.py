"""Both meanings side by side: points 9 and 10."""

import unittest

from armedexits.errors import ArmedTwice, CrossedStretch, LeftStretch, LostReturn, RefusedPerform, WrongReturn
from armedexits.exits import Beneath, Lost, Refused
from armedexits.programs import Program
from armedexits.runs import follow
from tests.helpers import paragraphs_named
from tests.reference import RULES, Machine, example, rows_of_answers, some_programs

KINDS = {"wrong": WrongReturn, "lost": LostReturn, "refused": RefusedPerform}


def again_program():
    """On yes, b is performed again before it has ended; then it ends twice."""
    return Program([
        ("a", [("perform", "b", "b"), ("stop",)]),
        ("b", [("if", "t", "c")]),
        ("c", [("perform", "b", "b"), ("go", "b")]),
    ])


def away_program():
    """The stretch e is left for the end of b, whose cell then holds one way or two."""
    return Program([
        ("a", [("perform", "b", "b"), ("stop",)]),
        ("b", [("if", "t", "c"), ("if", "u", "d")]),
        ("c", [("perform", "b", "b"), ("stop",)]),
        ("d", [("perform", "e", "e"), ("stop",)]),
        ("e", [("go", "b")]),
    ])


def met_program(paragraph):
    """The cell of the paragraph is armed when the stretch c to e performs its way to the end of the paragraph."""
    statements = {name: [] for name in "mabcdefg"}
    statements["m"] = [("perform", paragraph, paragraph), ("stop",)]
    statements[paragraph] = [("if", "t", "g")]
    statements["g"] = [("perform", "c", "e"), ("stop",)]
    if paragraph != "c":
        statements["c"] = [("go", paragraph)]
    return Program(list(statements.items()))


class Following(unittest.TestCase):
    def error_of(self, kind, program, rule, answers, steps):
        with self.assertRaises(kind) as caught:
            follow(program, rule, answers, steps=steps)
        self.assertIs(type(caught.exception), kind)
        return caught.exception


class Partings(Following):
    """For each kind the step before it, the step itself and one more."""

    def check(self, program, rule, answers, points, kind, fields, cause, cause_fields):
        made = len(points) - 1
        for steps in range(made + 1):
            self.assertEqual(follow(program, rule, answers, steps=steps), (points[:steps + 1], "cut"))
        for steps in (made + 1, made + 2, made + 1000):
            for more in ((), (False,), (True, True)):
                error = self.error_of(kind, program, rule, answers + more, steps)
                self.assertEqual(vars(error), {**fields, "steps": made})
                self.assertIs(type(error.__cause__), cause)
                self.assertEqual({name: getattr(error.__cause__, name) for name in cause_fields}, cause_fields)

    def test_the_example(self):
        self.check(
            example(), Lost(), (True, False), ((0, 0), (1, 0), (3, 0), (1, 0), (1, 1)),
            WrongReturn, {"paragraph": 1, "way": (0, 1), "why": "crossed"}, CrossedStretch, {"first": 1, "last": 2},
        )

    def test_wrong_after_a_stretch_of_one_paragraph_was_left(self):
        for rule in RULES.values():
            self.check(
                away_program(), rule, (False, True, False, False),
                ((0, 0), (1, 0), (1, 1), (3, 0), (4, 0), (1, 0), (1, 1), (1, 2)),
                WrongReturn, {"paragraph": 1, "way": (0, 1), "why": "left"}, LeftStretch, {"first": 4, "last": 4},
            )

    def test_wrong_tells_the_newest_way(self):
        for rule in (Lost(), Beneath(0), Beneath(), Beneath(2)):
            self.check(
                away_program(), rule, (True, False, True, False, False),
                ((0, 0), (1, 0), (2, 0), (1, 0), (1, 1), (3, 0), (4, 0), (1, 0), (1, 1), (1, 2)),
                WrongReturn, {"paragraph": 1, "way": (2, 1), "why": "left"}, LeftStretch, {"first": 4, "last": 4},
            )

    def test_the_paragraph_at_and_beside_both_ends_of_the_stretch(self):
        # The stretch is c to e, the paragraphs 3 to 5. At its very end, the frame ends.
        for paragraph, why in (("a", "left"), ("b", "left"), ("c", "crossed"), ("d", "crossed"), ("f", "left")):
            at = "mabcdefg".index(paragraph)
            away = ((0, 0), (at, 0), (7, 0), (3, 0))
            points = away + (((3, 1),) if paragraph == "c" else ((at, 0), (at, 1)))
            with self.subTest(paragraph=paragraph):
                self.check(
                    met_program(paragraph), Lost(), (True, False), points,
                    WrongReturn, {"paragraph": at, "way": (0, 1), "why": why},
                    CrossedStretch if why == "crossed" else LeftStretch, {"first": 3, "last": 5},
                )

    def test_no_parting_where_the_newest_frame_ends_too(self):
        points, ending = follow(met_program("e"), Beneath(), (True, False), steps=100)
        self.assertEqual(points, ((0, 0), (5, 0), (7, 0), (3, 0), (5, 0), (5, 1), (7, 1)))
        self.assertEqual(ending, "done")

    def test_lost(self):
        for rule in (Lost(), Beneath(0)):
            self.check(
                again_program(), rule, (True, False, False),
                ((0, 0), (1, 0), (2, 0), (1, 0), (1, 1), (2, 1), (1, 0), (1, 1)),
                LostReturn, {"paragraph": 1, "way": (0, 1)}, type(None), {},
            )

    def test_lost_tells_the_newest_frame(self):
        self.check(
            again_program(), Beneath(1), (True, True, True, False, False, False),
            ((0, 0), (1, 0), (2, 0), (1, 0), (2, 0), (1, 0), (2, 0), (1, 0), (1, 1), (2, 1), (1, 0), (1, 1), (2, 1),
             (1, 0), (1, 1)),
            LostReturn, {"paragraph": 1, "way": (2, 1)}, type(None), {},
        )

    def test_nothing_is_lost_that_lies_beneath(self):
        points = ((0, 0), (1, 0), (2, 0), (1, 0), (1, 1), (2, 1), (1, 0), (1, 1), (0, 1))
        for rule in (Beneath(1), Beneath(2)):
            self.assertEqual(follow(again_program(), rule, (True, False, False), steps=100), (points, "done"))

    def test_refused(self):
        self.check(
            again_program(), Refused(), (True,), ((0, 0), (1, 0), (2, 0)),
            RefusedPerform, {"paragraph": 1, "way": (2, 1)}, ArmedTwice, {"held": ((0, 1),), "way": (2, 1)},
        )

    def test_refused_tells_the_last_paragraph_of_the_stretch(self):
        program = Program([("a", [("act", "x"), ("perform", "a", "c")]), ("b", []), ("c", [])])
        self.check(
            program, Refused(), (), ((0, 0), (0, 1), (0, 0), (0, 1)),
            RefusedPerform, {"paragraph": 2, "way": (0, 2)}, ArmedTwice, {"held": ((0, 2),), "way": (0, 2)},
        )


class Endings(Following):
    def test_no_steps(self):
        for program in (example(), Program(paragraphs_named("a")), Program([("a", [("if", "t", "a")])])):
            for answers in ((), (True,)):
                self.assertEqual(follow(program, Lost(), answers, steps=0), (((0, 0),), "cut"))

    def test_a_program_without_statements(self):
        program = Program(paragraphs_named("a", "b"))
        self.assertEqual(follow(program, Lost(), [], steps=1), (((0, 0), (1, 0)), "cut"))
        self.assertEqual(follow(program, Lost(), [], steps=2), (((0, 0), (1, 0)), "done"))
        self.assertEqual(follow(program, Lost(), [], steps=3), (((0, 0), (1, 0)), "done"))

    def test_stop(self):
        program = Program([("a", [("act", "x"), ("stop",), ("act", "y")])])
        self.assertEqual(follow(program, Lost(), [], steps=1), (((0, 0), (0, 1)), "cut"))
        self.assertEqual(follow(program, Lost(), [], steps=2), (((0, 0), (0, 1)), "done"))
        self.assertEqual(follow(program, Lost(), [], steps=9), (((0, 0), (0, 1)), "done"))

    def test_too_few_answers(self):
        points = ((0, 0), (1, 0), (3, 0), (1, 0), (1, 1))
        self.assertEqual(follow(example(), Lost(), [], steps=100), (points[:2], "waits"))
        self.assertEqual(follow(example(), Lost(), [True], steps=100), (points[:4], "waits"))
        self.assertEqual(follow(example(), Lost(), [True], steps=4), (points[:4], "waits"))

    def test_cut_before_waits(self):
        self.assertEqual(follow(example(), Lost(), [], steps=1), (((0, 0), (1, 0)), "cut"))
        self.assertEqual(follow(example(), Lost(), [], steps=2), (((0, 0), (1, 0)), "waits"))

    def test_too_many_answers(self):
        points = ((0, 0), (1, 0), (1, 1), (0, 1))
        for more in ([], [True], [False, True, True]):
            self.assertEqual(follow(example(), Lost(), [False] + more, steps=100), (points, "done"))

    def test_answers_as_list_and_as_tuple(self):
        for answers in rows_of_answers(3):
            given = list(answers)
            try:
                expected = follow(example(), Beneath(), answers, steps=20)
            except WrongReturn:
                self.error_of(WrongReturn, example(), Beneath(), given, 20)
            else:
                self.assertEqual(follow(example(), Beneath(), given, steps=20), expected)
            self.assertEqual(given, list(answers))

    def test_what_is_returned(self):
        found = follow(example(), Lost(), [False], steps=9)
        self.assertIsInstance(found, tuple)
        self.assertIsInstance(found[0], tuple)

    def test_steps_are_named(self):
        with self.assertRaises(TypeError):
            follow(example(), Lost(), [], 5)

    def test_a_stack_without_bound(self):
        program = Program([("a", [("perform", "a", "a")])])
        self.assertEqual(follow(program, Beneath(2), [], steps=20000), (((0, 0),) * 20001, "cut"))


class AllRuns(Following):
    def check(self, program, rule, answers, steps):
        points, ending, frames = Machine(program, rule).follow(answers, steps)
        if ending not in KINDS:
            self.assertEqual(follow(program, rule, answers, steps=steps), (points, ending))
            return ending
        error = self.error_of(KINDS[ending], program, rule, answers, steps)
        self.assertEqual(error.steps, len(points) - 1)
        if ending == "lost":
            self.assertEqual((error.paragraph, error.way), (points[-1][0], frames[-1]))
        if ending == "wrong":
            first, last = Machine(program, rule).stretches[frames[-1]]
            self.assertEqual((error.__cause__.first, error.__cause__.last), (first, last))
            self.assertEqual(error.why, "crossed" if first <= error.paragraph <= last else "left")
            self.assertIs(type(error.__cause__), CrossedStretch if error.why == "crossed" else LeftStretch)
            self.assertEqual(error.paragraph, points[-1][0])
            return error.why
        return ending

    def test_every_row_of_answers(self):
        found = {}
        for program in some_programs(9, 180, paragraphs=4, statements=2, performs=3, jumps=4, gaps=0.8):
            for name, rule in RULES.items():
                for answers in rows_of_answers(4):
                    for steps in (7, 40):
                        with self.subTest(bodies=program.bodies, rule=name, answers=answers, steps=steps):
                            ending = self.check(program, rule, answers, steps)
                            found[ending] = found.get(ending, 0) + 1
        for ending in ("cut", "waits", "done", "crossed", "left", "lost", "refused"):
            self.assertGreater(found.get(ending, 0), 20, ending)


if __name__ == "__main__":
    unittest.main()
