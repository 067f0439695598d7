"""The steps of both meanings: points 5, 6 and 8."""

import random
import unittest

from armedexits.errors import ArmedTwice
from armedexits.exits import Beneath, Lost, Refused
from armedexits.programs import Program
from armedexits.runs import cell_step, stack_step
from tests.helpers import error_of, rich_paragraphs
from tests.reference import RULES, Machine, some_programs

# Its stretches: (0, 1) main to c, (0, 2) b to b, (1, 1) c to c, (2, 3) b to c.
PROGRAM = Program([
    ("main", [("perform", "main", "c"), ("perform", "b", "b"), ("act", "x"), ("stop",)]),
    ("b", [("perform", "c", "c"), ("if", "late", "main"), ("if", "again", ""), ("go", "d")]),
    ("c", [("go", ""), ("act", "y"), ("perform", "b", "c")]),
    ("void", []),
    ("d", [("go", "void"), ("if", "t", "d")]),
])

EMPTY = ((), (), (), (), ())

SOME = (((0, 1),), (), ((2, 3), (1, 1)), (), ((0, 2),))

ANSWERS = (None, False, True)


class PlainSteps(unittest.TestCase):
    """Steps that concern neither cells nor frames."""

    def check(self, point, following, answers=ANSWERS):
        for answer in answers:
            for rule in RULES.values():
                for cells in (EMPTY, SOME):
                    with self.subTest(point=point, answer=answer, cells=cells):
                        self.assertEqual(cell_step(PROGRAM, rule, point, cells, answer), (following, cells))
            for frames in ((), ((0, 1),), ((2, 3), (1, 1))):
                with self.subTest(point=point, answer=answer, frames=frames):
                    self.assertEqual(stack_step(PROGRAM, point, frames, answer), (following, frames))

    def test_act(self):
        self.check((0, 2), (0, 3))
        self.check((2, 1), (2, 2))

    def test_go(self):
        self.check((1, 3), (4, 0))
        self.check((4, 0), (3, 0))

    def test_go_to_the_end_of_the_paragraph(self):
        self.check((2, 0), (2, 3))

    def test_if_on_yes(self):
        self.check((1, 1), (0, 0), [True])
        self.check((4, 1), (4, 0), [True])

    def test_if_on_yes_to_the_end_of_the_paragraph(self):
        self.check((1, 2), (1, 4), [True])

    def test_if_on_no(self):
        self.check((1, 1), (1, 2), [False])
        self.check((1, 2), (1, 3), [False])
        self.check((4, 1), (4, 2), [False])

    def test_stop(self):
        self.check((0, 3), None)

    def test_an_answer_may_be_left_out_or_named(self):
        self.assertEqual(cell_step(PROGRAM, Lost(), (0, 2), EMPTY), ((0, 3), EMPTY))
        self.assertEqual(cell_step(PROGRAM, Lost(), (1, 1), EMPTY, answer=True), ((0, 0), EMPTY))
        self.assertEqual(stack_step(PROGRAM, (0, 2), ()), ((0, 3), ()))
        self.assertEqual(stack_step(PROGRAM, (1, 1), (), answer=True), ((0, 0), ()))


class Cells(unittest.TestCase):
    def test_perform_stores_at_the_last_paragraph_and_goes_to_the_first(self):
        for answer in ANSWERS:
            for rule in RULES.values():
                step = cell_step(PROGRAM, rule, (0, 0), EMPTY, answer)
                self.assertEqual(step, ((0, 0), ((), (), ((0, 1),), (), ())))
                step = cell_step(PROGRAM, rule, (0, 1), EMPTY, answer)
                self.assertEqual(step, ((1, 0), ((), ((0, 2),), (), (), ())))
                step = cell_step(PROGRAM, rule, (2, 2), EMPTY, answer)
                self.assertEqual(step, ((1, 0), ((), (), ((2, 3),), (), ())))

    def test_perform_stores_by_the_rule(self):
        held = ((2, 3), (1, 1), (0, 1))
        for rule, content in (
            (Lost(), ((1, 1),)),
            (Beneath(0), ((1, 1),)),
            (Beneath(), ((0, 1), (1, 1))),
            (Beneath(2), ((1, 1), (0, 1), (1, 1))),
        ):
            cells = (((0, 1),), (), held, (), ())
            expected = ((2, 0), (((0, 1),), (), content, (), ()))
            self.assertEqual(cell_step(PROGRAM, rule, (1, 0), cells), expected)

    def test_a_refusal_passes_through(self):
        for held in (((0, 1),), ((0, 1), (2, 3))):
            error = error_of(self, ArmedTwice, cell_step, PROGRAM, Refused(), (1, 0), ((), (), held, (), ()))
            self.assertEqual((error.held, error.way), (held, (1, 1)))
        self.assertEqual(
            cell_step(PROGRAM, Refused(), (1, 0), (((0, 1),), ((0, 2),), (), ((0, 1),), ((0, 1),)))[0], (2, 0)
        )

    def test_the_end_of_a_paragraph_with_an_empty_cell(self):
        others = ((0, 1), (0, 2))
        for answer in ANSWERS:
            for paragraph, end, following in (
                (0, (0, 4), (1, 0)), (1, (1, 4), (2, 0)), (2, (2, 3), (3, 0)), (3, (3, 0), (4, 0)), (4, (4, 2), None),
            ):
                cells = tuple(() if p == paragraph else others for p in range(5))
                self.assertEqual(cell_step(PROGRAM, Lost(), end, cells, answer), (following, cells))
                self.assertEqual(cell_step(PROGRAM, Lost(), end, EMPTY, answer), (following, EMPTY))

    def test_the_end_of_a_paragraph_with_one_two_and_three_ways(self):
        ways = ((2, 3), (0, 1), (1, 1))
        for rule in RULES.values():
            for answer in ANSWERS:
                for paragraph, end in ((0, (0, 4)), (1, (1, 4)), (2, (2, 3)), (3, (3, 0)), (4, (4, 2))):
                    for many in (1, 2, 3):
                        with self.subTest(end=end, many=many):
                            cells = tuple(ways[:many] if p == paragraph else SOME[p] for p in range(5))
                            left = tuple(ways[:many - 1] if p == paragraph else SOME[p] for p in range(5))
                            expected = (ways[many - 1], left)
                            self.assertEqual(cell_step(PROGRAM, rule, end, cells, answer), expected)

    def test_a_cell_does_not_matter_before_the_end_of_its_paragraph(self):
        cells = (((0, 1),),) * 5
        self.assertEqual(cell_step(PROGRAM, Lost(), (0, 2), cells), ((0, 3), cells))
        self.assertEqual(cell_step(PROGRAM, Lost(), (2, 0), cells), ((2, 3), cells))
        self.assertEqual(cell_step(PROGRAM, Lost(), (0, 3), cells), (None, cells))


class Stack(unittest.TestCase):
    def test_perform_appends_its_way(self):
        for answer in ANSWERS:
            for frames in ((), ((0, 1),), ((1, 1), (1, 1))):
                self.assertEqual(stack_step(PROGRAM, (0, 0), frames, answer), ((0, 0), frames + ((0, 1),)))
                self.assertEqual(stack_step(PROGRAM, (0, 1), frames, answer), ((1, 0), frames + ((0, 2),)))
                self.assertEqual(stack_step(PROGRAM, (1, 0), frames, answer), ((2, 0), frames + ((1, 1),)))
                self.assertEqual(stack_step(PROGRAM, (2, 2), frames, answer), ((1, 0), frames + ((2, 3),)))

    def test_the_end_of_a_paragraph_where_the_newest_frame_ends(self):
        for answer in ANSWERS:
            for below in ((), ((0, 2),), ((0, 1), (1, 1))):
                for way in ((0, 1), (1, 1), (2, 3)):
                    self.assertEqual(stack_step(PROGRAM, (2, 3), below + (way,), answer), (way, below))
                self.assertEqual(stack_step(PROGRAM, (1, 4), below + ((0, 2),), answer), ((0, 2), below))

    def test_the_end_of_a_paragraph_without_a_frame(self):
        for end, following in (
            ((0, 4), (1, 0)), ((1, 4), (2, 0)), ((2, 3), (3, 0)), ((3, 0), (4, 0)), ((4, 2), None),
        ):
            self.assertEqual(stack_step(PROGRAM, end, ()), (following, ()))

    def test_the_end_of_a_paragraph_where_the_newest_frame_does_not_end(self):
        for frames in (((0, 1),), ((0, 2), (0, 1)), ((2, 3),)):
            for end, following in (((0, 4), (1, 0)), ((1, 4), (2, 0)), ((3, 0), (4, 0)), ((4, 2), None)):
                self.assertEqual(stack_step(PROGRAM, end, frames), (following, frames))

    def test_an_older_frame_that_ends_here_does_not_matter(self):
        self.assertEqual(stack_step(PROGRAM, (1, 4), ((0, 2), (0, 1))), ((2, 0), ((0, 2), (0, 1))))
        self.assertEqual(stack_step(PROGRAM, (2, 3), ((1, 1), (0, 2))), ((3, 0), ((1, 1), (0, 2))))

    def test_the_end_of_the_last_paragraph(self):
        program = Program([("a", [("perform", "a", "b")]), ("b", [])])
        self.assertEqual(stack_step(program, (1, 0), ((0, 1),)), ((0, 1), ()))
        self.assertEqual(stack_step(program, (1, 0), ()), (None, ()))
        self.assertEqual(cell_step(program, Lost(), (1, 0), ((), ((0, 1),))), ((0, 1), ((), ())))
        self.assertEqual(cell_step(program, Lost(), (1, 0), ((), ())), (None, ((), ())))


class AllSteps(unittest.TestCase):
    def check(self, program, rule, chance):
        machine = Machine(program, rule)
        ways = list(machine.stretches)
        for point in machine.points:
            for answer in machine.answers(point):
                cells = tuple(tuple(chance.choices(ways, k=chance.randrange(4))) for _ in program.names)
                frames = tuple(chance.choices(ways, k=chance.randrange(4)))
                self.assertEqual(stack_step(program, point, frames, answer), machine.stack_step(point, frames, answer))
                try:
                    expected = machine.cell_step(point, cells, answer)
                except ArmedTwice as refusal:
                    error = error_of(self, ArmedTwice, cell_step, program, rule, point, cells, answer)
                    self.assertEqual((error.held, error.way), (refusal.held, refusal.way))
                else:
                    self.assertEqual(cell_step(program, rule, point, cells, answer), expected)

    def test_any_point_any_cells_any_frames(self):
        chance = random.Random(5)
        programs = [PROGRAM, Program(rich_paragraphs())] + some_programs(5, 60, paragraphs=4, performs=3, jumps=3)
        for program in programs:
            for name, rule in RULES.items():
                with self.subTest(bodies=program.bodies, rule=name):
                    self.check(program, rule, chance)


if __name__ == "__main__":
    unittest.main()
