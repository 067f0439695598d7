"""Procedures and their runs: points 16 and 17."""

import unittest

from armedexits.errors import ArmedTwice, NotProcedures, Parted
from armedexits.exits import Beneath, Lost, Refused
from armedexits.procedures import Call, Journal, Procedure, run_procedures, written_out
from armedexits.programs import Program, Stretch
from armedexits.runs import follow
from armedexits.tables import compare
from tests.helpers import error_of, paragraphs_named
from tests.reference import RULES, Machine, example, largest_programs, rows_of_answers, some_programs


def spans(procedures):
    """The first and last paragraph of each procedure's stretch."""
    return [stretch and (stretch.first, stretch.last) for stretch in (made.stretch for made in procedures)]


def nested():
    """Each of the stretches b, c to d and d to d is performed only behind the one before it."""
    return Program([
        ("a", [("perform", "b", "b"), ("stop",)]),
        ("b", [("perform", "c", "d"), ("act", "x")]),
        ("c", [("perform", "e", "e"), ("if", "t", "d"), ("go", "")]),
        ("d", []),
        ("e", [("act", "y")]),
    ])


class WrittenOut(unittest.TestCase):
    def check(self, program, expected, rules=tuple(RULES)):
        """Each procedure as its span and its rows."""
        for name in rules:
            procedures = written_out(program, RULES[name])
            self.assertIsInstance(procedures, tuple)
            self.assertEqual(spans(procedures), [span for span, _ in expected])
            for procedure, (_, rows) in zip(procedures, expected):
                self.assertIsInstance(procedure, Procedure)
                self.assertIsInstance(procedure.rows, tuple)
                self.assertEqual(procedure.rows, tuple(rows))
                self.assertEqual(list(procedure), rows)
                self.assertTrue(procedure.stretch is None or isinstance(procedure.stretch, Stretch))

    def test_without_performs(self):
        self.check(Program(paragraphs_named("a")), [(None, [((0, 0), ("done",))])])
        self.check(
            Program([
                ("a", [("if", "t", "c"), ("if", "u", ""), ("act", "x"), ("go", "c")]),
                ("b", [("act", "y")]),
                ("c", [("go", ""), ("stop",)]),
            ]),
            [(None, [
                ((0, 0), ("ask", "t", (0, 1), (2, 0))),
                ((0, 1), ("ask", "u", (0, 2), (0, 4))),
                ((0, 2), ("act", "x", (0, 3))),
                ((0, 3), ("go", (2, 0))),
                ((0, 4), ("go", (1, 0))),
                ((1, 0), ("act", "y", (1, 1))),
                ((1, 1), ("go", (2, 0))),
                ((2, 0), ("go", (2, 2))),
                ((2, 2), ("done",)),
            ])],
        )

    def test_stop(self):
        self.check(Program([("a", [("act", "x"), ("stop",), ("act", "y")]), ("b", [])]), [
            (None, [((0, 0), ("act", "x", (0, 1))), ((0, 1), ("done",))]),
        ])

    def test_procedures_reached_only_behind_one_another(self):
        self.check(nested(), [
            (None, [((0, 0), ("call", 1, (0, 1))), ((0, 1), ("done",))]),
            ((1, 1), [
                ((1, 0), ("call", 2, (1, 1))), ((1, 1), ("act", "x", (1, 2))), ((1, 2), ("return",)),
            ]),
            ((2, 3), [
                ((2, 0), ("call", 3, (2, 1))), ((2, 1), ("ask", "t", (2, 2), (3, 0))), ((2, 2), ("go", (2, 3))),
                ((2, 3), ("go", (3, 0))), ((3, 0), ("return",)),
            ]),
            ((4, 4), [((4, 0), ("act", "y", (4, 1))), ((4, 1), ("return",))]),
        ])

    def test_the_order_of_the_procedures_is_not_that_of_the_calls(self):
        program = Program([
            ("a", [("perform", "c", "c"), ("perform", "b", "d"), ("perform", "b", "b"), ("stop",)]),
            ("b", []),
            ("c", []),
            ("d", [("perform", "b", "c")]),
        ])
        procedures = written_out(program, Lost())
        self.assertEqual(spans(procedures), [None, (1, 1), (1, 2), (1, 3), (2, 2)])
        self.assertEqual(
            [deed for _, deed in procedures[0]],
            [("call", 4, (0, 1)), ("call", 3, (0, 2)), ("call", 1, (0, 3)), ("done",)],
        )
        self.assertIn(((3, 0), ("call", 2, (3, 1))), procedures[3].rows)

    def test_one_stretch_performed_twice_is_one_procedure(self):
        program = Program([("a", [("perform", "b", "b"), ("perform", "b", "b"), ("stop",)]), ("b", [])])
        self.check(program, [
            (None, [((0, 0), ("call", 1, (0, 1))), ((0, 1), ("call", 1, (0, 2))), ((0, 2), ("done",))]),
            ((1, 1), [((1, 0), ("return",))]),
        ])

    def test_a_stretch_that_is_not_performed_is_no_procedure(self):
        program = Program([
            ("a", [("go", "c"), ("perform", "b", "b")]), ("b", [("perform", "c", "c")]), ("c", []),
        ])
        self.check(program, [(None, [((0, 0), ("go", (2, 0))), ((2, 0), ("done",))])])

    def test_what_is_behind_a_call_that_never_comes_back_is_written_out_all_the_same(self):
        program = Program([
            ("a", [("perform", "b", "b"), ("perform", "c", "c"), ("act", "x"), ("stop",)]),
            ("b", [("go", "b")]),
            ("c", [("act", "y")]),
        ])
        self.check(program, [
            (None, [
                ((0, 0), ("call", 1, (0, 1))), ((0, 1), ("call", 2, (0, 2))), ((0, 2), ("act", "x", (0, 3))),
                ((0, 3), ("done",)),
            ]),
            ((1, 1), [((1, 0), ("go", (1, 0)))]),
            ((2, 2), [((2, 0), ("act", "y", (2, 1))), ((2, 1), ("return",))]),
        ])

    def test_a_procedure_outside_of_its_stretch(self):
        # The stretch c to d goes to a and comes back, so that its rows begin before its beginning.
        program = Program([
            ("a", [("if", "t", "d"), ("go", "b")]),
            ("b", [("perform", "c", "d"), ("stop",)]),
            ("c", [("go", "a")]),
            ("d", [("act", "x")]),
            ("e", []),
        ])
        comparison = compare(program, Lost())
        self.assertTrue(comparison.alike)
        rows = [
            ((0, 0), ("ask", "t", (0, 1), (3, 0))), ((0, 1), ("go", (1, 0))),
            ((1, 0), ("call", 1, (1, 1))), ((1, 1), ("done",)),
        ]
        self.check(program, [
            (None, rows + [((3, 0), ("act", "x", (3, 1))), ((3, 1), ("go", (4, 0))), ((4, 0), ("done",))]),
            ((2, 3), rows + [((2, 0), ("go", (0, 0))), ((3, 0), ("act", "x", (3, 1))), ((3, 1), ("return",))]),
        ], ["Lost()"])

    def test_the_last_paragraph_inside_of_a_stretch_and_behind_one(self):
        program = Program([
            ("a", [("perform", "c", "c"), ("perform", "b", "b"), ("stop",)]),
            ("b", [("if", "t", "c")]),
            ("c", []),
        ])
        self.check(program, [
            (None, [((0, 0), ("call", 2, (0, 1))), ((0, 1), ("call", 1, (0, 2))), ((0, 2), ("done",))]),
            ((1, 1), [((1, 0), ("ask", "t", (1, 1), (2, 0))), ((1, 1), ("return",)), ((2, 0), ("done",))]),
            ((2, 2), [((2, 0), ("return",))]),
        ])

    def test_a_stretch_from_the_first_paragraph(self):
        program = Program([("a", [("if", "t", ""), ("perform", "a", "a"), ("stop",)])])
        self.check(program, [
            (None, [
                ((0, 0), ("ask", "t", (0, 1), (0, 3))), ((0, 1), ("call", 1, (0, 2))), ((0, 2), ("done",)),
                ((0, 3), ("done",)),
            ]),
            ((0, 0), [
                ((0, 0), ("ask", "t", (0, 1), (0, 3))), ((0, 1), ("call", 1, (0, 2))), ((0, 2), ("done",)),
                ((0, 3), ("return",)),
            ]),
        ], ["Lost()", "Beneath(0)", "Beneath(1)", "Beneath(2)"])

    def test_meanings_that_part(self):
        error = error_of(self, NotProcedures, written_out, example(), Lost())
        self.assertEqual((error.kind, error.answers, error.steps), ("wrong", (True, False), 4))
        program = Program([
            ("a", [("perform", "b", "b"), ("stop",)]), ("b", [("if", "t", ""), ("perform", "b", "b")]),
        ])
        error = error_of(self, NotProcedures, written_out, program, Lost())
        self.assertEqual((error.kind, error.answers, error.steps), ("lost", (False, True), 5))
        error = error_of(self, NotProcedures, written_out, program, Refused())
        self.assertEqual((error.kind, error.answers, error.steps), ("refused", (False,), 2))
        self.assertNotIsInstance(error, (Parted, ArmedTwice))

    def test_of_several_kinds_the_shortest_and_then_the_first(self):
        program = Program([
            ("a", [("perform", "c", "c"), ("perform", "b", "b")]),
            ("b", [("if", "x", "c")]),
            ("c", [("if", "x", ""), ("perform", "c", "d")]),
            ("d", [("go", "a"), ("go", "c")]),
        ])
        error = error_of(self, NotProcedures, written_out, program, Refused())
        self.assertEqual((error.kind, error.answers, error.steps), ("wrong", *compare(program, Refused()).wrong))

    def test_kind_and_values_are_those_of_the_comparison(self):
        found = {}
        for program in some_programs(20, 100, paragraphs=4, statements=2, performs=3, jumps=4, gaps=0.9):
            for name, rule in RULES.items():
                comparison = compare(program, rule)
                with self.subTest(bodies=program.bodies, rule=name):
                    if comparison.alike:
                        self.assertIsInstance(written_out(program, rule), tuple)
                        continue
                    error = error_of(self, NotProcedures, written_out, program, rule)
                    self.assertEqual(error.steps, comparison.shortest[1])
                    self.assertEqual(error.steps, getattr(comparison, error.kind)[1])
                    with self.assertRaises(Parted) as caught:
                        follow(program, rule, error.answers, steps=error.steps + 1)
                    self.assertEqual(caught.exception.steps, error.steps)
                    found[error.kind] = found.get(error.kind, 0) + 1
        self.assertEqual(sorted(found), ["lost", "refused", "wrong"])

    def test_procedures_copy_their_rows(self):
        rows = [((0, 0), ("done",))]
        procedure = Procedure(None, rows)
        rows.append(((0, 1), ("done",)))
        self.assertEqual(procedure.rows, (((0, 0), ("done",)),))


class Calls(unittest.TestCase):
    def test_a_call(self):
        journal = Journal()
        self.assertEqual((journal.calls, journal.depth), ([], 0))
        with Call(journal, 3):
            self.assertEqual((journal.calls, journal.depth), ([("in", 3)], 1))
            with Call(journal, 1):
                self.assertEqual((journal.calls, journal.depth), ([("in", 3), ("in", 1)], 2))
            self.assertEqual((journal.calls, journal.depth), ([("in", 3), ("in", 1), ("out", 1)], 1))
        self.assertEqual((journal.calls, journal.depth), ([("in", 3), ("in", 1), ("out", 1), ("out", 3)], 0))

    def test_nothing_happens_before_the_with(self):
        journal = Journal()
        call = Call(journal, 2)
        self.assertEqual((journal.calls, journal.depth), ([], 0))
        self.assertIs(call.journal, journal)
        self.assertEqual(call.number, 2)

    def test_the_end_of_a_call_whatever_the_reason(self):
        journal = Journal()
        with self.assertRaises(KeyError):
            with Call(journal, 1):
                with Call(journal, 2):
                    raise KeyError("reason")
        self.assertEqual(journal.calls, [("in", 1), ("in", 2), ("out", 2), ("out", 1)])
        self.assertEqual(journal.depth, 0)

        def leave():
            with Call(journal, 5):
                return 7

        self.assertEqual(leave(), 7)
        self.assertEqual(journal.calls[-2:], [("in", 5), ("out", 5)])
        self.assertEqual(journal.depth, 0)


class Running(unittest.TestCase):
    def check(self, procedures, answers, steps, points, ending, calls):
        journal = run_procedures(procedures, answers, steps=steps)
        self.assertIsInstance(journal, Journal)
        self.assertEqual(journal.points, list(points))
        self.assertEqual(journal.ending, ending)
        self.assertEqual(journal.calls, calls)
        self.assertEqual(journal.depth, 0)

    def test_the_end_within_calls(self):
        points = ((0, 0), (1, 0), (2, 0), (4, 0), (4, 1), (2, 1), (3, 0), (1, 1), (1, 2), (0, 1))
        procedures = written_out(nested(), Lost())
        first, second, third = ("in", 1), ("in", 2), ("in", 3)
        one, two, three = ("out", 1), ("out", 2), ("out", 3)
        for steps, calls in enumerate([
            [], [first, one], [first, second, two, one],
            [first, second, third, three, two, one], [first, second, third, three, two, one],
            [first, second, third, three, two, one], [first, second, third, three, two, one],
            [first, second, third, three, two, one], [first, second, third, three, two, one],
            [first, second, third, three, two, one],
        ]):
            self.check(procedures, [True], steps, points[:steps + 1], "cut", calls)
        calls = [first, second, third, three, two, one]
        for steps in (10, 11, 100):
            self.check(procedures, [True], steps, points, "done", calls)
            self.check(procedures, (True, False, True), steps, points, "done", calls)
        for steps in (6, 7, 100):
            self.check(procedures, [], steps, points[:6], "waits", calls)
        self.check(procedures, [], 5, points[:6], "cut", calls)
        self.check(procedures, [], 0, points[:1], "cut", [])

    def test_done_within_calls(self):
        program = Program([
            ("a", [("perform", "b", "b"), ("act", "x")]), ("b", [("perform", "c", "c")]), ("c", [("stop",)]),
        ])
        procedures = written_out(program, Lost())
        calls = [("in", 1), ("in", 2), ("out", 2), ("out", 1)]
        self.check(procedures, [], 3, ((0, 0), (1, 0), (2, 0)), "done", calls)
        self.check(procedures, [], 2, ((0, 0), (1, 0), (2, 0)), "cut", calls)

    def test_one_call_behind_another(self):
        program = Program([("a", [("perform", "c", "c"), ("perform", "b", "b"), ("stop",)]), ("b", []), ("c", [])])
        calls = [("in", 2), ("out", 2), ("in", 1), ("out", 1)]
        points = ((0, 0), (2, 0), (0, 1), (1, 0), (0, 2))
        self.check(written_out(program, Lost()), [], 100, points, "done", calls)

    def test_a_call_that_never_comes_back(self):
        program = Program([("a", [("perform", "b", "b"), ("act", "x")]), ("b", [("go", "b")])])
        for steps in (0, 1, 2, 100):
            calls = [("in", 1), ("out", 1)] if steps else []
            points = (((0, 0),) + ((1, 0),) * 100)[:steps + 1]
            self.check(written_out(program, Lost()), [], steps, points, "cut", calls)

    def test_a_recursion_without_end(self):
        program = Program([("a", [("perform", "a", "a")])])
        for steps in (0, 1, 100, 300):
            calls = [("in", 1)] * steps + [("out", 1)] * steps
            self.check(written_out(program, Lost()), [], steps, ((0, 0),) * (steps + 1), "cut", calls)

    def test_answers_are_not_modified_and_runs_are_apart(self):
        procedures = written_out(nested(), Lost())
        answers = [True, False]
        one = run_procedures(procedures, answers, steps=100)
        two = run_procedures(procedures, answers, steps=100)
        self.assertEqual(answers, [True, False])
        self.assertIsNot(one, two)
        self.assertEqual(one.calls, two.calls)
        self.assertIsNot(one.calls, two.calls)

    def test_steps_are_named(self):
        with self.assertRaises(TypeError):
            run_procedures(written_out(nested(), Lost()), [], 5)


class AgainstFollow(unittest.TestCase):
    """The runs of procedures are those of the program, step for step."""

    def calls_of(self, machine, procedures, points):
        """The calls in a run with these points, those in progress ended."""
        numbers = {span: number for number, span in enumerate(spans(procedures))}
        calls, frames = [], ()
        for point, following in zip(points, points[1:]):
            answer = machine.word(point) == "if" and following != (point[0], point[1] + 1)
            _, left = machine.stack_step(point, frames, answer)
            if len(left) > len(frames):
                calls.append(("in", numbers[machine.stretches[left[-1]]]))
            if len(left) < len(frames):
                calls.append(("out", numbers[machine.stretches[frames[-1]]]))
            frames = left
        return calls + [("out", numbers[machine.stretches[way]]) for way in frames[::-1]]

    def check_form(self, machine, procedures):
        """What holds of each procedure, and that nothing is missing or too much."""
        wanted = {None}
        for procedure in procedures:
            points = [point for point, _ in procedure]
            self.assertEqual(points, sorted(set(points)))
            wanted |= {machine.stretches[deed[2]] for _, deed in procedure if deed[0] == "call"}
            led = {(0, 0) if procedure.stretch is None else (procedure.stretch.first, 0)}
            for point, deed in procedure:
                led |= {following for following in deed[1:] if isinstance(following, tuple)}
            self.assertEqual(led, set(points))
        self.assertEqual(spans(procedures), [None] + sorted(wanted - {None}))

    def check(self, program, rule):
        procedures, machine = written_out(program, rule), Machine(program, rule)
        self.check_form(machine, procedures)
        for answers in rows_of_answers(5):
            for steps in (0, 1, 5, 12, 40, 100):
                points, ending = follow(program, rule, answers, steps=steps)
                journal = run_procedures(procedures, list(answers), steps=steps)
                self.assertEqual((tuple(journal.points), journal.ending), (points, ending))
                self.assertEqual(journal.calls, self.calls_of(machine, procedures, points))
                self.assertEqual(journal.depth, 0)

    def test_some_programs(self):
        written = 0
        for program in some_programs(21, 50, paragraphs=4, statements=2, performs=3, jumps=3, gaps=0.5):
            for name, rule in RULES.items():
                if compare(program, rule).alike:
                    with self.subTest(bodies=program.bodies, rule=name):
                        self.check(program, rule)
                        written += 1
        self.assertGreater(written, 100)

    def test_large_programs(self):
        for program in largest_programs(22, 10):
            if compare(program, Beneath()).alike:
                self.check(program, Beneath())


if __name__ == "__main__":
    unittest.main()
