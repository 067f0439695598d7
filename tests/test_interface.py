"""The names, arguments, kinds of values and places of the interface."""

import inspect
import unittest

from armedexits.exits import Beneath, Exits, Lost, Refused
from armedexits.listings import listing, parse
from armedexits.outcomes import compare_outcomes
from armedexits.procedures import Call, Journal, Procedure, fewest_redirects, run_procedures, written_out
from armedexits.programs import Program, Stretch
from armedexits.runs import all_runs, cell_step, follow, settle, stack_step
from armedexits.tables import Comparison, compare

PLACES = {
    "armedexits.programs": (Stretch, Program),
    "armedexits.listings": (listing, parse),
    "armedexits.exits": (Lost, Beneath, Refused, Exits),
    "armedexits.runs": (cell_step, stack_step, follow, settle, all_runs),
    "armedexits.tables": (compare, Comparison),
    "armedexits.outcomes": (compare_outcomes,),
    "armedexits.procedures": (written_out, Procedure, run_procedures, Journal, Call, fewest_redirects),
}

METHODS = {
    Stretch: ("__contains__", "__eq__", "__le__", "__lt__", "__ge__", "__gt__", "crosses"),
    Program: ("stretch_of", "redirected", "performs", "jumps"),
    Lost: ("__call__",),
    Beneath: ("__call__",),
    Refused: ("__call__",),
    Exits: ("__getitem__", "__setitem__", "__contains__", "__iter__", "arm", "take", "cells"),
    Comparison: ("alike", "shortest"),
    Procedure: ("__iter__",),
    Call: ("__enter__", "__exit__"),
}

PROPERTIES = {Program: ("performs", "jumps"), Exits: ("cells",), Comparison: ("alike", "shortest")}

ARGUMENTS = {
    listing: "(program)",
    parse: "(text)",
    cell_step: "(program, rule, point, cells, answer=None)",
    stack_step: "(program, point, frames, answer=None)",
    follow: "(program, rule, answers, *, steps)",
    settle: "(program, rule, point, cells)",
    all_runs: "(program, rule, *, most)",
    compare: "(program, rule)",
    compare_outcomes: "(first, first_rule, second, second_rule)",
    written_out: "(program, rule)",
    run_procedures: "(procedures, answers, *, steps)",
    fewest_redirects: "(program, rule)",
    Stretch: "(first, last)",
    Program: "(paragraphs)",
    Lost: "()",
    Beneath: "(depth=1)",
    Refused: "()",
    Exits: "(rule, cells)",
    Call: "(journal, number)",
}


class Interface(unittest.TestCase):
    def test_everything_is_defined_where_it_is_listed(self):
        for place, members in PLACES.items():
            for member in members:
                self.assertEqual(member.__module__, place)

    def test_methods_are_defined_in_the_class_itself(self):
        for owner, names in METHODS.items():
            for name in names:
                with self.subTest(owner=owner.__name__, name=name):
                    self.assertIn(name, vars(owner))

    def test_properties(self):
        for owner, names in PROPERTIES.items():
            for name in names:
                self.assertIsInstance(vars(owner)[name], property)

    def test_names_of_arguments(self):
        for member, arguments in ARGUMENTS.items():
            self.assertEqual(str(inspect.signature(member)), arguments, member.__name__)

    def test_all_runs_is_a_generator(self):
        self.assertTrue(inspect.isgeneratorfunction(all_runs))

    def test_arguments_by_name(self):
        program = Program(paragraphs=[("a", [("perform", "a", "a"), ("go", "a")])])
        self.assertEqual(program.stretch_of(way=(0, 1)), Stretch(first=0, last=0))
        self.assertEqual(program.redirected(choice=((0, 1),)).jumps, ())
        self.assertEqual(parse(text=listing(program=program)).bodies, program.bodies)
        self.assertEqual(Exits(rule=Lost(), cells=[()]).cells, ((),))
        self.assertEqual(Beneath(depth=2)(held=((0, 1), (0, 2)), way=(0, 3)), ((0, 1), (0, 2), (0, 3)))

    def test_attributes_are_set_when_an_object_is_created(self):
        program = Program([("a", [("perform", "b", "b"), ("stop",)]), ("b", [])])
        for made, names in (
            (program, {"names", "bodies"}),
            (Stretch(0, 1), {"first", "last"}),
            (Beneath(), {"depth"}),
            (compare(program, Lost()), {"levels", "rows", "wrong", "lost", "refused"}),
            (written_out(program, Lost())[0], {"stretch", "rows"}),
            (run_procedures(written_out(program, Lost()), [], steps=5), {"points", "ending", "calls", "depth"}),
            (Journal(), {"points", "ending", "calls", "depth"}),
            (Call(Journal(), 0), {"journal", "number"}),
        ):
            self.assertLessEqual(names, set(vars(made)))

    def test_kinds_of_values(self):
        program = Program([("a", [("perform", "b", "b"), ("stop",)]), ("b", [("if", "t", "b")])])
        journal = run_procedures(written_out(program, Lost()), [False], steps=50)
        self.assertIs(type(journal.points), list)
        self.assertIs(type(journal.calls), list)
        self.assertIs(type(journal.depth), int)
        for found in (
            cell_step(program, Lost(), (0, 0), ((), ())),
            stack_step(program, (0, 0), ()),
            follow(program, Lost(), [], steps=1),
            settle(program, Lost(), (0, 0), ((), ())),
            compare_outcomes(program, Lost(), program, Lost()),
            written_out(program, Lost()),
            fewest_redirects(program, Lost()),
        ):
            self.assertIs(type(found), tuple)

    def test_arguments_are_not_modified(self):
        program = Program([("a", [("perform", "b", "b"), ("stop",)]), ("b", [("if", "t", "b")])])
        names, bodies = program.names, program.bodies
        answers, cells = [True, False], ((), ((0, 1),))
        follow(program, Lost(), answers, steps=50)
        procedures = list(written_out(program, Lost()))
        run_procedures(procedures, answers, steps=50)
        settle(program, Lost(), (0, 0), cells)
        compare(program, Beneath())
        compare_outcomes(program, Lost(), program, Refused())
        fewest_redirects(program, Refused())
        list(all_runs(program, Lost(), most=3))
        self.assertEqual((program.names, program.bodies), (names, bodies))
        self.assertEqual(answers, [True, False])
        self.assertEqual(cells, ((), ((0, 1),)))
        self.assertEqual(len(procedures), 2)


if __name__ == "__main__":
    unittest.main()
