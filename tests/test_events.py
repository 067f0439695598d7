"""Acts and tests in the cells meaning: points 13 and 14."""

import itertools
import random
import unittest

from armedexits.exits import Beneath, Lost, Refused
from armedexits.programs import Program
from armedexits.runs import all_runs, settle
from tests.helpers import paragraphs_named
from tests.reference import RULES, Machine, example, some_programs

DONE = (("done",), None, ())
REFUSED = (("refused",), None, ())
LOOPS = (("loops",), None, ())


def empty(program):
    return ((),) * len(program.names)


def no(test):
    return ("ask", test, False)


def yes(test):
    return ("ask", test, True)


class Settle(unittest.TestCase):
    def check(self, program, expected, rules=tuple(RULES), point=(0, 0), cells=None):
        for name in rules:
            with self.subTest(rule=name):
                held = empty(program) if cells is None else cells
                self.assertEqual(settle(program, RULES[name], point, held), expected)

    def test_a_start_at_an_act_or_a_test(self):
        program = Program([("a", [("act", "x"), ("if", "t", "a"), ("act", "yy")])])
        for cells in (((),), (((0, 1),),), (((0, 2), (0, 1), (0, 0)),)):
            self.check(program, (("act", "x"), (0, 0), cells), cells=cells)
            self.check(program, (("ask", "t"), (0, 1), cells), point=(0, 1), cells=cells)
            self.check(program, (("act", "yy"), (0, 2), cells), point=(0, 2), cells=cells)

    def test_steps_to_the_next_event(self):
        program = Program([
            ("a", [("perform", "c", "d"), ("stop",)]),
            ("b", [("act", "x")]),
            ("c", [("go", "")]),
            ("d", [("perform", "b", "b"), ("if", "t", "a")]),
        ])
        cells = ((), ((3, 1),), (), ((0, 1),))
        self.check(program, (("act", "x"), (1, 0), cells))
        self.check(program, (("ask", "t"), (3, 1), ((), (), (), ((0, 1),))), point=(1, 1), cells=cells)
        self.check(program, DONE, point=(3, 2), cells=((), (), (), ((0, 1),)))
        self.check(program, DONE, point=(3, 2))

    def test_done(self):
        for paragraphs in (
            [("a", [])],
            [("a", [("stop",)])],
            [("a", [("go", "")])],
            [("a", [("go", "c")]), ("b", [("act", "x")]), ("c", [])],
            [("a", [("perform", "b", "b"), ("stop",)]), ("b", [])],
        ):
            self.check(Program(paragraphs), DONE)

    def test_a_loop_of_go_statements(self):
        self.check(Program([("a", [("go", "a")])]), LOOPS)
        program = Program([("a", [("go", "c")]), ("b", [("go", "c")]), ("c", [("go", "b")])])
        for point in [(0, 0), (1, 0), (2, 0)]:
            self.check(program, LOOPS, point=point)
            self.check(program, LOOPS, point=point, cells=(((0, 1),), ((0, 1), (2, 0)), ()))
        self.check(program, DONE, point=(2, 1))

    def test_a_loop_through_performs(self):
        program = Program([("a", [("perform", "a", "a")])])
        others = tuple(name for name in RULES if name != "Refused()")
        self.check(program, LOOPS, others)
        self.check(program, REFUSED, ("Refused()",))
        self.check(program, LOOPS, others, cells=(((0, 1),) * 9,))

    def test_a_loop_through_performs_that_come_back(self):
        program = Program([("a", [("perform", "b", "b"), ("go", "a")]), ("b", [])])
        self.check(program, LOOPS)

    def test_a_loop_through_two_performs(self):
        program = Program([
            ("a", [("perform", "b", "c")]), ("b", [("perform", "c", "d")]), ("c", [("go", "a")]), ("d", []),
        ])
        others = tuple(name for name in RULES if name != "Refused()")
        self.check(program, LOOPS, others)
        self.check(program, REFUSED, ("Refused()",))

    def test_states_that_no_run_reaches(self):
        program = Program([("a", [("stop",)]), ("b", []), ("c", [("perform", "a", "b"), ("go", "b")])])
        self.check(program, DONE, point=(1, 0), cells=((), ((2, 1),), ()))
        self.check(program, DONE, point=(1, 0), cells=((), ((0, 0), (2, 1)), ()))
        self.check(program, DONE, point=(1, 0), cells=((), ((1, 0),) * 7, ()))
        program = Program([("a", []), ("b", []), ("c", [("perform", "b", "b"), ("go", "c")])])
        self.check(program, LOOPS, point=(1, 0), cells=((), ((2, 1), (2, 1)), ()), rules=("Lost()", "Beneath(2)"))

    def test_a_refusal(self):
        program = Program([("a", [("perform", "b", "b")]), ("b", [("act", "x")])])
        self.check(program, REFUSED, ("Refused()",), cells=((), ((0, 1),)))
        self.check(program, (("act", "x"), (1, 0), ((), ((0, 1), (0, 1)))), ("Beneath(1)",), cells=((), ((0, 1),)))
        self.check(program, (("act", "x"), (1, 0), ((), ((0, 1),))))

    def test_a_stop_in_a_performed_stretch(self):
        program = Program([("a", [("perform", "b", "b"), ("act", "x")]), ("b", [("stop",)])])
        self.check(program, DONE)

    def test_any_point_and_any_cells(self):
        chance = random.Random(13)
        found = {}
        for program in some_programs(13, 80, paragraphs=3, performs=2, jumps=3, gaps=0.7):
            for name, rule in RULES.items():
                machine = Machine(program, rule)
                for point in machine.points:
                    cells = tuple(
                        tuple(chance.choices(list(machine.stretches), k=chance.randrange(4))) for _ in program.names
                    )
                    with self.subTest(bodies=program.bodies, rule=name, point=point, cells=cells):
                        stand = settle(program, rule, point, cells)
                        self.assertEqual(stand, machine.settle(point, cells))
                        found[stand[0][0]] = found.get(stand[0][0], 0) + 1
        for word in ("act", "ask", "done", "refused", "loops"):
            self.assertGreater(found.get(word, 0), 20, word)


class AllRuns(unittest.TestCase):
    def check(self, program, rule, most, expected):
        self.assertEqual(list(all_runs(program, rule, most=most)), expected)

    def test_a_program_without_events(self):
        for most in (0, 1, 8):
            for rule in RULES.values():
                self.check(Program(paragraphs_named("a")), rule, most, [((), "done")])
                self.check(Program([("a", [("stop",), ("act", "x")])]), rule, most, [((), "done")])
                self.check(Program([("a", [("go", "a")])]), rule, most, [((), "loops")])
            self.check(Program([("a", [("perform", "a", "a")])]), Refused(), most, [((), "refused")])

    def test_no_events_at_all(self):
        self.check(Program([("a", [("act", "x")])]), Lost(), 0, [((), "cut")])
        self.check(Program([("a", [("if", "t", "")])]), Lost(), 0, [((), "cut")])

    def test_cut_only_if_another_event_follows(self):
        one, two = ("act", "x"), ("act", "y")
        program = Program([("a", [one, two])])
        self.check(program, Lost(), 0, [((), "cut")])
        self.check(program, Lost(), 1, [((one,), "cut")])
        self.check(program, Lost(), 2, [((one, two), "done")])
        self.check(program, Lost(), 3, [((one, two), "done")])
        self.check(Program([("a", [one, ("go", "b")]), ("b", [("go", "b")])]), Lost(), 1, [((one,), "loops")])
        self.check(Program([("a", [one]), ("b", [("perform", "b", "b")])]), Refused(), 1, [((one,), "refused")])

    def test_the_answer_no_first(self):
        program = Program([("a", [("if", "t", "c"), ("act", "x")]), ("b", [("if", "u", "")]), ("c", [("act", "y")])])
        x, y = ("act", "x"), ("act", "y")
        self.check(program, Lost(), 8, [
            ((no("t"), x, no("u"), y), "done"), ((no("t"), x, yes("u"), y), "done"), ((yes("t"), y), "done"),
        ])
        self.check(program, Lost(), 2, [((no("t"), x), "cut"), ((yes("t"), y), "done")])
        self.check(program, Lost(), 1, [((no("t"),), "cut"), ((yes("t"),), "cut")])

    def test_a_loop_of_events(self):
        x = ("act", "x")
        program = Program([("a", [x, ("go", "a")])])
        for most in (0, 1, 5, 8, 9):
            self.check(program, Lost(), most, [((x,) * most, "cut")])
        program = Program([("a", [("if", "t", "a"), ("if", "u", "a"), ("go", "a")])])
        found = list(all_runs(program, Lost(), most=8))
        self.assertEqual(len(found), 256)
        self.assertEqual({ending for _, ending in found}, {"cut"})
        answers = [tuple(answer for _, _, answer in events) for events, _ in found]
        self.assertEqual(answers, list(itertools.product((False, True), repeat=8)))

    def test_the_example_under_two_rules(self):
        late, early = yes("late"), no("late")
        runs = [((late,) * many + (early,), "done") for many in range(3)] + [((late,) * 3, "cut")]
        self.check(example(), Lost(), 3, runs)
        self.check(example(), Beneath(), 3, runs)
        runs = [((early,), "done"), ((late, early), "done"), ((late, late), "refused")]
        self.check(example(), Refused(), 3, runs)

    def test_what_is_yielded(self):
        runs = all_runs(example(), Lost(), most=1)
        self.assertIs(iter(runs), runs)
        events, ending = next(runs)
        self.assertEqual((events, ending), ((no("late"),), "done"))
        self.assertIsInstance(events, tuple)

    def test_most_is_named(self):
        with self.assertRaises(TypeError):
            all_runs(example(), Lost(), 3)

    def expected_runs(self, machine, most):
        """Every run, found by following every row of answers; sorted, no comes before yes."""
        runs = {}
        for answers in itertools.product((False, True), repeat=most):
            stands = machine.stands(answers, most)
            events, given = [], list(answers)
            for stand in stands[:most]:
                if stand[1] is not None:
                    events.append(stand[0] + ((given.pop(0),) if stand[0][0] == "ask" else ()))
            ending = stands[-1][0][0] if stands[-1][1] is None else "cut"
            runs[answers[:most - len(given)]] = (tuple(events), ending)
        return [runs[answers] for answers in sorted(runs)]

    def test_every_run(self):
        for program in some_programs(14, 40, paragraphs=3, performs=2, jumps=3, words=("x", "y")):
            for name, rule in RULES.items():
                for most in (0, 1, 4):
                    with self.subTest(bodies=program.bodies, rule=name, most=most):
                        self.check(program, rule, most, self.expected_runs(Machine(program, rule), most))


if __name__ == "__main__":
    unittest.main()
