"""The table of all runs: points 11 and 12."""

import unittest

from armedexits.errors import LostReturn, RefusedPerform, WrongReturn
from armedexits.exits import Beneath, Lost, Refused
from armedexits.programs import Program
from armedexits.runs import follow
from armedexits.tables import Comparison, compare
from tests.helpers import paragraphs_named, rich_paragraphs
from tests.reference import RULES, Machine, Runs, example, largest_programs, rows_of_answers, some_programs

KINDS = {"wrong": WrongReturn, "lost": LostReturn, "refused": RefusedPerform}


def levels_of(comparison):
    """The steps of each level (way, cells)."""
    return {(way, cells): steps for way, cells, steps in comparison.levels}


def rows_of(comparison):
    """The steps of each row ((way, cells), point, cells)."""
    return {
        (comparison.levels[level][:2], point, cells): steps for level, point, cells, steps in comparison.rows
    }


class Table(unittest.TestCase):
    def check_form(self, comparison, program):
        """What holds of each table."""
        self.assertIsInstance(comparison, Comparison)
        self.assertIsInstance(comparison.levels, tuple)
        self.assertIsInstance(comparison.rows, tuple)
        self.assertEqual(comparison.levels[0], (None, ((),) * len(program.names), 0))
        for entry in comparison.levels + comparison.rows:
            self.assertIsInstance(entry, tuple)
        self.assertEqual(len(levels_of(comparison)), len(comparison.levels))
        self.assertEqual(len(rows_of(comparison)), len(comparison.rows))
        first = [getattr(comparison, kind) for kind in KINDS if getattr(comparison, kind) is not None]
        first.sort(key=lambda parting: parting[1])
        self.assertEqual(comparison.shortest, first[0] if first else None)
        self.assertIs(comparison.alike, not first)

    def check_partings(self, comparison, program, rule):
        """That follow raises the error of each kind after these steps and with these answers, no more and no less."""
        machine = Machine(program, rule)
        for kind, error in KINDS.items():
            found = getattr(comparison, kind)
            if found is not None:
                answers, steps = found
                self.assertIsInstance(answers, tuple)
                points, ending = follow(program, rule, answers, steps=steps)
                self.assertEqual((ending, len(points)), ("cut", steps + 1))
                self.assertEqual(sum(machine.word(point) == "if" for point in points), len(answers))
                with self.assertRaises(error) as caught:
                    follow(program, rule, answers, steps=steps + 1)
                self.assertEqual(caught.exception.steps, steps)

    def check_table(self, program, rule, levels, rows, partings=None):
        """The whole table; each row with the index of a level in the list, which is not that of the table."""
        comparison = compare(program, rule)
        self.check_form(comparison, program)
        self.check_partings(comparison, program, rule)
        self.assertEqual(sorted(comparison.levels[1:]), sorted(levels[1:]))
        self.assertEqual(comparison.levels[0], levels[0])
        expected = {(levels[level][:2], point, cells): steps for level, point, cells, steps in rows}
        self.assertEqual(rows_of(comparison), expected)
        for kind in KINDS:
            self.assertEqual(getattr(comparison, kind), (partings or {}).get(kind), kind)
        return comparison


class Examples(Table):
    def test_the_example(self):
        e, b = (), ((0, 1),)
        start, one, two = (e, e, e, e), (e, b, e, e), (e, b, ((3, 1),), e)
        comparison = self.check_table(
            example(), Lost(),
            [(None, start, 0), ((0, 1), one, 1), ((3, 1), two, 3)],
            [
                (0, (0, 0), start, 0), (0, (0, 1), start, 3),
                (1, (1, 0), one, 0), (1, (1, 1), one, 1), (1, (3, 0), one, 1),
                (2, (1, 0), two, 0), (2, (1, 1), two, 1), (2, (3, 0), two, 1),
            ],
            {"wrong": ((True, False), 4)},
        )
        self.assertEqual(comparison.shortest, ((True, False), 4))
        self.assertIs(comparison.alike, False)

    def test_a_program_without_statements(self):
        e = ((), ())
        comparison = self.check_table(
            Program(paragraphs_named("a", "b")), Lost(),
            [(None, e, 0)], [(0, (0, 0), e, 0), (0, (1, 0), e, 1)],
        )
        self.assertIs(comparison.alike, True)
        self.assertIsNone(comparison.shortest)

    def test_a_recursion_without_end(self):
        program = Program([("a", [("perform", "a", "a")])])
        cells = [((),), (((0, 1),),), (((0, 1),) * 2,), (((0, 1),) * 3,)]
        for rule, depth in ((Lost(), 1), (Beneath(0), 1), (Beneath(1), 2), (Beneath(2), 3)):
            comparison = self.check_table(
                program, rule,
                [(None, cells[0], 0)] + [((0, 1), cells[many], many) for many in range(1, depth + 1)],
                [(many, (0, 0), cells[many], 0) for many in range(depth + 1)],
            )
            self.assertIs(comparison.alike, True)
        self.check_table(
            program, Refused(),
            [(None, cells[0], 0), ((0, 1), cells[1], 1)], [(0, (0, 0), cells[0], 0), (1, (0, 0), cells[1], 0)],
            {"refused": ((), 1)},
        )

    def test_a_recursion_that_ends(self):
        # On yes, the stretch performs itself. Under Lost, the second return is lost.
        program = Program([("a", [("perform", "b", "b"), ("stop",)]), ("b", [("if", "t", ""), ("perform", "b", "b")])])
        start, one, two = ((), ()), ((), ((0, 1),)), ((), ((1, 2),))
        self.check_table(
            program, Lost(),
            [(None, start, 0), ((0, 1), one, 1), ((1, 2), two, 3)],
            [
                (0, (0, 0), start, 0), (0, (0, 1), start, 3),
                (1, (1, 0), one, 0), (1, (1, 1), one, 1), (1, (1, 2), one, 1), (1, (1, 2), start, 4),
                (2, (1, 0), two, 0), (2, (1, 1), two, 1), (2, (1, 2), two, 1), (2, (1, 2), start, 4),
            ],
            {"lost": ((False, True), 5)},
        )

    def test_a_call_that_never_comes_back(self):
        program = Program([("a", [("perform", "b", "c"), ("act", "x")]), ("b", [("go", "b")]), ("c", [])])
        start, one = ((), (), ()), ((), (), ((0, 1),))
        for rule in RULES.values():
            self.check_table(
                program, rule,
                [(None, start, 0), ((0, 1), one, 1)], [(0, (0, 0), start, 0), (1, (1, 0), one, 0)],
            )

    def test_a_perform_that_is_refused_is_a_row_and_begins_no_level(self):
        program = Program([("a", [("perform", "b", "b")]), ("b", [("perform", "b", "c")]), ("c", [("go", "b")])])
        start, one = ((), (), ()), ((), ((0, 1),), ())
        two = ((), ((0, 1),), ((1, 1),))
        self.check_table(
            program, Refused(),
            [(None, start, 0), ((0, 1), one, 1), ((1, 1), two, 2)],
            [(0, (0, 0), start, 0), (1, (1, 0), one, 0), (2, (1, 0), two, 0)],
            {"refused": ((), 2)},
        )

    def test_a_call_that_comes_back_in_two_ways(self):
        # The stretch c may perform b again, and then the way that the cell of b held before is lost.
        program = Program([
            ("a", [("perform", "b", "b"), ("stop",)]),
            ("b", [("if", "u", ""), ("perform", "c", "c")]),
            ("c", [("if", "t", ""), ("perform", "b", "b")]),
        ])
        one, two = ((), ((0, 1),), ()), ((), ((0, 1),), ((1, 2),))
        three = ((), ((2, 2),), ((1, 2),))
        comparison = compare(program, Lost())
        levels, rows = levels_of(comparison), rows_of(comparison)
        self.assertEqual(levels, {
            (None, ((), (), ())): 0, ((0, 1), one): 1, ((1, 2), two): 3, ((2, 2), three): 5, ((1, 2), three): 7,
        })
        outer = ((0, 1), one)
        self.assertEqual({row: steps for row, steps in rows.items() if row[0] == outer}, {
            (outer, (1, 0), one): 0, (outer, (1, 1), one): 1, (outer, (1, 2), one): 1,
            (outer, (1, 2), ((), (), ())): 7,
        })
        self.assertEqual(rows[((1, 2), two), (2, 2), ((), (), ((1, 2),))], 4)
        self.assertEqual(comparison.lost, ((False, False, True), 8))
        self.check_partings(comparison, program, Lost())


class AgainstRuns(Table):
    """The tables against a search through the runs themselves."""

    def check(self, program, rule, most_steps=40, most_runs=500):
        """What is within the reach of the search must be the same; returns the number of rows within and in all."""
        comparison = compare(program, rule)
        runs = Runs(program, rule, most_steps, most_runs)
        self.check_form(comparison, program)
        self.check_partings(comparison, program, rule)
        levels, rows = levels_of(comparison), rows_of(comparison)
        near_levels = {level: steps for level, steps in levels.items() if steps <= runs.horizon}
        self.assertEqual(near_levels, runs.levels)
        near_rows = {row: steps for row, steps in rows.items() if levels[row[0]] + steps <= runs.horizon}
        self.assertEqual(near_rows, runs.rows)
        for kind in KINDS:
            found = getattr(comparison, kind)
            steps = None if found is None or found[1] > runs.horizon else found[1]
            self.assertEqual(steps, runs.partings.get(kind), kind)
        return len(near_rows), len(rows)

    def check_all(self, programs):
        near, all_of_them = 0, 0
        for program in programs:
            for name, rule in RULES.items():
                with self.subTest(bodies=program.bodies, rule=name):
                    within, rows = self.check(program, rule)
                    near, all_of_them = near + within, all_of_them + rows
        return near / all_of_them

    def test_small_programs(self):
        programs = some_programs(11, 100, paragraphs=3, statements=2, performs=2, jumps=2, gaps=0.7)
        self.assertGreater(self.check_all(programs), 0.9)

    def test_programs_with_more_performs_and_jumps(self):
        programs = some_programs(12, 50, paragraphs=4, statements=2, performs=3, jumps=4, gaps=0.9)
        self.assertGreater(self.check_all(programs), 0.3)

    def test_large_programs(self):
        programs = largest_programs(13, 8) + [Program(rich_paragraphs())]
        self.check_all(programs)

    def test_the_shortest_of_all_rows_of_answers(self):
        """Each shorter run, with whatever answers, does not part the meanings in this way."""
        found = dict.fromkeys(KINDS, 0)
        for program in some_programs(15, 60, paragraphs=3, statements=2, performs=2, jumps=3, gaps=0.8):
            for rule in RULES.values():
                comparison, machine = compare(program, rule), Machine(program, rule)
                for kind in KINDS:
                    parting = getattr(comparison, kind)
                    if parting is not None and len(parting[0]) <= 6:
                        found[kind] += 1
                        for answers in rows_of_answers(6):
                            points, ending, _ = machine.follow(answers, parting[1])
                            self.assertNotEqual(ending, kind)
        self.assertTrue(all(many > 5 for many in found.values()), found)

    def test_each_kind_is_found_and_the_alike_ones_too(self):
        found = {"wrong": 0, "lost": 0, "refused": 0, "none": 0, "several": 0}
        for program in some_programs(12, 50, paragraphs=4, statements=2, performs=3, jumps=4, gaps=0.9):
            for rule in RULES.values():
                comparison = compare(program, rule)
                kinds = [kind for kind in KINDS if getattr(comparison, kind) is not None]
                for kind in kinds or ["none"]:
                    found[kind] += 1
                found["several"] += len(kinds) > 1
        self.assertTrue(all(many > 5 for many in found.values()), found)


class Rules(Table):
    def test_lost_is_as_beneath_nothing(self):
        for program in some_programs(16, 60, paragraphs=4, statements=2, performs=3, jumps=4, gaps=0.9):
            one, two = compare(program, Lost()), compare(program, Beneath(0))
            with self.subTest(bodies=program.bodies):
                self.assertEqual(levels_of(one), levels_of(two))
                self.assertEqual(rows_of(one), rows_of(two))
                for kind in KINDS:
                    left, right = getattr(one, kind), getattr(two, kind)
                    self.assertEqual(left is None, right is None)
                    self.assertEqual(left and left[1], right and right[1])

    def test_what_may_part_the_meanings_under_which_rule(self):
        for program in some_programs(17, 60, paragraphs=4, statements=2, performs=3, jumps=4, gaps=0.9):
            for name, rule in RULES.items():
                comparison = compare(program, rule)
                with self.subTest(bodies=program.bodies, rule=name):
                    # Only this rule refuses, and as it does so where a way would be lost, nothing is lost under it.
                    self.assertIsNone(comparison.lost if name == "Refused()" else comparison.refused)

    def test_a_greater_depth_loses_later(self):
        program = Program([
            ("a", [("perform", "b", "b"), ("stop",)]),
            ("b", [("if", "t", ""), ("perform", "b", "b")]),
        ])
        steps = [compare(program, Beneath(depth)).lost[1] for depth in (0, 1, 2)]
        self.assertEqual(steps, [5, 8, 11])


class Shortest(Table):
    def check(self, program, rule, steps, shortest):
        """The steps of each kind, None for none, and the kind of the shortest."""
        comparison = compare(program, rule)
        found = [getattr(comparison, kind) for kind in KINDS]
        self.assertEqual([parting and parting[1] for parting in found], steps)
        self.assertEqual(comparison.shortest, getattr(comparison, shortest))
        self.check_partings(comparison, program, rule)

    def test_of_several_the_first(self):
        program = Program([
            ("a", [("perform", "c", "c"), ("perform", "b", "b")]),
            ("b", [("if", "x", "c")]),
            ("c", [("if", "x", ""), ("perform", "c", "d")]),
            ("d", [("go", "a"), ("go", "c")]),
        ])
        self.check(program, Refused(), [4, None, 4], "wrong")
        program = Program([
            ("a", [("perform", "b", "d")]),
            ("b", [("if", "x", "a"), ("if", "x", "c")]),
            ("c", [("if", "x", ""), ("perform", "b", "b")]),
            ("d", [("if", "x", ""), ("perform", "d", "d")]),
        ])
        self.check(program, Lost(), [9, 9, None], "wrong")

    def test_the_fewest_steps(self):
        program = Program([
            ("a", [("perform", "c", "c")]),
            ("b", [("perform", "c", "d"), ("perform", "d", "d")]),
            ("c", [("if", "x", "b")]),
            ("d", [("if", "x", "d"), ("if", "x", "b")]),
        ])
        self.check(program, Lost(), [4, 21, None], "wrong")
        program = Program([
            ("a", [("perform", "d", "d"), ("if", "x", "a")]),
            ("b", [("perform", "c", "c")]),
            ("c", [("perform", "d", "d"), ("if", "x", "")]),
            ("d", [("if", "x", "c")]),
        ])
        self.check(program, Lost(), [12, 8, None], "lost")
        program = Program([
            ("a", [("perform", "b", "c"), ("perform", "d", "d")]),
            ("b", [("perform", "d", "d"), ("go", "a")]),
            ("c", []),
            ("d", [("if", "x", "c"), ("go", "b")]),
        ])
        self.check(program, Refused(), [3, None, 4], "wrong")
        program = Program([
            ("a", [("perform", "c", "c")]),
            ("b", [("perform", "d", "d")]),
            ("c", [("if", "x", "a"), ("if", "x", "b")]),
            ("d", [("if", "x", "c"), ("perform", "d", "d")]),
        ])
        self.check(program, Refused(), [7, None, 2], "refused")


if __name__ == "__main__":
    unittest.main()
