"""The fewest jumps to redirect: point 18."""

import itertools
import unittest

from armedexits.errors import Parted
from armedexits.exits import Beneath, Lost, Refused
from armedexits.procedures import fewest_redirects, written_out
from armedexits.programs import Program
from armedexits.runs import follow
from armedexits.tables import compare
from tests.helpers import paragraphs_named, rich_paragraphs
from tests.reference import RULES, Machine, example, largest_programs, some_programs


def choices_of(program):
    """All choices in their order, by a sort."""
    jumps = program.jumps
    every = [
        tuple(point for point, taken in zip(jumps, row) if taken)
        for row in itertools.product((False, True), repeat=len(jumps))
    ]
    return sorted(every, key=lambda choice: (len(choice), choice))


class Redirects(unittest.TestCase):
    def check(self, program, rule):
        """Check all but which choice is the first, and that by compare; returns the choice."""
        before = (program.names, program.bodies)
        choice, barred = fewest_redirects(program, rule)
        self.assertEqual((program.names, program.bodies), before)
        self.assertIsInstance(barred, tuple)
        choices = choices_of(program)
        earlier = choices if choice is None else choices[:choices.index(choice)]
        self.assertEqual([entry[0] for entry in barred], earlier)
        for entry, answers, steps in barred:
            redirected = program.redirected(entry)
            shortest = compare(redirected, rule).shortest
            self.assertEqual(steps, shortest[1])
            self.assertIsInstance(answers, tuple)
            machine = Machine(redirected, rule)
            points, ending = follow(redirected, rule, answers, steps=steps)
            self.assertEqual(ending, "cut")
            self.assertEqual(sum(machine.word(point) == "if" for point in points), len(answers))
            with self.assertRaises(Parted) as caught:
                follow(redirected, rule, answers, steps=steps + 1)
            self.assertEqual(caught.exception.steps, steps)
        if choice is not None:
            self.assertIsInstance(choice, tuple)
            self.assertTrue(compare(program.redirected(choice), rule).alike)
        return choice

    def test_no_jump_is_needed(self):
        for program in (
            Program(paragraphs_named("a")),
            Program([("a", [("perform", "b", "b"), ("if", "t", "a"), ("stop",)]), ("b", [("if", "t", "b")])]),
        ):
            for rule in RULES.values():
                self.assertEqual(fewest_redirects(program, rule), ((), ()))

    def test_one_jump(self):
        for name in ("Lost()", "Beneath(0)", "Beneath(1)", "Beneath(2)"):
            choice, barred = fewest_redirects(example(), RULES[name])
            self.assertEqual(choice, ((1, 0),))
            self.assertEqual(barred, (((), (True, False), 4),))
            self.assertEqual(self.check(example(), RULES[name]), choice)
        choice, barred = fewest_redirects(example(), Refused())
        self.assertEqual((choice, [entry[0] for entry in barred]), (((1, 0),), [()]))

    def test_two_jumps(self):
        # Each of both tests may leave b for c, where b is performed again from a stretch that ends elsewhere.
        program = Program([
            ("a", [("perform", "b", "b"), ("if", "s", "e"), ("stop",)]),
            ("b", [("if", "t", "c"), ("if", "u", "c")]),
            ("c", [("perform", "b", "d"), ("stop",)]),
            ("d", []),
            ("e", [("act", "x")]),
        ])
        for rule in (Lost(), Beneath()):
            choice, barred = fewest_redirects(program, rule)
            self.assertEqual(choice, ((1, 0), (1, 1)))
            self.assertEqual(
                [entry[0] for entry in barred],
                [(), ((0, 1),), ((1, 0),), ((1, 1),), ((0, 1), (1, 0)), ((0, 1), (1, 1))],
            )
            self.assertEqual(self.check(program, rule), choice)
            self.assertEqual(len(written_out(program.redirected(choice), rule)), 2)

    def test_none_that_helps(self):
        program = Program([
            ("a", [("perform", "b", "b"), ("stop",)]),
            ("b", [("if", "t", "c"), ("perform", "c", "c"), ("perform", "b", "b")]),
            ("c", [("if", "u", "a")]),
        ])
        choice, barred = fewest_redirects(program, Refused())
        self.assertIsNone(choice)
        self.assertEqual([entry[0] for entry in barred], [(), ((1, 0),), ((2, 0),), ((1, 0), (2, 0))])
        self.assertIsNone(self.check(program, Refused()))

    def test_none_without_jumps(self):
        program = Program([("a", [("perform", "a", "a")])])
        self.assertEqual(fewest_redirects(program, Refused()), (None, (((), (), 1),)))
        self.assertEqual(fewest_redirects(program, Lost()), ((), ()))

    def test_a_jump_to_the_end_of_its_paragraph_is_not_chosen(self):
        program = Program([("a", [("if", "t", ""), ("go", ""), ("perform", "a", "a")])])
        self.assertEqual(fewest_redirects(program, Refused()), ((), ()))
        program = Program([("a", [("if", "t", ""), ("perform", "a", "a")])])
        choice, barred = fewest_redirects(program, Refused())
        self.assertIsNone(choice)
        self.assertEqual(barred, (((), (False, False), 3),))

    def test_a_go_may_be_chosen(self):
        program = Program([
            ("a", [("perform", "b", "c"), ("stop",)]), ("b", [("go", "a")]), ("c", [("act", "x")]),
        ])
        self.assertEqual(fewest_redirects(program, Refused()), (((1, 0),), (((), (), 2),)))

    def test_some_programs(self):
        found = {}
        for program in some_programs(23, 80, paragraphs=4, statements=2, performs=3, jumps=4, gaps=0.8):
            for name, rule in RULES.items():
                with self.subTest(bodies=program.bodies, rule=name):
                    choice = self.check(program, rule)
                    length = None if choice is None else len(choice)
                    found[length] = found.get(length, 0) + 1
        for length in (None, 0, 1, 2):
            self.assertGreater(found.get(length, 0), 3, found)

    def test_larger_programs(self):
        for program in largest_programs(24, 2) + [Program(rich_paragraphs())]:
            for rule in (Lost(), Refused()):
                self.check(program, rule)


if __name__ == "__main__":
    unittest.main()
