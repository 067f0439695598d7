"""Programs at the bounds of point 3: each function answers within seconds."""

import time
import unittest

from armedexits.errors import NotProcedures, Parted
from armedexits.exits import Beneath
from armedexits.outcomes import compare_outcomes
from armedexits.procedures import fewest_redirects, run_procedures, written_out
from armedexits.programs import Program
from armedexits.runs import all_runs, follow, settle
from armedexits.tables import compare
from tests.reference import LETTERS, RULES, largest_programs

# Far more than is needed anywhere, for the sake of slow machines.
MOST_SECONDS = 40


def padded(statements):
    """Eight paragraphs of four statements: those given by their points, and acts."""
    return Program([
        (name, [statements.get((p, k), ("act", "x")) for k in range(4)]) for p, name in enumerate(LETTERS)
    ])


def many_rows():
    """A program with a very large table under Beneath(2)."""
    return padded({
        (0, 1): ("perform", "b", "h"), (1, 1): ("if", "t", "g"), (1, 3): ("perform", "c", "f"),
        (2, 2): ("if", "t", "h"), (3, 1): ("if", "t", "f"), (4, 2): ("if", "t", ""), (4, 3): ("perform", "b", "g"),
        (5, 2): ("if", "t", "a"), (6, 0): ("perform", "a", "d"), (6, 3): ("if", "t", "e"),
    })


def many_choices():
    """A program of which many redirected ones have to be looked at for long."""
    return padded({
        (1, 3): ("if", "t", "d"), (2, 2): ("perform", "f", "h"), (2, 3): ("perform", "f", "h"),
        (4, 2): ("perform", "f", "h"), (4, 3): ("perform", "f", "h"), (5, 1): ("if", "t", "c"),
        (5, 2): ("if", "t", "b"), (6, 1): ("if", "t", "a"), (6, 2): ("if", "t", "a"), (7, 3): ("if", "t", "c"),
    })


def many_stands():
    """Two programs with very many pairs of stands under Beneath(2)."""
    first = Program([
        ("a", [("if", "t", "a"), ("if", "t", "e")]), ("b", [("if", "t", "d"), ("if", "t", "c")]),
        ("c", [("perform", "b", "e")]), ("d", [("if", "t", "b"), ("if", "t", "a"), ("perform", "c", "g")]), ("e", []),
        ("f", [("perform", "b", "b"), ("perform", "d", "h")]), ("g", []), ("h", []),
    ])
    second = Program([
        ("a", [("if", "t", "h")]), ("b", []), ("c", [("if", "t", "c"), ("perform", "f", "g")]),
        ("d", [("if", "t", "c")]), ("e", []), ("f", [("if", "t", "a"), ("if", "t", "d")]),
        ("g", [("perform", "h", "h"), ("perform", "a", "h"), ("perform", "a", "d")]), ("h", [("if", "t", "e")]),
    ])
    return first, second


def only_tests():
    """A program that does nothing but ask, so that most events have two runs behind them."""
    return Program([(name, [("if", "t", name)]) for name in LETTERS[:6]])


class Sizes(unittest.TestCase):
    def timed(self, function, *given, **named):
        """What the function returns, or the error that it raises, if it does not take too long."""
        begun = time.process_time()
        try:
            found = function(*given, **named)
        except (NotProcedures, Parted) as error:
            found = error
        self.assertLess(time.process_time() - begun, MOST_SECONDS)
        return found

    def test_a_very_large_table(self):
        program = many_rows()
        for rule in RULES.values():
            comparison = self.timed(compare, program, rule)
            self.assertIs(comparison.alike, False)
        comparison = self.timed(compare, program, Beneath(2))
        self.assertEqual((len(comparison.rows), len(comparison.levels)), (896543, 670))
        self.assertEqual(comparison.shortest, ((False, True), 13))

    def test_many_choices(self):
        for rule in RULES.values():
            self.timed(fewest_redirects, many_choices(), rule)
        choice, barred = self.timed(fewest_redirects, many_choices(), Beneath(2))
        self.assertEqual(choice, ((5, 1), (5, 2), (6, 1), (6, 2), (7, 3)))
        self.assertEqual(len(barred), 62)

    def test_very_many_pairs_of_stands(self):
        first, second = many_stands()
        pairs, difference = self.timed(compare_outcomes, first, Beneath(2), second, Beneath(2))
        self.assertEqual((len(pairs), difference), (1771702, ((True, False), 2)))

    def test_very_many_runs(self):
        for rule in RULES.values():
            runs = self.timed(lambda rule=rule: list(all_runs(only_tests(), rule, most=10)))
            self.assertEqual(len(runs), 848)

    def test_every_function_with_the_largest_programs(self):
        programs = largest_programs(25, 6)
        for program, other in zip(programs, programs[1:] + programs[:1]):
            self.assertEqual((len(program.names), len(program.performs)), (8, 4))
            for rule in RULES.values():
                self.timed(compare, program, rule)
                self.timed(compare_outcomes, program, rule, program, Beneath(2))
                self.timed(compare_outcomes, program, rule, other, rule)
                self.timed(fewest_redirects, program, rule)
                self.timed(follow, program, rule, [True, False] * 50, steps=1000)
                self.timed(settle, program, rule, (0, 0), ((),) * 8)
                self.timed(lambda program=program, rule=rule: list(all_runs(program, rule, most=8)))
                procedures = self.timed(written_out, program, rule)
                if not isinstance(procedures, NotProcedures):
                    self.timed(run_procedures, procedures, [True, False] * 50, steps=100)


if __name__ == "__main__":
    unittest.main()
