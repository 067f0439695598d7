"""Two programs with the same answers: point 15."""

import unittest

from armedexits.exits import Beneath, Lost, Refused
from armedexits.outcomes import compare_outcomes
from armedexits.programs import Program
from armedexits.runs import settle
from tests.helpers import paragraphs_named, rich_paragraphs
from tests.reference import RULES, Machine, example, rows_of_answers, some_programs

DONE = (("done",), None, ())
REFUSED = (("refused",), None, ())
LOOPS = (("loops",), None, ())


def one_paragraph(*statements):
    return Program([("a", list(statements))])


class Outcomes(unittest.TestCase):
    def check(self, first, first_rule, second, second_rule, pairs, difference):
        found = compare_outcomes(first, first_rule, second, second_rule)
        self.assertIsInstance(found, tuple)
        self.assertIsInstance(found[0], tuple)
        self.assertEqual(len(found[0]), len(pairs))
        self.assertEqual({pair[:2]: pair[2] for pair in found[0]}, {pair[:2]: pair[2] for pair in pairs})
        self.assertEqual(found[1], difference)


class Examples(Outcomes):
    def test_a_program_without_events_with_itself(self):
        for rule in RULES.values():
            program = Program(paragraphs_named("a", "b"))
            self.check(program, rule, program, rule, [(DONE, DONE, 0)], None)
            program = one_paragraph(("go", "a"))
            self.check(program, rule, program, rule, [(LOOPS, LOOPS, 0)], None)
        program = one_paragraph(("perform", "a", "a"))
        self.check(program, Refused(), program, Refused(), [(REFUSED, REFUSED, 0)], None)

    def test_endings_that_differ(self):
        done, loops, refused = one_paragraph(), one_paragraph(("go", "a")), one_paragraph(("perform", "a", "a"))
        self.check(done, Lost(), loops, Lost(), [(DONE, LOOPS, 0)], ((), 0))
        self.check(loops, Lost(), done, Lost(), [(LOOPS, DONE, 0)], ((), 0))
        self.check(refused, Refused(), refused, Lost(), [(REFUSED, LOOPS, 0)], ((), 0))
        self.check(refused, Refused(), done, Lost(), [(REFUSED, DONE, 0)], ((), 0))

    def test_a_program_with_itself(self):
        program = one_paragraph(("act", "x"), ("if", "t", "a"), ("act", "y"))
        stands = [(("act", "x"), (0, 0), ((),)), (("ask", "t"), (0, 1), ((),)), (("act", "y"), (0, 2), ((),)), DONE]
        self.check(program, Lost(), program, Beneath(2), [(stand, stand, n) for n, stand in enumerate(stands)], None)

    def test_the_fewest_events_before_a_pair(self):
        # The paragraph c is reached by yes at once, and by no behind two acts.
        program = Program([
            ("a", [("if", "t", "c"), ("act", "x"), ("act", "x")]), ("b", []), ("c", [("act", "z"), ("go", "a")]),
        ])
        found, difference = compare_outcomes(program, Lost(), program, Lost())
        self.assertIsNone(difference)
        self.assertEqual(
            {stand[1]: events for stand, _, events in found}, {(0, 0): 0, (0, 1): 1, (0, 2): 2, (2, 0): 1},
        )

    def test_an_act_that_differs(self):
        e = ((),)
        first, second = one_paragraph(("act", "x"), ("act", "y")), one_paragraph(("act", "x"), ("act", "z"))
        self.check(
            first, Lost(), second, Lost(),
            [
                ((("act", "x"), (0, 0), e), (("act", "x"), (0, 0), e), 0),
                ((("act", "y"), (0, 1), e), (("act", "z"), (0, 1), e), 1),
            ],
            ((), 1),
        )

    def test_a_test_that_differs(self):
        e = ((),)
        first = one_paragraph(("if", "t", "a"), ("if", "u", "a"))
        second = one_paragraph(("if", "t", "a"), ("if", "v", "a"))
        self.check(
            first, Lost(), second, Lost(),
            [
                ((("ask", "t"), (0, 0), e), (("ask", "t"), (0, 0), e), 0),
                ((("ask", "u"), (0, 1), e), (("ask", "v"), (0, 1), e), 1),
            ],
            ((False,), 1),
        )

    def test_an_act_and_a_test_of_one_name_differ(self):
        e = ((),)
        self.check(
            one_paragraph(("act", "x")), Lost(), one_paragraph(("if", "x", "")), Lost(),
            [((("act", "x"), (0, 0), e), (("ask", "x"), (0, 0), e), 0)], ((), 0),
        )

    def test_events_are_acts_and_tests_and_answers_those_of_the_tests(self):
        statements = [("act", "x"), ("if", "t", ""), ("act", "y")]
        first, second = one_paragraph(*statements, ("if", "u", "a")), one_paragraph(*statements, ("if", "u", ""))
        for left, right in ((first, second), (second, first)):
            pairs, difference = compare_outcomes(left, Lost(), right, Lost())
            self.assertEqual(difference, ((False, True), 4))
            self.assertEqual(sorted(events for _, _, events in pairs), [0, 1, 2, 2, 3, 4])

    def test_the_shortest_run_to_a_difference(self):
        long_way = [("act", "x"), ("act", "x"), ("act", "x")]
        first = Program([("a", [("if", "t", "c")]), ("b", long_way + [("stop",)]), ("c", [("act", "y")])])
        second = Program([("a", [("if", "t", "c")]), ("b", long_way), ("c", [("act", "z")])])
        _, difference = compare_outcomes(first, Lost(), second, Lost())
        self.assertEqual(difference, ((True,), 1))

    def test_two_rules(self):
        program = Program([
            ("a", [("perform", "b", "b"), ("act", "w"), ("stop",)]),
            ("b", [("if", "t", "c")]),
            ("c", [("perform", "b", "b"), ("act", "v"), ("go", "b")]),
        ])
        _, difference = compare_outcomes(program, Lost(), program, Beneath())
        self.assertEqual(difference, ((True, False, False), 4))
        _, difference = compare_outcomes(program, Lost(), program, Beneath(0))
        self.assertIsNone(difference)
        pairs, difference = compare_outcomes(program, Lost(), program, Refused())
        self.assertEqual(difference, ((True,), 1))
        self.assertIn((settle(program, Lost(), (2, 0), ((), ((0, 1),), ())), REFUSED, 1), pairs)

    def test_two_rules_that_make_no_difference_to_the_outcomes(self):
        # The meanings part here under each rule, but two of these rules make the same events of it.
        _, difference = compare_outcomes(example(), Lost(), example(), Beneath(2))
        self.assertIsNone(difference)

    def test_sides_of_different_sizes(self):
        first = Program([("a", [("perform", "b", "b"), ("act", "x")]), ("b", [("act", "x")])])
        second = one_paragraph(("act", "x"), ("act", "x"))
        self.check(
            first, Refused(), second, Lost(),
            [
                ((("act", "x"), (1, 0), ((), ((0, 1),))), (("act", "x"), (0, 0), ((),)), 0),
                ((("act", "x"), (0, 1), ((), ())), (("act", "x"), (0, 1), ((),)), 1),
            ] + [(settle(first, Refused(), (0, 2), ((), ())), DONE, 2)],
            ((), 2),
        )


class AgainstRuns(Outcomes):
    MOST = 5

    def runs_of(self, one, two):
        """The pairs that runs with some row of answers reach, and the fewest events before a difference."""
        pairs, fewest = {}, None
        for answers in rows_of_answers(self.MOST)[-2 ** self.MOST:]:
            stands = zip(one.stands(answers, self.MOST), two.stands(answers, self.MOST))
            for events, (left, right) in enumerate(stands):
                pairs[left, right] = min(events, pairs.get((left, right), events))
                if left[0] != right[0]:
                    fewest = events if fewest is None else min(events, fewest)
                    break
        return pairs, fewest

    def check_runs(self, first, first_rule, second, second_rule):
        """Returns whether there is a difference."""
        one, two = Machine(first, first_rule), Machine(second, second_rule)
        expected, fewest = self.runs_of(one, two)
        pairs, difference = compare_outcomes(first, first_rule, second, second_rule)
        self.assertEqual(len({pair[:2] for pair in pairs}), len(pairs))
        near = {(left, right): events for left, right, events in pairs if events <= self.MOST}
        self.assertEqual(near, expected)
        if difference is None or difference[1] > self.MOST:
            self.assertIsNone(fewest)
        if difference is not None:
            answers, events = difference
            self.assertIsInstance(answers, tuple)
            left, right = one.stands(answers, events), two.stands(answers, events)
            self.assertEqual((len(left), len(right)), (events + 1, events + 1))
            self.assertEqual([stand[0] for stand in left[:-1]], [stand[0] for stand in right[:-1]])
            self.assertNotEqual(left[-1][0], right[-1][0])
            self.assertEqual(sum(stand[0][0] == "ask" for stand in left[:-1]), len(answers))
            if events <= self.MOST:
                self.assertEqual(events, fewest)
        return difference is not None

    def test_two_rules_over_one_program(self):
        found = {True: 0, False: 0}
        for program in some_programs(18, 40, paragraphs=4, statements=2, performs=3, jumps=3, gaps=0.4):
            for one, first_rule in RULES.items():
                for two, second_rule in RULES.items():
                    with self.subTest(bodies=program.bodies, one=one, two=two):
                        differs = self.check_runs(program, first_rule, program, second_rule)
                        found[differs] += 1
                        if one == two or {one, two} == {"Lost()", "Beneath(0)"}:
                            self.assertIs(differs, False)
        self.assertTrue(min(found.values()) > 50, found)

    def test_two_programs(self):
        found = {True: 0, False: 0}
        programs = some_programs(19, 80, paragraphs=3, statements=2, performs=1, jumps=3, gaps=0.5)
        for program, other in zip(programs, programs[1:]):
            for choice in [(), program.jumps[:1], program.jumps[1:]]:
                with self.subTest(bodies=program.bodies, choice=choice):
                    redirected = program.redirected(choice)
                    found[self.check_runs(program, Lost(), redirected, Beneath())] += 1
                    found[self.check_runs(other, Refused(), redirected, Lost())] += 1
        self.assertTrue(min(found.values()) > 50, found)

    def test_a_program_with_more_of_everything(self):
        program = Program(rich_paragraphs())
        for rule in RULES.values():
            self.check_runs(program, rule, program, Lost())


if __name__ == "__main__":
    unittest.main()
