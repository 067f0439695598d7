"""Program: points 2, 3, 4 and 18, and the interface of armedexits.programs."""

import copy
import itertools
import unittest

from armedexits.errors import BackwardStretch, BadName, BadSize, DuplicateName, UnknownName
from armedexits.programs import Program, Stretch
from tests.helpers import error_of, paragraphs_named, rich_paragraphs

LETTERS = "abcdefghijklmnopqrstuvwxyz"

GOOD_NAMES = ["a", "z", "q", "main", "act", "go", "if", "leave", "perform", "stop", "thru", LETTERS[:12], LETTERS[14:]]

BAD_NAMES = [
    "", LETTERS[:13], "a" * 40, "A", "Main", "maiN", "1", "a1", "1a", "a\n", "\na", "a\nb", "\n",
    " ", "a ", " a", "a b", "a.", "a-b", "a_b", "`", "{", "a{", "@", "[",
]


def first_body(statements):
    """Paragraphs of which the first, `a`, has these statements, and `b` and `c` have none."""
    return [("a", statements), ("b", []), ("c", [])]


def bodies_of(paragraphs):
    return tuple(tuple(statements) for _, statements in paragraphs)


class Attributes(unittest.TestCase):
    def test_names_and_bodies(self):
        program = Program(rich_paragraphs())
        self.assertEqual(program.names, ("main", "b", "c", "d", "e"))
        self.assertEqual(program.bodies, bodies_of(rich_paragraphs()))
        self.assertIsInstance(program.names, tuple)
        self.assertIsInstance(program.bodies, tuple)
        for body in program.bodies:
            self.assertIsInstance(body, tuple)

    def test_performs_and_jumps(self):
        program = Program(rich_paragraphs())
        self.assertEqual(program.performs, ((0, 0), (0, 2), (3, 1), (4, 0)))
        self.assertEqual(program.jumps, ((1, 0), (1, 1), (4, 1), (4, 2)))

    def test_none_of_them(self):
        program = Program(first_body([("act", "x"), ("stop",), ("go", ""), ("if", "t", "")]))
        self.assertEqual(program.performs, ())
        self.assertEqual(program.jumps, ())

    def test_as_many_as_there_can_be(self):
        program = Program([
            ("a", [("go", "a"), ("if", "t", "b"), ("perform", "a", "a"), ("perform", "a", "b")]),
            ("b", [("if", "t", "a"), ("perform", "b", "b"), ("go", "b"), ("perform", "a", "a")]),
            ("c", [("go", "c"), ("if", "go", "c")]),
        ])
        self.assertEqual(program.performs, ((0, 2), (0, 3), (1, 1), (1, 3)))
        self.assertEqual(program.jumps, ((0, 0), (0, 1), (1, 0), (1, 2), (2, 0), (2, 1)))

    def test_performs_and_jumps_are_properties(self):
        self.assertIsInstance(vars(Program)["performs"], property)
        self.assertIsInstance(vars(Program)["jumps"], property)

    def test_words_that_look_like_statements(self):
        program = Program([("perform", [("act", "go"), ("act", "perform")]), ("go", [("act", "if")])])
        self.assertEqual((program.performs, program.jumps), ((), ()))

    def test_arguments_are_not_modified(self):
        paragraphs = rich_paragraphs()
        program = Program(paragraphs)
        program.redirected(program.jumps)
        self.assertEqual(paragraphs, rich_paragraphs())

    def test_invalid_arguments_are_not_modified(self):
        paragraphs = first_body([("act", "x"), ("go", "zz")])
        before = copy.deepcopy(paragraphs)
        error_of(self, UnknownName, Program, paragraphs)
        self.assertEqual(paragraphs, before)

    def test_passed_lists_may_change_afterwards(self):
        paragraphs = rich_paragraphs()
        program = Program(paragraphs)
        paragraphs[0][1].clear()
        paragraphs[2][1].append(("act", "late"))
        paragraphs[1][1][0] = ("stop",)
        paragraphs.append(("f", []))
        paragraphs[4] = ("z", [])
        self.assertEqual(program.names, ("main", "b", "c", "d", "e"))
        self.assertEqual(program.bodies, bodies_of(rich_paragraphs()))
        self.assertEqual(program.performs, ((0, 0), (0, 2), (3, 1), (4, 0)))
        self.assertEqual(program.jumps, ((1, 0), (1, 1), (4, 1), (4, 2)))


class Sizes(unittest.TestCase):
    def check(self, good, bad):
        self.assertEqual(Program(good).bodies, bodies_of(good))
        error_of(self, BadSize, Program, bad)

    def test_at_least_one_paragraph(self):
        self.check(paragraphs_named("a"), [])

    def test_at_most_eight_paragraphs(self):
        self.check(paragraphs_named(*"abcdefgh"), paragraphs_named(*"abcdefghi"))

    def test_at_most_four_statements_in_each(self):
        for statement in (("act", "x"), ("stop",), ("go", "")):
            self.check(first_body([statement] * 4), first_body([statement] * 5))
        self.check([("a", []), ("b", [("stop",)] * 4)], [("a", []), ("b", [("stop",)] * 5)])

    def test_thirty_two_statements(self):
        paragraphs = [(letter, [("act", "x"), ("stop",)] * 2) for letter in "abcdefgh"]
        self.assertEqual(Program(paragraphs).bodies, bodies_of(paragraphs))

    def test_at_most_four_performs(self):
        perform = ("perform", "a", "b")
        for sizes in ((4, 0, 0), (2, 1, 1), (0, 0, 4)):
            good = [(name, [perform] * many) for name, many in zip("abc", sizes)]
            for k in range(3):
                bad = [(name, list(statements)) for name, statements in good]
                if len(bad[k][1]) < 4:
                    bad[k][1].append(perform)
                    self.check(good, bad)

    def test_at_most_six_jumps_together(self):
        for jump in (("go", "a"), ("go", ""), ("if", "t", "a"), ("if", "t", "")):
            for other in (("go", "b"), ("go", ""), ("if", "t", "b"), ("if", "u", "")):
                good = [("a", [jump] * 3), ("b", [other] * 3), ("c", [])]
                for k in range(3):
                    for more in (jump, other):
                        bad = [(name, list(statements)) for name, statements in good]
                        bad[k][1].append(more)
                        self.check(good, bad)

    def test_performs_and_jumps_are_counted_apart(self):
        paragraphs = [
            ("a", [("perform", "a", "a")] * 4),
            ("b", [("go", "a")] * 3 + [("act", "x")]),
            ("c", [("if", "t", "a")] * 3 + [("stop",)]),
        ]
        program = Program(paragraphs)
        self.assertEqual((len(program.performs), len(program.jumps)), (4, 6))

    def test_due_before_all_others(self):
        bad = [("stop",)] * 5
        for paragraphs in (
            [("A", bad)],
            [("a", bad), ("a", [])],
            [("A", []), ("b", bad)],
            [("a", [("act", "X")] * 5)],
            [("a", [("go", "zz")]), ("b", bad)],
            [("a", [("perform", "b", "a")]), ("b", bad)],
            [("a", [("perform", "zz", "a")] * 4), ("b", [("perform", "b", "b")])],
            [("a", [("if", "T", "zz")] * 4), ("b", [("go", "zz")] * 3)],
            paragraphs_named("A", "A", *"bcdefgh"),
            paragraphs_named(*"abcdefgha"),
        ):
            with self.subTest(paragraphs=paragraphs):
                error_of(self, BadSize, Program, paragraphs)


class Names(unittest.TestCase):
    def test_good_names_everywhere(self):
        for name in GOOD_NAMES:
            paragraphs = [
                (name, [("act", name), ("if", name, name), ("go", name), ("perform", name, name)]),
            ]
            with self.subTest(name=name):
                self.assertEqual(Program(paragraphs).names, (name,))
                self.assertEqual(Program(paragraphs).bodies, bodies_of(paragraphs))

    def test_each_letter_is_one(self):
        for letter in LETTERS:
            self.assertEqual(Program(paragraphs_named(letter)).names, (letter,))

    def test_lengths(self):
        for length in range(1, 13):
            self.assertEqual(Program(paragraphs_named("x" * length)).names, ("x" * length,))
        self.assertEqual(error_of(self, BadName, Program, paragraphs_named("x" * 13)).word, "x" * 13)

    def test_bad_names(self):
        for word in BAD_NAMES:
            for paragraphs in (
                paragraphs_named(word),
                paragraphs_named("a", word),
                first_body([("act", word)]),
                first_body([("if", word, "b")]),
                first_body([("if", word, "")]),
            ):
                with self.subTest(paragraphs=paragraphs):
                    self.assertEqual(error_of(self, BadName, Program, paragraphs).word, word)

    def test_every_sign_that_is_no_letter(self):
        for sign in "\n" + "".join(chr(code) for code in range(32, 127)):
            if sign not in LETTERS + "%":
                with self.subTest(sign=sign):
                    self.assertEqual(error_of(self, BadName, Program, paragraphs_named("a" + sign)).word, "a" + sign)

    def test_duplicate_names(self):
        for names, word in (
            (("a", "a"), "a"),
            (("a", "b", "a"), "a"),
            (("a", "b", "b"), "b"),
            (("a", "b", "b", "a"), "b"),
            (("main", "c", "d", "e", "f", "g", "h", "main"), "main"),
        ):
            with self.subTest(names=names):
                self.assertEqual(error_of(self, DuplicateName, Program, paragraphs_named(*names)).word, word)

    def test_names_that_only_begin_alike(self):
        self.assertEqual(Program(paragraphs_named("a", "aa", "aaa")).names, ("a", "aa", "aaa"))

    def test_paragraphs_are_checked_in_order(self):
        self.assertEqual(error_of(self, DuplicateName, Program, paragraphs_named("a", "a", "B")).word, "a")
        self.assertEqual(error_of(self, BadName, Program, paragraphs_named("a", "B", "a")).word, "B")
        self.assertEqual(error_of(self, BadName, Program, paragraphs_named("B", "B")).word, "B")
        self.assertEqual(error_of(self, BadName, Program, paragraphs_named("a", "C", "B")).word, "C")

    def test_names_are_due_before_statements(self):
        statements = [("act", "X"), ("go", "zz"), ("perform", "b", "a")]
        for late in ("B", ""):
            error = error_of(self, BadName, Program, [("a", statements), (late, [])])
            self.assertEqual(error.word, late)
        error = error_of(self, DuplicateName, Program, [("a", statements), ("b", []), ("b", [])])
        self.assertEqual(error.word, "b")


class Statements(unittest.TestCase):
    def test_good_statements(self):
        for statement in (
            ("act", "b"), ("act", "zz"), ("stop",),
            ("go", ""), ("go", "a"), ("go", "b"), ("go", "c"),
            ("if", "zz", ""), ("if", "a", "a"), ("if", "t", "c"),
            ("perform", "a", "a"), ("perform", "a", "c"), ("perform", "b", "c"), ("perform", "c", "c"),
        ):
            with self.subTest(statement=statement):
                self.assertEqual(Program(first_body([statement])).bodies, ((statement,), (), ()))

    def test_unknown_targets(self):
        for word in ("zz", "d", "aa", "A", "a ", " ", "x" * 13, "1", "a\n"):
            for statement in (("go", word), ("if", "t", word)):
                with self.subTest(statement=statement):
                    self.assertEqual(error_of(self, UnknownName, Program, first_body([statement])).word, word)

    def test_unknown_ends_of_stretches(self):
        for word in ("zz", "", "A", "x" * 13):
            for statement in (
                ("perform", word, "a"), ("perform", "c", word), ("perform", word, "yy"), ("perform", word, word),
            ):
                with self.subTest(statement=statement):
                    self.assertEqual(error_of(self, UnknownName, Program, first_body([statement])).word, word)

    def test_the_first_end_is_asked_first(self):
        error = error_of(self, UnknownName, Program, first_body([("perform", "yy", "zz")]))
        self.assertEqual(error.word, "yy")

    def test_backward_stretches(self):
        for first, last in (("b", "a"), ("c", "a"), ("c", "b")):
            error = error_of(self, BackwardStretch, Program, first_body([("perform", first, last)]))
            self.assertEqual((error.first, error.last), (first, last))

    def test_backward_is_a_matter_of_places_and_not_of_letters(self):
        paragraphs = [("z", [("perform", "z", "a")]), ("a", [])]
        self.assertEqual(Program(paragraphs).performs, ((0, 0),))
        error = error_of(self, BackwardStretch, Program, [("z", [("perform", "a", "z")]), ("a", [])])
        self.assertEqual((error.first, error.last), ("a", "z"))

    def test_the_test_is_asked_before_the_target(self):
        error = error_of(self, BadName, Program, first_body([("if", "T", "zz")]))
        self.assertEqual(error.word, "T")

    def test_an_act_need_not_name_a_paragraph(self):
        self.assertEqual(Program(first_body([("act", "zz"), ("if", "yy", "a")])).names, ("a", "b", "c"))

    def test_the_first_fault_is_due(self):
        faults = [
            (("act", "X"), BadName, {"word": "X"}),
            (("go", "yy"), UnknownName, {"word": "yy"}),
            (("if", "Y", "zz"), BadName, {"word": "Y"}),
            (("if", "t", "zz"), UnknownName, {"word": "zz"}),
            (("perform", "ww", "a"), UnknownName, {"word": "ww"}),
            (("perform", "a", "vv"), UnknownName, {"word": "vv"}),
            (("perform", "c", "a"), BackwardStretch, {"first": "c", "last": "a"}),
        ]
        for (early, kind, fields), (late, _, _) in itertools.permutations(faults, 2):
            for paragraphs in (
                first_body([early, late]),
                first_body([("act", "x"), early, ("stop",), late]),
                [("a", [("stop",)]), ("b", [early]), ("c", [late])],
                [("a", [("act", "x")] * 3 + [early]), ("b", []), ("c", [late])],
            ):
                with self.subTest(paragraphs=paragraphs):
                    error = error_of(self, kind, Program, paragraphs)
                    self.assertEqual({field: getattr(error, field) for field in fields}, fields)


class Stretches(unittest.TestCase):
    def test_the_stretch_of_every_perform(self):
        program = Program(rich_paragraphs())
        expected = {(0, 1): (1, 3), (0, 3): (4, 4), (3, 2): (1, 2), (4, 1): (0, 4)}
        self.assertEqual(tuple((p, k - 1) for p, k in expected), program.performs)
        for way, (first, last) in expected.items():
            with self.subTest(way=way):
                stretch = program.stretch_of(way)
                self.assertIsInstance(stretch, Stretch)
                self.assertEqual((stretch.first, stretch.last), (first, last))

    def test_every_stretch_of_eight_paragraphs(self):
        letters = "abcdefgh"
        for first in range(8):
            for last in range(first, 8):
                for at in range(4):
                    statements = [("act", "x")] * at + [("perform", letters[first], letters[last])]
                    program = Program(paragraphs_named(*letters[:7]) + [("h", statements)])
                    self.assertEqual(program.stretch_of((7, at + 1)), Stretch(first, last))


class Redirected(unittest.TestCase):
    def redirected_bodies(self, program, choice):
        return tuple(
            tuple(
                statement[:-1] + ("",) if (p, k) in choice else statement
                for k, statement in enumerate(body)
            )
            for p, body in enumerate(program.bodies)
        )

    def check_every_choice(self, paragraphs):
        program = Program(paragraphs)
        jumps = program.jumps
        for length in range(len(jumps) + 1):
            for choice in itertools.combinations(jumps, length):
                with self.subTest(choice=choice):
                    other = program.redirected(choice)
                    self.assertIsInstance(other, Program)
                    self.assertIsNot(other, program)
                    self.assertEqual(other.names, program.names)
                    self.assertEqual(other.bodies, self.redirected_bodies(program, choice))
                    self.assertEqual(other.jumps, tuple(point for point in jumps if point not in choice))
                    self.assertEqual(other.performs, program.performs)
                    self.assertEqual(program.bodies, bodies_of(paragraphs))
                    self.assertEqual(program.jumps, jumps)

    def test_every_choice(self):
        self.check_every_choice(rich_paragraphs())

    def test_every_choice_of_six_jumps(self):
        self.check_every_choice([
            ("a", [("go", "c"), ("act", "x"), ("if", "t", "a"), ("if", "b", "b")]),
            ("b", [("if", "t", "c"), ("go", "a")]),
            ("c", [("stop",), ("perform", "a", "b"), ("go", "c")]),
        ])

    def test_a_program_without_jumps(self):
        program = Program(first_body([("act", "x"), ("go", "")]))
        other = program.redirected(())
        self.assertEqual((other.names, other.bodies), (program.names, program.bodies))

    def test_redirected_in_turn(self):
        program = Program(rich_paragraphs())
        one = program.redirected(((1, 0), (4, 2)))
        two = program.redirected(((4, 2),)).redirected(((1, 0),))
        self.assertEqual(one.bodies, two.bodies)
        self.assertEqual(one.bodies[1][0], ("if", "late", ""))
        self.assertEqual(one.bodies[4][2], ("if", "t", ""))
        self.assertEqual(program.redirected(((1, 1),)).bodies[1][1], ("go", ""))


if __name__ == "__main__":
    unittest.main()
