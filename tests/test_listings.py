"""listing and parse: point 19."""

import random
import unittest

from armedexits.errors import (
    BackwardStretch, BadListing, BadName, BadSize, DuplicateName, InvalidProgram, UnknownName,
)
from armedexits.listings import listing, parse
from armedexits.programs import Program
from tests.helpers import error_of, rich_paragraphs

RICH = "\n".join([
    " 1 main.",
    " 2     perform b thru d",
    " 3     act x",
    " 4     perform e thru e",
    " 5     stop",
    " 6 b.",
    " 7     if late go d",
    " 8     go main",
    " 9     act y",
    "10 c.",
    "11 d.",
    "12     if again leave",
    "13     perform b thru c",
    "14     leave",
    "15 e.",
    "16     perform main thru e",
    "17     go e",
    "18     if t go c",
    "19     stop",
])

WORDS = ["act", "go", "if", "leave", "perform", "stop", "thru", "a", "main"]

SIGNS = "\n !.019:AZ`abgostz{~"


def all_words_as_names():
    """Eight paragraphs named by the words of a listing, with these words everywhere."""
    return [
        ("act", [("act", "act"), ("act", "stop"), ("act", "leave"), ("stop",)]),
        ("go", [("go", "go"), ("go", "leave")]),
        ("if", [("if", "if", "if"), ("if", "leave", "")]),
        ("leave", [("go", "")]),
        ("perform", [("perform", "perform", "thru"), ("perform", "leave", "leave")]),
        ("stop", [("if", "go", "go")]),
        ("thru", [("perform", "thru", "thru"), ("perform", "go", "thru")]),
    ]


def some_statement(chance, names, performs, jumps):
    """A statement, a perform or jump only if some are left."""
    kinds = ["act", "stop"] + ["perform"] * bool(performs) + ["go", "if"] * bool(jumps)
    kind = chance.choice(kinds)
    if kind == "act":
        return ("act", chance.choice(WORDS))
    if kind == "stop":
        return ("stop",)
    if kind == "go":
        return ("go", chance.choice(names + [""]))
    if kind == "if":
        return ("if", chance.choice(WORDS), chance.choice(names + [""]))
    first, last = sorted(chance.choices(range(len(names)), k=2))
    return ("perform", names[first], names[last])


def some_paragraphs(seed):
    """Paragraphs of a program, the same for the same seed."""
    chance = random.Random(seed)
    names = chance.sample(WORDS, chance.randint(1, 8))
    performs, jumps, paragraphs = 4, 6, []
    for name in names:
        statements = []
        for _ in range(chance.randint(0, 4)):
            statement = some_statement(chance, names, performs, jumps)
            performs -= statement[0] == "perform"
            jumps -= statement[0] in ("go", "if")
            statements.append(statement)
        paragraphs.append((name, statements))
    return paragraphs


class Listing(unittest.TestCase):
    def test_exact_text(self):
        self.assertEqual(listing(Program(rich_paragraphs())), RICH)

    def test_one_line(self):
        self.assertEqual(listing(Program([("a", [])])), " 1 a.")

    def test_each_statement(self):
        for statement, line in (
            (("act", "x"), "act x"),
            (("go", "b"), "go b"),
            (("go", ""), "leave"),
            (("if", "t", "b"), "if t go b"),
            (("if", "t", ""), "if t leave"),
            (("perform", "a", "b"), "perform a thru b"),
            (("stop",), "stop"),
        ):
            with self.subTest(statement=statement):
                program = Program([("a", [statement]), ("b", [])])
                self.assertEqual(listing(program), f" 1 a.\n 2     {line}\n 3 b.")

    def test_nine_ten_and_forty_lines(self):
        body = [("act", "x")] * 4
        lines = listing(Program([("a", body), ("b", body[:3])])).split("\n")
        self.assertEqual(lines[8], " 9     act x")
        lines = listing(Program([("a", body), ("b", body)])).split("\n")
        self.assertEqual(lines[9], "10     act x")
        lines = listing(Program([(letter, body) for letter in "abcdefgh"])).split("\n")
        self.assertEqual(len(lines), 40)
        self.assertEqual(lines[8], " 9     act x")
        self.assertEqual(lines[9], "10     act x")
        self.assertEqual(lines[35], "36 h.")
        self.assertEqual(lines[39], "40     act x")

    def test_words_of_the_listing_as_names(self):
        self.assertEqual(listing(Program(all_words_as_names())).split("\n"), [
            " 1 act.",
            " 2     act act",
            " 3     act stop",
            " 4     act leave",
            " 5     stop",
            " 6 go.",
            " 7     go go",
            " 8     go leave",
            " 9 if.",
            "10     if if go if",
            "11     if leave leave",
            "12 leave.",
            "13     leave",
            "14 perform.",
            "15     perform perform thru thru",
            "16     perform leave thru leave",
            "17 stop.",
            "18     if go go go",
            "19 thru.",
            "20     perform thru thru thru",
            "21     perform go thru thru",
        ])

    def test_the_listing_of_a_redirected_program(self):
        program = Program(rich_paragraphs()).redirected(((1, 0), (4, 1)))
        self.assertEqual(
            listing(program),
            RICH.replace("if late go d", "if late leave").replace("17     go e", "17     leave"),
        )


class Parse(unittest.TestCase):
    def check_back(self, paragraphs):
        program = Program(paragraphs)
        found = parse(listing(program))
        self.assertIsInstance(found, Program)
        self.assertEqual(found.names, program.names)
        self.assertEqual(found.bodies, program.bodies)

    def test_a_listing_gives_the_program_back(self):
        self.check_back(rich_paragraphs())
        self.check_back(all_words_as_names())
        self.check_back([("a", [])])
        self.check_back([("x" * 12, [("act", "y" * 12), ("if", "z" * 12, "x" * 12)])])
        self.check_back([(letter, [("act", "x"), ("stop",)] * 2) for letter in "abcdefgh"])

    def test_many_listings_give_the_program_back(self):
        for seed in range(300):
            with self.subTest(seed=seed):
                self.check_back(some_paragraphs(seed))

    def test_parsed_by_hand(self):
        program = parse(" 1 a.\n 2     if go go go\n 3 go.\n 4     go leave\n 5 leave.\n 6     leave")
        self.assertEqual(program.names, ("a", "go", "leave"))
        self.assertEqual(program.bodies, ((("if", "go", "go"),), (("go", "leave"),), (("go", ""),)))


class Refused(unittest.TestCase):
    def check_form(self, text):
        """The text has not the form of a listing, so that no error of Program is the reason."""
        with self.subTest(text=text):
            error = error_of(self, BadListing, parse, text)
            self.assertIsNone(error.__cause__)

    def check_alike(self, text):
        """The text is refused, unless it is itself a listing."""
        with self.subTest(text=text):
            try:
                program = parse(text)
            except BadListing as error:
                self.assertIsInstance(error.__cause__, (InvalidProgram, type(None)))
            else:
                self.assertEqual(listing(program), text)

    def texts(self):
        return [RICH, listing(Program(all_words_as_names())), " 1 a.\n 2     act b"]

    def test_nothing(self):
        error_of(self, BadListing, parse, "")

    def test_spaces_and_newlines_alone(self):
        for text in (" ", "\n", "\n\n", " 1", " 1 ", " 1 \n", "1", "    ", "hello"):
            self.check_form(text)

    def test_a_space_or_newline_at_either_end(self):
        for text in (RICH, " 1 a."):
            for bad in (" " + text, text + " ", "\n" + text, text + "\n", text[1:], "\t" + text, text + "\n "):
                self.check_form(bad)
        for text in self.texts():
            error_of(self, BadListing, parse, text + " ")

    def test_one_sign_less(self):
        for text in self.texts():
            for at in range(len(text)):
                self.check_alike(text[:at] + text[at + 1:])

    def test_one_sign_more_or_another(self):
        for text in self.texts():
            for at in range(len(text) + 1):
                for sign in SIGNS:
                    self.check_alike(text[:at] + sign + text[at:])
                    self.check_alike(text[:at] + sign + text[at + 1:])

    def test_one_line_less(self):
        lines = RICH.split("\n")
        for at in range(len(lines) - 1):
            self.check_form("\n".join(lines[:at] + lines[at + 1:]))
        self.assertEqual(listing(parse("\n".join(lines[:-1]))), "\n".join(lines[:-1]))

    def test_one_line_more(self):
        lines = RICH.split("\n")
        for at in range(len(lines) + 1):
            self.check_form("\n".join(lines[:at] + [""] + lines[at:]))
        for at in range(len(lines)):
            self.check_form("\n".join(lines[:at] + [lines[at]] + lines[at:]))

    def test_two_lines_exchanged(self):
        lines = RICH.split("\n")
        for at in range(len(lines) - 1):
            self.check_form("\n".join(lines[:at] + [lines[at + 1], lines[at]] + lines[at + 2:]))

    def test_wrong_numbers(self):
        lines = RICH.split("\n")
        for at in range(len(lines)):
            for number in (-1, 0, at, at + 2, at + 11):
                self.check_form("\n".join(lines[:at] + [f"{number:>2}" + lines[at][2:]] + lines[at + 1:]))

    def test_numbers_that_are_not_right_aligned(self):
        for text in ("1 a.", "1  a.", "01 a.", "  1 a.", " 1a.", "+1 a.", "\t1 a."):
            self.check_form(text)
        self.check_form(RICH.replace(" 9     act", "09     act"))
        self.check_form(RICH.replace(" 9     act", "9     act"))

    def test_no_listing_begins_with_a_statement(self):
        for line in ("stop", "act x", "leave", "go a"):
            self.check_form(f" 1     {line}")
            self.check_form(f" 1     {line}\n 2 a.")

    def test_lines_that_are_neither(self):
        for line in (
            "a", "a:", "a. ", "", ".a", "   stop", "stop", "act x",
            "    ", "    a", "    act", "    go", "    if", "    if t", "    if t go", "    if go",
            "    perform", "    perform a", "    perform a thru", "    perform a a", "    perform a to a",
            "    stop now", "    stops", "    Stop", "    STOP", "    Act x", "    do x", "    actx",
            "    leave a", "    if t leave a", "    if t stop", "    if t a", "    go ", "    if t go ",
            "    stop ", "    leave ", "    if t leave ", "     stop", "     act x", "    \tact x",
            "    perform a through a", "    perform a THRU a",
        ):
            self.check_form(f" 1 a.\n 2 {line}")
            self.check_form(f" 1 a.\n 2     stop\n 3 {line}\n 4     stop")

    def test_a_space_too_many_in_a_line(self):
        for line in (
            " a.", "a .", "a b.", "    a.", "    stop.", "    act x ", "    act  x", "    act x y",
            "    go  a", "    go a ", "    go a a", "    if  t go a", "    if t  go a", "    if t go  a", "    if t go a ",
            "    if t t go a", "    if  t leave", "    if t  leave", "    perform  a thru a", "    perform a  thru a",
            "    perform a thru  a", "    perform a thru a ", "    perform a thru a thru a",
        ):
            for text in (f" 1 a.\n 2 {line}", f" 1 a.\n 2     stop\n 3 {line}\n 4     stop"):
                with self.subTest(text=text):
                    error_of(self, BadListing, parse, text)

    def test_empty_targets_are_not_written_out(self):
        self.check_form(" 1 a.\n 2     go ")
        self.check_form(" 1 a.\n 2     if t go ")

    def test_other_ends_of_lines(self):
        error_of(self, BadListing, parse, RICH.replace("\n", "\r\n"))
        error_of(self, BadListing, parse, RICH.replace("\n", "\n\n"))
        error_of(self, BadListing, parse, RICH.replace("\n", " "))


class RefusedByProgram(unittest.TestCase):
    def check(self, text, kind, **fields):
        with self.subTest(text=text):
            error = error_of(self, BadListing, parse, text)
            self.assertIs(type(error.__cause__), kind)
            self.assertEqual({field: getattr(error.__cause__, field) for field in fields}, fields)

    def test_bad_size(self):
        self.check("\n".join(f"{k:>2} {name}." for k, name in enumerate("abcdefghi", start=1)), BadSize)
        for line in ("act x", "stop", "leave"):
            lines = [" 1 a."] + [f"{k:>2}     {line}" for k in range(2, 7)]
            self.check("\n".join(lines), BadSize)
        for line, many in (("perform a thru a", 5), ("go a", 7), ("leave", 7), ("if t go a", 7), ("if t leave", 7)):
            lines = ["a.", "b.", "c."]
            lines[1:1] = [f"    {line}"] * 3
            lines[5:5] = [f"    {line}"] * (many - 3)
            self.check("\n".join(f"{k:>2} {line}" for k, line in enumerate(lines, start=1)), BadSize)

    def test_bad_name(self):
        for word in ("A", "Main", "a1", "x" * 13):
            self.check(f" 1 {word}.", BadName, word=word)
            self.check(f" 1 a.\n 2     act {word}", BadName, word=word)
            self.check(f" 1 a.\n 2     if {word} go a", BadName, word=word)
            self.check(f" 1 a.\n 2     if {word} leave", BadName, word=word)

    def test_duplicate_name(self):
        self.check(" 1 a.\n 2     stop\n 3 b.\n 4 a.", DuplicateName, word="a")

    def test_unknown_name(self):
        for line in ("go zz", "if t go zz", "perform zz thru a", "perform a thru zz", "perform zz thru yy"):
            self.check(f" 1 a.\n 2     {line}", UnknownName, word="zz")
        self.check(" 1 a.\n 2     go A", UnknownName, word="A")
        self.check(" 1 a.\n 2     go leave", UnknownName, word="leave")

    def test_backward_stretch(self):
        self.check(" 1 a.\n 2     perform b thru a\n 3 b.", BackwardStretch, first="b", last="a")

    def test_the_first_error_of_program_is_the_reason(self):
        self.check(" 1 a.\n 2     go zz\n 3     perform b thru a\n 4 B.", BadName, word="B")
        self.check(" 1 a.\n 2     go zz\n 3     act X\n 4 b.", UnknownName, word="zz")

    def test_not_the_only_reason(self):
        for text in (
            " 1 A.\n",
            " 1 A.\n 3     stop",
            "1 A.",
            " 1 a.\n 2     go zz\n 3     stops",
            " 1 a.\n 2 a.\n 2 b.",
            " 1 a.\n 2     perform b thru a\n 3 b",
            " 1 A.\n 2     go ",
            " 1 a\n 2     go zz",
            "\n".join(f" {k} {name}." for k, name in enumerate("abcdefghi", start=1)) + "\n",
        ):
            with self.subTest(text=text):
                error = error_of(self, BadListing, parse, text)
                self.assertIsNone(error.__cause__)


if __name__ == "__main__":
    unittest.main()
