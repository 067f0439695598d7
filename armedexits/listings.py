"""Programs as numbered lines of text, and back."""

from armedexits.errors import BadListing, InvalidProgram
from armedexits.programs import Program

INDENT = "    "


def listing(program):
    """The text of a program."""
    lines = []
    for name, body in zip(program.names, program.bodies):
        lines.append(f"{name}.")
        lines.extend([INDENT + _line_of(statement) for statement in body])
    return "\n".join([_head(number) + line for number, line in enumerate(lines, start=1)])


def parse(text):
    """The program whose listing is the text."""
    paragraphs = _paragraphs_of(text)
    try:
        return Program(paragraphs)
    except InvalidProgram as error:
        raise BadListing("the lines are in order, but they do not make a program") from error


def _head(number):
    return f"{number:>2} "


def _line_of(statement):
    match statement:
        case ("act", word):
            return f"act {word}"
        case ("go", target):
            return _jump_to(target)
        case ("if", test, target):
            return f"if {test} {_jump_to(target)}"
        case ("perform", first, last):
            return f"perform {first} thru {last}"
        case _:
            return "stop"


def _jump_to(target):
    if target == "":
        return "leave"
    return f"go {target}"


def _paragraphs_of(text):
    """The names and statements in a text that has the form of a listing."""
    # The listing of no paragraphs has no lines; split would find one in it.
    lines = text.split("\n") if text else []
    paragraphs = []
    for number, line in enumerate(lines, start=1):
        if not line.startswith(_head(number)):
            raise BadListing(f"line {number} does not begin with its number")
        content = line.removeprefix(_head(number))
        if not content.startswith(INDENT):
            paragraphs.append((_name_in(content), []))
        elif paragraphs:
            paragraphs[-1][1].append(_statement_in(content.removeprefix(INDENT)))
        else:
            raise BadListing("a statement stands before the first paragraph")
    return paragraphs


def _name_in(content):
    if not content.endswith("."):
        raise BadListing(f"{content!r} is neither a paragraph's name with a period nor a statement")
    return content.removesuffix(".")


def _statement_in(content):
    # Split at each single space, so that one space too many is an empty word and not passed over.
    match content.split(" "):
        case ["act", word]:
            return ("act", word)
        case ["leave"]:
            return ("go", "")
        case ["go", target] if target != "":
            return ("go", target)
        case ["if", test, "leave"]:
            return ("if", test, "")
        case ["if", test, "go", target] if target != "":
            return ("if", test, target)
        case ["perform", first, "thru", last]:
            return ("perform", first, last)
        case ["stop"]:
            return ("stop",)
        case _:
            raise BadListing(f"{content!r} is not a statement")
