"""The points of a program, and where control goes from them as long as no stored way leads back."""


def statement_at(program, point):
    """The statement at the point, or None if the point is the end of its paragraph."""
    paragraph, at = point
    body = program.bodies[paragraph]
    return body[at] if at < len(body) else None


def asks_at(program, point):
    """Whether the step from the point needs an answer."""
    statement = statement_at(program, point)
    return statement is not None and statement[0] == "if"


def performs_at(program, point):
    """Whether the step from the point stores a way."""
    statement = statement_at(program, point)
    return statement is not None and statement[0] == "perform"


def behind(point):
    """The point behind a statement: its way back, if it is a `perform`."""
    paragraph, at = point
    return (paragraph, at + 1)


def beyond(program, paragraph):
    """The first point of the next paragraph, or None behind the last one."""
    if paragraph + 1 == len(program.names):
        return None
    return (paragraph + 1, 0)


def landing(program, paragraph, target):
    """The point to which a jump in the paragraph leads if it has this target."""
    if target == "":
        return (paragraph, len(program.bodies[paragraph]))
    return _first_point_of(program, target)


def onward(program, point, answer):
    """The point after a step in which no stored way leads back, or None if the step ends the run."""
    paragraph, _ = point
    match statement_at(program, point):
        case None:
            return beyond(program, paragraph)
        case ("perform", first, _):
            return _first_point_of(program, first)
        case ("go", target):
            return landing(program, paragraph, target)
        case ("if", _, target) if answer:
            return landing(program, paragraph, target)
        case ("stop",):
            return None
        case _:
            return behind(point)


def _first_point_of(program, name):
    return (program.names.index(name), 0)
