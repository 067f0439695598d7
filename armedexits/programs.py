"""Programs, and the stretches of paragraphs that they perform."""

from armedexits.errors import BackwardStretch, BadName, BadSize, DuplicateName, UnknownName

MOST_PARAGRAPHS = 8
MOST_STATEMENTS = 4
MOST_PERFORMS = 4
MOST_JUMPS = 6
LONGEST_NAME = 12


class Stretch:
    """The paragraphs from index `first` to index `last`, compared as a set of them."""

    def __init__(self, first, last):
        self.first = first
        self.last = last

    def __contains__(self, x):
        return self.first <= x <= self.last

    def __eq__(self, other):
        return isinstance(other, Stretch) and self.first == other.first and self.last == other.last

    def __le__(self, other):
        return other.first <= self.first and self.last <= other.last

    def __lt__(self, other):
        return self <= other and not self == other

    def __ge__(self, other):
        return self.first <= other.first and other.last <= self.last

    def __gt__(self, other):
        return self >= other and not self == other

    def crosses(self, other):
        """Whether both share a paragraph and neither contains the other."""
        share = self.first <= other.last and other.first <= self.last
        return share and not self <= other and not self >= other


class Program:
    """Paragraphs that have been checked, as `names` and, in the same order, `bodies`."""

    def __init__(self, paragraphs):
        self.names = tuple([name for name, _ in paragraphs])
        self.bodies = tuple([tuple(statements) for _, statements in paragraphs])
        _check_size(self.bodies)
        _check_names(self.names)
        for _, statement in _with_points(self.bodies):
            _check_statement(self.names, statement)

    @property
    def performs(self):
        """The points of the `perform` statements."""
        return tuple([point for point, statement in _with_points(self.bodies) if statement[0] == "perform"])

    @property
    def jumps(self):
        """The points of the `go` and `if` statements whose target is not empty."""
        return tuple([point for point, statement in _with_points(self.bodies) if _is_jump(statement)])

    def stretch_of(self, way):
        """The stretch of the `perform` whose way back this is."""
        paragraph, behind = way
        _, first, last = self.bodies[paragraph][behind - 1]
        return Stretch(self.names.index(first), self.names.index(last))

    def redirected(self, choice):
        """A program in which the jumps at the chosen points go to the end of their paragraph."""
        bodies = [list(body) for body in self.bodies]
        for paragraph, at in choice:
            statement = bodies[paragraph][at]
            bodies[paragraph][at] = statement[:-1] + ("",)
        return Program(list(zip(self.names, bodies)))


def _with_points(bodies):
    """A pair of point and statement for each statement, in ascending order."""
    return [
        ((paragraph, at), statement)
        for paragraph, body in enumerate(bodies)
        for at, statement in enumerate(body)
    ]


def _is_jump(statement):
    return statement[0] in ("go", "if") and statement[-1] != ""


def _is_name(word):
    return 1 <= len(word) <= LONGEST_NAME and all(["a" <= letter <= "z" for letter in word])


def _check_size(bodies):
    if not 1 <= len(bodies) <= MOST_PARAGRAPHS:
        raise BadSize(f"a program has 1 to {MOST_PARAGRAPHS} paragraphs")
    if any([len(body) > MOST_STATEMENTS for body in bodies]):
        raise BadSize(f"a paragraph has at most {MOST_STATEMENTS} statements")
    words = [statement[0] for body in bodies for statement in body]
    if words.count("perform") > MOST_PERFORMS:
        raise BadSize(f"a program has at most {MOST_PERFORMS} performs")
    if words.count("go") + words.count("if") > MOST_JUMPS:
        raise BadSize(f"a program has at most {MOST_JUMPS} jumps")


def _check_names(names):
    for at, name in enumerate(names):
        _check_word(name)
        if name in names[:at]:
            raise DuplicateName(name)


def _check_statement(names, statement):
    match statement:
        case ("act", word):
            _check_word(word)
        case ("go", target):
            _check_target(names, target)
        case ("if", test, target):
            _check_word(test)
            _check_target(names, target)
        case ("perform", first, last):
            _check_stretch(names, first, last)


def _check_word(word):
    if not _is_name(word):
        raise BadName(word)


def _check_target(names, target):
    if target != "" and target not in names:
        raise UnknownName(target)


def _check_stretch(names, first, last):
    for name in (first, last):
        if name not in names:
            raise UnknownName(name)
    if names.index(last) < names.index(first):
        raise BackwardStretch(first, last)
