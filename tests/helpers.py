"""What several tests use."""


def error_of(case, kind, function, *given):
    """Call the function, check that it raises exactly this kind of error, and return the error."""
    with case.assertRaises(kind) as caught:
        function(*given)
    case.assertIs(type(caught.exception), kind)
    return caught.exception


def paragraphs_named(*names):
    """Paragraphs without statements."""
    return [(name, []) for name in names]


def rich_paragraphs():
    """Paragraphs with statements of each kind, 4 performs and 6 jumps."""
    return [
        ("main", [("perform", "b", "d"), ("act", "x"), ("perform", "e", "e"), ("stop",)]),
        ("b", [("if", "late", "d"), ("go", "main"), ("act", "y")]),
        ("c", []),
        ("d", [("if", "again", ""), ("perform", "b", "c"), ("go", "")]),
        ("e", [("perform", "main", "e"), ("go", "e"), ("if", "t", "c"), ("stop",)]),
    ]
