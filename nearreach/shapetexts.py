"""Shapes written and read."""

from nearreach.errors import NoShape
from nearreach.quotes import quote_at, quoted
from nearreach.shapes import DEEPEST, inner, is_shape

FIGURES = ("0", "1", "2", "3", "4", "5", "6", "7", "8", "9")


def shape_text(shape):
    """The writing of a shape."""
    if shape[0] == "one":
        return quoted(shape[1])
    parts = [shape_text(part) for part in inner(shape)]
    if shape[0] == "row":
        return "(" + " ".join(parts) + ")"
    if shape[0] == "either":
        return "{" + " ".join(parts) + "}"
    if shape[0] == "many":
        return "*" + parts[0]
    return f"{shape[2]}-{shape[3]}:{parts[0]}"


def read_shape(text):
    """The shape that a text writes; NoShape."""
    found = shape_at(text, 0, DEEPEST) if isinstance(text, str) else None
    if found is None:
        raise NoShape("no writing of a shape")
    shape, end = found
    if end != len(text) or not is_shape(shape):
        raise NoShape("no writing of a shape")
    return shape


def shape_at(text, at, deep):
    """(shape whose writing begins at the place, place behind it), or None where none that is at most so deep does.

    Counts, numbers and signs aren't looked at, so it may still be no shape.
    """
    # The bound goes down with each step, so a text that goes too deep is given up early.
    if deep < 1:
        return None
    sign = text[at:at + 1]
    if sign == "<":
        return one_at(text, at)
    if sign == "(":
        return parts_at(text, at, deep, ("row", ")"))
    if sign == "{":
        return parts_at(text, at, deep, ("either", "}"))
    if sign == "*":
        return many_at(text, at, deep)
    return times_at(text, at, deep)


def one_at(text, at):
    """As shape_at, for a one."""
    found = quote_at(text, at)
    if found is None:
        return None
    signs, end = found
    return (("one", signs), end)


def parts_at(text, at, deep, form):
    """As shape_at, for a row or an either; form is (its word, the sign at its end)."""
    word, ending = form
    parts = []
    place = at + 1
    while text[place:place + 1] != ending:
        if parts:
            if text[place:place + 1] != " ":
                return None
            place += 1
        found = shape_at(text, place, deep - 1)
        if found is None:
            return None
        part, place = found
        parts.append(part)
    return ((word, tuple(parts)), place + 1)


def many_at(text, at, deep):
    """As shape_at, for a many."""
    found = shape_at(text, at + 1, deep - 1)
    if found is None:
        return None
    part, end = found
    return (("many", part), end)


def times_at(text, at, deep):
    """As shape_at, for a times."""
    head = text[at:at + 4]
    if head[1:2] != "-" or head[3:4] != ":" or head[0] not in FIGURES or head[2] not in FIGURES:
        return None
    found = shape_at(text, at + 4, deep - 1)
    if found is None:
        return None
    part, end = found
    return (("times", part, int(head[0]), int(head[2])), end)
