"""Shapes, their weight and their parts."""

from nearreach.plain import is_number_from, is_row, is_unlike_signs

DEEPEST = 5
MOST_PARTS = 24
HEAVIEST = 10


def is_shape(thing):
    """True just where thing, whatever it is, is a shape."""
    return parts_count(thing, DEEPEST, MOST_PARTS) > 0


def parts_count(thing, deep, most):
    """The count of parts of a shape that is at most so deep and has at most so many; 0 of all else."""
    # The bounds go down with each step, so a thing that is too big is given up early.
    if deep < 1 or most < 1 or not is_form(thing):
        return 0
    count = 1
    for part in inner(thing):
        more = parts_count(part, deep - 1, most - count)
        if more == 0:
            return 0
        count += more
    return count


def is_form(thing):
    """True just where thing is a shape as far as can be told without a look at its parts."""
    if not is_row(thing, 2, 4) or not isinstance(thing[0], str):
        return False
    if thing[0] == "one":
        return len(thing) == 2 and is_unlike_signs(thing[1])
    if thing[0] == "row":
        return len(thing) == 2 and is_row(thing[1], 0, 6)
    if thing[0] == "either":
        return len(thing) == 2 and is_row(thing[1], 1, 6)
    if thing[0] == "many":
        return len(thing) == 2
    return thing[0] == "times" and len(thing) == 4 and are_times(thing[2], thing[3])


def are_times(low, high):
    """True just where low and high may stand in a times."""
    return is_number_from(high, 0, 4) and is_number_from(low, 0, high)


def inner(shape):
    """The row of the parts that stand straight within a shape."""
    if shape[0] == "one":
        return ()
    if shape[0] == "row" or shape[0] == "either":
        return shape[1]
    return (shape[1],)


def weight(shape):
    """The weight of a shape."""
    if shape[0] == "one":
        return 1
    parts = sum([weight(part) for part in inner(shape)])
    if shape[0] == "times":
        return shape[3] * parts
    return parts


def parts_of(shape):
    """The row of a shape's parts: itself, then the parts of each of its parts in turn."""
    found = [shape]
    for part in inner(shape):
        found.extend(parts_of(part))
    return tuple(found)
