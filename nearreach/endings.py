"""Where stretches of a word end that the parts of a shape take."""

from nearreach.plain import is_same
from nearreach.shapes import inner


def endings(shape, word):
    """For each part and each place of the word the rising ends of the stretches that the part takes there."""
    return tuple(rows_of(ending_tree(shape, word)))


def endings_hold(shape, word, rows):
    """True just where rows, whatever it is, is the row of the endings."""
    return is_same(rows, endings(shape, word))


def takes(shape, word):
    """True just where the shape takes the word."""
    row, under = ending_tree(shape, word)
    return len(word) in row[0]


def ending_tree(shape, word):
    """The shape's own row of endings, and a list of the trees of its parts."""
    under = [ending_tree(part, word) for part in inner(shape)]
    rows = [row for row, deeper in under]
    row = [tuple(ends_from(shape, rows, word, at)) for at in range(len(word) + 1)]
    return tuple(row), under


def rows_of(tree):
    """The rows of a tree in the order of the parts."""
    row, under = tree
    found = [row]
    for branch in under:
        found.extend(rows_of(branch))
    return found


def ends_from(shape, rows, word, at):
    """The rising ends at one place, rows being those of the shape's parts."""
    if shape[0] == "one":
        return [at + 1] if at < len(word) and word[at] in shape[1] else []
    if shape[0] == "row":
        return ends_in_turn(rows, at)
    if shape[0] == "either":
        return sorted({end for row in rows for end in row[at]})
    if shape[0] == "many":
        return ends_of_many(rows[0], at)
    return ends_of_times(rows[0], at, shape[2], shape[3])


def stepped(row, places):
    """The rising ends that a row tells for some places together."""
    return sorted({end for at in places for end in row[at]})


def ends_in_turn(rows, at):
    """The ends behind one stretch of each row, one behind the other."""
    places = [at]
    for row in rows:
        places = stepped(row, places)
    return places


def ends_of_many(row, at):
    """The ends behind any count of stretches of the row."""
    places = []
    more = [at]
    while len(more) > len(places):
        places = more
        more = sorted(set(places) | set(stepped(row, places)))
    return places


def ends_of_times(row, at, low, high):
    """The ends behind low to high stretches of the row."""
    found = []
    places = [at]
    for count in range(high + 1):
        if count >= low:
            found.extend(places)
        places = stepped(row, places)
    return sorted(set(found))
