"""Takings: papers that a shape takes a word."""

from nearreach.endings import ending_tree, stepped
from nearreach.plain import is_number_from, is_row


def taking(shape, word):
    """A taking of the word, or None."""
    tree = ending_tree(shape, word)
    row, under = tree
    if len(word) not in row[0]:
        return None
    return paper_of(shape, tree, word, (0, len(word)))


def paper_of(shape, tree, word, stretch):
    """A taking of the stretch (start, end) of the word, which the shape takes."""
    row, under = tree
    start, end = stretch
    if shape[0] == "one":
        return ("one", word[start])
    if shape[0] == "either":
        ends = [end in rows[start] for rows, deeper in under]
        number = ends.index(True)
        return ("either", number, paper_of(shape[1][number], under[number], word, stretch))
    if shape[0] == "row":
        return ("row", papers_in_turn(shape[1], under, word, stretch))
    # Stretches without signs bring a many no further, so as many as there are signs are enough.
    low, high = (0, end - start) if shape[0] == "many" else (shape[2], shape[3])
    return (shape[0], papers_again(shape[1], under[0], word, stretch, (low, high)))


def papers_again(part, tree, word, stretch, counts):
    """Takings of one part, low to high of them, that make up the stretch; None where there are none."""
    low, high = counts
    for count in range(low, high + 1):
        papers = papers_in_turn([part] * count, [tree] * count, word, stretch)
        if papers is not None:
            return papers
    return None


def papers_in_turn(parts, trees, word, stretch):
    """A taking of each part, one behind the other, that make up the stretch; None where there are none."""
    start, end = stretch
    places = chain([row for row, under in trees], start, end)
    if places is None:
        return None
    stretches = list(zip(places, places[1:]))
    return tuple([paper_of(part, tree, word, piece) for part, tree, piece in zip(parts, trees, stretches)])


def chain(rows, start, end):
    """Places from start to end, each told by its row at the place ahead; None where there are none."""
    layers = [[start]]
    for row in rows:
        layers.append(stepped(row, layers[-1]))
    if end not in layers[-1]:
        return None
    # Each layer has only places that the start leads to, so going back never fails.
    places = [end]
    for row, layer in zip(rows[::-1], layers[-2::-1]):
        fitting = [at for at in layer if places[-1] in row[at]]
        places.append(fitting[0])
    return places[::-1]


def word_of(paper):
    """The word of a taking."""
    if paper[0] == "one":
        return paper[1]
    if paper[0] == "either":
        return word_of(paper[2])
    return "".join([word_of(inside) for inside in paper[1]])


def taking_holds(shape, word, paper):
    """True just where paper, whatever it is, is a taking of the shape and the word is its word."""
    return end_of(shape, word, 0, paper) == len(word)


def end_of(shape, word, at, paper):
    """Where the stretch of the word ends that begins at the place and that the paper is a taking of; else None."""
    size = 3 if shape[0] == "either" else 2
    if not is_row(paper, size, size) or not isinstance(paper[0], str) or paper[0] != shape[0]:
        return None
    if shape[0] == "one":
        return end_of_one(shape[1], word, at, paper[1])
    if shape[0] == "either":
        if not is_number_from(paper[1], 0, len(shape[1]) - 1):
            return None
        return end_of(shape[1][paper[1]], word, at, paper[2])
    if not isinstance(paper[1], tuple):
        return None
    return end_in_turn(parts_for(shape, len(paper[1])), word, at, paper[1])


def end_of_one(signs, word, at, sign):
    """The place behind the sign where it is one of the signs and stands there in the word; else None."""
    if not isinstance(sign, str) or len(sign) != 1:
        return None
    return at + 1 if sign in signs and word[at:at + 1] == sign else None


def parts_for(shape, count):
    """The parts, in order, that so many papers are to be takings of; None where the count is wrong."""
    if shape[0] == "row":
        return shape[1] if count == len(shape[1]) else None
    if shape[0] == "times" and not shape[2] <= count <= shape[3]:
        return None
    return [shape[1]] * count


def end_in_turn(parts, word, at, papers):
    """Where the stretch ends that the papers are takings of the parts for, one behind the other; else None."""
    if parts is None:
        return None
    end = at
    for part, paper in zip(parts, papers):
        end = end_of(part, word, end, paper)
        if end is None:
            return None
    return end
