"""What the tests share: odd things, changed things, and slow plain reckonings to compare with."""

import copy
import random


class EqualToAll:
    """A thing that says it is equal to everything, and so must be caught by its kind."""

    def __eq__(self, other):
        return True

    def __hash__(self):
        return 1


def deep(thing, times):
    for _ in range(times):
        thing = (thing,)
    return thing


def odd_things():
    """Things that are no number, no text of signs and no row of the document's kinds, and some that are big."""
    return [
        None, True, False, 0, 1, -1, 2, 6, 7, 10 ** 999, -(10 ** 999), 3 + 0j,
        "", "\t", "%", "\x7f", "\u00e9", "\ud800", "no text of any tongue", "x" * 1000, b"", b"a", bytearray(b"a"),
        (), (None,), ("one",), ("a", ()), (0,), (True,), [], ["a"], [()], {}, {"a": 1}, set(), {"a"}, frozenset("a"),
        range(3), object(), EqualToAll(), len, int, lambda: 1, Ellipsis, NotImplemented,
        deep((), 29), deep("a", 29), (0,) * 2000, ("a",) * 2000, [None] * 2000, ((),) * 2000,
    ]


def replacements(thing):
    """Things to stand in the place of one thing."""
    yield from [None, True, False, 0, 1, -1, 10 ** 999, "", "a", "one", (), [], {}, b"a", EqualToAll()]
    if isinstance(thing, tuple):
        yield list(thing)
        yield (thing,)
    elif isinstance(thing, int):
        yield from [thing - 1, thing + 1, str(thing), (thing,), [thing]]
    elif isinstance(thing, str):
        yield from [thing + "a", thing[:-1], thing[::-1], "b" + thing, thing.encode(), list(thing), tuple(thing)]


def all_changed(thing):
    yield from replacements(thing)
    if not isinstance(thing, tuple):
        return
    for at, inside in enumerate(thing):
        for other in all_changed(inside):
            yield thing[:at] + (other,) + thing[at + 1:]
        yield thing[:at] + thing[at + 1:]
        yield thing[:at] + (inside,) + thing[at:]
    yield thing + (None,)
    yield thing + ((),)
    yield thing + (0,)


def changed(thing):
    """Every thing that comes of a change at one place of a thing, anywhere within it."""
    for other in all_changed(thing):
        # Texts of things tell True from 1 and a list from a tuple, which == does not or need not.
        if repr(other) != repr(thing):
            yield other


def is_kept(test, call, *things):
    """The same asked again is told again, and what was handed in is as it was."""
    before = copy.deepcopy(things)
    first = call(*things)
    test.assertEqual(repr(first), repr(call(*things)))
    test.assertEqual(repr(before), repr(things))


# Shapes

def one(signs):
    return ("one", signs)


def row(*parts):
    return ("row", parts)


def either(*parts):
    return ("either", parts)


def many(part):
    return ("many", part)


def times(part, low, high):
    return ("times", part, low, high)


def some_shapes(count, signs="ab", deepest=4, seed=1):
    """Shapes of all kinds within one another, always the same ones for the same seed."""
    source = random.Random(seed)
    return [some_shape(source, signs, deepest) for _ in range(count)]


def some_shape(source, signs, deepest):
    kind = source.choice(["one", "one", "row", "either", "many", "times"])
    if deepest == 1:
        kind = source.choice(["one", "one", "one", "row"])
    if kind == "one":
        return one("".join(source.sample(signs, source.randint(1, len(signs)))))
    if deepest == 1:
        return row()
    if kind in ("many", "times"):
        part = some_shape(source, signs, deepest - 1)
        low, high = sorted([source.randint(0, 3), source.randint(0, 3)])
        return many(part) if kind == "many" else times(part, low, high)
    low = 1 if kind == "either" else 0
    return (kind, tuple(some_shape(source, signs, deepest - 1) for _ in range(source.randint(low, 3))))


def plain_weight(shape):
    """The weight, as the count of the ones that stand there when every times is written out."""
    if shape[0] == "one":
        return 1
    if shape[0] == "times":
        return sum(plain_weight(shape[1]) for _ in range(shape[3]))
    return sum(plain_weight(part) for part in (shape[1] if shape[0] != "many" else [shape[1]]))


def stretches_taken(shape, word):
    """The stretches of the word that the shape takes, made as the document words it: by putting words together."""
    within = {word[low:high] for low in range(len(word) + 1) for high in range(low, len(word) + 1)}

    def together(some, others):
        return {x + y for x in some for y in others if x + y in within}

    def taken(shape):
        if shape[0] == "one":
            return {sign for sign in shape[1] if sign in within}
        if shape[0] == "row":
            words = {""}
            for part in shape[1]:
                words = together(words, taken(part))
            return words
        if shape[0] == "either":
            return set().union(*[taken(part) for part in shape[1]])
        part = taken(shape[1])
        low, high = (0, len(word)) if shape[0] == "many" else shape[2:]
        words, found = {""}, set()
        for count in range(high + 1):
            found |= words if count >= low else set()
            words = together(words, part)
        return found

    return taken(shape)


def words_upto(tongue, size):
    """All words of at most so many signs in their order."""
    words, last = [""], [""]
    for _ in range(size):
        last = [word + sign for word in last for sign in tongue]
        words += last
    return words
