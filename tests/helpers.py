"""What the tests share: odd things, changed things, and slow plain reckonings to compare with."""

import copy
import functools
import random
import re

from nearreach.making import table_of


class EqualToAll:
    """A thing that says it is equal to everything, and so must be caught by its kind."""

    def __eq__(self, other):
        return True

    def __hash__(self):
        return 1


def deep(thing, times):
    for _ in range(times):
        thing = (thing,)
    return thing


def odd_things():
    """Things that are no number, no text of signs and no row of the document's kinds, and some that are big."""
    return [
        None, True, False, 0, 1, -1, 2, 6, 7, 10 ** 999, -(10 ** 999), 3 + 0j,
        "", "\t", "%", "\x7f", "\u00e9", "\ud800", "no text of any tongue", "x" * 1000, b"", b"a", bytearray(b"a"),
        (), (None,), ("one",), ("a", {}), (0,), (True,), [], ["a"], [()], {}, {"a": 1}, set(), {"a"}, frozenset("a"),
        range(3), object(), EqualToAll(), len, int, lambda: 1, Ellipsis, NotImplemented,
        deep((), 29), deep("a", 29), (0,) * 2000, ("a",) * 2000, [None] * 2000, ((),) * 2000,
    ]


def replacements(thing):
    """Things to stand in the place of one thing."""
    yield from [None, True, False, 0, 1, -1, 10 ** 999, "", "a", "one", (), [], {}, b"a", EqualToAll()]
    if isinstance(thing, tuple):
        yield list(thing)
        yield (thing,)
    elif isinstance(thing, int):
        yield from [thing - 1, thing + 1, str(thing), (thing,), [thing]]
    elif isinstance(thing, str):
        yield from [thing + "a", thing[:-1], thing[::-1], "b" + thing, thing.encode(), list(thing), tuple(thing)]


def all_changed(thing):
    yield from replacements(thing)
    if not isinstance(thing, tuple):
        return
    for at, inside in enumerate(thing):
        for other in all_changed(inside):
            yield thing[:at] + (other,) + thing[at + 1:]
        yield thing[:at] + thing[at + 1:]
        yield thing[:at] + (inside,) + thing[at:]
    yield thing + (None,)
    yield thing + ((),)
    yield thing + (0,)


def changed(thing):
    """Every thing that comes of a change at one place of a thing, anywhere within it."""
    for other in all_changed(thing):
        # Texts of things tell True from 1 and a list from a tuple, which == does not or need not.
        if repr(other) != repr(thing):
            yield other


def is_kept(test, call, *things):
    """The same asked again is told again, and what was handed in is as it was."""
    before = copy.deepcopy(things)
    first = call(*things)
    test.assertEqual(repr(first), repr(call(*things)))
    test.assertEqual(repr(before), repr(things))


def is_own(test, call, *things):
    """A told list that is changed alters no later answer; the lists may stand anywhere in what is told."""

    def spoil(thing):
        if isinstance(thing, tuple):
            return sum(map(spoil, thing))
        if not isinstance(thing, list):
            return 0
        thing.append(None)
        thing[0] = "spoilt"
        return 1

    first = call(*things)
    kept = repr(first)
    test.assertGreater(spoil(first), 0)
    test.assertEqual(repr(call(*things)), kept)


# Shapes

def one(signs):
    return ("one", signs)


def row(*parts):
    return ("row", parts)


def either(*parts):
    return ("either", parts)


def many(part):
    return ("many", part)


def times(part, low, high):
    return ("times", part, low, high)


def some_shapes(count, signs="ab", deepest=4, seed=1):
    """Shapes of all kinds within one another, always the same ones for the same seed."""
    source = random.Random(seed)
    return [some_shape(source, signs, deepest) for _ in range(count)]


def some_shape(source, signs, deepest):
    kind = source.choice(["one", "one", "row", "either", "many", "times"])
    if deepest == 1:
        kind = source.choice(["one", "one", "one", "row"])
    if kind == "one":
        return one("".join(source.sample(signs, source.randint(1, len(signs)))))
    if deepest == 1:
        return row()
    if kind in ("many", "times"):
        part = some_shape(source, signs, deepest - 1)
        low, high = sorted([source.randint(0, 3), source.randint(0, 3)])
        return many(part) if kind == "many" else times(part, low, high)
    low = 1 if kind == "either" else 0
    return (kind, tuple(some_shape(source, signs, deepest - 1) for _ in range(source.randint(low, 3))))


def plain_depth(thing):
    """How deep a shape is, 0 where a thing is none; without a look at how big it is."""
    if type(thing) is not tuple or not thing or type(thing[0]) is not str:
        return 0
    if thing[0] == "one":
        return int(len(thing) == 2 and type(thing[1]) is str and re.fullmatch("[ -$&-~\n]{1,6}", thing[1]) is not None
                   and max(map(thing[1].count, thing[1])) == 1)
    if thing[0] == "times":
        counts = [(low, high) for high in range(5) for low in range(high + 1)]
        parts = [thing[1]] if repr(thing[2:]) in map(repr, counts) else None
    elif len(thing) == 2 and thing[0] in ("row", "either") and type(thing[1]) is tuple:
        parts = thing[1] if int(thing[0] == "either") <= len(thing[1]) <= 6 else None
    else:
        parts = [thing[1]] if len(thing) == 2 and thing[0] == "many" else None
    if parts is None or 0 in map(plain_depth, parts):
        return 0
    return 1 + max(map(plain_depth, parts), default=0)


def plain_weight(shape):
    """The weight, as the count of the ones that stand there when every times is written out."""
    if shape[0] == "one":
        return 1
    if shape[0] == "times":
        return sum(plain_weight(shape[1]) for _ in range(shape[3]))
    return sum(plain_weight(part) for part in (shape[1] if shape[0] != "many" else [shape[1]]))


def stretches_taken(shape, word):
    """The stretches of the word that the shape takes, made as the document words it: by putting words together."""
    within = {word[low:high] for low in range(len(word) + 1) for high in range(low, len(word) + 1)}

    def together(some, others):
        return {x + y for x in some for y in others if x + y in within}

    def taken(shape):
        if shape[0] == "one":
            return {sign for sign in shape[1] if sign in within}
        if shape[0] == "row":
            words = {""}
            for part in shape[1]:
                words = together(words, taken(part))
            return words
        if shape[0] == "either":
            return set().union(*[taken(part) for part in shape[1]])
        part = taken(shape[1])
        low, high = (0, len(word)) if shape[0] == "many" else shape[2:]
        words, found = {""}, set()
        for count in range(high + 1):
            found |= words if count >= low else set()
            words = together(words, part)
        return found

    return taken(shape)


def words_upto(tongue, size):
    """All words of at most so many signs in their order."""
    words, last = [""], [""]
    for _ in range(size):
        last = [word + sign for word in last for sign in tongue]
        words += last
    return words


# Courses

def courses(shape, again, longest):
    """All courses of a shape with at most so many places, a many gone through at most so many times."""

    def joined(some, others):
        return {x + y for x in some for y in others if len(x) + len(y) <= longest}

    def again_and_again(parts, low):
        """The courses of the first n parts, n being low at least."""
        told, found = {()}, set()
        for count in range(len(parts) + 1):
            found |= told if count >= low else set()
            told = joined(told, parts[count]) if count < len(parts) else told
        return found

    def of(shape, at):
        if shape[0] == "one":
            return {(at,)}, at + 1
        if shape[0] == "many":
            part, at = of(shape[1], at)
            return again_and_again([part] * again, 0), at
        parts = []
        for part in ([shape[1]] * shape[3] if shape[0] == "times" else shape[1]):
            told, at = of(part, at)
            parts.append(told)
        if shape[0] == "either":
            return set().union(*parts), at
        return again_and_again(parts, shape[2] if shape[0] == "times" else len(parts)), at

    return of(shape, 1)[0]


def signs_of_places(shape):
    if shape[0] == "one":
        return [shape[1]]
    parts = {"many": [shape[1]], "times": [shape[1]] * shape[-1] if shape[0] == "times" else []}.get(shape[0], shape[1])
    return [signs for part in parts for signs in signs_of_places(part)]


def plain_spread(shape):
    """The spread, read off the courses."""
    signs = ["", *signs_of_places(shape)]
    told = courses(shape, 2, 99)
    nexts = [tuple(sorted({course[0] for course in told if course}))]
    for place in range(1, len(signs)):
        nexts.append(tuple(sorted(
            {after for course in told for one, after in zip(course, course[1:]) if one == place})))
    return tuple(signs), tuple(nexts), tuple(sorted({course[-1] if course else 0 for course in told}))


def light_shapes(count, heaviest, seed, signs="ab"):
    """Shapes of at most that weight, and not with too many courses to be told one by one."""
    shapes = []
    while len(shapes) < count:
        seed += 1
        for shape in some_shapes(100, signs=signs, deepest=4, seed=seed):
            if plain_weight(shape) <= heaviest and repr(shape).count("many") <= 3:
                shapes.append(shape)
    return shapes[:count]


# Books

NAMES = ["one", "two", "three", "four", "five", "sixsixsi"]


def book(*shapes, tongue="ab"):
    return (tongue, tuple(zip(NAMES, shapes)))


def some_books(count, seed, tongues=("a", "ab", "ba", "c\nba", "abcdef"), heaviest=10):
    """Books of none to six rules, not all of whose signs stand in a rule, and none too heavy."""
    source = random.Random(seed)
    books = []
    while len(books) < count:
        tongue = source.choice(tongues)
        signs = "".join(source.sample(tongue, source.randint(1, len(tongue))))
        shapes = [some_shape(source, signs, source.randint(1, 4)) for _ in range(source.randint(0, 6))]
        if sum(map(plain_weight, shapes)) <= heaviest and all(len(repr(shape)) < 200 for shape in shapes):
            books.append(book(*shapes, tongue=tongue))
    return books


def signs_within(shape):
    """All signs of a shape, also of parts that stand there no times."""
    if shape[0] == "one":
        return set(shape[1])
    parts = shape[1] if shape[0] in ("row", "either") else [shape[1]]
    return set().union(*map(signs_within, parts))


def plain_is_book(thing):
    """Whether a thing is a book, without a look at how big it is."""
    if not (type(thing) is tuple and len(thing) == 2 and plain_depth(("one", thing[0])) and type(thing[1]) is tuple):
        return False
    for rule in thing[1]:
        if not (type(rule) is tuple and len(rule) == 2 and type(rule[0]) is str and plain_depth(rule[1])):
            return False
        if not re.fullmatch("[a-z]{1,8}", rule[0]) or not signs_within(rule[1]) <= set(thing[0]):
            return False
    return len(dict(thing[1])) == len(thing[1]) <= 6


def small_books(count, seed, tongues=("a", "ab", "ba"), heaviest=5):
    """Books whose tables are small, with names that aren't always in the same order."""
    source = random.Random(seed)
    books = []
    for tongue, rules in some_books(count, seed, tongues=tongues, heaviest=heaviest):
        names = source.sample(["x", "y", "z", "u", "v", "w"], len(rules))
        books.append((tongue, tuple((name, shape) for name, (old, shape) in zip(names, rules))))
    return books


@functools.lru_cache(maxsize=None)
def tried_kind(book, word):
    """The kind by trying the rules, each by putting words together."""
    for number, (name, shape) in enumerate(book[1]):
        if word != "" and word in stretches_taken(shape, word):
            return number
    return -1


def tried_cut(book, text):
    """The cut by names, by trying the rules at each place."""
    pieces = []
    while True:
        place = pieces[-1][2] if pieces else 0
        ends = [end for end in range(len(text), place, -1) if tried_kind(book, text[place:end]) != -1]
        if not ends:
            return pieces, place
        pieces.append((book[1][tried_kind(book, text[place:ends[0]])][0], place, ends[0]))


# In this book's table a room tells which of the last five signs were an a: 2 to the power of 5 rooms.
THIRTY_TWO = book(("row", (("many", ("one", "ab")), ("one", "a"), ("times", ("one", "ab"), 4, 4))))
# A sign that no rule has leads to one room more.
THIRTY_THREE = ("abc", THIRTY_TWO[1])


# Tables

def some_table(source, tongue, rooms):
    """A table whose rooms are all led to."""
    while True:
        goes = tuple(tuple(source.randrange(rooms) for _ in tongue) for _ in range(rooms))
        kinds = (-1, *[source.choice([-1, -1, -1, 0, 1, 5]) for _ in range(rooms - 1)])
        found = {0}
        for _ in range(rooms):
            found |= {to for room in found for to in goes[room]}
        if len(found) == rooms:
            return tongue, goes, kinds


def some_tables(count, seed=1):
    source = random.Random(seed)
    return [some_table(source, source.choice(["a", "ab", "ba", "c\na"]), source.randint(1, 4)) for _ in range(count)]


def walk(table, room, word):
    for sign in word:
        room = table[1][room][table[0].index(sign)]
    return room


def plain_is_table(thing):
    """Whether a thing is a table of the tongue ab, by its text and the words that lead through it."""
    if not (type(thing) is tuple and len(thing) == 3 and type(thing[1]) is tuple and repr(thing[0]) == "'ab'"):
        return False
    rooms = len(thing[1])
    texts = [repr((one, other)) for one in range(rooms) for other in range(rooms)]
    if not 1 <= rooms <= 32 or not all(repr(each) in texts for each in thing[1]):
        return False
    if not (type(thing[2]) is tuple and len(thing[2]) == rooms and repr(thing[2][0]) == "-1"):
        return False
    if not all(repr(kind) in ("-1", "0", "1", "2", "3", "4", "5") for kind in thing[2]):
        return False
    return len({walk(thing, 0, word) for word in words_upto("ab", rooms)}) == rooms


def grown_table(source, tongue, rooms, kinds=(-1, -1, -1, 0, 1, 5)):
    """A table of any size, its rooms numbered anyhow."""
    goes = [[None] * len(tongue) for _ in range(rooms)]
    order = [0, *source.sample(range(1, rooms), rooms - 1)]
    for at, room in enumerate(order[1:], start=1):
        free = [(one, sign) for one in order[:at] for sign in range(len(tongue)) if goes[one][sign] is None]
        one, sign = source.choice(free)
        goes[one][sign] = room
    filled = tuple(tuple(source.randrange(rooms) if to is None else to for to in row) for row in goes)
    return tongue, filled, (-1, *[source.choice(kinds) for _ in range(rooms - 1)])


def grown_tables(count, seed, most=6, tongues=("a", "ab", "ba", "c\na"), kinds=(-1, -1, -1, 0, 1, 5)):
    source = random.Random(seed)
    return [grown_table(source, source.choice(tongues), source.randint(1, most), kinds) for _ in range(count)]


def swollen(source, table, times):
    """A table with the same kinds in which rooms stand several times, numbered anyhow."""
    tongue, goes, kinds = table
    copies = [(room, copy) for room in range(len(goes)) for copy in range(times)]
    led = {each: [(to, source.randrange(times)) for to in goes[each[0]]] for each in copies}
    found = [(0, 0)]
    for each in found:
        found += [to for to in dict.fromkeys(led[each]) if to not in found]
    order = [(0, 0), *source.sample(found[1:], len(found) - 1)]
    rows = tuple(tuple(order.index(to) for to in led[each]) for each in order)
    return tongue, rows, tuple(kinds[room] for room, copy in order)


def renumbered(source, table):
    """The table with its rooms, but room 0, numbered otherwise."""
    tongue, goes, kinds = table
    order = [0, *source.sample(range(1, len(goes)), len(goes) - 1)]
    return tongue, tuple(tuple(order.index(to) for to in goes[room]) for room in order), tuple(
        kinds[room] for room in order)


def plain_ways(table):
    """For each room the least word that leads to it: all words in their order, but none behind one that leads back."""
    tongue, goes, kinds = table
    ways, layer = {0: ""}, [""]
    while layer:
        longer = [word + sign for word in layer for sign in tongue]
        layer = [word for word in longer if ways.setdefault(walk(table, 0, word), word) == word]
    return tuple(ways[room] for room in range(len(goes)))


def plain_alike(table):
    """The pairs of rooms, in either order, that no word parts: those that are left when all that are parted are out."""
    tongue, goes, kinds = table
    pairs = {(one, other) for one in range(len(goes)) for other in range(len(goes)) if kinds[one] == kinds[other]}
    while True:
        left = {(one, other) for one, other in pairs if all(each in pairs for each in zip(goes[one], goes[other]))}
        if left == pairs:
            return pairs
        pairs = left


def is_least(table):
    return len(plain_alike(table)) == len(table[1])


def is_numbered_by_words(table):
    """Whether the least words that lead to the rooms come in the rooms' order."""
    places = [(len(word), [table[0].index(sign) for sign in word]) for word in plain_ways(table)]
    return places == sorted(places)


def plain_first(table, text, at):
    """The first piece, by trying all stretches from the longest on."""
    for end in range(len(text), at, -1):
        kind = table[2][walk(table, 0, text[at:end])]
        if kind != -1:
            return kind, end
    return None


def plain_cut(table, text):
    pieces = []
    while True:
        place = pieces[-1][2] if pieces else 0
        found = plain_first(table, text, place)
        if found is None:
            return pieces, place
        pieces.append((found[0], place, found[1]))


def some_text(source, tongue, size):
    return "".join(source.choice(tongue) for _ in range(size))


# The reach

# Each room leads to the next one, the last to the first, and one alone has a kind: no table has a greater reach.
FARTHEST = ("a", tuple(((room + 1) % 32,) for room in range(32)), (-1, 0) + (-1,) * 30)
# Behind an a come b as often as one likes and then c.
ENDLESS = ("abc", ((1, 3, 3), (3, 2, 3), (3, 2, 4), (3, 3, 3), (3, 3, 3)), (-1, 0, -1, -1, 1))


def plain_steps(table, longest):
    """The steps (room behind u, z) whose z has at most so many signs, by trying all words z."""
    tongue, goes, kinds = table
    for room in range(len(goes)):
        if kinds[room] == -1:
            continue
        for word in words_upto(tongue, longest)[1:]:
            met = [kinds[walk(table, room, word[:end])] != -1 for end in range(1, len(word) + 1)]
            if met[-1] and not any(met[:-1]):
                yield room, word


def plain_reach(table, rooms):
    """The reach asked where the first piece ends in one of the rooms; for small tables.

    A z that has more signs than there are rooms goes through a room twice, and so may be ever longer; and where there
    are such, some have at most twice as many signs as there are rooms.
    """
    most = max([len(word) for room, word in plain_steps(table, 2 * len(table[1])) if room in rooms], default=0)
    return None if most > len(table[1]) else most


def small_tables(count, seed, most=4):
    """Tables for which all short words can be tried, many of which have a reach."""
    return grown_tables(count, seed, most=most, tongues=("a", "ab", "ba"), kinds=(-1, -1, 0, 1))


def some_parts(source, text):
    """The text in parts, some of them without signs."""
    places = sorted(source.randint(0, len(text)) for _ in range(source.randint(0, len(text) + 2)))
    return [text[low:high] for low, high in zip([0, *places], [*places, len(text)])]


# Machines

DEEDS = [("stay",), ("shut",), ("open", 0), ("turn", 0), ("open", 1), ("turn", 1), ("open", 2), ("turn", 2)]


def some_machines(count, seed, most=4, tongues=("a", "ab", "ba"), kinds=(-1, 0, 1, 2)):
    """Machines of one to three modes with all deeds."""
    source = random.Random(seed)
    machines = []
    for _ in range(count):
        tongue, modes = source.choice(tongues), source.randint(1, 3)
        tables = [grown_table(source, tongue, source.randint(1, most), kinds) for _ in range(modes)]
        machines.append((tongue, tuple(
            (goes, ends, tuple(source.choice(DEEDS[:2 + 2 * modes]) for _ in range(3))) for _, goes, ends in tables)))
    return machines


def book_machines(count, seed):
    """Machines of one to three modes, each the table of a book with few rooms, many of which have no hope."""
    source = random.Random(seed)
    tables = [table_of(each) for each in small_books(8 * count, seed, tongues=("ab",), heaviest=4)]
    tables = [table for table in tables if 2 < len(table[1]) <= 5]
    machines = []
    for _ in range(count):
        modes = source.randint(1, 3)
        machines.append(("ab", tuple((*source.choice(tables)[1:], tuple(
            source.choice(DEEDS[:2 + 2 * modes]) for _ in range(6))) for _ in range(modes))))
    return machines


def plain_moded(machine, start, text):
    """The moded cut by the document's words, with the partners."""
    tongue, modes = machine
    pieces, pile, openers, partners = [], [start], [], []
    while True:
        place = pieces[-1][3] if pieces else 0
        mode = pile[-1]
        found = plain_first((tongue, *modes[mode][:2]), text, place)
        if found is None:
            return (pieces, place, "end" if place == len(text) else "none", tuple(pile)), partners
        word, *target = modes[mode][2][found[0]]
        if word == "shut" and len(pile) == 1:
            return (pieces, place, "low", tuple(pile)), partners
        if word in ("turn", "shut"):
            del pile[-1]
        if word in ("turn", "open"):
            pile += target
        if word == "open":
            openers.append(len(pieces))
        if word == "shut":
            partners.append((openers.pop(), len(pieces)))
        pieces.append((mode, found[0], place, found[1]))
