"""Books written and read."""

from nearreach.books import is_rule, looked_book
from nearreach.errors import NoLine, NoQuote, NoShape
from nearreach.quotes import quoted, unquoted
from nearreach.shapetexts import read_shape, shape_text
from nearreach.tongues import is_tongue

MOST_RULES = 6


def book_text(book):
    """The writing of a book."""
    tongue, rules = book
    lines = [f"tongue {quoted(tongue)}\n"] + [f"rule {name} {shape_text(shape)}\n" for name, shape in rules]
    return "".join(lines)


def read_book(text):
    """The book that a text writes; NoLine, TooHeavy."""
    if not isinstance(text, str):
        raise NoLine(1)
    # What stands behind the last line feed has none at its own end, so it is no line that can stand.
    *lines, rest = text.split("\n")
    tongue = read_tongue(lines[0]) if lines else None
    if tongue is None:
        raise NoLine(1)
    rules = read_rules(tongue, lines[1:])
    if rest != "":
        raise NoLine(len(lines) + 1)
    return looked_book((tongue, rules))


def read_tongue(line):
    """The tongue of a line without its line feed, or None where it isn't the line of one."""
    word, blank, quote = line.partition(" ")
    if word != "tongue":
        return None
    try:
        tongue = unquoted(quote)
    except NoQuote:
        return None
    return tongue if is_tongue(tongue) else None


def read_rules(tongue, lines):
    """The row of the rules of the lines behind the first one, which are without their line feeds; NoLine."""
    rules = {}
    for number, line in enumerate(lines, start=2):
        rule = read_rule(tongue, line)
        if rule is None or len(rules) == MOST_RULES or rule[0] in rules:
            raise NoLine(number)
        name, shape = rule
        rules[name] = shape
    return tuple(rules.items())


def read_rule(tongue, line):
    """The rule of a line without its line feed, or None where it isn't the line of one with signs of the tongue."""
    word, blank, rest = line.partition(" ")
    name, between, writing = rest.partition(" ")
    try:
        rule = (name, read_shape(writing))
    except NoShape:
        return None
    return rule if word == "rule" and is_rule(tongue, rule) else None
