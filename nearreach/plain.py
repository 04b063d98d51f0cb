"""What several files need: numbers, rows, signs."""


def is_number(thing):
    """True just where thing, whatever it is, is a number."""
    # True and False are ints to Python, but stand for no number.
    return isinstance(thing, int) and not isinstance(thing, bool)


def is_number_from(thing, low, high):
    """True just where thing, whatever it is, is a number from low to high."""
    return is_number(thing) and low <= thing <= high


def is_row(thing, low, high):
    """True just where thing, whatever it is, is a tuple of low to high things."""
    return isinstance(thing, tuple) and low <= len(thing) <= high


def is_sign(thing):
    """True just where thing, whatever it is, is a sign."""
    if not isinstance(thing, str) or len(thing) != 1:
        return False
    if thing == "\n":
        return True
    # 37 is the percent sign, which is no sign here.
    return " " <= thing <= "~" and ord(thing) != 37


def is_unlike_signs(thing):
    """True just where thing, whatever it is, is a text of one to six unlike signs."""
    if not isinstance(thing, str) or not 1 <= len(thing) <= 6:
        return False
    return len(set(thing)) == len(thing) and all([is_sign(sign) for sign in thing])


def rising(numbers):
    """The row of some numbers in order, none twice."""
    return tuple(sorted(set(numbers)))


def is_same(thing, told):
    """True just where thing, whatever it is, is told: a number, or a row of such things."""
    # Python's == takes True for 1, so each number is looked at by itself.
    if not isinstance(told, tuple):
        return is_number(thing) and thing == told
    if not is_row(thing, len(told), len(told)):
        return False
    return all([is_same(one, other) for one, other in zip(thing, told)])
