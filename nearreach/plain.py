"""What several files need: numbers, rows, signs."""


def is_number(thing):
    """True just where thing, whatever it is, is a number."""
    # True and False are ints to Python, but stand for no number.
    return isinstance(thing, int) and not isinstance(thing, bool)


def is_number_from(thing, low, high):
    """True just where thing, whatever it is, is a number from low to high."""
    return is_number(thing) and low <= thing <= high


def is_row(thing, low, high):
    """True just where thing, whatever it is, is a tuple of low to high things."""
    return isinstance(thing, tuple) and low <= len(thing) <= high


def is_sign(thing):
    """True just where thing, whatever it is, is a sign."""
    if not isinstance(thing, str) or len(thing) != 1:
        return False
    if thing == "\n":
        return True
    # 37 is the percent sign, which is no sign here.
    return " " <= thing <= "~" and ord(thing) != 37


def is_unlike_signs(thing):
    """True just where thing, whatever it is, is a text of one to six unlike signs."""
    if not isinstance(thing, str) or not 1 <= len(thing) <= 6:
        return False
    return len(set(thing)) == len(thing) and all([is_sign(sign) for sign in thing])


def rising(numbers):
    """The row of some numbers in order, none twice."""
    return tuple(sorted(set(numbers)))


def is_same(thing, told):
    """True just where thing, whatever it is, is told: a number, or a row of such things."""
    # Python's == takes True for 1, so each number is looked at by itself.
    if not isinstance(told, tuple):
        return is_number(thing) and thing == told
    if not is_row(thing, len(told), len(told)):
        return False
    return all([is_same(one, other) for one, other in zip(thing, told)])


def are_pairs(thing, ones, others):
    """True just where thing, whatever it is, is a tuple of pairs: a number from 0 below ones, and one below others."""
    if not isinstance(thing, tuple) or not all([is_row(pair, 2, 2) for pair in thing]):
        return False
    return all([is_number_from(one, 0, ones - 1) and is_number_from(other, 0, others - 1) for one, other in thing])


def least_words(tongue, start, led):
    """For each thing to which words lead from the start the least such word; a dict in the order of these words.

    led tells to which things the tongue's signs lead from a thing, in their order.
    """
    # Things are looked at in the order of the least words to them, so the first word found is the least.
    words = {start: ""}
    waiting = [start]
    looked = 0
    while looked < len(waiting):
        thing = waiting[looked]
        nexts = led(thing)
        for sign, to in zip(tongue, nexts):
            if to not in words:
                words[to] = words[thing] + sign
                waiting.append(to)
        looked += 1
    return words
