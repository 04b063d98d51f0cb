"""Tongues, their texts, and the order of their words."""

from nearreach.errors import NoWord
from nearreach.plain import is_number, is_unlike_signs

LONGEST = 60


def is_tongue(thing):
    """True just where thing, whatever it is, is a tongue."""
    return is_unlike_signs(thing)


def is_text(tongue, thing):
    """True just where thing, whatever it is, is a text of the tongue."""
    return isinstance(thing, str) and all([sign in tongue for sign in thing])


def ahead(tongue, one, other):
    """True just where the one word is ahead of the other."""
    return number_of(tongue, one) < number_of(tongue, other)


def number_of(tongue, word):
    """How many words of the tongue are ahead of the word."""
    # One more than the sign's place for each sign: so a longer word comes behind all shorter ones.
    number = 0
    for sign in word:
        number = number * len(tongue) + tongue.index(sign) + 1
    return number


def word_at(tongue, number):
    """The word of that number; NoWord where there is none of at most sixty signs."""
    if not is_number(number) or number < 0:
        raise NoWord("no number from 0 on")
    word = ""
    left = number
    while left > 0:
        if len(word) == LONGEST:
            raise NoWord("a word of more than sixty signs")
        left -= 1
        word = tongue[left % len(tongue)] + word
        left //= len(tongue)
    return word
