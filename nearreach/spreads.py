"""The places of a shape, its spread, and crowds of places."""

from nearreach.errors import TooHeavy
from nearreach.plain import rising
from nearreach.shapes import HEAVIEST, weight


class Patch:
    """The courses of some places that are numbered one behind the other.

    signs has the signs of each place; firsts and lasts are the places with which a course can begin and end;
    pairs are the (place, place straight behind it); empty tells whether there is a course without places.
    """

    def __init__(self, signs, firsts, pairs, lasts, empty):
        self.signs = signs
        self.firsts = firsts
        self.pairs = pairs
        self.lasts = lasts
        self.empty = empty


def spread(shape):
    """The spread of a shape: (signs, nexts, lasts)."""
    if weight(shape) > HEAVIEST:
        raise TooHeavy("the shape weighs too much")
    return patch_rows(patch_of(shape, 1))


def patch_rows(patch):
    """The rows (signs, nexts, lasts) of a patch whose first place is numbered 1."""
    nexts = [rising(patch.firsts)]
    for place in range(1, len(patch.signs) + 1):
        nexts.append(rising([other for one, other in patch.pairs if one == place]))
    lasts = patch.lasts + [0] if patch.empty else patch.lasts
    return (tuple([""] + patch.signs), tuple(nexts), rising(lasts))


def patch_of(shape, at):
    """The patch of a shape whose first place is numbered at."""
    if shape[0] == "one":
        return Patch([shape[1]], [at], [], [at], False)
    if shape[0] == "row":
        return patch_in_turn(patches_of(shape[1], at))
    if shape[0] == "either":
        return patch_of_one(patches_of(shape[1], at))
    if shape[0] == "many":
        return patch_again(patch_of(shape[1], at))
    return patch_of_times(patches_of([shape[1]] * shape[3], at), shape[2])


def patches_of(shapes, at):
    """A list of the shapes' patches, their places numbered on from one to the next."""
    patches = []
    place = at
    for shape in shapes:
        patch = patch_of(shape, place)
        patches.append(patch)
        place += len(patch.signs)
    return patches


def joined(one, other):
    """The patch of the courses of the one patch with courses of the other behind them."""
    firsts = one.firsts + other.firsts if one.empty else one.firsts
    lasts = one.lasts + other.lasts if other.empty else other.lasts
    between = [(last, first) for last in one.lasts for first in other.firsts]
    return Patch(one.signs + other.signs, firsts, one.pairs + between + other.pairs, lasts, one.empty and other.empty)


def patch_in_turn(patches):
    """The patch of a course of each patch, one behind the other."""
    whole = Patch([], [], [], [], True)
    for patch in patches:
        whole = joined(whole, patch)
    return whole


def patch_of_one(patches):
    """The patch of the courses of all patches."""
    whole = Patch([], [], [], [], False)
    for patch in patches:
        whole.signs.extend(patch.signs)
        whole.firsts.extend(patch.firsts)
        whole.pairs.extend(patch.pairs)
        whole.lasts.extend(patch.lasts)
        whole.empty = whole.empty or patch.empty
    return whole


def patch_again(patch):
    """The patch of any count of the patch's courses, one behind the other."""
    between = [(last, first) for last in patch.lasts for first in patch.firsts]
    return Patch(patch.signs, patch.firsts, patch.pairs + between, patch.lasts, True)


def patch_of_times(copies, low):
    """The patch of a course of each of the first n copies, n being low at least."""
    # From the last copy on: a copy may lack only together with all behind it.
    whole = Patch([], [], [], [], True)
    for number in reversed(range(len(copies))):
        whole = joined(copies[number], whole)
        if number >= low:
            whole = Patch(whole.signs, whole.firsts, whole.pairs, whole.lasts, True)
    return whole


def behind(spread, crowd, sign):
    """The crowd behind a crowd by a sign."""
    signs, nexts, lasts = spread
    return rising([place for number in crowd for place in nexts[number] if sign in signs[place]])


def stands(spread, word):
    """The row of the stands of a word."""
    crowds = [(0,)]
    for sign in word:
        crowds.append(behind(spread, crowds[-1], sign))
    return tuple(crowds)


def spread_takes(spread, word):
    """True just where the spread takes the word."""
    signs, nexts, lasts = spread
    crowds = stands(spread, word)
    return any([place in lasts for place in crowds[-1]])
