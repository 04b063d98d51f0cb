"""Ways: courses of places that make up a word."""

from nearreach.plain import is_number, is_row
from nearreach.spreads import stands


def way(spread, word):
    """The least way of the word, or None."""
    layers = fitting_layers(spread, word)
    if not layers[0]:
        return None
    nexts = spread[1]
    places = [0]
    for layer in layers[1:]:
        # A layer is rising, so the first that may follow is the least.
        following = [place for place in layer if place in nexts[places[-1]]]
        places.append(following[0])
    return tuple(places[1:])


def fitting_layers(spread, word):
    """The stands of the word, each with those places only from which the rest of the word leads to a last one."""
    signs, nexts, lasts = spread
    crowds = stands(spread, word)
    layers = [[place for place in crowds[-1] if place in lasts]]
    for crowd in crowds[-2::-1]:
        later = layers[-1]
        layers.append([place for place in crowd if any([other in nexts[place] for other in later])])
    return layers[::-1]


def way_holds(spread, word, places):
    """True just where places, whatever it is, is a way of the word."""
    signs, nexts, lasts = spread
    if not is_row(places, len(word), len(word)):
        return False
    last = 0
    for sign, place in zip(word, places):
        if not is_number(place) or place not in nexts[last] or sign not in signs[place]:
            return False
        last = place
    return last in lasts
