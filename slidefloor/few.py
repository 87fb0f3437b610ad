"""How few moves lead from a standing to another one, on small floors."""

from slidefloor.errors import TooMany
from slidefloor.floors import count_places, need_standing
from slidefloor.moves import moved, moves

MOST_PLACES = 6


def fewest(floor, one, other):
    """How few moves lead from the one to the other, None where they aren't joined."""
    need_standing(floor, one)
    need_standing(floor, other)
    need_few_places(floor)
    for number, layer in enumerate(layers(floor, one)):
        if other in layer:
            return number
    return None


def farthest(floor, standing):
    """By how many moves the farthest standings are away, and the rising list of them."""
    need_standing(floor, standing)
    need_few_places(floor)
    found = layers(floor, standing)
    return len(found) - 1, sorted(found[-1])


def need_few_places(floor):
    """Refuse a floor whose standings are too many to be counted through."""
    if count_places(floor) > MOST_PLACES:
        raise TooMany(f"only floors of at most {MOST_PLACES} places")


def layers(floor, standing):
    """Lists of standings: at each index those that so many moves, at the least, lead to."""
    found = []
    met = {standing: True}
    layer = [standing]
    while layer:
        found.append(layer)
        following = []
        for now in layer:
            for word in moves(floor, now):
                then = moved(floor, now, [word])
                if then not in met:
                    met[then] = True
                    following.append(then)
        layer = following
    return found
