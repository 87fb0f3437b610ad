"""How few moves lead from a standing to another one, on small floors."""

from slidefloor.errors import TooMany
from slidefloor.floors import count_places, need_standing
from slidefloor.sides import is_joined
from slidefloor.ways import empty_goes

MOST_PLACES = 6


def fewest(floor, one, other):
    """How few moves lead from the one to the other, None where they aren't joined."""
    need_standing(floor, one)
    need_standing(floor, other)
    need_few_places(floor)
    # Asked first, as the layers of what isn't joined never meet.
    if not is_joined(floor, one, other):
        return None
    return count_moves(empty_goes(floor, []), one, other)


def farthest(floor, standing):
    """By how many moves the farthest standings are away, and the rising list of them."""
    need_standing(floor, standing)
    need_few_places(floor)
    goes = empty_goes(floor, [])
    before = {}
    layer = first_layer(standing)
    number = 0
    while following := next_layer(goes, layer, before):
        before = layer
        layer = following
        number += 1
    return number, sorted(layer)


def need_few_places(floor):
    """Refuse a floor whose standings are too many to be counted through."""
    if count_places(floor) > MOST_PLACES:
        raise TooMany(f"only floors of at most {MOST_PLACES} places")


def count_moves(goes, one, other):
    """How few moves lead from the one to the other, which are joined."""
    # Layers grow from both ends until they meet: so what is near is met at once, and
    # on the way to what is far both ends together pass far fewer standings than one.
    before = {}
    layer = first_layer(one)
    before_there = {}
    layer_there = first_layer(other)
    number = 0
    while not any([standing in layer_there for standing in layer]):
        if len(layer) > len(layer_there):
            layer, layer_there = layer_there, layer
            before, before_there = before_there, before
        layer, before = next_layer(goes, layer, before), layer
        number += 1
    return number


def first_layer(standing):
    """The layer of this standing alone: a dict of standings, each with its empty place."""
    return {standing: standing.index(0)}


def next_layer(goes, layer, before):
    """The layer one move farther away than this one, which is one farther than the one before."""
    found = {}
    for standing, empty in layer.items():
        for _, there in goes[empty]:
            numbers = list(standing)
            numbers[empty] = numbers[there]
            numbers[there] = 0
            then = tuple(numbers)
            # Each move changes the sum of x and y of the empty place by one, so none leads
            # into its own layer: what isn't in the one before is met for the first time.
            if then not in before:
                found[then] = there
    return found
