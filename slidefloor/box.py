"""Boxes: floors with a standing, to which moves are done and taken back."""

from slidefloor.errors import BadNumber, NothingDone
from slidefloor.floors import is_number, need_standing
from slidefloor.moves import TILE_STANDS, do_move, tile_place

AGAINST = {"up": "down", "down": "up", "left": "right", "right": "left"}


class Box:
    """A floor and a standing of it, which moves change."""

    def __init__(self, floor, standing):
        need_standing(floor, standing)
        self._floor = floor
        self._numbers = list(standing)
        self._words = []

    def floor(self):
        """The floor as it is."""
        return self._floor

    def standing(self):
        """The standing as it is now."""
        return tuple(self._numbers)

    def push(self, word):
        """Do a move."""
        do_move(self._floor, self._numbers, word)
        self._words.append(word)

    def slide(self, tile):
        """Let this tile go to the empty place; the move by which it went."""
        word = self._word_of(tile)
        self.push(word)
        return word

    def back(self):
        """Take back the last move that wasn't taken back; that move."""
        if not self._words:
            raise NothingDone("there is no move to take back")
        word = self._words.pop()
        do_move(self._floor, self._numbers, AGAINST[word])
        return word

    def done(self):
        """The moves done, in order, but those taken back."""
        return list(self._words)

    def _word_of(self, tile):
        if is_number(tile):
            empty = self._numbers.index(0)
            for word in TILE_STANDS:
                place = tile_place(self._floor, empty, word)
                if place is not None and self._numbers[place] == tile:
                    return word
        raise BadNumber("no such tile stands beside the empty place")
