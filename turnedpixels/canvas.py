"""Canvases: pictures that are changed, deed by deed, and the deeds taken back."""

from turnedpixels.errors import Lost, NothingToUndo, TooLarge
from turnedpixels.pictures import (
    MOST_PIXELS, check_picture, lost_number, sheared_picture, turned_picture, walked_picture,
)
from turnedpixels.turns import check_pixel


class Canvas:
    """A picture that is changed."""

    def __init__(self, pixels):
        check_picture(pixels)
        # The picture at first, and behind each deed; none of these lists is changed.
        self._stages = [list(pixels)]
        self._deeds = []

    @classmethod
    def _made(cls, pixels):
        """A new object of the same class."""
        return cls(pixels)

    @property
    def pixels(self):
        """The picture."""
        return list(self._stages[-1])

    @property
    def deeds(self):
        """The deeds that are not taken back."""
        return [("walk", list(deed[1])) if deed[0] == "walk" else deed for deed in self._deeds]

    def put(self, pixel):
        """Add a pixel; return the number of pixels."""
        check_pixel(pixel)
        # A set, as the pixel may be there already.
        pixels = sorted(set(self._stages[-1] + [pixel]))
        if len(pixels) > MOST_PIXELS:
            raise TooLarge(MOST_PIXELS)
        return self._done(("put", pixel), pixels)

    def take(self, pixel):
        """Remove a pixel; return the number of pixels."""
        check_pixel(pixel)
        return self._done(("take", pixel), [mate for mate in self._stages[-1] if mate != pixel])

    def turn(self, turn):
        """Lead all pixels to their images; return the number of pixels."""
        return self._done(("turn", turn), turned_picture(turn, self._stages[-1]))

    def shear(self, turn, order):
        """Lead all pixels where the shears lead them; return the number of pixels."""
        return self._done(("shear", turn, order), sheared_picture(turn, order, self._stages[-1]))

    def walk(self, way):
        """Walk all pixels along a way; return the number of pixels."""
        pixels = walked_picture(way, self._stages[-1])
        return self._done(("walk", list(way)), pixels)

    def undo(self):
        """Take back the last deed that is not taken back."""
        if len(self._deeds) == 0:
            raise NothingToUndo("no deed is left")
        self._deeds.pop()
        self._stages.pop()

    def twin(self):
        """An independent object of the same class with the same pixels and the same deeds to undo."""
        other = self._made(self._stages[0])
        other._stages = list(self._stages)
        other._deeds = list(self._deeds)
        return other

    def described(self):
        """The picture, the number of deeds, and None, as nothing lost is counted."""
        return (self.pixels, len(self._deeds), None)

    def __len__(self):
        return len(self._stages[-1])

    def __eq__(self, other):
        return (isinstance(other, Canvas) and self.__class__.__name__ == other.__class__.__name__
                and self._stages[0] == other._stages[0] and self._deeds == other._deeds)

    def _done(self, deed, pixels):
        """Note a deed and the picture behind it; return the number of pixels."""
        self._deeds.append(deed)
        self._stages.append(pixels)
        return len(pixels)


class KeepingCanvas(Canvas):
    """A canvas that refuses turns by which pixels would be lost."""

    def turn(self, turn):
        """Lead all pixels to their images, unless two of them meet; return the number of pixels."""
        number = lost_number(turn, self._stages[-1])
        if number > 0:
            raise Lost(number)
        return super().turn(turn)

    def described(self):
        """The picture, the number of deeds, and lost, or None if the object does not count."""
        return super().described()


class CountingCanvas(Canvas):
    """A canvas that counts the pixels that are lost by turns."""

    @property
    def lost(self):
        """By how many pixels the turns that are not taken back have made the picture smaller."""
        return sum([len(self._stages[at]) - len(self._stages[at + 1])
                    for at, deed in enumerate(self._deeds) if deed[0] == "turn"])

    def described(self):
        """The picture, the number of deeds, and lost."""
        return (self.pixels, len(self._deeds), self.lost)


class KeepingCountingCanvas(KeepingCanvas, CountingCanvas):
    """A canvas that refuses turns by which pixels would be lost, and counts those that are lost."""

    def described(self):
        """The picture, the number of deeds, and lost."""
        return super().described()
