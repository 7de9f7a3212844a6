"""A console: a canvas that is worked by commands."""

from turnedpixels.canvas import Canvas
from turnedpixels.errors import InvalidCommand, InvalidText
from turnedpixels.losses import back_number, keeps_all, twice_number
from turnedpixels.misses import mean_miss
from turnedpixels.pictures import lost_number
from turnedpixels.sources import came_from
from turnedpixels.texts import format_picture, format_pixel, parse_picture, parse_pixel, parse_turn
from turnedpixels.turns import image


def _keeps_text(turn):
    """Whether a turn keeps all."""
    return "yes" if keeps_all(turn) else "no"


def _twice_text(turn):
    """How many of c pixels of a row are images of two pixels."""
    return str(twice_number(turn))


def _back_text(turn):
    """How many of c pixels of a row come back."""
    return str(back_number(turn))


def _mean_text(turn):
    """The mean of the misses."""
    numerator, denominator = mean_miss(turn)
    return f"{numerator}/{denominator}"


def _image_text(turn, pixel):
    """The image of a pixel."""
    return format_pixel(image(turn, pixel))


def _from_text(turn, pixel):
    """The pixels whose image is a pixel."""
    return _picture_text(came_from(turn, pixel))


def _picture_text(pixels):
    """The text of a picture, which may be empty."""
    return format_picture(pixels) if len(pixels) > 0 else "none"


# The words behind the name of each command but new.
FORMS = {
    "show": (), "put": ("pixel",), "take": ("pixel",), "turn": ("turn",), "shear": ("turn", "order"), "undo": (),
    "keeps": ("turn",), "twice": ("turn",), "back": ("turn",), "mean": ("turn",), "image": ("turn", "pixel"),
    "from": ("turn", "pixel"), "lost": ("turn",),
}
# The answers for which no canvas is needed.
ANSWERS = {
    "keeps": _keeps_text, "twice": _twice_text, "back": _back_text, "mean": _mean_text, "image": _image_text,
    "from": _from_text,
}


class Console:
    """A canvas, at first empty, that is worked by commands."""

    def __init__(self):
        self._canvas = Canvas([])

    def execute(self, command):
        """Run a command; return its answer."""
        if not isinstance(command, str):
            raise InvalidCommand("not a string")
        parts = command.split(" ")
        name, words = parts[0], parts[1:]
        if name == "new":
            self._canvas = Canvas(_picture_of(words))
            return "ok"
        if name not in FORMS or len(FORMS[name]) != len(words):
            raise InvalidCommand("no such command")
        values = [_value_of(kind, word) for kind, word in zip(FORMS[name], words)]
        if name in ANSWERS:
            answer = ANSWERS[name]
            return answer(*values)
        return self._worked(name, values)

    def _worked(self, name, values):
        """Run a command that needs the canvas; return its answer."""
        if name == "show":
            return _picture_text(self._canvas.pixels)
        if name == "undo":
            self._canvas.undo()
            return "ok"
        if name == "lost":
            return str(lost_number(values[0], self._canvas.pixels))
        return str(self._changed(name, values))

    def _changed(self, name, values):
        """Do a deed; return the number of pixels behind it."""
        if name == "put":
            return self._canvas.put(values[0])
        if name == "take":
            return self._canvas.take(values[0])
        if name == "turn":
            return self._canvas.turn(values[0])
        return self._canvas.shear(values[0], values[1])


def _picture_of(words):
    """The picture of these words; InvalidCommand if they are not its text."""
    # No word at all is the text of the empty picture, an empty word is not.
    if words == [""]:
        raise InvalidCommand("not the text of a picture")
    try:
        return parse_picture(" ".join(words))
    except InvalidText:
        raise InvalidCommand("not the text of a picture") from None


def _value_of(kind, word):
    """What a word of a command tells; InvalidCommand if it is not the text of this kind."""
    if kind == "order":
        if word not in ("xyx", "yxy"):
            raise InvalidCommand("not an order of shears")
        return word
    try:
        return parse_turn(word) if kind == "turn" else parse_pixel(word)
    except InvalidText:
        raise InvalidCommand("not the text of a turn or a pixel") from None
