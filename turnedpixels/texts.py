"""Texts of pixels, pictures, turns and chains."""

from turnedpixels.chains import MOST_STEPS, check_chain
from turnedpixels.errors import InvalidText
from turnedpixels.pictures import MOST_PIXELS, check_picture
from turnedpixels.turns import check_pixel, check_turn, is_turn

MOST_DIGITS = 45
# Python refuses to write numbers of some thousand digits at once.
PART_DIGITS = 60
PART_SIZE = 10 ** 60


def format_pixel(pixel):
    """The text of a pixel."""
    check_pixel(pixel)
    return _pixel_text(pixel)


def format_picture(pixels):
    """The text of a picture."""
    check_picture(pixels)
    return " ".join([_pixel_text(pixel) for pixel in pixels])


def format_turn(turn):
    """The text of a turn."""
    check_turn(turn)
    p, q, quarters = turn
    return f"{p}/{q}/{quarters}"


def format_chain(chain):
    """The text of a chain."""
    check_chain(chain)
    return " ".join([f"{axis}{_number_text(number)}/{_number_text(divisor)}" for axis, number, divisor in chain])


def parse_pixel(text):
    """The pixel that has this text."""
    words = _words_of(text)
    pixel = _pixel_of(words[0])
    if pixel is None:
        raise InvalidText(0)
    _check_end(words)
    return pixel


def parse_picture(text):
    """The picture that has this text."""
    pixels = []
    for at, word in enumerate(_words_in_list(text)):
        pixel = _pixel_of(word)
        if pixel is None or at == MOST_PIXELS or (at > 0 and pixel <= pixels[-1]):
            raise InvalidText(at)
        pixels.append(pixel)
    return pixels


def parse_turn(text):
    """The turn that has this text."""
    words = _words_of(text)
    turn = _numbers_of(words[0], "/", 3)
    if not is_turn(turn):
        raise InvalidText(0)
    _check_end(words)
    return turn


def parse_chain(text):
    """The chain that has this text."""
    chain = []
    for at, word in enumerate(_words_in_list(text)):
        step = _step_of(word)
        if step is None or at == MOST_STEPS:
            raise InvalidText(at)
        chain.append(step)
    return chain


def _pixel_text(pixel):
    """The text of a pixel."""
    x, y = pixel
    return f"{_number_text(x)},{_number_text(y)}"


def _number_text(number):
    """The text of an integer, however great it is."""
    parts, rest = [], abs(number)
    while rest >= PART_SIZE:
        rest, part = divmod(rest, PART_SIZE)
        parts.append(str(part).zfill(PART_DIGITS))
    parts.append(str(rest))
    digits = "".join(parts[::-1])
    return "-" + digits if number < 0 else digits


def _words_of(text):
    """The words of any value that has to be a string."""
    if not isinstance(text, str):
        raise InvalidText(None)
    return text.split(" ")


def _words_in_list(text):
    """The words of any value that has to be a string; there are none in the empty one."""
    words = _words_of(text)
    return [] if words == [""] else words


def _check_end(words):
    """Raise InvalidText if there is a second word."""
    if len(words) > 1:
        raise InvalidText(1)


def _pixel_of(word):
    """The pixel that has this word as its text, or None."""
    return _numbers_of(word, ",", 2)


def _step_of(word):
    """The step that has this word as its text, or None."""
    numbers = _numbers_of(word[1:], "/", 2)
    if numbers is None or word[0] not in ("x", "y") or numbers[1] < 1:
        return None
    return (word[0], numbers[0], numbers[1])


def _numbers_of(word, sign, many):
    """The tuple of so many numbers with a sign between them that has this word as its text, or None."""
    numbers = [_number_of(part) for part in word.split(sign)]
    if len(numbers) != many or None in numbers:
        return None
    return tuple(numbers)


def _number_of(part):
    """The integer that has this text, or None."""
    digits = part.removeprefix("-")
    if not digits.isascii() or not digits.isdigit() or len(digits) > MOST_DIGITS:
        return None
    if digits[0] == "0" and part != "0":
        return None
    return int(part)
