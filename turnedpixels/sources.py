"""Sources: which pixels come to a place, which places stay bare, and what shows a loss."""

from turnedpixels.errors import KeepsAll, TooLarge
from turnedpixels.integers import nearest
from turnedpixels.losses import keeps_all
from turnedpixels.rests import first_with
from turnedpixels.turns import back, check_pixel, check_turn, image, is_pixel, legs_of

LONGEST_ROW = 2000
# A pixel and its four neighbours, ascending.
AROUND = ((-1, 0), (0, -1), (0, 0), (0, 1), (1, 0))


def came_from(turn, pixel):
    """The ascending list of the pixels whose image is a pixel."""
    check_turn(turn)
    check_pixel(pixel)
    a, b, c = legs_of(turn)
    half = (c - 1) // 2
    x, y = pixel
    r, s = nearest(a * x + b * y, c), nearest(a * y - b * x, c)
    # How far the exact place of (r, s) is from the pixel, times c. The four pixels behind the neighbours of (r, s)
    # are too far away: half a pixel and more in both directions, so more than half a diagonal.
    far, high = a * r - b * s - c * x, b * r + a * s - c * y
    return [(r + i, s + j) for i, j in AROUND
            if abs(far + a * i - b * j) <= half and abs(high + b * i + a * j) <= half]


def is_bare(turn, pixel):
    """Whether a pixel is no image."""
    check_turn(turn)
    check_pixel(pixel)
    return _lies_in_gap(legs_of(turn), _gap_of(turn), pixel)


def comes_back(turn, pixel):
    """Whether the image of a pixel is turned to it by the back turn."""
    return image(back(turn), image(turn, pixel)) == pixel


def meeting(turn, pixel):
    """The pixel that meets a pixel, or None."""
    for mate in came_from(turn, image(turn, pixel)):
        if mate != pixel:
            return mate
    return None


def next_bare(turn, pixel):
    """The first bare pixel of the row of a pixel, from it on to greater x."""
    check_turn(turn)
    check_pixel(pixel)
    if keeps_all(turn):
        raise KeepsAll("no pixel is bare")
    legs, gap = legs_of(turn), _gap_of(turn)
    if legs[2] > LONGEST_ROW:
        raise TooLarge(LONGEST_ROW)
    x, y = pixel
    # Of c pixels in a row at least one is bare.
    while not _lies_in_gap(legs, gap, (x, y)):
        x += 1
    return (x, y)


def a_loss(turn):
    """A loss of a turn that does not keep all."""
    if keeps_all(turn):
        raise KeepsAll("nothing is lost")
    p, q, _ = turn
    # (1 + i) * (1 - u) / 2 is a rest of the back turn. A pixel with this rest lies, turned back, as near as can be to
    # the middle of four pixels, so it lies in the gap between their exact places.
    return ("bare", first_with(back(turn), ((1 - p + q) // 2, (1 - p - q) // 2)))


def shows_loss(turn, value):
    """Whether any value is a loss of the turn."""
    check_turn(turn)
    if not isinstance(value, tuple):
        return False
    if len(value) == 2 and value[0] == "bare":
        return is_pixel(value[1]) and is_bare(turn, value[1])
    if len(value) == 3 and value[0] == "meet" and is_pixel(value[1]) and is_pixel(value[2]):
        return value[1] < value[2] and image(turn, value[1]) == image(turn, value[2])
    return False


def _gap_of(turn):
    """The side of the gaps between exact places, times c."""
    # A pixel is an image if it lies in one of the squares with side 1 about the exact places. The places stand in
    # turned rows, the squares do not; between each four of them a square is left over, its side times c is
    # |a| + |b| - c.
    p, q, _ = turn
    return 2 * abs(q) * (p - abs(q))


def _lies_in_gap(legs, gap, pixel):
    """Whether a pixel lies in a gap between four exact places."""
    a, b, c = legs
    x, y = pixel
    # The middle of the four pixels between which it lies turned back, times 2.
    r, s = 2 * ((a * x + b * y) // c) + 1, 2 * ((a * y - b * x) // c) + 1
    return abs(2 * c * x - a * r + b * s) < gap and abs(2 * c * y - b * r - a * s) < gap
