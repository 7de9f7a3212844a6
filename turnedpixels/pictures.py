"""Pictures: ascending lists of pixels, and what turns make of them."""

from turnedpixels.errors import InvalidPixels
from turnedpixels.shears import check_order, shear_chain, sheared_by
from turnedpixels.sources import is_bare
from turnedpixels.turns import back, check_turn, is_pixel, led, legs_of
from turnedpixels.ways import check_way, led_along

MOST_PIXELS = 400


def is_picture(value):
    """Whether any value is a picture."""
    return isinstance(value, list) and len(value) <= MOST_PIXELS and _first_wrong(value) is None


def check_picture(pixels):
    """Raise InvalidPixels unless it is a picture."""
    if not isinstance(pixels, list) or len(pixels) > MOST_PIXELS:
        raise InvalidPixels(None)
    at = _first_wrong(pixels)
    if at is not None:
        raise InvalidPixels(at)


def turned_picture(turn, pixels):
    """The ascending list of the images."""
    return sorted(set(_images(turn, pixels)))


def lost_number(turn, pixels):
    """How many pixels the turned picture has less."""
    images = _images(turn, pixels)
    return len(images) - len(set(images))


def meetings_in(turn, pixels):
    """The ascending list of the tuples of two pixels of the picture that meet, the lesser one first."""
    images = _images(turn, pixels)
    first, meetings = {}, []
    for pixel, place in zip(pixels, images):
        if place in first:
            meetings.append((first[place], pixel))
        else:
            first[place] = pixel
    return sorted(meetings)


def gaps_in(turn, pixels):
    """The ascending list of the bare pixels that have four images of pixels of the picture as their neighbours."""
    places = set(_images(turn, pixels))
    gaps = []
    # Each of them stands just behind an image.
    for x, y in sorted(places):
        if ((x + 2, y) in places and (x + 1, y - 1) in places and (x + 1, y + 1) in places
                and is_bare(turn, (x + 1, y))):
            gaps.append((x + 1, y))
    return gaps


def there_and_back(turn, pixels):
    """The ascending list of the images of the images by the back turn."""
    places = _images(turn, pixels)
    legs = legs_of(back(turn))
    return sorted({led(legs, place) for place in places})


def sheared_picture(turn, order, pixels):
    """The ascending list of the sheared pixels."""
    check_turn(turn)
    check_order(order)
    check_picture(pixels)
    chain = shear_chain(turn, order)
    return sorted([sheared_by(chain, turn, pixel) for pixel in pixels])


def walked_picture(way, pixels):
    """The ascending list of the walked pixels."""
    check_way(way)
    check_picture(pixels)
    stages = [legs_of(item) for item in way]
    return sorted([led_along(stages, pixel) for pixel in pixels])


def _images(turn, pixels):
    """The images of the pixels, in their order."""
    check_turn(turn)
    check_picture(pixels)
    legs = legs_of(turn)
    return [led(legs, pixel) for pixel in pixels]


def _first_wrong(items):
    """The index of the first item that is no pixel, or does not come behind the one ahead of it; or None."""
    for at, item in enumerate(items):
        if not is_pixel(item) or (at > 0 and item <= items[at - 1]):
            return at
    return None
