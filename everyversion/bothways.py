"""Where a WAY leads the values of a SORT, and where a way back leads them from there."""

from everyversion.forms import fits_sort, is_integer
from everyversion.ways import led

# What holds of the integers of a SORT from -1001 to 1001 holds of all.
FARTHEST = 1001


def is_led_out(way, new, x):
    """Whether a WAY does not lead an integer to one of the SORT new."""
    there = led(way, x)
    return there is None or not fits_sort(new, there)


def is_led_off(way, back, x):
    """Whether a WAY and the way back do not lead an integer to what it was."""
    there = led(way, x)
    return there is None or led(back, there) != x


def is_value_of(sort, thing):
    """Whether any value is an integer of an int or a below."""
    return is_integer(thing) and fits_sort(sort, thing)


def _tried(sort):
    """Return the list of the integers of an int or a below to try, in the order 0, 1, -1, 2, -2 and so on."""
    if sort[0] == "below":
        return list(range(sort[1]))
    return [0] + [x for number in range(1, FARTHEST + 1) for x in (number, -number)]


def first_led_out(way, old, new):
    """Return the first integer of the SORT old that a WAY does not lead to one of the SORT new, or None."""
    for x in _tried(old):
        if is_led_out(way, new, x):
            return x
    return None


def first_led_off(way, back, old):
    """Return the first integer of a SORT that a WAY and the way back do not lead to what it was, or None."""
    for x in _tried(old):
        if is_led_off(way, back, x):
            return x
    return None
