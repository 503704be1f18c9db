"""The checker of entry papers."""

from centbook.bookingchecker import booking_fault
from centbook.errors import InvalidPaper
from centbook.kinds import is_ascending, is_rows_of_numbers
from centbook.shapes import SIDES, is_list_by_shape, is_sum_of
from centbook.weights import gain_of, loaded_entry, weighed_once

# The side that only the list of this number may have, and the side as which it counts.
OWN_SIDES = (("more", "least"), ("less", "most"))


def is_free_by_shape(thing):
    """Whether a value is built like a paper of a free entry."""
    if not isinstance(thing, tuple) or len(thing) != 3 or thing[0] != "free":
        return False
    return is_rows_of_numbers(thing[1]) and is_rows_of_numbers(thing[2])


def is_forced_by_shape(thing):
    """Whether a value is built like a paper of a forced entry."""
    if not isinstance(thing, tuple) or len(thing) != 4 or thing[0] != "forced":
        return False
    lists = [is_list_by_shape(pairs, SIDES + (own,)) for pairs, (own, _) in zip(thing[2:], OWN_SIDES)]
    return is_rows_of_numbers(thing[1]) and all(lists)


def check_free(sheet, d, i, one, other):
    """Raises the first error of two bookings that are to be close and differ at an entry."""
    for word, booking in (("one", one), ("other", other)):
        if booking_fault(sheet, booking) is not None:
            raise InvalidPaper(word, -1)
    if one[d][i] == other[d][i]:
        raise InvalidPaper("same", -1)


def check_list(sheet, entry, cents, n, pairs):
    """Raises the first error of list number n; the entry, a sum, has these cents."""
    own, side = OWN_SIDES[n]
    if not is_ascending(pairs):
        raise InvalidPaper("order", n)
    for k, (word, which) in enumerate(pairs):
        if not is_sum_of(sheet, which) or (word == own and which != entry):
            raise InvalidPaper("sum", (n, k))
    plain = [pair for pair in pairs if pair[0] != own]
    rest = [(side, which) for word, which in pairs if word == own]
    loaded = loaded_entry(sheet, weighed_once(plain + rest))
    if loaded is not None:
        raise InvalidPaper("entry", (n,) + loaded)
    # The bound of the list's own side counts with the sign of its side: cents + 1, or less (cents - 1).
    own_gain = cents + 1 if side == "least" else 1 - cents
    if gain_of(sheet, plain) + own_gain * len(rest) < 1:
        raise InvalidPaper("gain", n)


def lets_entry(sheet, d, i, thing):
    """The word of an entry paper; the first error of any other value is raised."""
    if is_free_by_shape(thing):
        _, one, other = thing
        check_free(sheet, d, i, one, other)
        return "free"
    if not is_forced_by_shape(thing):
        raise InvalidPaper("shape", -1)
    _, booking, more, less = thing
    if booking_fault(sheet, booking) is not None:
        raise InvalidPaper("booking", -1)
    for n, pairs in enumerate((more, less)):
        check_list(sheet, ("entry", d, i), booking[d][i], n, pairs)
    return "forced"
