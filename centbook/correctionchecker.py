"""The checker of correction papers."""

from centbook.bookingchecker import lets_booking
from centbook.correcting import size_of
from centbook.errors import InvalidPaper
from centbook.kinds import is_fraction, is_row_of_integers, is_rows_of_numbers
from centbook.pairs import ONE_CENT, is_below, pair_turned
from centbook.shapes import SIDES, is_loose_list, is_rows_of, is_sum_by_shape, is_sum_of
from centbook.sheets import changed_state
from centbook.weights import loaded_entry, state_loads_of, worth_of


def is_loose_weights(thing):
    """Whether a value is a tuple of (string, tuple that begins with a string, fraction)."""
    if not is_rows_of(thing, 3):
        return False
    return is_loose_list(tuple([row[:2] for row in thing])) and all([is_fraction(row[2]) for row in thing])


def is_correction_by_shape(thing):
    """Whether a value is built like a correction paper."""
    if not isinstance(thing, tuple) or len(thing) != 3:
        return False
    changes, booking, weights = thing
    return is_row_of_integers(changes) and is_rows_of_numbers(booking) and is_loose_weights(weights)


def check_rows(sheet, weights):
    """Raises the error of the first row of weights that is none, or not greater than the one before."""
    before = ()
    for k, (side, which, weight) in enumerate(weights):
        if side not in SIDES or not is_sum_by_shape(which) or not is_sum_of(sheet, which) or weight[0] <= 0:
            raise InvalidPaper("weights", k)
        # Only now the sums are known to have numbers, which can be compared.
        if (side, which) <= before:
            raise InvalidPaper("weights", k)
        before = (side, which)


def check_loads(sheet, weights):
    """Raises the first error of what weights add up to at entries and states of lines."""
    entry = loaded_entry(sheet, weights)
    if entry is not None:
        raise InvalidPaper("entry", entry)
    for i, load in enumerate(state_loads_of(sheet, weights)):
        if is_below(ONE_CENT, load) or is_below(load, pair_turned(ONE_CENT)):
            raise InvalidPaper("line", i)


def lets_corrections(sheet, thing):
    """The size of the corrections of a correction paper; the first error of any other value is raised."""
    if not is_correction_by_shape(thing):
        raise InvalidPaper("shape", -1)
    changes, booking, weights = thing
    state, sections, days = sheet
    if len(changes) != len(state):
        raise InvalidPaper("changes", -1)
    lets_booking((changed_state(state, changes), sections, days), booking)
    check_rows(sheet, weights)
    check_loads(sheet, weights)
    size = size_of(changes)
    if worth_of(sheet, weights) != (size, 1):
        raise InvalidPaper("worth", -1)
    return size
