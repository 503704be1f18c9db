"""The checkers of broken papers and room papers."""

from centbook.breaking import room_days
from centbook.errors import InvalidPaper
from centbook.kinds import day_faults, is_fraction, is_row_of_fractions
from centbook.pairs import is_below, pair_total
from centbook.shapes import is_loose_list
from centbook.stuckchecker import lets_stuck


def is_broken_by_shape(thing):
    """Whether a value is built like a broken paper."""
    if not isinstance(thing, tuple) or len(thing) != 2:
        return False
    return is_row_of_fractions(thing[0]) and is_loose_list(thing[1])


def is_room_by_shape(thing):
    """Whether a value is built like a room paper."""
    return isinstance(thing, tuple) and len(thing) == 3 and is_fraction(thing[0]) and is_broken_by_shape(thing[1:])


def check_day(state, day):
    """Raises the error of a tuple of fractions that is no day of charges for the state."""
    days = (day,)
    for _ in day_faults(days, state):
        raise InvalidPaper("day", -1)


def lets_broken(state, thing):
    """True for a broken paper of a state; the first error of any other value is raised."""
    if not is_broken_by_shape(thing):
        raise InvalidPaper("shape", -1)
    day, stuck = thing
    check_day(state, day)
    lets_stuck((state, (), (day,)), stuck)
    return True


def lets_room(state, thing):
    """The total of a room paper of a close state; the first error of any other value is raised."""
    if not is_room_by_shape(thing):
        raise InvalidPaper("shape", -1)
    total, day, stuck = thing
    check_day(state, day)
    if pair_total(day) != total:
        raise InvalidPaper("total", -1)
    lets_stuck((state, (), (day,)), stuck)
    for j, other in enumerate(room_days(state)):
        if other is not None and is_below(pair_total(other), total):
            raise InvalidPaper("less", j)
    return total
