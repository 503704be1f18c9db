"""The checker of stuck lists."""

from centbook.errors import InvalidPaper
from centbook.kinds import is_ascending
from centbook.shapes import SIDES, is_list_by_shape, is_sum_of
from centbook.weights import gain_of, loaded_entry, weighed_once


def lets_stuck(sheet, thing):
    """The gain of a stuck list; the first error of any other value is raised."""
    if not is_list_by_shape(thing, SIDES):
        raise InvalidPaper("shape", -1)
    if not is_ascending(thing):
        raise InvalidPaper("order", -1)
    for k, (_, which) in enumerate(thing):
        if not is_sum_of(sheet, which):
            raise InvalidPaper("sum", k)
    entry = loaded_entry(sheet, weighed_once(thing))
    if entry is not None:
        raise InvalidPaper("entry", entry)
    gain = gain_of(sheet, thing)
    if gain < 1:
        raise InvalidPaper("gain", -1)
    return gain
