"""The steps of a book, by kind."""

from centbook.kinds import (
    is_ascending, is_fraction, is_integer, is_name, is_number, is_row_of_names, is_row_of_numbers,
)
from centbook.shapes import begins_with_word, is_rows_of


def is_charge(thing):
    """Whether a value is a fraction of at least 0."""
    return is_fraction(thing) and is_number(thing[0])


def is_change(thing):
    """Whether a value is an integer that is not 0."""
    return is_integer(thing) and thing != 0


def is_row_of_sections(thing):
    """Whether a value is a tuple of nonempty tuples of names."""
    return isinstance(thing, tuple) and all([is_row_of_names(part) and part != () for part in thing])


def is_row_by_names(thing):
    """Whether a value is a tuple of pairs that begin with names, ascending and distinct."""
    if not is_rows_of(thing, 2) or not all([is_name(pair[0]) for pair in thing]):
        return False
    return is_ascending([pair[0] for pair in thing])


def is_part(word, thing):
    """Whether a value can stand behind the word of a step."""
    if word in ("add", "end"):
        return is_name(thing)
    if word == "sections":
        return is_row_of_sections(thing)
    if word == "send":
        return is_row_of_numbers(thing)
    if word == "announce":
        return is_row_by_names(thing) and all([is_charge(charge) for _, charge in thing])
    if word == "correct":
        return thing != () and is_row_by_names(thing) and all([is_change(change) for _, change in thing])
    return False


def is_step(thing):
    """Whether a value is a step by kind."""
    if not begins_with_word(thing):
        return False
    if len(thing) == 1:
        return thing[0] == "withdraw"
    return len(thing) == 2 and is_part(thing[0], thing[1])
