"""Logs, and the books that they make."""

from centbook.books import Book
from centbook.steps import is_step


def is_log(thing):
    """Whether a value is a tuple of steps by kind."""
    return isinstance(thing, tuple) and all([is_step(step) for step in thing])


def replayed(log):
    """A new book after the steps of a log."""
    book = Book()
    book.replay(log)
    return book
