"""Papers that show that a state is broken by a day, or how little breaks it."""

from centbook.breaking import breaking_day, room
from centbook.findings import stuck_list


def broken_paper(state):
    """A broken paper of a close state, or None if it is open."""
    day = breaking_day(state)
    if day is None:
        return None
    return day, stuck_list((state, (), (day,)))


def room_paper(state):
    """A room paper of a close state, or None if it is open."""
    found = room(state)
    if found is None:
        return None
    total, day = found
    return total, day, stuck_list((state, (), (day,)))
