"""Days that break a state that is not open, and how little it takes."""

from math import lcm

from centbook.findings import found_booking
from centbook.pairs import NO_CENTS, ONE_CENT, is_below, pair_less, pair_sum, pair_total
from centbook.states import balances, is_open, offs


def going_offs(state):
    """The offs of the lines that go on, in order, with zero in place of all others."""
    return [off if line[3] else NO_CENTS for off, line in zip(offs(state), state)]


def low_day(state):
    """The day that charges each line that is ahead with its off."""
    return tuple([off if off[0] > 0 else NO_CENTS for off in going_offs(state)])


def high_day(state):
    """The day that charges each line that is behind with one plus its off."""
    return tuple([pair_sum(ONE_CENT, off) if off[0] < 0 else NO_CENTS for off in going_offs(state)])


def breaking_day(state):
    """The low day of a close state, or the high day if the low day has a close booking; None if it is open."""
    if is_open(state):
        return None
    day = low_day(state)
    return day if found_booking((state, (), (day,))) is None else high_day(state)


def lines_behind(state):
    """The indexes of the lines that are behind, those with the greatest distances first."""
    going = going_offs(state)
    scale = 1
    for _, under in going:
        scale = lcm(scale, under)
    whole = [over * (scale // under) for over, under in going]
    distant = sorted([(off, i) for i, off in enumerate(whole) if off < 0])
    return [i for _, i in distant]


def pushing_day(state, distance):
    """The charges of the high day for the fewest lines whose distances add up to at least this one.

    These are the most distant lines. None if all lines that are behind are not enough.
    """
    going, high = going_offs(state), high_day(state)
    day = [NO_CENTS for _ in state]
    reached = NO_CENTS
    for i in lines_behind(state):
        day[i] = high[i]
        reached = pair_less(reached, going[i])
        if not is_below(reached, distance):
            return tuple(day)
    return None


def drawing_day(state, total):
    """Charges with this total for lines that are ahead, each with at most its off."""
    day = []
    left = total
    for charge in low_day(state):
        part = charge if is_below(charge, left) else left
        day.append(part)
        left = pair_less(left, part)
    return tuple(day)


def room_days(state):
    """For each of the totals 0 to 3 of a close state a day with this total, or None if it does not exist.

    Behind each of these days there is no close booking, and the least of the totals is the room.
    """
    ahead, behind, ended = balances(state)
    together = pair_total(offs(state))
    days = [None, None, pushing_day(state, ONE_CENT), pushing_day(state, pair_less(ONE_CENT, together))]
    if not is_below(ahead, ONE_CENT):
        days[0] = drawing_day(state, ONE_CENT)
    if not is_below(pair_less(behind, ended), ONE_CENT):
        days[1] = drawing_day(state, pair_sum(ONE_CENT, together))
    return days


def room(state):
    """The room of a close state and a day with this total that breaks it, or None if the state is open."""
    best = None
    for day in room_days(state):
        if day is not None:
            total = pair_total(day)
            if best is None or is_below(total, best[0]):
                best = (total, day)
    return best
