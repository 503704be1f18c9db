"""How far the cents of a state are from the exact sums, and whether it can go on."""

from centbook.pairs import (
    NO_CENTS, ONE_CENT, is_below, pair_less, pair_sum, pair_total, pair_turned, rounded_down, rounded_up,
)


def offs(state):
    """The offs of the lines, cents minus exact, in order."""
    return tuple([pair_less((cents, 1), exact) for _, exact, cents, _ in state])


def balances(state):
    """What lines that go on are ahead, what they are behind, and the offs of those that have ended."""
    going = [off for off, line in zip(offs(state), state) if line[3]]
    ahead = pair_total([off for off in going if is_below(NO_CENTS, off)])
    behind = pair_total([pair_turned(off) for off in going if is_below(off, NO_CENTS)])
    ended = pair_total([off for off, line in zip(offs(state), state) if not line[3]])
    return ahead, behind, ended


def is_rounded(cents, exact):
    """Whether cents are an exact sum rounded down or up."""
    return rounded_down(exact) <= cents <= rounded_up(exact)


def is_close_state(state):
    """Whether the cents of each line, and of all together, are the exact sum rounded down or up."""
    if not all([is_rounded(cents, exact) for _, exact, cents, _ in state]):
        return False
    return is_rounded(sum([line[2] for line in state]), pair_total([line[1] for line in state]))


def is_open(state):
    """Whether a state is close, and goes on whatever the sections and charges to come are."""
    ahead, behind, ended = balances(state)
    limited = (ahead, behind, pair_sum(ahead, ended), pair_less(behind, ended))
    return is_close_state(state) and all([is_below(amount, ONE_CENT) for amount in limited])


def rounded_states(state):
    """All states with these lines and exact sums whose cents are these sums rounded down or up, ascending."""
    states = [()]
    for name, exact, _, goes_on in state:
        choices = list(range(rounded_down(exact), rounded_up(exact) + 1))
        states = [lines + ((name, exact, cents, goes_on),) for lines in states for cents in choices]
    return states


def open_states(state):
    """Yields all open states with the lines and exact sums of a state, ascending."""
    for other in rounded_states(state):
        if is_open(other):
            yield other
