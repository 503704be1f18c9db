"""Close bookings behind each of whose days the state is open, walked through day by day."""

from centbook.sheets import part, state_after
from centbook.states import open_states
from centbook.walks import Walks


def open_cents_behind(sheet, d):
    """The cents of the lines in all open states with the exact sums behind day d, in a dict."""
    nothing = [[0 for _ in sheet[0]]]
    behind = state_after(part(sheet, 0, d + 1), nothing)
    return {tuple([line[2] for line in state]): True for state in open_states(behind)}


class SteadyWalks(Walks):
    """Steps that lead to open states only."""

    def __init__(self, sheet):
        super().__init__(sheet)
        self.steadied = [open_cents_behind(sheet, d) for d in range(self.many)]

    def steps_from(self, d, cents):
        """The (row, cents behind it) for all rows that can be booked on day d and leave the state open, ascending."""
        steps = super().steps_from(d, cents)
        return [(row, after) for row, after in steps if after in self.steadied[d]]
