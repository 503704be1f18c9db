"""What bars a step of a book."""

from centbook.kinds import section_faults
from centbook.pairs import NO_CENTS
from centbook.sheets import part
from centbook.states import is_close_state
from centbook.stepping import names_in, sheet_after
from centbook.steps import is_step
from centbook.sums import is_close

MOST_LINES = 6
MOST_SECTIONS = 3
MOST_DAYS = 10


def is_known(state, names):
    """Whether all names are lines of a state."""
    known = names_in(state)
    return all([name in known for name in names])


def goes_on_in(state, name):
    """Whether a line of a state goes on."""
    return (name, True) in [(line[0], line[3]) for line in state]


def add_bar(sheet, step):
    """What bars a new line."""
    state = sheet[0]
    if is_known(state, [step[1]]):
        return "name"
    return "full" if len(state) >= MOST_LINES else None


def sections_bar(sheet, step):
    """What bars other sections."""
    state, sections = sheet[0], step[1]
    if not is_known(state, [name for section in sections for name in section]):
        return "line"
    if list(section_faults(sections, state)) != []:
        return "sections"
    return "full" if len(sections) > MOST_SECTIONS else None


def announce_bar(sheet, step):
    """What bars one more day."""
    state, _, days = sheet
    charges = step[1]
    if not is_known(state, [name for name, _ in charges]):
        return "line"
    if not all([charge == NO_CENTS or goes_on_in(state, name) for name, charge in charges]):
        return "ended"
    return "full" if len(days) >= MOST_DAYS else None


def withdraw_bar(sheet, _):
    """What bars the removal of the last day."""
    return "none" if sheet[2] == () else None


def send_bar(sheet, step):
    """What bars these cents for the first day."""
    state, _, days = sheet
    if days == ():
        return "none"
    if len(step[1]) != len(state):
        return "count"
    return None if is_close(part(sheet, 0, 1), (step[1],)) else "close"


def end_bar(sheet, step):
    """What bars the end of a line."""
    state, _, days = sheet
    name = step[1]
    if not is_known(state, [name]):
        return "line"
    if not goes_on_in(state, name):
        return "ended"
    i = names_in(state).index(name)
    return None if all([day[i] == NO_CENTS for day in days]) else "charged"


def correct_bar(sheet, step):
    """What bars corrections."""
    if not is_known(sheet[0], [name for name, _ in step[1]]):
        return "line"
    return None if is_close_state(sheet_after(sheet, step)[0]) else "close"


BARS = {
    "add": add_bar, "sections": sections_bar, "announce": announce_bar, "withdraw": withdraw_bar, "send": send_bar,
    "end": end_bar, "correct": correct_bar,
}


def bar_of(sheet, step):
    """The first word that bars any value as a step of a book with this sheet, or None."""
    if not is_step(step):
        return "shape"
    bar = BARS[step[0]]
    return bar(sheet, step)


def followed(sheet, steps):
    """The sheets after some steps, one after the other, and what bars the step behind these, or None."""
    sheets = []
    now = sheet
    for step in steps:
        reason = bar_of(now, step)
        if reason is not None:
            return sheets, reason
        now = sheet_after(now, step)
        sheets.append(now)
    return sheets, None
