"""What steps make of the sheet of a book."""

from centbook.pairs import NO_CENTS
from centbook.sheets import changed_state, part, state_after


def names_in(state):
    """The names of the lines of a state, in order."""
    return [line[0] for line in state]


def by_lines(state, pairs, rest):
    """For each line of a state what some pairs (name, value) tell of it, otherwise rest."""
    told = {name: value for name, value in pairs}
    return tuple([told.get(name, rest) for name in names_in(state)])


def added(sheet, step):
    """The sheet with a new line, which all announced days charge with zero."""
    state, sections, days = sheet
    new = (step[1], NO_CENTS, 0, True)
    i = len([name for name in names_in(state) if name < step[1]])
    charged = tuple([day[:i] + (NO_CENTS,) + day[i:] for day in days])
    return state[:i] + (new,) + state[i:], sections, charged


def divided_anew(sheet, step):
    """The sheet with other sections."""
    state, _, days = sheet
    return state, step[1], days


def announced(sheet, step):
    """The sheet with one more day."""
    state, sections, days = sheet
    return state, sections, days + (by_lines(state, step[1], NO_CENTS),)


def withdrawn(sheet, _):
    """The sheet without its last day."""
    return part(sheet, 0, len(sheet[2]) - 1)


def sent(sheet, step):
    """The sheet behind its first day, for which these cents are booked."""
    _, sections, days = sheet
    return state_after(part(sheet, 0, 1), (step[1],)), sections, days[1:]


def ended(sheet, step):
    """The sheet in which a line does not go on."""
    state, sections, days = sheet
    after = [(name, exact, cents, goes_on and name != step[1]) for name, exact, cents, goes_on in state]
    return tuple(after), sections, days


def with_corrections(sheet, step):
    """The sheet with other cents of some lines."""
    state, sections, days = sheet
    return changed_state(state, by_lines(state, step[1], 0)), sections, days


EFFECTS = {
    "add": added, "sections": divided_anew, "announce": announced, "withdraw": withdrawn, "send": sent, "end": ended,
    "correct": with_corrections,
}


def sheet_after(sheet, step):
    """The sheet of a book after a step that is not barred."""
    effect = EFFECTS[step[0]]
    return effect(sheet, step)
