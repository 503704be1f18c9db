"""Numbers and sheets as texts."""

# Python refuses to write very long numbers at once, so they are written piece by piece.
PIECE = 10 ** 60


def integer_text(number):
    """The decimal digits of an integer, whatever its size."""
    pieces = []
    rest = abs(number)
    while rest >= PIECE:
        rest, piece = divmod(rest, PIECE)
        pieces.append(f"{piece:060d}")
    sign = "-" if number < 0 else ""
    tail = "".join(pieces[::-1])
    return f"{sign}{rest}{tail}"


def fraction_text(fraction):
    """The written form of a fraction."""
    over, under = fraction
    if under == 1:
        return integer_text(over)
    return f"{integer_text(over)}/{integer_text(under)}"


def line_row(line):
    """The row of a line of a state."""
    name, exact, cents, goes_on = line
    word = "line" if goes_on else "ended"
    return f"{word} {name} {fraction_text(exact)} {integer_text(cents)}"


def sheet_text(sheet):
    """The written form of a sheet, without a newline at the end."""
    state, sections, days = sheet
    rows = [line_row(line) for line in state]
    for section in sections:
        rows.append(" ".join(["section", *section]))
    for day in days:
        charges = [fraction_text(charge) for charge in day]
        rows.append(" ".join(["day", *charges]))
    return "\n".join(rows)
