"""Steps of a book as rows."""

from centbook.sheettexts import fraction_text, integer_text

# The word in place of no sections, charges or cents.
NOTHING = "-"


def part_text(word, thing):
    """What is written behind the word of a step."""
    if word == "sections":
        return " ".join(["+".join(section) for section in thing])
    if word == "announce":
        return " ".join([f"{name}:{fraction_text(charge)}" for name, charge in thing])
    if word == "send":
        return ",".join([integer_text(cents) for cents in thing])
    if word == "correct":
        return " ".join([f"{name}:{integer_text(change)}" for name, change in thing])
    return thing


def step_row(step):
    """The row of a step by kind."""
    if len(step) == 1:
        return step[0]
    text = part_text(step[0], step[1]) or NOTHING
    return f"{step[0]} {text}"


def log_rows(log):
    """The list of the rows of a log."""
    return [step_row(step) for step in log]
