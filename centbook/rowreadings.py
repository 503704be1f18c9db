"""Steps of a book from rows."""

from centbook.errors import InvalidText
from centbook.kinds import is_name
from centbook.sheetreadings import VALID, charge_in, integer_in
from centbook.steprows import NOTHING


def name_in(word):
    """The name that a word is, or None."""
    return word if is_name(word) else None


def cents_in(word):
    """The cents that a word writes, or None."""
    if word == NOTHING:
        return ()
    numbers = [integer_in(digits) for digits in word.split(",")]
    if any([number is None or number < 0 for number in numbers]):
        return None
    return tuple(numbers)


def section_in(word):
    """The section that a word writes, or None."""
    names = word.split("+")
    return tuple(names) if all([is_name(name) for name in names]) else None


def named_charge_in(word):
    """The (name, charge) that a word writes, or None."""
    name, _, rest = word.partition(":")
    charge = charge_in(rest)
    return (name, charge) if is_name(name) and charge is not None else None


def named_change_in(word):
    """The (name, change) that a word writes, or None."""
    name, _, rest = word.partition(":")
    change = integer_in(rest)
    return (name, change) if is_name(name) and change is not None and change != 0 else None


# How the one word, or each of several words, behind the word of a step is read.
SINGLE = {"add": name_in, "send": cents_in, "end": name_in}
SEVERAL = {"sections": section_in, "announce": named_charge_in, "correct": named_change_in}


def single_part(word, rest):
    """(part, VALID) of the one word behind the word of a step, or (None, first invalid field)."""
    reading = SINGLE[word]
    found = reading(rest[0]) if rest else None
    if found is None:
        return None, 1
    return found, VALID if len(rest) == 1 else 2


def several_parts(word, rest):
    """(part, VALID) of all words behind the word of a step, or (None, first invalid field)."""
    if rest == []:
        return None, 1
    if rest[0] == NOTHING and word != "correct":
        return (), VALID if len(rest) == 1 else 2
    reading = SEVERAL[word]
    found = []
    for field, one in enumerate(rest, start=1):
        thing = reading(one)
        if thing is None or (word != "sections" and found and thing[0] <= found[-1][0]):
            return None, field
        found.append(thing)
    return tuple(found), VALID


def step_in(text):
    """(step, VALID) of the step that a string writes, or (None, first invalid field)."""
    words = text.split(" ")
    word, rest = words[0], words[1:]
    if word == "withdraw":
        return ("withdraw",), VALID if rest == [] else 1
    if word in SINGLE:
        found, field = single_part(word, rest)
    elif word in SEVERAL:
        found, field = several_parts(word, rest)
    else:
        return None, 0
    return (word, found), field


def read_step(text):
    """The step that a string writes."""
    step, field = step_in(text)
    if field != VALID:
        raise InvalidText(0, field)
    return step


def read_log(rows):
    """The log that a list of strings writes."""
    steps = []
    for row, text in enumerate(rows):
        step, field = step_in(text)
        if field != VALID:
            raise InvalidText(row, field)
        steps.append(step)
    return tuple(steps)
