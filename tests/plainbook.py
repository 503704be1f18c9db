"""A book that follows the document's words step by step, and steps to try books with."""

import random
from fractions import Fraction

from tests.samples import ODD_VALUES, booking_error, fraction_pair, is_plain_close, is_plain_number, line, spoiled, value_of

LETTERS = "abcdefghijklmnopqrstuvwxyz"


def is_plain_name(thing):
    return type(thing) is str and 1 <= len(thing) <= 8 and all(letter in LETTERS for letter in thing)


def is_plain_charge(thing):
    if type(thing) is not tuple or len(thing) != 2 or type(thing[0]) is not int or type(thing[1]) is not int:
        return False
    return thing[1] >= 1 and thing[0] >= 0 and fraction_pair(Fraction(*thing)) == thing


def is_plain_pairs(thing, allowed):
    """Whether a value is an ascending tuple of (name, value) with distinct names and allowed values."""
    if type(thing) is not tuple or any(type(pair) is not tuple or len(pair) != 2 for pair in thing):
        return False
    if not all(is_plain_name(name) and allowed(value) for name, value in thing):
        return False
    names = [name for name, _ in thing]
    return names == sorted(set(names))


def is_plain_step(thing):
    """Whether a value is a step by kind."""
    if type(thing) is not tuple or not thing or type(thing[0]) is not str:
        return False
    if thing == ("withdraw",):
        return True
    if len(thing) != 2:
        return False
    word, rest = thing
    if word in ("add", "end"):
        return is_plain_name(rest)
    if word == "sections":
        return type(rest) is tuple and all(type(one) is tuple and one and all(map(is_plain_name, one)) for one in rest)
    if word == "announce":
        return is_plain_pairs(rest, is_plain_charge)
    if word == "send":
        return type(rest) is tuple and all(map(is_plain_number, rest))
    if word == "correct":
        return rest != () and is_plain_pairs(rest, lambda change: type(change) is int and change != 0)
    return False


class PlainBook:
    """Lines, days and cents in dicts; barred and do follow [60] and [61]."""

    def __init__(self):
        self.lines, self.sections, self.announced, self.sent, self.steps = {}, (), [], [], []

    def copy(self):
        other = PlainBook()
        other.lines = {name: list(row) for name, row in self.lines.items()}
        other.sections, other.announced = self.sections, [dict(day) for day in self.announced]
        other.sent, other.steps = list(self.sent), list(self.steps)
        return other

    def state(self):
        return tuple(line(name, *self.lines[name]) for name in sorted(self.lines))

    def days(self):
        return tuple(tuple(fraction_pair(day[name]) for name in sorted(self.lines)) for day in self.announced)

    def sheet(self):
        return self.state(), self.sections, self.days()

    def barred(self, step):
        if not is_plain_step(step):
            return "shape"
        return getattr(self, step[0] + "_bar")(*step[1:])

    def add_bar(self, name):
        if name in self.lines:
            return "name"
        return "full" if len(self.lines) == 6 else None

    def sections_bar(self, sections):
        if any(name not in self.lines for section in sections for name in section):
            return "line"
        sets = [set(section) for section in sections]
        if list(sections) != sorted(set(sections)) or any(len(one) < 2 or list(one) != sorted(set(one)) for one in sections):
            return "sections"
        if any(one & other and not one <= other and not other <= one for one in sets for other in sets):
            return "sections"
        return "full" if len(sections) > 3 else None

    def announce_bar(self, charges):
        if any(name not in self.lines for name, _ in charges):
            return "line"
        if any(charge[0] != 0 and not self.lines[name][2] for name, charge in charges):
            return "ended"
        return "full" if len(self.announced) == 10 else None

    def withdraw_bar(self):
        return None if self.announced else "none"

    def send_bar(self, cents):
        if not self.announced:
            return "none"
        if len(cents) != len(self.lines):
            return "count"
        alone = (self.state(), self.sections, self.days()[:1])
        return "close" if isinstance(booking_error(alone, (cents,)), tuple) else None

    def end_bar(self, name):
        if name not in self.lines:
            return "line"
        if not self.lines[name][2]:
            return "ended"
        return "charged" if any(day[name] for day in self.announced) else None

    def correct_bar(self, changes):
        if any(name not in self.lines for name, _ in changes):
            return "line"
        other = self.copy()
        other.do_correct(changes)
        return None if is_plain_close(other.state()) else "close"

    def do(self, step):
        getattr(self, "do_" + step[0])(*step[1:])
        self.steps.append(step)

    def do_add(self, name):
        self.lines[name] = [Fraction(0), 0, True]
        for day in self.announced:
            day[name] = Fraction(0)

    def do_sections(self, sections):
        self.sections = sections

    def do_announce(self, charges):
        told = dict(charges)
        self.announced.append({name: value_of(told.get(name, (0, 1))) for name in self.lines})

    def do_withdraw(self):
        self.announced.pop()

    def do_send(self, cents):
        day = self.announced.pop(0)
        rows = []
        for name, many in zip(sorted(self.lines), cents):
            self.lines[name][0] += day[name]
            self.lines[name][1] += many
            rows.append((name, fraction_pair(day[name]), many))
        self.sent.append(tuple(rows))

    def do_end(self, name):
        self.lines[name][2] = False

    def do_correct(self, changes):
        for name, change in changes:
            self.lines[name][1] += change


NAMES = ("a", "add", "b", "cc", "self", "tea", "total", "z")


def any_step(rng, plain):
    """A step by kind, more or less fitting to a plain book."""
    names = sorted(plain.lines) if rng.random() < 0.9 else sorted({*rng.sample(NAMES, 2), *plain.lines})
    word = rng.choice(("add", "sections", "announce", "announce", "announce", "withdraw", "send", "send", "send", "send", "end", "correct"))
    if word == "add":
        return "add", rng.choice(NAMES)
    if word == "end":
        return "end", rng.choice(names or ["a"])
    if word == "withdraw":
        return ("withdraw",)
    if word == "sections":
        sections = [tuple(sorted(rng.sample(names, rng.randint(1, len(names))))) for _ in range(rng.randint(0, 2)) if names]
        return "sections", tuple(sorted(sections))
    if word == "announce":
        going = [name for name in names if name not in plain.lines or plain.lines[name][2] or rng.random() < 0.1]
        told = sorted(rng.sample(going, rng.randint(0, len(going))))
        return "announce", tuple((name, fraction_pair(Fraction(rng.randint(0, 6), rng.choice((1, 2, 2, 3, 4))))) for name in told)
    if word == "send":
        return "send", any_cents(rng, plain)
    told = sorted(rng.sample(names, rng.randint(1, min(2, len(names))))) if names else ["a"]
    return "correct", tuple((name, rng.choice((1, -1, 1, -1, 2))) for name in told)


def any_cents(rng, plain):
    """Cents that may be close for the first announced day."""
    if not plain.announced or rng.random() < 0.05:
        return tuple(rng.randint(0, 2) for _ in range(rng.randint(0, 3)))
    cents = ()
    for _ in range(30):
        cents = tuple(
            int(plain.announced[0][name]) + (plain.announced[0][name] % 1 > 0) * rng.randint(0, 1) for name in sorted(plain.lines)
        )
        if plain.send_bar(cents) is None:
            break
    return cents


def odd_step(rng, step):
    """Any value in the place of a step."""
    return rng.choice((spoiled(step, rng), rng.choice(ODD_VALUES), list(step), step + ((),), (step,), step[:1], (list(step[:1]),) + step[1:]))


def walk_of(seed, many=40):
    """Steps, of which some are barred, each with the word that bars it; and the plain book behind them."""
    rng = random.Random(seed)
    plain, walk = PlainBook(), []
    for name in rng.sample(NAMES, rng.randint(0, 4)):
        walk.append((("add", name), None))
        plain.do(("add", name))
    for _ in range(many):
        step = any_step(rng, plain)
        if rng.random() < 0.05:
            step = odd_step(rng, step)
        reason = plain.barred(step)
        if reason is None:
            plain.do(step)
        walk.append((step, reason))
    return walk, plain
