"""[48], [50], [56]: the checkers of broken papers and room papers."""

import random
import unittest
from fractions import Fraction

from centbook.breakchecker import lets_broken, lets_room
from centbook.breaking import breaking_day, room
from centbook.breakpapers import broken_paper, room_paper
from centbook.errors import InvalidPaper
from centbook.findings import stuck_list
from centbook.kinds import is_fraction
from tests.samples import (
    ODD_VALUES, caught_error, changed, close_state, day, fraction_pair, is_plain_open, line, looks_like, spoiled, stuck_error,
    value_of,
)
from tests.test_breaking import plain_totals

HALF, THIRD = (1, 2), (1, 3)
ZERO = (0, 1)
THREE = (("a", HALF, 1, True), ("b", HALF, 1, True), ("c", HALF, 0, True))
OPEN = (("a", HALF, 1, True), ("b", HALF, 0, True))

# The low day of THREE: the day's cent has to go to a or b, which are up to a whole sum with it.
LOW = (HALF, HALF, ZERO)
LOW_STUCK = (("least", ("day", 0)), ("most", ("entry", 0, 2)), ("most", ("line", 0, 0)), ("most", ("line", 1, 0)))
BROKEN = (LOW, LOW_STUCK)

# Half a cent for c: its line is at one cent then, but the account is there already.
HIGH = (ZERO, ZERO, HALF)
HIGH_STUCK = (
    ("least", ("entry", 0, 0)), ("least", ("entry", 0, 1)), ("least", ("line", 2, 0)), ("most", ("account", 0)),
)
ROOM = (HALF, HIGH, HIGH_STUCK)


def is_loose(thing):
    """Whether a value is a tuple of pairs of a string and a tuple that begins with a string."""
    return type(thing) is tuple and all(
        type(pair) is tuple and len(pair) == 2 and type(pair[0]) is str and type(pair[1]) is tuple and pair[1]
        and type(pair[1][0]) is str for pair in thing
    )


def is_plain_day(thing):
    return type(thing) is tuple and all(map(is_fraction, thing))


def plain_error(state, charges, stuck, total=None):
    """The first error (word, at) of a day, of its total if there is one, and of a stuck list, or the gain."""
    if not is_plain_day(charges) or not is_loose(stuck):
        return "shape", -1
    if len(charges) != len(state) or any(one[0] < 0 or (one[0] and not each[3]) for one, each in zip(charges, state)):
        return "day", -1
    if total is not None and sum(map(value_of, charges), Fraction(0)) != value_of(total):
        return "total", -1
    return stuck_error((state, (), (charges,)), stuck)


def broken_error(state, thing):
    """True, or the first error (word, at) of a value that is to be a broken paper, as the definition says."""
    if type(thing) is not tuple or len(thing) != 2:
        return "shape", -1
    found = plain_error(state, *thing)
    return found if isinstance(found, tuple) else True


def room_error(state, thing):
    """The total, or the first error (word, at) of a value that is to be a room paper, as the definition says."""
    if type(thing) is not tuple or len(thing) != 3 or not is_fraction(thing[0]):
        return "shape", -1
    total, charges, stuck = thing
    found = plain_error(state, charges, stuck, total)
    if isinstance(found, tuple):
        return found
    for j, other in enumerate(plain_totals(state)):
        if other is not None and other < value_of(total):
            return "less", j
    return total


def states_that_break(many, lines=5):
    rng = random.Random(lines)
    found = []
    while len(found) < many:
        state = close_state(rng, ("a", "b", "c", "d", "e", "f")[:rng.randint(3, lines)], ends=rng.choice((0, 0.3)))
        if not is_plain_open(state):
            found.append(state)
    return found


class BreakCheckerTest(unittest.TestCase):
    def check(self, function, state, thing, word, at):
        with self.assertRaises(InvalidPaper, msg=repr(thing)) as caught:
            function(state, thing)
        found = (caught.exception.word, caught.exception.at)
        self.assertTrue(looks_like(found, (word, at)), (found, word, at, thing))

    def check_both(self, state, charges, stuck, word, at):
        """The error of both papers, with the total of the charges."""
        self.check(lets_broken, state, (charges, stuck), word, at)
        total = fraction_pair(sum(map(value_of, charges), Fraction(0)))
        self.check(lets_room, state, (total, charges, stuck), word, at)

    def test_papers_by_hand(self):
        self.assertIs(lets_broken(THREE, BROKEN), True)
        self.assertIs(lets_broken(thing=(HIGH, HIGH_STUCK), state=THREE), True)
        self.assertEqual(lets_room(THREE, ROOM), HALF)
        self.assertEqual(lets_room(thing=ROOM, state=THREE), HALF)

    def test_a_state_that_is_not_close(self):
        """Broken papers are accepted for it, too."""
        state = (line("a", 7, 2), line("b", Fraction(1, 2), 3))
        charges = day(1, 0)
        self.assertIs(lets_broken(state, (charges, (("least", ("line", 0, 0)), ("most", ("entry", 0, 0))))), True)

    def test_papers_of_all_states_that_break(self):
        for state in states_that_break(120, lines=6):
            self.assertIs(lets_broken(state, broken_paper(state)), True)
            self.assertEqual(lets_room(state, room_paper(state)), room(state)[0])

    def test_shape(self):
        for odd in ODD_VALUES:
            self.check(lets_broken, THREE, odd, "shape", -1)
            self.check(lets_room, THREE, odd, "shape", -1)
            if not is_plain_day(odd):
                self.check(lets_broken, THREE, (odd, LOW_STUCK), "shape", -1)
                self.check(lets_room, THREE, (HALF, odd, HIGH_STUCK), "shape", -1)
            self.check(lets_broken, THREE, (changed(LOW, 1, odd), LOW_STUCK), "shape", -1)
            self.check(lets_room, THREE, (HALF, changed(HIGH, 0, odd), HIGH_STUCK), "shape", -1)
            self.check(lets_room, THREE, changed(ROOM, 0, odd), "shape", -1)
            if odd != ():
                self.check(lets_broken, THREE, (LOW, odd), "shape", -1)
                self.check(lets_room, THREE, (HALF, HIGH, odd), "shape", -1)
            self.check(lets_broken, THREE, (LOW, LOW_STUCK + (odd,)), "shape", -1)
            if type(odd) is not str:
                self.check(lets_broken, THREE, (LOW, ((odd, ("day", 0)),)), "shape", -1)
                self.check(lets_broken, THREE, (LOW, (("least", (odd, 0)),)), "shape", -1)
        for thing in (
            BROKEN[:1], BROKEN + ((),), list(BROKEN), BROKEN[::-1], ROOM, (list(LOW), LOW_STUCK), (LOW, list(LOW_STUCK)),
            ((HALF, HALF, (0, 2)), LOW_STUCK), ((HALF, (2, 4), ZERO), LOW_STUCK), ((HALF, (True, 2), ZERO), LOW_STUCK),
            (LOW, (("least", ()),)), (LOW, (("least", ("day", 0), 1),)), (LOW, ("least", ("day", 0))), (LOW, ((("day", 0), "least"),)),
            (LOW, (("least", (0, "day")),)), (LOW, (["least", ("day", 0)],)), (LOW, (("least", ["day", 0]),)),
        ):
            self.check(lets_broken, THREE, thing, "shape", -1)
        for thing in (ROOM[:2], ROOM + ((),), list(ROOM), BROKEN, ROOM[::-1], ((2, 4),) + ROOM[1:], (1,) + ROOM[1:], ((0, 0),) + ROOM[1:]):
            self.check(lets_room, THREE, thing, "shape", -1)

    def test_day(self):
        for charges in (
            (), LOW[:2], LOW + (ZERO,), (HALF, HALF, (-1, 2)), ((-1, 2), HALF, (1, 1)), ((-1, 1), (-1, 1), (-1, 1)), ((1, 1),) * 4,
        ):
            for stuck in (LOW_STUCK, (), (("no", ("sum",)),), LOW_STUCK[::-1]):
                self.check_both(THREE, charges, stuck, "day", -1)
            self.check(lets_room, THREE, ((-7, 3), charges, LOW_STUCK), "day", -1)
        ended = (THREE[0], ("b", HALF, 1, False), THREE[2])
        self.check_both(ended, LOW, LOW_STUCK, "day", -1)
        self.assertIs(lets_broken(ended, (HIGH, HIGH_STUCK)), True)

    def test_total(self):
        for total in (ZERO, (1, 1), (-1, 2), (1, 3), (10 ** 59, 7)):
            for stuck in (HIGH_STUCK, (), (("no", ("sum",)),)):
                self.check(lets_room, THREE, (total, HIGH, stuck), "total", -1)
        self.check(lets_room, THREE, (HALF, LOW, LOW_STUCK), "total", -1)

    def test_the_errors_of_stuck_lists(self):
        for charges, stuck in ((LOW, LOW_STUCK), (HIGH, HIGH_STUCK)):
            for pair in (("more", ("entry", 0, 0)), ("", ("day", 0)), ("least", ("days", 0)), ("least", ("day",)), ("least", ("day", 0, 0))):
                self.check_both(THREE, charges, stuck + (pair,), "shape", -1)
            for pair in (("least", ("day", True)), ("least", ("day", -1)), ("most", ("line", "0", 0)), ("most", ("section", 0, None))):
                self.check_both(THREE, charges, stuck + (pair,), "shape", -1)
            self.check_both(THREE, charges, stuck[::-1], "order", -1)
            self.check_both(THREE, charges, stuck + stuck[-1:], "order", -1)
            self.check_both(THREE, charges, stuck + (("most", ("section", 0, 0)),), "sum", 4)
            self.check_both(THREE, charges, stuck + (("most", ("line", 3, 0)),), "sum", 4)
            self.check_both(THREE, charges, (("least", ("account", 1)),) + stuck, "sum", 0)
            self.check_both(THREE, charges, stuck[1:], "entry", (0, 0))
            self.check_both(THREE, charges, (), "gain", -1)
        self.check_both(THREE, LOW, LOW_STUCK[:1] + LOW_STUCK[2:], "entry", (0, 2))
        self.check_both(THREE, (HALF, ZERO, ZERO), LOW_STUCK, "gain", -1)
        self.check_both(THREE, (ZERO, ZERO, THIRD), HIGH_STUCK, "gain", -1)

    def test_less(self):
        """The first total that exists and is less is told."""
        charges = (HALF, HALF, ZERO)
        self.check(lets_room, THREE, ((1, 1), charges, LOW_STUCK), "less", 3)
        state = (line("a", Fraction(1, 2), 1), line("b", Fraction(1, 2), 1), *[line(name, Fraction(1, 5), 0) for name in "cde"])
        charges = day(Fraction(1, 2), Fraction(1, 2), 1, 0, 0)
        stuck = stuck_list((state, (), (charges,)))
        self.assertEqual(caught_error(lets_room, state, ((2, 1), charges, stuck)), ("less", 0))
        seen = {}
        rng = random.Random(1)
        for state in states_that_break(150, lines=6):
            charges = tuple(
                fraction_pair(value_of(charge) + rng.choice((0, 0, 1))) if one[3] else ZERO for charge, one in zip(breaking_day(state), state)
            )
            total = fraction_pair(sum(map(value_of, charges)))
            paper = (total, charges, stuck_list((state, (), (charges,))))
            expected = room_error(state, paper)
            self.assertEqual(caught_error(lets_room, state, paper), expected, repr((state, paper)))
            seen[expected] = seen.get(expected, 0) + 1
        self.assertLessEqual({("less", 0), ("less", 1), ("less", 2), ("less", 3)}, set(seen))

    def test_open_states(self):
        """Some error always rejects the value: no stuck list is there."""
        rng = random.Random(2)
        for k in range(60):
            state = close_state(rng, "abcd"[:1 + k % 4])
            for other in states_that_break(3, lines=4):
                if is_plain_open(state):
                    found = caught_error(lets_room, state, room_paper(other))
                    self.assertIn(found[0], ("day", "total", "order", "sum", "entry", "gain"))
                    self.assertIsInstance(caught_error(lets_broken, state, broken_paper(other)), tuple)
        self.check_both(OPEN, (HALF, ZERO), (), "gain", -1)
        self.check_both(OPEN, LOW, LOW_STUCK, "day", -1)

    def test_two_errors(self):
        self.check(lets_room, THREE, ((1, 1), HIGH, HIGH_STUCK[::-1]), "total", -1)
        self.check(lets_room, THREE, ((1, 1), LOW, LOW_STUCK[::-1]), "order", -1)
        self.check(lets_room, THREE, ((1, 1), LOW[:2], LOW_STUCK), "day", -1)
        self.check(lets_room, THREE, ((1, 1), LOW[:2], LOW_STUCK + ((),)), "shape", -1)
        self.check(lets_broken, THREE, (LOW, (("most", ("day", 4)), ("least", ("day", 4)))), "order", -1)

    def test_spoiled_papers(self):
        """Papers with one or two parts changed, against the definition."""
        seen = {}
        for seed, state in enumerate(states_that_break(60)):
            rng = random.Random(seed)
            broken, roomy = broken_paper(state), room_paper(state)
            for k in range(50):
                one, two = spoiled(broken, rng), spoiled(roomy, rng)
                if k % 3 == 0:
                    one, two = spoiled(one, rng), spoiled(two, rng)
                for function, error, thing in ((lets_broken, broken_error, one), (lets_room, room_error, two)):
                    expected = error(state, thing)
                    self.assertTrue(looks_like(caught_error(function, state, thing), expected), repr((state, thing, expected)))
                    word = expected[0] if isinstance(expected, tuple) else expected
                    seen[word] = seen.get(word, 0) + 1
        self.assertLessEqual({"shape", "day", "total", "order", "sum", "entry", "gain", True}, set(seen))

    def test_what_is_kept(self):
        shown = repr((THREE, BROKEN, ROOM))
        lets_broken(THREE, BROKEN)
        lets_room(THREE, ROOM)
        self.assertEqual(repr((THREE, BROKEN, ROOM)), shown)

    def test_examples(self):
        self.assertEqual(lets_room(THREE, room_paper(THREE)), (1, 2))
        self.check(lets_broken, THREE, ((HALF, HALF, (-1, 2)), ()), "day", -1)


if __name__ == "__main__":
    unittest.main()
