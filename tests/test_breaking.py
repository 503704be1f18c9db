"""[47], [49], [57], [7] (C4, C5): days that break a state, and its room."""

import itertools
import random
import unittest
from fractions import Fraction

from centbook.breaking import breaking_day, room
from centbook.findings import found_booking
from centbook.kinds import is_sheet
from centbook.states import is_open
from tests.samples import close_state, day, is_plain_close, is_plain_open, line, plain_balances, value_of

HALF, THIRD, QUARTER = Fraction(1, 2), Fraction(1, 3), Fraction(1, 4)
ZERO = (0, 1)
THREE = (("a", (1, 2), 1, True), ("b", (1, 2), 1, True), ("c", (1, 2), 0, True))
NAMES = ("a", "b", "c", "d", "e", "f")


def breaks(state, *days):
    """Whether these days have no close booking."""
    return found_booking((state, (), days)) is None


def total_of(charges):
    return sum(map(value_of, charges), Fraction(0))


def broken_states(many, lines=6, **kinds):
    """Close states that are not open."""
    rng = random.Random(lines)
    found = []
    while len(found) < many:
        state = close_state(rng, NAMES[:rng.randint(min(3, lines), lines)], ends=rng.choice((0, 0.3)), **kinds)
        if not is_plain_open(state):
            found.append(state)
    return found


def plain_low(state):
    return day(*[max(cents - value_of(exact), 0) if goes_on else 0 for _, exact, cents, goes_on in state])


def plain_high(state):
    rows = [(cents - value_of(exact), goes_on) for _, exact, cents, goes_on in state]
    return day(*[1 + off if goes_on and off < 0 else 0 for off, goes_on in rows])


def plain_totals(state):
    """The totals 0 to 3 of the room, None for those that do not exist."""
    ahead, behind, ended = plain_balances(state)
    together = sum((cents - value_of(exact) for _, exact, cents, _ in state), Fraction(0))
    far = sorted((value_of(exact) - cents for _, exact, cents, goes_on in state if goes_on and cents < value_of(exact)), reverse=True)
    totals = [Fraction(1) if ahead >= 1 else None, 1 + together if behind - ended >= 1 else None]
    for wanted in (1, 1 - together):
        enough = [k for k in range(len(far) + 1) if sum(far[:k]) >= wanted]
        totals.append(enough[0] - sum(far[:enough[0]]) if enough else None)
    return totals


def small_days(state, part, most):
    """All days of charges that are multiples of a part, with a total of at most so many parts."""
    for counts in itertools.product(range(most + 1), repeat=len(state)):
        if sum(counts) <= most and all(one[3] or not count for one, count in zip(state, counts)):
            yield day(*[count * part for count in counts])


class BreakingTest(unittest.TestCase):
    def test_open_states(self):
        rng = random.Random(3)
        seen = 0
        for k in range(200):
            state = close_state(rng, NAMES[:1 + k % 5], ends=(0, 0.3)[k % 2])
            if is_plain_open(state):
                seen += 1
                self.assertIsNone(breaking_day(state))
                self.assertIsNone(room(state))
                self.assertFalse(breaks(state, plain_low(state)) or breaks(state, plain_high(state)))
        self.assertGreater(seen, 60)

    def test_the_breaking_day(self):
        """The low day if it breaks the state, otherwise the high day, which breaks it then."""
        seen = {"low": 0, "high": 0, "both": 0}
        for state in broken_states(200):
            low, high = plain_low(state), plain_high(state)
            self.assertEqual(breaking_day(state), low if breaks(state, low) else high, repr(state))
            self.assertTrue(breaks(state, breaking_day(state)))
            self.assertTrue(is_sheet((state, (), (breaking_day(state),))))
            seen["both" if breaks(state, low) and breaks(state, high) else "low" if breaks(state, low) else "high"] += 1
        self.assertGreater(min(seen.values()), 5)

    def test_when_each_day_breaks(self):
        """By the balances, as the document says."""
        rng = random.Random(4)
        for k in range(250):
            state = close_state(rng, NAMES[:1 + k % 6], ends=(0, 0.4)[k % 2])
            ahead, behind, ended = plain_balances(state)
            self.assertIs(breaks(state, plain_low(state)), ahead >= 1 or behind - ended >= 1)
            self.assertIs(breaks(state, plain_high(state)), behind >= 1 or ahead + ended >= 1)

    def test_single_states(self):
        ahead = (line("a", HALF, 1), line("b", HALF, 1), line("c", HALF, 0))
        self.assertEqual(breaking_day(ahead), day(HALF, HALF, 0))
        behind = (line("a", HALF, 0), line("b", Fraction(3, 4), 0), line("c", HALF, 1))
        self.assertEqual(breaking_day(behind), day(0, 0, HALF))
        ended = (line("a", HALF, 1), line("b", HALF, 1, False), line("c", HALF, 0))
        self.assertEqual(breaking_day(ended), day(0, 0, HALF))
        left = (line("a", HALF, 1), line("b", HALF, 0, False), line("c", HALF, 0))
        self.assertEqual(breaking_day(left), day(HALF, 0, 0))

    def test_each_total(self):
        """States in which just this total, or this one first, is the least."""
        for state, total, charges in (
            ((line("a", HALF, 1), line("b", HALF, 1), *[line(name, Fraction(1, 5), 0) for name in "cde"]), 1, day(HALF, HALF, 0, 0, 0)),
            ((line("a", HALF, 0), line("b", HALF, 0), line("c", Fraction(4, 5), 1)), Fraction(1, 5), day(0, 0, Fraction(1, 5))),
            ((line("a", Fraction(9, 10), 0), line("b", Fraction(4, 5), 0), line("c", HALF, 1), line("d", HALF, 1)), Fraction(3, 10), None),
            ((line("a", HALF, 1), line("b", HALF, 1, False), line("c", HALF, 0)), HALF, day(0, 0, HALF)),
            ((line("a", HALF, 1), line("b", HALF, 1), line("c", HALF, 0)), HALF, day(0, 0, HALF)),
        ):
            found = room(state)
            self.assertEqual(value_of(found[0]), total, repr(state))
            self.assertEqual(total_of(found[1]), total)
            if charges is not None:
                self.assertEqual(found[1], charges)
            self.assertTrue(breaks(state, found[1]))

    def test_the_room_by_its_totals(self):
        seen = [0, 0, 0, 0]
        for state in broken_states(300) + broken_states(100, unders=(2, 3, 5, 7, 10)):
            totals = plain_totals(state)
            least = min(total for total in totals if total is not None)
            total, charges = room(state)
            self.assertEqual(value_of(total), least, repr(state))
            self.assertEqual(total_of(charges), least)
            self.assertTrue(is_sheet((state, (), (charges,))))
            self.assertTrue(breaks(state, charges), repr((state, charges)))
            seen[totals.index(least)] += 1
        self.assertGreater(min(seen), 3, repr(seen))

    def test_more_ahead_than_the_room(self):
        """Lines are ahead by more than one cent: charges of one cent in all are enough."""
        state = (line("a", QUARTER, 1), line("b", HALF, 1)) + tuple(line(name, Fraction(1, 5), 0) for name in "cde")
        self.assertTrue(is_plain_close(state) and not is_plain_open(state))
        total, charges = room(state)
        self.assertEqual([value_of(total), total_of(charges)], [1, 1])
        for charge, (_, exact, cents, _) in zip(charges, state):
            self.assertTrue(0 <= value_of(charge) <= max(cents - value_of(exact), 0))
        self.assertTrue(breaks(state, charges))

    def test_the_least_by_trying(self):
        """No day of small fractions with less breaks the state, and one with just the room does."""
        for unders, part in (((2,), HALF / 2), ((2, 4), QUARTER), ((3,), THIRD), ((2, 3), Fraction(1, 6))):
            for state in broken_states(12, lines=4, unders=unders):
                total = value_of(room(state)[0])
                found = [total_of(one) for one in small_days(state, part, int(total / part)) if breaks(state, one)]
                self.assertEqual(min(found), total, repr(state))

    def test_less_over_several_days(self):
        """Charges over several days with a total below the room always have a close booking."""
        rng = random.Random(8)
        for state in broken_states(60, lines=5):
            total = value_of(room(state)[0])
            for _ in range(6):
                left, days = total, []
                for _ in range(rng.randint(1, 4)):
                    charges = []
                    for one in state:
                        charge = left * Fraction(rng.randint(0, 5), 12) if one[3] else Fraction(0)
                        charges.append(charge)
                        left -= charge
                    days.append(day(*charges))
                self.assertTrue(left > 0)
                self.assertFalse(breaks(state, *days), repr((state, days)))

    def test_consequences(self):
        """The room is above zero; without ended lines it is at most one."""
        for state in broken_states(150):
            total = value_of(room(state)[0])
            self.assertGreater(total, 0)
            if all(one[3] for one in state):
                self.assertLessEqual(total, 1)

    def test_names_of_arguments_and_what_is_kept(self):
        shown = repr(THREE)
        self.assertEqual(breaking_day(state=THREE), ((1, 2), (1, 2), (0, 1)))
        self.assertEqual(room(state=THREE)[0], (1, 2))
        self.assertEqual(repr(THREE), shown)
        found = room(THREE)
        self.assertTrue(type(found) is tuple and type(found[0]) is tuple and type(found[1]) is tuple and len(found) == 2)
        self.assertIs(type(breaking_day(THREE)), tuple)
        self.assertFalse(is_open(THREE))

    def test_examples(self):
        self.assertEqual(breaking_day(THREE), ((1, 2), (1, 2), (0, 1)))
        self.assertEqual(room(THREE), ((1, 2), ((0, 1), (0, 1), (1, 2))))


if __name__ == "__main__":
    unittest.main()
