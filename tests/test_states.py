"""[6], [46], [51], [7] (C4, C6, C7): offs, balances, close and open states."""

import itertools
import random
import types
import unittest
from fractions import Fraction

from centbook.bookings import all_ends
from centbook.findings import found_booking
from centbook.sheets import fresh, state_after
from centbook.states import balances, is_close_state, is_open, offs, open_states
from tests.samples import (
    close_state, day, fraction_pair, is_plain_close, is_plain_open, line, plain_balances, random_sections, random_sheet, value_of,
)

HALF, THIRD = Fraction(1, 2), Fraction(1, 3)
ZERO = (0, 1)
THREE = (("a", (1, 2), 1, True), ("b", (1, 2), 1, True), ("c", (1, 2), 0, True))
NAMES = ("a", "b", "c", "d", "e", "f")


def any_states():
    """Close and other states, of one to six lines."""
    for seed in range(200):
        yield random_sheet(seed, most_lines=4, most_days=0, astray=1 + seed % 3)[0]
    rng = random.Random(2)
    for k in range(300):
        yield close_state(rng, NAMES[:1 + k % 6], ends=(0, 0.3, 0.6)[k % 3])


class StatesTest(unittest.TestCase):
    def test_offs(self):
        state = (line("a", HALF, 1), line("b", 3, 3), line("c", Fraction(7, 3), -2, False))
        self.assertEqual(offs(state), ((1, 2), (0, 1), (-13, 3)))
        for state in any_states():
            found = offs(state=state)
            self.assertIs(type(found), tuple)
            self.assertEqual(found, tuple(fraction_pair(one[2] - value_of(one[1])) for one in state))

    def test_balances(self):
        state = (line("a", HALF, 1), line("b", THIRD, 0), line("c", 4, 4), line("d", HALF, 3, False), line("e", HALF, 0, False))
        self.assertEqual(balances(state), ((1, 2), (1, 3), (2, 1)))
        self.assertEqual(balances((line("a", 0, -3), line("b", 5, 7))), ((2, 1), (3, 1), (0, 1)))
        self.assertEqual(balances((line("a", 0, -3, False), line("b", 5, 7, False))), ((0, 1), (0, 1), (-1, 1)))
        for state in any_states():
            self.assertEqual(balances(state=state), tuple(map(fraction_pair, plain_balances(state))))

    def test_close_and_open(self):
        seen = {}
        for state in any_states():
            close, is_opened = is_plain_close(state), is_plain_open(state)
            self.assertIs(is_close_state(state=state), close, repr(state))
            self.assertIs(is_open(state=state), is_opened, repr(state))
            seen[close, is_opened] = seen.get((close, is_opened), 0) + 1
        self.assertEqual(sorted(seen), [(False, False), (True, False), (True, True)])
        self.assertGreater(min(seen.values()), 40)

    def test_close_by_each_line_and_all_together(self):
        for state, expected in (
            ((line("a", HALF, 2),), False), ((line("a", HALF, -1),), False), ((line("a", HALF, 1),), True), ((line("a", 3, 4),), False),
            ((line("a", HALF, 1), line("b", HALF, 1)), False), ((line("a", HALF, 0), line("b", HALF, 0)), False),
            ((line("a", HALF, 1), line("b", HALF, 0)), True), ((line("a", HALF, 1), line("b", HALF, 1), line("c", HALF, 0)), True),
            ((line("a", HALF, 1, False), line("b", HALF, 1)), False), ((line("a", HALF, 2), line("b", HALF, -1)), False),
            ((line("a", 0, -1), line("b", 0, 1)), False), ((line("a", THIRD, 1), line("b", THIRD, 0), line("c", THIRD, 0)), True),
        ):
            self.assertIs(is_close_state(state), expected, repr(state))

    def test_each_bound_of_open_states(self):
        """Each of the four amounts may be just below one, and not one."""
        quarter, most = Fraction(1, 4), Fraction(3, 4)
        for state, expected in (
            ((line("a", HALF, 1), line("b", HALF, 1), line("c", HALF, 0), line("d", HALF, 0)), False),
            ((line("a", HALF, 1), line("b", most, 1), line("c", HALF, 0), line("d", quarter, 0)), True),
            ((line("a", HALF, 1), line("b", HALF, 1), line("c", HALF, 0)), False),
            ((line("a", HALF, 1), line("b", HALF, 0), line("c", HALF, 0)), False),
            ((line("a", HALF, 1), line("b", HALF, 1, False), line("c", HALF, 0)), False),
            ((line("a", most, 1), line("b", HALF, 1, False), line("c", HALF, 0)), True),
            ((line("a", HALF, 0), line("b", HALF, 0, False), line("c", HALF, 1)), False),
            ((line("a", quarter, 0), line("b", HALF, 0, False), line("c", HALF, 1)), True),
            ((line("a", HALF, 1, False), line("b", HALF, 1, False), line("c", HALF, 0)), False),
            ((line("a", HALF, 1, False), line("b", HALF, 0, False), line("c", HALF, 0)), True),
            ((line("a", HALF, 1, False), line("b", HALF, 1, False), line("c", HALF, 0, False), line("d", HALF, 0, False)), True),
            ((line("a", 1, 2),), False),
            ((line("a", 5, 6, False), line("b", 5, 4, False)), False),
            ((line("a", HALF, 2, False), line("b", HALF, -1, False), line("c", THIRD, 0)), False),
        ):
            self.assertIs(is_open(state), expected, repr(state))

    def test_all_lines_ahead_or_all_behind_or_none(self):
        quarter = Fraction(1, 4)
        ahead = tuple(line(name, 3 * quarter, 1) for name in "abc")
        behind = tuple(line(name, quarter, 0) for name in "abc")
        none = tuple(line(name, 7, 7, name != "b") for name in "abc")
        self.assertEqual([balances(state) for state in (ahead, behind, none)], [
            ((3, 4), (0, 1), (0, 1)), ((0, 1), (3, 4), (0, 1)), ((0, 1), (0, 1), (0, 1)),
        ])
        self.assertEqual([is_open(state) for state in (ahead, behind, none)], [True] * 3)
        self.assertEqual([is_open(tuple(line(name, HALF, cents) for name in "abc")) for cents in (0, 1)], [False, False])

    def test_an_open_state_goes_on(self):
        """(C4): Whatever the sections and charges are, there is a close booking."""
        rng = random.Random(5)
        seen = 0
        for k in range(400):
            state = close_state(rng, NAMES[:1 + k % 6], ends=(0, 0.3)[k % 2])
            if not is_open(state):
                continue
            seen += 1
            days = tuple(
                day(*[Fraction(rng.randint(0, 12), rng.choice((2, 3, 4, 6))) if one[3] else 0 for one in state])
                for _ in range(rng.randint(1, 3))
            )
            names = [one[0] for one in state]
            self.assertIsNotNone(found_booking((state, random_sections(rng, names), days)))
        self.assertGreater(seen, 150)

    def test_one_or_two_lines(self):
        """(C6): each close state of these is open."""
        rng = random.Random(6)
        for k in range(100):
            self.assertTrue(is_open(close_state(rng, NAMES[:1 + k % 2], unders=(2, 3, 7, 10))))

    def test_open_states_by_trying(self):
        none = 0
        for state in any_states():
            if len(state) > 4:
                continue
            floors = [one[1][0] // one[1][1] for one in state]
            expected = []
            for more in itertools.product((-1, 0, 1, 2), repeat=len(state)):
                other = tuple((one[0], one[1], low + by, one[3]) for one, low, by in zip(state, floors, more))
                if is_plain_open(other):
                    expected.append(other)
            self.assertEqual(list(open_states(state=state)), expected, repr(state))
            none += not expected
        self.assertGreater(none, 3)

    def test_open_states_ignore_the_cents(self):
        state = (line("a", HALF, 77), line("b", THIRD, -5), line("c", HALF, 9, False))
        other = tuple((name, exact, 0, goes_on) for name, exact, _, goes_on in state)
        self.assertEqual(list(open_states(state)), list(open_states(other)))
        self.assertEqual(list(open_states((line("a", 5, 0, False),))), [(line("a", 5, 5, False),)])
        self.assertEqual(list(open_states((line("a", HALF, 0, False),))), [(line("a", HALF, cents, False),) for cents in (0, 1)])

    def test_open_states_is_a_generator(self):
        state = (line("a", HALF), line("b", HALF))
        one, two = open_states(state), open_states(state)
        self.assertIsInstance(one, types.GeneratorType)
        first = next(one)
        self.assertEqual(list(two), [first] + list(one))
        self.assertEqual(first, (line("a", HALF, 0), line("b", HALF, 1)))

    def test_open_states_are_ends(self):
        """(C7): of close bookings of a fresh sheet whose lines all go on."""
        rng = random.Random(7)
        for _ in range(60):
            names = NAMES[:rng.randint(1, 4)]
            days = tuple(day(*[Fraction(rng.randint(0, 6), rng.choice((2, 3, 4))) for _ in names]) for _ in range(rng.randint(1, 3)))
            sheet = (fresh(*names), random_sections(rng, list(names)), days)
            ends = set(all_ends(sheet))
            after = state_after(sheet, found_booking(sheet))
            for state in open_states(after):
                self.assertIn(tuple(one[2] for one in state), ends)

    def test_what_is_kept(self):
        shown = repr(THREE)
        for one in (offs, balances, is_close_state, is_open):
            one(THREE)
        list(open_states(THREE))
        self.assertEqual(repr(THREE), shown)

    def test_examples(self):
        self.assertEqual([balances(THREE), is_close_state(THREE), is_open(THREE)], [((1, 1), (1, 2), (0, 1)), True, False])
        self.assertEqual(list(open_states(THREE)), [])


if __name__ == "__main__":
    unittest.main()
