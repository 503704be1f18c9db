"""[26] to [29], [7] (C1, C10): stuck lists and their checker."""

import itertools
import random
import unittest
from fractions import Fraction

from centbook.bookingchecker import lets_booking
from centbook.errors import InvalidPaper, PaperError
from centbook.findings import found_booking, stuck_list
from centbook.sheets import fresh, part
from centbook.stuckchecker import lets_stuck
from centbook.sums import sums_of
from tests.samples import (
    ODD_VALUES, all_close, caught_error, changed, day, fraction_pair, line, looks_like, random_sections, random_sheet,
    spoiled, stuck_error, value_of,
)

HALF, THIRD = Fraction(1, 2), Fraction(1, 3)
SHEET = ((("a", (0, 1), 0, True), ("b", (0, 1), 0, True)), (), (((1, 2), (1, 2)), ((1, 2), (1, 2))))
THREE = ((("a", (1, 2), 1, True), ("b", (1, 2), 0, True), ("c", (1, 2), 0, True)), (), (((0, 1), (1, 2), (1, 2)),))
GOOD = (("least", ("entry", 0, 0)), ("least", ("line", 1, 0)), ("least", ("line", 2, 0)), ("most", ("day", 0)))
NAMES = ("a", "b", "c", "d", "e", "f")


def stuck_sheets(many, **limits):
    """Sheets with their stuck lists."""
    found = []
    seed = 0
    while len(found) < many:
        sheet = random_sheet(seed, **limits)
        stuck = stuck_list(sheet)
        if stuck is not None:
            found.append((sheet, stuck))
        seed += 1
    return found


def wide_sheet(seed):
    """A sheet with six lines and ten days and up to three sections, most of them within one another."""
    rng = random.Random(seed)
    under = rng.choice((2, 3, 10, 9973))
    state = []
    for name in NAMES:
        exact = Fraction(rng.randint(0, 10 ** 3), under)
        state.append(line(name, exact, exact.__floor__() + rng.randint(0, 1), rng.random() < 0.9))
    days = tuple(
        day(*[Fraction(rng.randint(0, 40), under) if one[3] and rng.random() < 0.8 else 0 for one in state]) for _ in range(10)
    )
    nested = ((("a", "b"), ("a", "b", "c"), ("a", "b", "c", "d")), (("a", "c", "d", "e"), ("c", "d"), ("c", "d", "e")))
    return tuple(state), rng.choice(nested + (random_sections(rng, NAMES),)), days


class StuckCheckerTest(unittest.TestCase):
    def check(self, sheet, thing, word, at):
        """The checker raises this error."""
        with self.assertRaises(InvalidPaper, msg=repr(thing)) as caught:
            lets_stuck(sheet, thing)
        self.assertTrue(looks_like((caught.exception.word, caught.exception.at), (word, at)), (caught.exception.__dict__, word, at))

    def test_accepted(self):
        self.assertEqual(lets_stuck(THREE, GOOD), 1)
        self.assertEqual(lets_stuck(thing=GOOD, sheet=THREE), 1)
        self.assertIs(type(lets_stuck(THREE, GOOD)), int)

    def test_greater_gains(self):
        """Cents that are far from the exact sum: the day has to make up for them all."""
        sheet = ((line("a", 7, 2),), (), (day(1),))
        self.assertEqual(lets_stuck(sheet, (("least", ("line", 0, 0)), ("most", ("day", 0)))), 5)
        self.assertEqual(lets_stuck(sheet, (("least", ("account", 0)), ("most", ("entry", 0, 0)))), 5)
        sheet = ((line("a", 2, 10 ** 6),), (), (day(1000),))
        self.assertEqual(lets_stuck(sheet, (("least", ("entry", 0, 0)), ("most", ("line", 0, 0)))), 10 ** 6 - 2)

    def test_a_sum_on_both_sides(self):
        sheet = ((line("a", 7, 2), line("b", 5, 5)), (), (day(1, HALF),))
        both = (
            ("least", ("entry", 0, 1)), ("least", ("line", 0, 0)), ("least", ("line", 1, 0)),
            ("most", ("day", 0)), ("most", ("entry", 0, 1)),
        )
        self.assertEqual(lets_stuck(sheet, both), 3)
        whole = (("least", ("day", 0)), ("least", ("line", 0, 0)), ("most", ("day", 0)), ("most", ("entry", 0, 0)))
        self.assertEqual(lets_stuck(((line("a", 7, 2),), (), (day(1),)), whole), 5)

    def test_shape(self):
        for odd in ODD_VALUES:
            if odd != ():
                self.check(THREE, odd, "shape", -1)
            self.check(THREE, (odd,), "shape", -1)
            self.check(THREE, GOOD + (odd,), "shape", -1)
            self.check(THREE, (("least", odd),), "shape", -1)
            self.check(THREE, ((odd, ("day", 0)),), "shape", -1)
            self.check(THREE, (("least", (odd, 0)),), "shape", -1)
            self.check(THREE, (("least", (odd, 0, 0)),), "shape", -1)
            if type(odd) is not int or odd < 0:
                self.check(THREE, (("least", ("day", odd)),), "shape", -1)
                self.check(THREE, (("least", ("line", odd, 0)),), "shape", -1)
                self.check(THREE, (("least", ("line", 0, odd)),), "shape", -1)
        for which in (
            (), ("day",), ("day", 0, 0), ("account", 0, 0), ("entry", 0), ("line", 0), ("section", 0), ("entry", 0, 0, 0), ["day", 0],
            ("days", 0), ("days", 0, 0), ("Day", 0), ("Entry", 0, 0), ("day", True), ("day", -1), ("entry", False, 0), ("entry", 0, "0"), ("least", 0), ("root",),
            ("day", (0,)), ("day", None), "day", 0,
        ):
            self.check(THREE, (("least", which),), "shape", -1)
        for pair in (
            ("least",), ("least", ("day", 0), 1), ["least", ("day", 0)], ("more", ("entry", 0, 0)), ("less", ("entry", 0, 0)),
            ("Least", ("day", 0)), ("", ("day", 0)), (("day", 0), "least"), ("least", "day", 0), (True, ("day", 0)),
        ):
            self.check(THREE, (pair,), "shape", -1)
        self.check(THREE, list(GOOD), "shape", -1)
        self.check(THREE, GOOD[0], "shape", -1)

    def test_order(self):
        for thing in itertools.permutations(GOOD):
            if thing != GOOD:
                self.check(THREE, thing, "order", -1)
        for k in range(4):
            self.check(THREE, GOOD[:k] + GOOD[k:k + 1] + GOOD[k:], "order", -1)
        self.check(THREE, (("most", ("day", 0)), ("least", ("day", 0))), "order", -1)
        self.check(THREE, (("least", ("line", 0, 1)), ("least", ("line", 0, 0))), "order", -1)
        self.check(THREE, (("least", ("day", 10)), ("least", ("day", 9))), "order", -1)

    def test_sum(self):
        for which in (
            ("account", 1), ("day", 1), ("entry", 1, 0), ("entry", 0, 3), ("line", 3, 0), ("line", 0, 1), ("section", 0, 0),
            ("day", 10 ** 60 - 1), ("line", 10 ** 60 - 1, 0), ("entry", 3, 0),
        ):
            self.check(THREE, (("least", which),), "sum", 0)
            things = tuple(sorted(GOOD + (("least", which), ("most", which))))
            self.check(THREE, things, "sum", things.index(("least", which)))
        with_sections = (THREE[0], (("a", "b"),), THREE[2] * 2)
        for which in (("section", 1, 0), ("section", 0, 2), ("section", 2, 0)):
            self.check(with_sections, (("least", ("section", 0, 1)), ("least", which)), "sum", 1)
        self.check((THREE[0], (), ()), (("least", ("account", 0)),), "sum", 0)

    def test_entry(self):
        for k in range(4):
            entry = (0, k) if k < 3 else (0, 0)
            self.check(THREE, GOOD[:k] + GOOD[k + 1:], "entry", entry)
        for k, pair in enumerate(GOOD):
            turned = tuple(sorted(changed(GOOD, k, ("most" if pair[0] == "least" else "least", pair[1]))))
            self.check(THREE, turned, "entry", (0, k) if k < 3 else (0, 0))
        self.check(THREE, (("most", ("account", 0)),), "entry", (0, 0))
        twice = (THREE[0], (), THREE[2] * 2)
        self.check(twice, (("least", ("line", 2, 1)), ("most", ("entry", 0, 2))), "entry", (1, 2))
        self.check(twice, (("least", ("account", 1)), ("most", ("day", 1))), "entry", (0, 0))
        self.check(twice, (("least", ("account", 1)), ("most", ("account", 0))), "entry", (1, 0))

    def test_sums_with_the_same_entries(self):
        """On a first day of one line four sums have the same entry; only the bounds tell them apart."""
        sheet = ((line("a", HALF, 3),), (), (day(HALF),))
        sums = [("account", 0), ("day", 0), ("entry", 0, 0), ("line", 0, 0)]
        for one, other in itertools.product(sums, sums):
            gain = (1 - 3 if one[0] in ("account", "line") else 0) - (1 - 3 if other[0] in ("account", "line") else 1)
            thing = (("least", one), ("most", other))
            if gain < 1:
                self.check(sheet, thing, "gain", -1)
            else:
                self.assertEqual(lets_stuck(sheet, thing), gain)

    def test_gain(self):
        self.check(THREE, (), "gain", -1)
        self.check((THREE[0], (), ()), (), "gain", -1)
        self.check(THREE, (("least", ("day", 0)), ("most", ("day", 0))), "gain", -1)
        self.check(THREE, (("least", ("account", 0)), ("most", ("day", 0))), "gain", -1)
        day_alone = (("least", ("entry", 0, 0)), ("least", ("entry", 0, 1)), ("least", ("entry", 0, 2)), ("most", ("day", 0)))
        self.check(THREE, day_alone, "gain", -1)
        lower = (changed(THREE[0], 1, ("b", (1, 2), 1, True)),) + THREE[1:]
        self.check(lower, GOOD, "gain", -1)

    def test_two_errors(self):
        """The error that is stated first is reported."""
        bad_sum, no_pair = ("least", ("line", 7, 0)), ("least", ("line", True, 0))
        self.check(THREE, (GOOD[3], GOOD[0], no_pair), "shape", -1)
        self.check(THREE, (bad_sum, GOOD[0]), "order", -1)
        self.check(THREE, (GOOD[0], bad_sum), "sum", 1)
        self.check(THREE, (bad_sum, ("most", ("day", 7))), "sum", 0)
        self.check(THREE, (("least", ("day", 0)), ("most", ("entry", 0, 1))), "entry", (0, 0))

    def test_against_the_definition(self):
        """Stuck lists with one part, or two parts, spoiled."""
        seen = {}
        for seed, (sheet, stuck) in enumerate(stuck_sheets(60, most_lines=4, astray=2)):
            rng = random.Random(seed)
            for k in range(40):
                thing = spoiled(stuck, rng)
                if k % 3 == 0:
                    thing = spoiled(thing, rng)
                expected = stuck_error(sheet, thing)
                self.assertTrue(looks_like(caught_error(lets_stuck, sheet, thing), expected), repr((sheet, thing, expected)))
                word = expected[0] if isinstance(expected, tuple) else "gains"
                seen[word] = seen.get(word, 0) + 1
        self.assertEqual(sorted(seen), ["entry", "gain", "gains", "order", "shape", "sum"])

    def test_lists_of_any_sums(self):
        """Lists of one or two of a sheet's sums on each side."""
        for seed in range(12):
            sheet = random_sheet(seed, most_lines=2, most_days=2, astray=2)
            sums = list(sums_of(sheet))
            pairs = [(side, which) for side in ("least", "most") for which in sums]
            for many in (1, 2, 3):
                for thing in itertools.islice(itertools.combinations(pairs, many), 400):
                    expected = stuck_error(sheet, thing)
                    self.assertEqual(caught_error(lets_stuck, sheet, thing), expected, repr((sheet, thing)))
                    self.assertFalse(isinstance(expected, int) and all_close(sheet))

    def test_any_value_beside_a_close_booking(self):
        """No stuck list is accepted where there is a close booking."""
        for seed in range(150):
            rng = random.Random(seed)
            sheet = random_sheet(seed, most_lines=4, most_days=3)
            sums = list(sums_of(sheet))
            if found_booking(sheet) is None or not sums:
                continue
            for _ in range(30):
                pairs = [(rng.choice(("least", "most")), rng.choice(sums)) for _ in range(rng.randint(0, 6))]
                self.assertIsInstance(caught_error(lets_stuck, sheet, tuple(sorted(set(pairs)))), tuple)

    def test_stuck_lists_are_accepted(self):
        for sheet, stuck in stuck_sheets(80, most_lines=6, most_days=6, astray=2):
            self.assertEqual(lets_stuck(sheet, stuck), stuck_error(sheet, stuck))

    def test_exactly_one_of_both(self):
        """Each sheet has a close booking or a stuck list, never both, and its own checker accepts it."""
        seen = {True: 0, False: 0}
        for seed in range(300):
            sheet = random_sheet(seed, most_lines=6, most_days=5, astray=1 + seed % 3)
            booking, stuck = found_booking(sheet), stuck_list(sheet)
            self.assertEqual((booking is None) + (stuck is None), 1)
            seen[stuck is None] += 1
            if stuck is None:
                self.assertEqual(lets_booking(sheet, booking), sum(map(sum, booking)))
            else:
                self.assertGreaterEqual(lets_stuck(sheet, stuck), 1)
        self.assertGreater(min(seen.values()), 60)

    def test_six_lines_ten_days_three_sections(self):
        found = 0
        for seed in range(40):
            sheet = wide_sheet(seed)
            stuck = stuck_list(sheet)
            self.assertEqual(stuck is None, found_booking(sheet) is not None)
            if stuck is not None:
                found += 1
                self.assertEqual(lets_stuck(sheet, stuck), stuck_error(sheet, stuck))
        self.assertGreater(found, 8)

    def test_fresh_states_have_none(self):
        rng = random.Random(3)
        for _ in range(40):
            names = NAMES[:rng.randint(1, 6)]
            days = tuple(day(*[Fraction(rng.randint(0, 20), rng.choice((1, 2, 3, 7))) for _ in names]) for _ in range(rng.randint(0, 5)))
            self.assertIsNone(stuck_list((fresh(*names), random_sections(rng, names), days)))

    def test_further_days(self):
        for seed, (sheet, stuck) in enumerate(stuck_sheets(40, astray=2)):
            rng = random.Random(seed)
            state, sections, days = sheet
            more = tuple(day(*[Fraction(rng.randint(0, 9), 4) if one[3] else 0 for one in state]) for _ in range(3))
            self.assertEqual(lets_stuck((state, sections, days + more), stuck), lets_stuck(sheet, stuck))

    def test_other_names(self):
        for sheet, stuck in stuck_sheets(40, most_lines=4, astray=2):
            state, sections, days = sheet
            names = {one[0]: "x" + chr(ord("a") + k) for k, one in enumerate(state)}
            renamed = tuple((names[one[0]],) + one[1:] for one in state)
            others = tuple(tuple(names[name] for name in section) for section in sections)
            self.assertEqual(lets_stuck((renamed, others, days), stuck), lets_stuck(sheet, stuck))

    def test_whole_cents_added(self):
        """To the exact value and the cents of a line, or to a charge: the same lists are stuck."""
        for seed, (sheet, stuck) in enumerate(stuck_sheets(40, most_lines=4, astray=2)):
            rng = random.Random(seed)
            state, sections, days = sheet
            i, d, more = rng.randrange(len(state)), rng.randrange(len(days)), rng.randint(1, 9)
            name, exact, cents, goes_on = state[i]
            added = changed(state, i, (name, fraction_pair(value_of(exact) + more), cents + more, goes_on))
            self.assertEqual(lets_stuck((added, sections, days), stuck), lets_stuck(sheet, stuck))
            if goes_on:
                charge = fraction_pair(value_of(days[d][i]) + more)
                later = changed(days, d, changed(days[d], i, charge))
                self.assertEqual(lets_stuck((state, sections, later), stuck), lets_stuck(sheet, stuck))

    def test_a_section_or_a_day_less(self):
        """Then the list is not stuck, or it is and its sums are still there."""
        changes = 0
        for sheet, stuck in stuck_sheets(60, most_lines=5, astray=2):
            state, sections, days = sheet
            for less in ((state, sections[:-1], days), part(sheet, 0, len(days) - 1), (state, (), days)):
                expected = stuck_error(less, stuck)
                self.assertEqual(caught_error(lets_stuck, less, stuck), expected)
                changes += expected != lets_stuck(sheet, stuck)
        self.assertGreater(changes, 20)

    def test_the_errors_family_and_arguments(self):
        self.assertTrue(issubclass(InvalidPaper, PaperError))
        shown = repr((THREE, GOOD))
        lets_stuck(THREE, GOOD)
        self.assertEqual(repr((THREE, GOOD)), shown)
        things = [["least", ["day", 0]]]
        self.check(THREE, things, "shape", -1)
        self.assertEqual(things, [["least", ["day", 0]]])

    def test_examples(self):
        self.assertEqual(lets_stuck(THREE, GOOD), 1)
        self.check(THREE, (("least", ("line", 1, 0)), ("least", ("line", 2, 0)), ("most", ("day", 0))), "entry", (0, 0))


if __name__ == "__main__":
    unittest.main()
