"""[53], [56], [7] (C9, C10): correction papers and their checker."""

import math
import random
import unittest
from fractions import Fraction

from centbook.correcting import corrections
from centbook.correctionchecker import lets_corrections
from centbook.correctionpapers import correction_paper
from centbook.errors import InvalidPaper
from centbook.findings import found_booking
from centbook.kinds import is_fraction
from centbook.sums import sums_of
from tests.samples import (
    ODD_VALUES, all_close, booking_error, caught_error, changed, day, is_plain_rows, is_plain_sum, line, looks_like, places_in, plain_sums,
    put_at, random_sheet, shifted, spoiled, value_of,
)
from tests.test_correcting import size_of

HALF, THIRD = Fraction(1, 2), Fraction(1, 3)
ONE = (1, 1)
TWO = (("a", (1, 2), 1, True), ("b", (1, 2), 1, True))

# Both lines are whole after the day, with a cent each; so one of the two cents has to go, for the day has one cent.
SHEET = (TWO, (), (((1, 2), (1, 2)),))
WEIGHTS = (("least", ("day", 0), ONE), ("most", ("line", 0, 0), ONE), ("most", ("line", 1, 0), ONE))
PAPER = ((-1, 0), ((1, 0),), WEIGHTS)


def is_plain_integers(thing):
    return type(thing) is tuple and all(type(one) is int for one in thing)


def is_plain_loose(thing):
    """Whether a value is a tuple of (string, tuple that begins with a string, fraction)."""
    return type(thing) is tuple and all(
        type(row) is tuple and len(row) == 3 and type(row[0]) is str and type(row[1]) is tuple and row[1] != ()
        and type(row[1][0]) is str and is_fraction(row[2]) for row in thing
    )


def rows_error(rows, weights):
    """The first error of the rows of weights, or None."""
    earlier = []
    for k, (side, which, weight) in enumerate(weights):
        if side not in ("least", "most") or not is_plain_sum(which) or which not in rows or weight[0] <= 0:
            return "weights", k
        if any((side, which) <= pair for pair in earlier):
            return "weights", k
        earlier.append((side, which))
    return None


def correction_error(sheet, thing):
    """The size of a correction paper, or the first error (word, at) of any value, as the definition says."""
    if type(thing) is not tuple or len(thing) != 3:
        return "shape", -1
    changes, booking, weights = thing
    if not is_plain_integers(changes) or not is_plain_rows(booking) or not is_plain_loose(weights):
        return "shape", -1
    state, sections, days = sheet
    if len(changes) != len(state):
        return "changes", -1
    found = booking_error((shifted(state, changes), sections, days), booking)
    if isinstance(found, tuple):
        return found
    rows = {which: (entries, exact, fixed) for which, entries, exact, fixed in plain_sums(sheet)}
    error = rows_error(rows, weights)
    if error is not None:
        return error
    loads = {(d, i): Fraction(0) for d in range(len(days)) for i in range(len(state))}
    states, worth = [Fraction(0) for _ in state], Fraction(0)
    for side, which, weight in weights:
        entries, exact, fixed = rows[which]
        signed = value_of(weight) if side == "least" else -value_of(weight)
        worth += signed * ((math.floor(exact) if side == "least" else math.ceil(exact)) - fixed)
        for entry in entries:
            loads[entry] += signed
        for i in range(len(state)):
            if which[0] == "account" or which[:2] == ("line", i):
                states[i] += signed
    for entry in sorted(loads):
        if loads[entry] != 0:
            return "entry", entry
    for i, load in enumerate(states):
        if not -1 <= load <= 1:
            return "line", i
    return size_of(changes) if worth == size_of(changes) else ("worth", -1)


class CorrectionCheckerTest(unittest.TestCase):
    def check(self, sheet, thing, word, at):
        with self.assertRaises(InvalidPaper, msg=repr(thing)) as caught:
            lets_corrections(sheet, thing)
        found = (caught.exception.word, caught.exception.at)
        self.assertTrue(looks_like(found, (word, at)), (found, word, at, thing))

    def test_accepted(self):
        self.assertEqual(lets_corrections(SHEET, PAPER), 1)
        self.assertEqual(lets_corrections(thing=PAPER, sheet=SHEET), 1)
        self.assertEqual(lets_corrections(SHEET, ((0, -1), ((0, 1),), WEIGHTS)), 1)
        doubled = tuple((side, which, (1, 2)) for side, which, _ in WEIGHTS)
        self.check(SHEET, ((-1, 0), ((1, 0),), doubled), "worth", -1)

    def test_accepted_with_accounts(self):
        """A weight of the account loads all entries and the states of all lines."""
        sheet = ((line("a", 2, 4), line("b", 1, 2)), (), (day(1, 0),))
        weights = (("least", ("day", 0), ONE), ("most", ("account", 0), ONE))
        paper = ((-2, -1), ((1, 0),), weights)
        self.assertEqual(lets_corrections(sheet, paper), 3)
        self.assertEqual(lets_corrections(sheet, changed(paper, 2, (
            ("least", ("day", 0), (1, 3)), ("least", ("entry", 0, 0), (2, 3)), ("least", ("entry", 0, 1), (2, 3)),
            ("most", ("account", 0), (1, 3)), ("most", ("line", 0, 0), (2, 3)), ("most", ("line", 1, 0), (2, 3)),
        ))), 3)
        self.check(sheet, ((-2, -1), ((1, 0),), weights[:1] + (("most", ("account", 0), (1, 2)),)), "entry", (0, 0))

    def test_without_days(self):
        self.assertEqual(lets_corrections((TWO, (), ()), ((0, 0), (), ())), 0)
        self.check((TWO, (), ()), ((0, 1), (), ()), "worth", -1)
        self.check((TWO, (), ()), ((0, 0), ((),), ()), "days", -1)
        self.check((TWO, (), ()), ((0, 0), (), (("least", ("day", 0), ONE),)), "weights", 0)

    def test_shape(self):
        for odd in ODD_VALUES:
            self.check(SHEET, odd, "shape", -1)
            if not is_plain_integers(odd):
                self.check(SHEET, changed(PAPER, 0, odd), "shape", -1)
            if not is_plain_rows(odd):
                self.check(SHEET, changed(PAPER, 1, odd), "shape", -1)
            if not is_plain_loose(odd):
                self.check(SHEET, changed(PAPER, 2, odd), "shape", -1)
                self.check(SHEET, changed(PAPER, 2, WEIGHTS + (odd,)), "shape", -1)
            if not isinstance(odd, str):
                self.check(SHEET, changed(PAPER, 2, ((odd, ("day", 0), ONE),)), "shape", -1)
                self.check(SHEET, changed(PAPER, 2, (("least", (odd, 0), ONE),)), "shape", -1)
            if type(odd) is not tuple or odd == () or not isinstance(odd[0], str):
                self.check(SHEET, changed(PAPER, 2, (("least", odd, ONE),)), "shape", -1)
            if not is_fraction(odd):
                self.check(SHEET, changed(PAPER, 2, (("least", ("day", 0), odd),)), "shape", -1)
        for thing in (
            PAPER + ((),), PAPER[:2], list(PAPER), ((True, 0),) + PAPER[1:], ([-1, 0],) + PAPER[1:], ((-1, 0), ((True, 0),), WEIGHTS),
            ((-1, 0), ((1, -1),), WEIGHTS), ((-1, 0), ((1, 0),), list(WEIGHTS)), ((-1, 0), ((1, 0),), (("least", ("day", 0), (2, 2)),)),
            ((-1, 0), ((1, 0),), (("least", ("day", 0), ONE, 0),)), ((-1, 0), ((1, 0),), (["least", ("day", 0), ONE],)),
        ):
            self.check(SHEET, thing, "shape", -1)

    def test_changes(self):
        for changes in ((), (0,), (-1, 0, 0), (-1, 0, 5, 5)):
            self.check(SHEET, changed(PAPER, 0, changes), "changes", -1)

    def test_booking(self):
        """The errors of the booking of the sheet with the corrected state."""
        for booking, word, at in (
            ((), "days", -1), (((1, 0), (0, 0)), "days", -1), (((1,),), "lines", 0), (((1, 0, 0),), "lines", 0),
            (((0, 0),), "least", ("account", 0)), (((1, 1),), "most", ("account", 0)), (((2, 0),), "most", ("account", 0)),
            (((0, 1),), "least", ("line", 0, 0)),
        ):
            self.check(SHEET, changed(PAPER, 1, booking), word, at)
        self.check(SHEET, changed(PAPER, 0, (0, 0)), "most", ("account", 0))
        self.check(SHEET, ((-1, 0), ((0, 1),), ()), "least", ("line", 0, 0))
        self.check(SHEET, ((-3, 1), ((1, 0),), ()), "least", ("account", 0))

    def test_weights(self):
        for row in (
            ("leas", ("day", 0), ONE), ("more", ("entry", 0, 0), ONE), ("", ("day", 0), ONE), ("Most", ("day", 0), ONE),
            ("zz", ("day", 0), ONE), ("most", ("days", 0), ONE), ("most", ("", 0), ONE), ("most", ("line", 0), ONE),
            ("most", ("line", 0, 1), ONE), ("most", ("line", 2, 0), ONE), ("most", ("section", 0, 0), ONE), ("most", ("line", -1, 0), ONE),
            ("most", ("line", 1, 0, 0), ONE), ("most", ("line",), ONE), ("most", ("zz", "a", None), ONE), ("most", ("line", 1, "0"), ONE),
            ("most", ("line", 1, None), ONE), ("most", ("line", True, 0), ONE), ("most", ("line", 1, False), ONE), ("most", ("line", 1, (0,)), ONE),
            ("zz", ("line", None, []), ONE),
        ):
            self.check(SHEET, changed(PAPER, 2, WEIGHTS + (row,)), "weights", 3)
            self.check(SHEET, changed(PAPER, 2, (row,) + WEIGHTS), "weights", 0)
            self.check(SHEET, changed(PAPER, 2, WEIGHTS[:1] + (row,) + WEIGHTS[1:]), "weights", 1)

    def test_weights_of_zero_and_below(self):
        for k in range(3):
            for weight in ((0, 1), (-1, 1), (-1, 3)):
                self.check(SHEET, changed(PAPER, 2, changed(WEIGHTS, k, WEIGHTS[k][:2] + (weight,))), "weights", k)

    def test_weights_that_do_not_ascend(self):
        self.check(SHEET, changed(PAPER, 2, WEIGHTS[::-1]), "weights", 1)
        self.check(SHEET, changed(PAPER, 2, WEIGHTS + WEIGHTS[2:]), "weights", 3)
        self.check(SHEET, changed(PAPER, 2, WEIGHTS + (("most", ("line", 1, 0), (2, 1)),)), "weights", 3)
        self.check(SHEET, changed(PAPER, 2, (WEIGHTS[0], WEIGHTS[2], WEIGHTS[1])), "weights", 2)
        self.check(SHEET, changed(PAPER, 2, (("least", ("day", 0), (1, 2)),) + WEIGHTS), "weights", 1)

    def test_a_sum_with_true_behind_an_equal_one(self):
        """It is the error of its own row, although it equals the one before."""
        for row in (("most", ("line", True, 0), ONE), ("most", ("line", 1, False), ONE), ("most", ("line", "x", 0), ONE)):
            self.check(SHEET, changed(PAPER, 2, WEIGHTS + (row, ("no", ("no",), ONE))), "weights", 3)

    def test_entry(self):
        self.check(SHEET, changed(PAPER, 2, WEIGHTS[:2]), "entry", (0, 1))
        self.check(SHEET, changed(PAPER, 2, WEIGHTS[1:]), "entry", (0, 0))
        self.check(SHEET, changed(PAPER, 2, changed(WEIGHTS, 1, ("most", ("line", 0, 0), (1, 2)))), "entry", (0, 0))
        self.check(SHEET, changed(PAPER, 2, (("least", ("entry", 0, 1), (5, 1)),)), "entry", (0, 1))

    def test_line(self):
        twice = tuple((side, which, (2, 1)) for side, which, _ in WEIGHTS)
        self.check(SHEET, changed(PAPER, 2, twice), "line", 0)
        one = (("least", ("entry", 0, 1), (3, 2)), ("most", ("line", 1, 0), (3, 2)))
        self.check(SHEET, changed(PAPER, 2, one), "line", 1)
        other = (("least", ("line", 1, 0), (10 ** 9 + 1, 10 ** 9)), ("most", ("entry", 0, 1), (10 ** 9 + 1, 10 ** 9)))
        self.check(SHEET, changed(PAPER, 2, other), "line", 1)

    def test_worth(self):
        self.check(SHEET, changed(PAPER, 2, ()), "worth", -1)
        self.check(SHEET, ((-2, 1), ((1, 0),), WEIGHTS), "least", ("line", 0, 0))
        sheet = ((line("a", 2, 2), line("b", HALF, 0)), (), (day(0, THIRD),))
        self.assertEqual(lets_corrections(sheet, ((0, 0), ((0, 0),), ())), 0)
        self.check(sheet, ((0, 1), ((0, 0),), ()), "worth", -1)
        self.check(sheet, ((0, 1), ((0, 0),), (("least", ("line", 0, 0), ONE), ("most", ("entry", 0, 0), ONE))), "worth", -1)

    def test_two_errors(self):
        bad = (("no", ("day", 0), ONE),)
        for thing, word, at in (
            (((0,), ((1, 1), ()), bad), "changes", -1), (((0, 0), (), bad), "days", -1), (((0,), ((True,),), bad), "shape", -1),
            (((0, 0), ((1, 1),), bad), "most", ("account", 0)), ((PAPER[0], PAPER[1], WEIGHTS[:2] + bad), "weights", 2),
            ((PAPER[0], PAPER[1], (("least", ("entry", 0, 1), (5, 1)), ("most", ("line", 0, 0), (5, 1)))), "entry", (0, 0)),
            ((PAPER[0], PAPER[1], WEIGHTS[::-1] + bad), "weights", 1), ((PAPER[0], PAPER[1], bad + WEIGHTS[::-1]), "weights", 0),
            ((PAPER[0], PAPER[1], (("least", ("entry", 0, 0), (5, 1)), ("most", ("line", 0, 0), (5, 1)))), "line", 0),
        ):
            self.check(SHEET, thing, word, at)

    def test_papers(self):
        """They are accepted, with the least size."""
        seen = {}
        for seed in range(300):
            sheet = random_sheet(seed, most_lines=4, most_days=4, astray=1 + seed % 4)
            paper = correction_paper(sheet)
            self.assertTrue(looks_like(correction_error(sheet, paper), size_of(paper[0])), repr((sheet, paper)))
            self.assertEqual(lets_corrections(sheet, paper), size_of(corrections(sheet)), repr(sheet))
            for side, which, _ in paper[2]:
                seen[side, which[0]] = seen.get((side, which[0]), 0) + 1
        self.assertLessEqual({(side, word) for side in ("least", "most") for word in ("account", "day", "entry", "line")}, set(seen))

    def test_papers_of_sheets_that_fit(self):
        """Size 0: exactly if there is a close booking."""
        for seed in range(120):
            sheet = random_sheet(seed + 500, most_lines=5, most_days=4)
            self.assertIs(lets_corrections(sheet, correction_paper(sheet)) == 0, found_booking(sheet) is not None)

    def test_papers_of_large_sheets(self):
        rng = random.Random(7)
        for k in range(10):
            state = tuple(line(name, Fraction(rng.randint(0, 10 ** 6), rng.choice((1, 3, 9999))), rng.randint(-9, 10 ** 6)) for name in "abcdef")
            days = tuple(day(*[Fraction(rng.randint(0, 9000), rng.choice((9, 14, 9973))) for _ in state]) for _ in range(10))
            sheet = (state, (("a", "b", "c"), ("a", "c"), ("d", "e")), days)
            paper = correction_paper(sheet)
            self.assertTrue(looks_like(correction_error(sheet, paper), lets_corrections(sheet, paper)))

    def test_papers_without_days(self):
        for state in (TWO, (line("a", 3, -70, False),)):
            self.assertEqual(correction_paper((state, (), ())), ((0,) * len(state), (), ()))

    def test_spoiled_papers(self):
        """Papers with one or two parts changed, against the definition."""
        seen = {}
        for seed in range(90):
            rng = random.Random(seed)
            sheet = random_sheet(seed + 40, most_days=2, astray=1 + seed % 3)
            paper = correction_paper(sheet)
            for k in range(60):
                thing = spoiled(paper, rng)
                self.check_against_definition(sheet, spoiled(thing, rng) if k % 3 == 0 else thing, seen)
        for path in list(places_in(PAPER)):
            for odd in ODD_VALUES + ("least", "most", "day", "line", 2, 3, (2, 1), (1, 2)):
                self.check_against_definition(SHEET, put_at(PAPER, path, odd), seen)
        self.assertLessEqual({"shape", "changes", "days", "lines", "least", "most", "weights", "entry", "worth", 0, 1}, set(seen))

    def test_other_weights(self):
        """Weights of any sums, scaled, and with more sums on both sides, against the definition."""
        seen = {}
        for seed in range(150):
            rng = random.Random(seed)
            sheet = random_sheet(seed + 90, most_days=2, astray=2)
            changes, booking, weights = correction_paper(sheet)
            more = {(side, which): value_of(weight) for side, which, weight in weights}
            factor = rng.choice((1, 1, 2, HALF))
            for pair in list(more):
                more[pair] *= factor
            for which in rng.sample(list(sums_of(sheet)), min(2, len(list(sums_of(sheet))))):
                for side in ("least", "most"):
                    more[side, which] = more.get((side, which), Fraction(0)) + THIRD
            rows = tuple((side, which, (one.numerator, one.denominator)) for (side, which), one in sorted(more.items()))
            self.check_against_definition(sheet, (changes, booking, rows), seen)
        self.assertLessEqual({"line", "worth", 0, 1, 2}, set(seen))

    def check_against_definition(self, sheet, thing, seen):
        expected = correction_error(sheet, thing)
        found = caught_error(lets_corrections, sheet, thing)
        self.assertTrue(looks_like(found, expected), repr((sheet, thing, found, expected)))
        word = expected[0] if isinstance(expected, tuple) else expected
        seen[word] = seen.get(word, 0) + 1

    def test_no_smaller_size_is_accepted(self):
        """(C10): of any corrections, only the fewest are accepted, with whatever weights."""
        for seed in range(60):
            sheet = random_sheet(seed, most_lines=3, most_days=2, astray=2)
            paper = correction_paper(sheet)
            rng = random.Random(seed)
            for _ in range(20):
                changes = tuple(rng.randint(-3, 3) for _ in sheet[0])
                for booking in all_close((shifted(sheet[0], changes), sheet[1], sheet[2]))[:2]:
                    found = caught_error(lets_corrections, sheet, (changes, booking, paper[2]))
                    self.assertEqual(found == size_of(paper[0]), size_of(changes) == size_of(paper[0]))
                    self.assertGreaterEqual(size_of(changes), size_of(paper[0]) if sheet[2] else 0)

    def test_names_of_arguments_and_what_is_kept(self):
        shown = repr((SHEET, PAPER))
        lets_corrections(thing=PAPER, sheet=SHEET)
        paper = correction_paper(sheet=SHEET)
        self.assertEqual(lets_corrections(SHEET, paper), 1)
        self.assertTrue(type(paper) is tuple and all(type(one) is tuple for one in paper))
        self.assertEqual(repr((SHEET, PAPER)), shown)

    def test_examples(self):
        self.assertEqual(lets_corrections((TWO, (), ()), ((0, 0), (), ())), 0)


if __name__ == "__main__":
    unittest.main()
