"""[55], [56], [7] (C10): the checker of steady papers."""

import random
import unittest
from fractions import Fraction

from centbook.errors import InvalidPaper
from centbook.steadiness import steady
from centbook.steadychecker import lets_steady
from tests.samples import (
    ODD_VALUES, all_close, booking_error, caught_error, changed, day, is_plain_open, is_plain_rows, is_plain_steady, line, looks_like,
    places_in, plain_states_behind, put_at, random_sections, random_sheet, spoiled,
)
from tests.test_steadiness import ONCE, open_ends

HALF, THIRD = Fraction(1, 2), Fraction(1, 3)
NEVER = ("never", ((),))

# Behind the first day one of a and b has the cent; c makes three halves of it on the second day.
STATE = tuple(line(name) for name in "abc")
TWICE = (STATE, (), (day(HALF, HALF, 0), day(0, 0, HALF)))
TABLE = (((0, 1, 0), (1, 0, 0)), ())
# One day like the first, and a whole one.
KEPT = (STATE, (("a", "b"),), (day(HALF, HALF, 0), day(1, 1, 1)))
STEADY = ("steady", ((0, 1, 0), (1, 1, 1)))


def is_plain_table(thing):
    return type(thing) is tuple and all(
        type(row) is tuple and all(type(cents) is tuple and all(type(one) is int for one in cents) for cents in row) for row in thing
    )


def table_error(sheet, table):
    """The first error of a table, or "never"."""
    state, sections, days = sheet
    if len(table) != len(days) or not days:
        return "rows", -1
    before = [tuple(one[2] for one in state)]
    for d, row in enumerate(table):
        if list(row) != sorted(set(row)) or any(len(cents) != len(state) for cents in row):
            return "row", d
        exact = tuple((one[0], found[1], 0, one[3]) for one, found in zip(state, plain_states_behind(sheet, ((0,) * len(state),) * (d + 1))[d]))
        last = (exact_before(exact, days[d]), sections, days[d:d + 1])
        for cents in before:
            there = tuple((one[0], one[1], many, one[3]) for one, many in zip(last[0], cents))
            if not set(open_ends((there,) + last[1:])[0]) <= set(row):
                return "missing", d
        before = row
    return "never" if not table[-1] else ("end", -1)


def exact_before(state, charges):
    """The state with the exact sums that it had before a day of charges."""
    found = []
    for (name, (over, under), cents, goes_on), (more, part) in zip(state, charges):
        exact = Fraction(over, under) - Fraction(more, part)
        found.append(line(name, exact, cents, goes_on))
    return tuple(found)


def steady_error(sheet, thing):
    """The word of a steady paper, or the first error (word, at) of any value, as the definition says."""
    if type(thing) is not tuple or len(thing) != 2 or type(thing[0]) is not str or thing[0] not in ("steady", "never"):
        return "shape", -1
    word, rest = thing
    if not (is_plain_rows(rest) if word == "steady" else is_plain_table(rest)):
        return "shape", -1
    if word == "never":
        return table_error(sheet, rest)
    found = booking_error(sheet, rest)
    if isinstance(found, tuple):
        return found
    for d, state in enumerate(plain_states_behind(sheet, rest)):
        if not is_plain_open(state):
            return "open", d
    return "steady"


def plain_table(sheet):
    """The table of a sheet without a steady booking, with no more cents than have to be there."""
    return tuple(map(tuple, open_ends(sheet)))


def sheets_without(many, seed=0):
    """Sheets with days that have no steady booking; half of them go on for a day at least."""
    found = []
    while len(found) < many:
        seed += 1
        sheet = random_sheet(seed, most_lines=4, most_days=3, astray=1 + seed % 2, unders=(2, 2, 3))
        if len(found) < many // 2:
            rng = random.Random(seed)
            days = tuple(day(*[Fraction(rng.randint(0, 3), rng.choice((2, 2, 4))) for _ in "abcd"]) for _ in range(rng.randint(2, 3)))
            sheet = (tuple(line(name) for name in "abcd"), random_sections(rng, list("abcd")), days)
            if steady((sheet[0], sheet[1], days[:1])) is None:
                continue
        if sheet[2] and steady(sheet) is None:
            found.append(sheet)
    return found


class SteadyCheckerTest(unittest.TestCase):
    def check(self, sheet, thing, word, at):
        with self.assertRaises(InvalidPaper, msg=repr(thing)) as caught:
            lets_steady(sheet, thing)
        found = (caught.exception.word, caught.exception.at)
        self.assertTrue(looks_like(found, (word, at)), (found, word, at, thing))

    def test_accepted(self):
        self.assertEqual(lets_steady(KEPT, STEADY), "steady")
        self.assertEqual(lets_steady(thing=("steady", ((1, 0, 0), (1, 1, 1))), sheet=KEPT), "steady")
        self.assertEqual(lets_steady(TWICE, ("never", TABLE)), "never")
        self.assertEqual(lets_steady(ONCE, NEVER), "never")

    def test_shape(self):
        for odd in ODD_VALUES:
            for sheet in (KEPT, TWICE):
                self.check(sheet, odd, "shape", -1)
                self.check(sheet, (odd, ()), "shape", -1)
                self.check(sheet, (odd, TABLE), "shape", -1)
                if not is_plain_rows(odd):
                    self.check(sheet, ("steady", odd), "shape", -1)
                if not is_plain_table(odd):
                    self.check(sheet, ("never", odd), "shape", -1)
                if not is_plain_table((odd,)):
                    self.check(sheet, ("never", (odd, ())), "shape", -1)
                if not is_plain_table(((odd,),)):
                    self.check(sheet, ("never", ((odd,), ())), "shape", -1)
        for thing in (
            ("steady",), ("never",), ("steady", (), ()), ("never", TABLE, ()), ["never", TABLE], ("Never", TABLE), ("never", list(TABLE)),
            ("never", (list(TABLE[0]), ())), ("never", (([0, 1, 0],), ())), ("never", (((0, True, 0),), ())), ("never", ((0, 1, 0), ())),
            ("steady", ((0, 1, 0), (1, 1, -1))), ("steady", ((0, 1, 0), (1, 1, True))), ("steady", TABLE), ("open", ()),
        ):
            self.check(TWICE, thing, "shape", -1)

    def test_errors_of_bookings(self):
        for booking, word, at in (
            ((), "days", -1), (((0, 1, 0),), "days", -1), (((0, 1), (1, 1, 1)), "lines", 0), (((0, 1, 0), (1, 1, 1, 1)), "lines", 1),
            (((0, 0, 0), (1, 1, 1)), "least", ("account", 0)), (((1, 1, 0), (1, 1, 1)), "most", ("account", 0)),
            (((0, 1, 0), (2, 0, 1)), "most", ("entry", 1, 0)), (((0, 1, 0), (0, 2, 1)), "least", ("entry", 1, 0)),
        ):
            self.check(KEPT, ("steady", booking), word, at)

    def test_open(self):
        self.check(ONCE, ("steady", ((0, 0, 1),)), "open", 0)
        self.check(ONCE, ("steady", ((1, 0, 1),)), "open", 0)
        self.check(TWICE, ("steady", ((0, 1, 0), (0, 0, 0))), "open", 1)
        twice = (STATE, (), (day(HALF, HALF, HALF),) * 2)
        self.check(twice, ("steady", ((0, 0, 1), (1, 1, 0))), "open", 0)

    def test_rows(self):
        for table in ((), ((),), TABLE + ((),), (((1, 2),), (), ((3,),))):
            self.check(TWICE, ("never", table), "rows", -1)
        for table in ((), ((),), (((0, 0, 0),),)):
            self.check((STATE, (), ()), ("never", table), "rows", -1)
        self.assertEqual(lets_steady((STATE, (), ()), ("steady", ())), "steady")

    def test_row(self):
        for row in (
            TABLE[0][::-1], TABLE[0][:1] * 2 + TABLE[0][1:], TABLE[0] + ((1, 0),), TABLE[0] + ((1, 0, 0, 0),), ((),) + TABLE[0],
            ((-1,),) + TABLE[0],
        ):
            self.check(TWICE, ("never", (row, ())), "row", 0)
        self.check(TWICE, ("never", (TABLE[0], ((0, 0),))), "row", 1)
        self.check(TWICE, ("never", (TABLE[0], ((0, 0, 1), (0, 0, 0)))), "row", 1)

    def test_missing(self):
        for row in ((), TABLE[0][:1], TABLE[0][1:], ((0, 0, 0), (1, 0, 0)), ((-1, 7, 0), (1, 0, 0))):
            self.check(TWICE, ("never", (row, ())), "missing", 0)
        self.check(KEPT, ("never", (TABLE[0], ())), "missing", 1)
        self.check(KEPT, ("never", (TABLE[0], ((1, 2, 1),))), "missing", 1)

    def test_end(self):
        self.check(KEPT, ("never", (TABLE[0], ((1, 2, 1), (2, 1, 1)))), "end", -1)
        self.check(TWICE, ("never", (TABLE[0], ((0, 0, 0),))), "end", -1)
        self.check(ONCE, ("never", (((-5, 7, 10 ** 50),),)), "end", -1)

    def test_further_cents(self):
        """They are accepted, but what is reached from them has to be there, too."""
        further = tuple(sorted(TABLE[0] + ((-9, 4, 4), (5, 5, 5), (0, 1, 1))))
        self.assertEqual(lets_steady(TWICE, ("never", (further, ()))), "never")
        whole = (STATE, (), (day(HALF, HALF, HALF), day(HALF, HALF, HALF)))
        self.assertEqual(lets_steady(whole, ("never", ((), ()))), "never")
        self.check(whole, ("never", (((0, 0, 1),), ())), "missing", 1)
        self.check(whole, ("never", (((0, 0, 1),), ((1, 1, 1),))), "end", -1)

    def test_two_errors(self):
        for table, word, at in (
            ((TABLE[0][::-1],), "rows", -1), ((((0, 1, 0), (0, 1)), ((0,),)), "row", 0), ((((0, 1, 0),), ((0,),)), "missing", 0),
            ((TABLE[0], ((0,), (0,))), "row", 1), ((((1, 0, 0), (0, 1, 0)), ()), "row", 0), (((), ((0, 0, 0),)), "missing", 0),
        ):
            self.check(TWICE, ("never", table), word, at)
        self.check(ONCE, ("steady", ((0, 0, 1), ())), "days", -1)
        self.check(ONCE, ("steady", ((0, 0, 2),)), "most", ("entry", 0, 2))

    def test_tables(self):
        """The tables of small sheets, with no more than is needed, and with one of the cents less."""
        missing = 0
        for sheet in sheets_without(60):
            table = plain_table(sheet)
            self.assertEqual(table_error(sheet, table), "never")
            self.assertEqual(lets_steady(sheet, ("never", table)), "never", repr((sheet, table)))
            for d, row in enumerate(table):
                for k in range(len(row)):
                    self.check(sheet, ("never", changed(table, d, row[:k] + row[k + 1:])), "missing", d)
                    missing += 1
            self.check(sheet, ("never", table[:-1] + ((tuple(0 for _ in sheet[0]),),)), "end", -1)
        self.assertGreater(missing, 30)

    def test_bookings(self):
        """Each close booking of small sheets is accepted if it is steady."""
        seen = {True: 0, False: 0}
        for sheet in [random_sheet(seed, most_lines=4, most_days=2, astray=1 + seed % 2) for seed in range(60)] + sheets_without(12):
            for booking in all_close(sheet)[:20]:
                found = caught_error(lets_steady, sheet, ("steady", booking))
                self.assertTrue(looks_like(found, steady_error(sheet, ("steady", booking))), repr((sheet, booking)))
                self.assertIs(found == "steady", is_plain_steady(sheet, booking))
                seen[found == "steady"] += 1
        self.assertGreater(min(seen.values()), 30)

    def test_what_is_accepted_is_true(self):
        """(C10): no table is accepted for a sheet that has a steady booking."""
        rng = random.Random(1)
        tables = [plain_table(sheet) for sheet in sheets_without(30)]
        for seed in range(150):
            sheet = random_sheet(seed, most_lines=4, most_days=3)
            booking = steady(sheet)
            for table in rng.sample(tables, 5) + [plain_table(sheet)]:
                found = caught_error(lets_steady, sheet, ("never", table))
                self.assertTrue(looks_like(found, steady_error(sheet, ("never", table))), repr((sheet, table)))
                self.assertFalse(found == "never" and booking is not None)

    def test_spoiled_papers(self):
        """Papers with one or two parts changed, against the definition."""
        seen = {}
        papers = [(KEPT, STEADY), (TWICE, ("never", TABLE))]
        for sheet in sheets_without(40, seed=700):
            papers.append((sheet, ("never", plain_table(sheet))))
        for seed in range(40):
            sheet = random_sheet(seed, most_lines=4, most_days=3)
            if steady(sheet) is not None:
                papers.append((sheet, ("steady", steady(sheet))))
        for seed, (sheet, paper) in enumerate(papers):
            rng = random.Random(seed)
            for k in range(50):
                thing = spoiled(paper, rng)
                self.check_against_definition(sheet, spoiled(thing, rng) if k % 3 == 0 else thing, seen)
        for sheet, paper in papers[:2]:
            for path in list(places_in(paper)):
                for odd in ODD_VALUES + ((0, 0, 0), (0, 1, 1), (1, 1, 0), ((2, 2, 2),), "steady", "never"):
                    self.check_against_definition(sheet, put_at(paper, path, odd), seen)
        self.assertLessEqual({"shape", "days", "lines", "least", "most", "rows", "row", "missing", "end", "steady", "never"}, set(seen))

    def check_against_definition(self, sheet, thing, seen):
        expected = steady_error(sheet, thing)
        found = caught_error(lets_steady, sheet, thing)
        self.assertTrue(looks_like(found, expected), repr((sheet, thing, found, expected)))
        word = expected[0] if isinstance(expected, tuple) else expected
        seen[word] = seen.get(word, 0) + 1

    def test_names_of_arguments_and_what_is_kept(self):
        shown = repr((TWICE, TABLE))
        self.assertEqual(lets_steady(thing=("never", TABLE), sheet=TWICE), "never")
        self.assertEqual(repr((TWICE, TABLE)), shown)

    def test_examples(self):
        self.assertEqual(lets_steady(ONCE, ("never", ((),))), "never")


if __name__ == "__main__":
    unittest.main()
