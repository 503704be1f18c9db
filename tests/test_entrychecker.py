"""[39], [40]: papers of free and forced entries, and their checker."""

import random
import unittest
from fractions import Fraction

from centbook.entrychecker import lets_entry
from centbook.entrypapers import entry_paper
from centbook.errors import InvalidPaper
from centbook.forced import is_free
from centbook.sheets import fresh
from tests.samples import (
    ODD_VALUES, all_close, caught_error, changed, day, is_plain_list, is_plain_rows, keeps_bounds, line, list_error, looks_like,
    plain_sums, random_sheet, spoiled,
)

HALF, THIRD = Fraction(1, 2), Fraction(1, 3)
SHEET = ((("a", (0, 1), 0, True), ("b", (0, 1), 0, True)), (), (((1, 2), (1, 2)), ((1, 2), (1, 2))))
MIXED = ((("a", (0, 1), 0, True), ("b", (0, 1), 0, True)), (), (((1, 1), (1, 2)),))
THREE = ((("a", (1, 2), 1, True), ("b", (1, 2), 0, True), ("c", (1, 2), 0, True)), (), (((0, 1), (1, 2), (1, 2)),))
MORE = (("more", ("entry", 0, 0)), ("most", ("entry", 0, 0)))
LESS = (("least", ("entry", 0, 0)), ("less", ("entry", 0, 0)))
FORCED = ("forced", ((1, 0),), MORE, LESS)
FREE = ("free", ((0, 1), (1, 0)), ((1, 0), (0, 1)))

# Line a is half a cent behind, so its half cent has to be booked as one cent; b decides nothing.
BEHIND = ((line("a", HALF, 0), line("b")), (), (day(HALF, THIRD),))
BEHIND_MORE = (("more", ("entry", 0, 0)), ("most", ("line", 0, 0)))
BEHIND_LESS = (("least", ("line", 0, 0)), ("less", ("entry", 0, 0)))


def is_close_by_definition(sheet, booking):
    state, _, days = sheet
    if len(booking) != len(days) or any(len(row) != len(state) for row in booking):
        return False
    return keeps_bounds(plain_sums(sheet), booking)


def entry_error(sheet, d, i, thing):
    """The word of an entry paper, or the first error (word, at) of any other value, as the definition says."""
    if type(thing) is not tuple or not thing or type(thing[0]) is not str:
        return "shape", -1
    if thing[0] == "free" and len(thing) == 3 and all(map(is_plain_rows, thing[1:])):
        for word, booking in zip(("one", "other"), thing[1:]):
            if not is_close_by_definition(sheet, booking):
                return word, -1
        return ("same", -1) if thing[1][d][i] == thing[2][d][i] else "free"
    if thing[0] != "forced" or len(thing) != 4 or not is_plain_rows(thing[1]):
        return "shape", -1
    if not is_plain_list(thing[2], ("least", "most", "more")) or not is_plain_list(thing[3], ("least", "most", "less")):
        return "shape", -1
    booking = thing[1]
    if not is_close_by_definition(sheet, booking):
        return "booking", -1
    cents, entry = booking[d][i], ("entry", d, i)
    for n, extra in enumerate(({"more": (1, entry, cents + 1)}, {"less": (-1, entry, cents - 1)})):
        error = list_error(sheet, thing[2 + n], extra)
        if isinstance(error, tuple):
            word, at = error
            return word, n if at == -1 else (n,) + (at if isinstance(at, tuple) else (at,))
    return "forced"


class EntryCheckerTest(unittest.TestCase):
    def check(self, sheet, d, i, thing, word, at):
        with self.assertRaises(InvalidPaper, msg=repr(thing)) as caught:
            lets_entry(sheet, d, i, thing)
        found = (caught.exception.word, caught.exception.at)
        self.assertTrue(looks_like(found, (word, at)), (found, word, at, thing))

    def test_accepted(self):
        self.assertEqual(lets_entry(MIXED, 0, 0, FORCED), "forced")
        self.assertEqual(lets_entry(thing=FREE, i=1, d=0, sheet=SHEET), "free")
        self.assertEqual(lets_entry(SHEET, 1, 0, ("free", FREE[2], FREE[1])), "free")
        self.assertEqual(lets_entry(BEHIND, 0, 0, ("forced", ((1, 0),), BEHIND_MORE, BEHIND_LESS)), "forced")
        self.assertEqual(lets_entry(BEHIND, 0, 0, ("forced", ((1, 0),), MORE, BEHIND_LESS)), "forced")

    def test_a_list_without_the_entry_itself(self):
        """It would have to be a stuck list, and with a close booking there is none."""
        for pairs in ((), (("least", ("entry", 0, 0)), ("most", ("entry", 0, 0)))):
            self.check(MIXED, 0, 0, ("forced", ((1, 0),), pairs, LESS), "gain", 0)
            self.check(MIXED, 0, 0, ("forced", ((1, 0),), MORE, pairs), "gain", 1)

    def test_shape(self):
        for odd in ODD_VALUES:
            self.check(MIXED, 0, 0, odd, "shape", -1)
            self.check(MIXED, 0, 0, (odd,) + FORCED[1:], "shape", -1)
            self.check(SHEET, 0, 0, (odd,) + FREE[1:], "shape", -1)
            if not is_plain_rows(odd):
                self.check(MIXED, 0, 0, changed(FORCED, 1, odd), "shape", -1)
                self.check(SHEET, 0, 0, changed(FREE, 1, odd), "shape", -1)
                self.check(SHEET, 0, 0, changed(FREE, 2, odd), "shape", -1)
            if odd != ():
                self.check(MIXED, 0, 0, changed(FORCED, 2, odd), "shape", -1)
                self.check(MIXED, 0, 0, changed(FORCED, 3, odd), "shape", -1)
            self.check(MIXED, 0, 0, changed(FORCED, 2, MORE + (odd,)), "shape", -1)
            self.check(MIXED, 0, 0, changed(FORCED, 3, (("less", odd),)), "shape", -1)
            self.check(MIXED, 0, 0, changed(FORCED, 3, ((odd, ("entry", 0, 0)),)), "shape", -1)
        for thing in (
            FREE[:2], FREE + (FREE[1],), ("free",), ("free", (), (), ()), FORCED[:3], FORCED + ((),), ("forced", FORCED[1], MORE),
            ("forced",) + FREE[1:], ("free",) + FORCED[1:], list(FORCED), list(FREE), FORCED[1:], ("Free",) + FREE[1:],
            changed(FORCED, 2, LESS), changed(FORCED, 3, MORE), changed(FORCED, 2, list(MORE)), changed(FORCED, 1, [(1, 0)]),
            changed(FORCED, 1, ((True, 0),)), changed(FREE, 1, ((0, 1), (True, 0))), changed(FREE, 2, ((0, -1), (1, 0))),
            changed(FORCED, 2, (("more", ("entry", False, 0)), MORE[1])), changed(FORCED, 2, (("more", ("entry", 0)), MORE[1])),
            changed(FORCED, 2, (("less", ("entry", 0, 0)),)), changed(FORCED, 3, (("more", ("entry", 0, 0)),)), ("forced", MORE, LESS),
        ):
            self.check(MIXED, 0, 0, thing, "shape", -1)

    def test_free_errors(self):
        good, other = FREE[1:]
        for bad in ((), ((0, 1),), ((0, 1), (1, 0), (0, 0)), ((0,), (1, 0)), ((0, 1), (0, 1)), ((0, 1), (1, 1)), ((), ()), ((0, 1, 0), (1, 0))):
            self.check(SHEET, 0, 0, ("free", bad, other), "one", -1)
            self.check(SHEET, 0, 0, ("free", good, bad), "other", -1)
            self.check(SHEET, 0, 0, ("free", bad, bad), "one", -1)
        self.check(SHEET, 0, 0, ("free", good, good), "same", -1)
        self.check(SHEET, 1, 1, ("free", other, other), "same", -1)
        self.check(MIXED, 0, 0, ("free", ((1, 0),), ((1, 1),)), "same", -1)
        self.assertEqual(lets_entry(MIXED, 0, 1, ("free", ((1, 0),), ((1, 1),))), "free")

    def test_booking(self):
        for bad in ((), ((1,),), ((1, 0, 0),), ((1, 0), (0, 0)), ((0, 0),), ((2, 0),), ((1, 2),)):
            self.check(MIXED, 0, 0, changed(FORCED, 1, bad), "booking", -1)
            self.check(MIXED, 0, 0, ("forced", bad, MORE[::-1], ()), "booking", -1)
        self.assertEqual(lets_entry(MIXED, 0, 0, changed(FORCED, 1, ((1, 1),))), "forced")

    def test_order(self):
        self.check(MIXED, 0, 0, ("forced", ((1, 0),), MORE[::-1], LESS[::-1]), "order", 0)
        self.check(MIXED, 0, 0, ("forced", ((1, 0),), MORE, LESS[::-1]), "order", 1)
        self.check(MIXED, 0, 0, ("forced", ((1, 0),), MORE[:1] + MORE, LESS), "order", 0)
        self.check(MIXED, 0, 0, ("forced", ((1, 0),), MORE, LESS + LESS[1:]), "order", 1)

    def test_sum(self):
        for which in (("entry", 1, 0), ("entry", 0, 2), ("line", 2, 0), ("day", 1), ("account", 7), ("section", 0, 0)):
            more = tuple(sorted(MORE + (("least", which),)))
            self.check(MIXED, 0, 0, ("forced", ((1, 0),), more, LESS), "sum", (0, more.index(("least", which))))
            less = tuple(sorted(LESS + (("most", which),)))
            self.check(MIXED, 0, 0, ("forced", ((1, 0),), MORE, less), "sum", (1, less.index(("most", which))))
        for which in (("entry", 0, 1), ("line", 0, 0), ("day", 0), ("account", 0), ("entry", 9, 9)):
            self.check(MIXED, 0, 0, changed(FORCED, 2, (("more", which), MORE[1])), "sum", (0, 0))
            self.check(MIXED, 0, 0, changed(FORCED, 3, (LESS[0], ("less", which))), "sum", (1, 1))
            self.check(MIXED, 0, 1, changed(FORCED, 2, (("least", ("entry", 0, 1)), ("more", ("entry", 0, 0)))), "sum", (0, 1))

    def test_entry(self):
        self.check(MIXED, 0, 0, changed(FORCED, 2, MORE[:1]), "entry", (0, 0, 0))
        self.check(MIXED, 0, 0, changed(FORCED, 3, LESS[1:]), "entry", (1, 0, 0))
        self.check(MIXED, 0, 0, changed(FORCED, 2, (("more", ("entry", 0, 0)), ("most", ("day", 0)))), "entry", (0, 0, 1))
        self.check(MIXED, 0, 0, changed(FORCED, 3, (("least", ("account", 0)), ("less", ("entry", 0, 0)))), "entry", (1, 0, 1))
        days = (BEHIND[0], (), BEHIND[2] + (day(0, THIRD),))
        self.check(days, 0, 0, ("forced", ((1, 0), (0, 0)), (("more", ("entry", 0, 0)), ("most", ("account", 1))), ()), "entry", (0, 0, 1))

    def test_gain(self):
        self.check(MIXED, 0, 1, ("forced", ((1, 0),), (("more", ("entry", 0, 1)), ("most", ("entry", 0, 1))), ()), "gain", 0)
        zero = (("least", ("entry", 0, 1)), ("less", ("entry", 0, 1)))
        one = (("more", ("entry", 0, 1)), ("most", ("entry", 0, 1)))
        self.check(MIXED, 0, 1, ("forced", ((1, 0),), one, zero), "gain", 0)
        self.check(MIXED, 0, 1, ("forced", ((1, 1),), one, zero), "gain", 1)
        self.check(BEHIND, 0, 0, ("forced", ((1, 0),), BEHIND_MORE, LESS), "gain", 1)

    def test_two_errors(self):
        self.check(MIXED, 0, 0, ("forced", ((0, 0),), MORE[::-1], LESS[::-1]), "booking", -1)
        self.check(MIXED, 0, 0, ("forced", ((1, 0),), MORE[:1], LESS[::-1]), "entry", (0, 0, 0))
        self.check(MIXED, 0, 0, ("forced", ((1, 0),), (MORE[1], ("least", ("day", 5))), LESS), "order", 0)
        self.check(MIXED, 0, 0, ("forced", ((1, 0),), (("least", ("day", 5)), MORE[0]), LESS[1:]), "sum", (0, 0))
        self.check(MIXED, 0, 0, ("forced", ((1, 0),), (), LESS[1:]), "gain", 0)
        self.check(MIXED, 0, 0, ("forced", ((1, 0),), MORE, (("least", ("day", 0)), ("less", ("entry", 0, 1)))), "sum", (1, 1))

    def test_papers(self):
        """Each entry of each sheet has a paper, of the right kind, and the checker accepts it."""
        seen = {"free": 0, "forced": 0, None: 0}
        for seed in range(160):
            sheet = random_sheet(seed, most_lines=4, most_days=4, astray=1 + seed % 2)
            for d in range(len(sheet[2])):
                for i in range(len(sheet[0])):
                    seen[self.check_paper(sheet, d, i)] += 1
        self.assertGreater(min(seen.values()), 100)

    def check_paper(self, sheet, d, i):
        paper = entry_paper(sheet, d, i)
        if paper is None:
            self.assertEqual(all_close(sheet), [])
            return None
        word = lets_entry(sheet, d, i, paper)
        self.assertEqual(word, "free" if is_free(sheet, d, i) else "forced")
        self.assertEqual(entry_error(sheet, d, i, paper), word)
        self.assertIs(type(paper), tuple)
        return word

    def test_papers_with_sections_and_many_days(self):
        nested = (("a", "b"), ("a", "b", "c"), ("a", "b", "c", "d"))
        for charge in (HALF, THIRD, Fraction(5, 6), 1):
            sheet = (fresh(*"abcdef"), nested, (day(*[charge] * 6), day(1, charge, HALF, HALF, 0, 2)) * 5)
            for d in range(10):
                for i in range(6):
                    self.assertEqual(lets_entry(sheet, d, i, entry_paper(sheet, d, i)), "free" if is_free(sheet, d, i) else "forced")

    def test_a_paper_for_another_entry(self):
        for seed in range(60):
            sheet = random_sheet(seed, most_lines=3, most_days=2)
            entries = [(d, i) for d in range(len(sheet[2])) for i in range(len(sheet[0]))]
            for entry in entries:
                paper = entry_paper(sheet, *entry)
                for d, i in entries:
                    if paper is not None:
                        self.assertTrue(looks_like(caught_error(lets_entry, sheet, d, i, paper), entry_error(sheet, d, i, paper)))

    def test_spoiled_papers(self):
        """Papers with one or two parts changed, against the definition."""
        seen = {}
        for seed in range(120):
            rng = random.Random(seed)
            sheet = random_sheet(seed, most_lines=4, most_days=3)
            if not sheet[2]:
                continue
            d, i = rng.randrange(len(sheet[2])), rng.randrange(len(sheet[0]))
            paper = entry_paper(sheet, d, i)
            if paper is None:
                continue
            for k in range(60):
                thing = spoiled(paper, rng)
                if k % 3 == 0:
                    thing = spoiled(thing, rng)
                expected = entry_error(sheet, d, i, thing)
                self.assertTrue(looks_like(caught_error(lets_entry, sheet, d, i, thing), expected), repr((sheet, d, i, thing, expected)))
                word = expected if isinstance(expected, str) else expected[0]
                seen[word] = seen.get(word, 0) + 1
        words = ["booking", "entry", "forced", "free", "gain", "one", "order", "other", "same", "shape", "sum"]
        self.assertEqual(sorted(seen), words)

    def test_without_a_close_booking(self):
        self.assertEqual([entry_paper(THREE, 0, i) for i in range(3)], [None] * 3)
        self.check(THREE, 0, 0, ("forced", ((0, 0, 1),), (), ()), "booking", -1)

    def test_names_of_arguments_and_what_is_kept(self):
        shown = repr((MIXED, FORCED))
        paper = entry_paper(i=0, d=0, sheet=MIXED)
        self.assertEqual(lets_entry(i=0, thing=paper, sheet=MIXED, d=0), "forced")
        lets_entry(MIXED, 0, 0, FORCED)
        self.assertEqual(repr((MIXED, FORCED)), shown)

    def test_examples(self):
        self.assertEqual(lets_entry(MIXED, 0, 0, FORCED), "forced")
        self.check(SHEET, 0, 0, ("free", ((0, 1), (1, 0)), ((0, 1), (0, 1))), "other", -1)


if __name__ == "__main__":
    unittest.main()
