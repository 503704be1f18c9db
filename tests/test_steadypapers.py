"""[54], [55], [57], [7] (C10): papers of steady bookings, and tables that show that there are none."""

import random
import unittest
from fractions import Fraction

from centbook.sheets import fresh
from centbook.steadiness import steady
from centbook.steadychecker import lets_steady
from centbook.steadypapers import steady_paper
from tests.samples import (
    ODD_VALUES, all_close, caught_error, day, is_plain_steady, line, looks_like, places_in, put_at, random_sections, random_sheet, spoiled,
)
from tests.test_steadiness import ONCE, open_ends
from tests.test_steadychecker import KEPT, TABLE, TWICE, sheets_without, steady_error


class SteadyPapersTest(unittest.TestCase):
    def check(self, sheet):
        """The paper is of the right kind, and accepted by the checker and by the definition."""
        paper = steady_paper(sheet)
        self.assertTrue(type(paper) is tuple and len(paper) == 2 and type(paper[1]) is tuple)
        self.assertEqual(lets_steady(sheet, paper), paper[0], repr((sheet, paper)))
        self.assertEqual(steady_error(sheet, paper), paper[0])
        self.assertIs(paper[0] == "never", steady(sheet) is None)
        return paper

    def test_small_sheets(self):
        seen = {"steady": 0, "never": 0}
        for seed in range(250):
            sheet = random_sheet(seed, most_lines=4, most_days=3, astray=1 + seed % 2, unders=(2, 2, 3, 4))
            word = self.check(sheet)[0]
            if len(sheet[0]) * len(sheet[2]) <= 9:
                self.assertIs(word == "steady", any(is_plain_steady(sheet, booking) for booking in all_close(sheet)))
            seen[word] += 1
        self.assertGreater(min(seen.values()), 50)

    def test_sheets_that_go_on_for_some_days(self):
        rows = 0
        for sheet in sheets_without(60):
            word, table = self.check(sheet)
            self.assertEqual(word, "never")
            self.assertEqual(table, tuple(map(tuple, open_ends(sheet))))
            rows += sum(map(len, table))
        self.assertGreater(rows, 60)

    def test_four_lines_and_four_days(self):
        rng = random.Random(3)
        seen = {"steady": 0, "never": 0}
        for _ in range(60):
            days = tuple(day(*[Fraction(rng.randint(0, 4), rng.choice((2, 3, 4))) for _ in "abcd"]) for _ in range(4))
            seen[self.check((fresh(*"abcd"), random_sections(rng, list("abcd")), days))[0]] += 1
        self.assertGreater(min(seen.values()), 10)

    def test_without_days(self):
        for state in (ONCE[0], (line("a", 3, 77),), tuple(line(name, Fraction(1, 2), 0) for name in "abc")):
            self.assertEqual(steady_paper((state, (), ())), ("steady", ()))

    def test_papers_by_hand(self):
        self.assertEqual(steady_paper(TWICE), ("never", TABLE))
        self.assertEqual(steady_paper(ONCE), ("never", ((),)))
        self.assertEqual(self.check(KEPT)[0], "steady")

    def test_papers_with_a_place_changed(self):
        rejected = 0
        for sheet in sheets_without(10) + [TWICE, KEPT]:
            paper = steady_paper(sheet)
            for path in list(places_in(paper)):
                for odd in ODD_VALUES[::3] + (True, 0, 1, 2, (0, 0, 0), (), "steady", "never"):
                    thing = put_at(paper, path, odd)
                    expected = steady_error(sheet, thing)
                    self.assertTrue(looks_like(caught_error(lets_steady, sheet, thing), expected), repr((sheet, thing)))
                    rejected += isinstance(expected, tuple)
            rng = random.Random(len(repr(sheet)))
            for _ in range(40):
                thing = spoiled(paper, rng)
                self.assertTrue(looks_like(caught_error(lets_steady, sheet, thing), steady_error(sheet, thing)))
        self.assertGreater(rejected, 500)

    def test_papers_for_other_sheets(self):
        """(C10): accepted only where they are true."""
        sheets = sheets_without(15) + [random_sheet(seed, most_lines=4, most_days=3) for seed in range(25)]
        for sheet in sheets:
            paper = steady_paper(sheet)
            for other in sheets:
                found = caught_error(lets_steady, other, paper)
                self.assertTrue(looks_like(found, steady_error(other, paper)))
                if isinstance(found, str):
                    self.assertIs(found == "never", steady(other) is None)

    def test_names_of_arguments_and_what_is_kept(self):
        shown = repr(TWICE)
        self.assertEqual(lets_steady(thing=steady_paper(sheet=TWICE), sheet=TWICE), "never")
        self.assertEqual(repr(TWICE), shown)

    def test_examples(self):
        self.assertEqual([steady(ONCE), lets_steady(ONCE, ("never", ((),)))], [None, "never"])
        self.assertEqual(lets_steady(ONCE, steady_paper(ONCE)), "never")


if __name__ == "__main__":
    unittest.main()
