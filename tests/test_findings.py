"""[7] (C1), [26], [27]: close bookings and stuck lists."""

import random
import unittest
from fractions import Fraction

from centbook.bookingchecker import lets_booking
from centbook.findings import found_booking, stuck_list
from centbook.kinds import is_sheet
from centbook.sheets import fresh, state_after
from tests.samples import all_close, day, line, plain_sums, random_sections, random_sheet, stuck_fault

HALF, THIRD = Fraction(1, 2), Fraction(1, 3)
SHEET = ((("a", (0, 1), 0, True), ("b", (0, 1), 0, True)), (), (((1, 2), (1, 2)), ((1, 2), (1, 2))))
THREE = ((("a", (1, 2), 1, True), ("b", (1, 2), 0, True), ("c", (1, 2), 0, True)), (), (((0, 1), (1, 2), (1, 2)),))
NAMES = ("a", "b", "c", "d", "e", "f")


class FindingsTest(unittest.TestCase):
    def check(self, sheet):
        """Exactly one of the two returns something, and that is right. Tells whether there is a booking."""
        self.assertTrue(is_sheet(sheet))
        booking, stuck = found_booking(sheet), stuck_list(sheet)
        self.assertEqual((booking is None) + (stuck is None), 1, repr(sheet))
        if booking is None:
            self.assertIsNone(stuck_fault(sheet, stuck), repr((sheet, stuck)))
            return False
        self.assertEqual(lets_booking(sheet, booking), sum(map(sum, booking)))
        return True

    def test_against_all_bookings(self):
        seen = {True: 0, False: 0}
        for seed in range(500):
            sheet = random_sheet(seed, most_lines=4, most_days=3, astray=1 + seed % 3)
            expected = all_close(sheet) != []
            self.assertIs(self.check(sheet), expected, repr(sheet))
            seen[expected] += 1
        self.assertGreater(min(seen.values()), 60)

    def test_fresh_states_always_have_a_close_booking(self):
        rng = random.Random(5)
        for _ in range(60):
            names = NAMES[:rng.randint(1, 6)]
            days = tuple(
                day(*[Fraction(rng.randint(0, 30), rng.choice((1, 2, 3, 7, 10))) for _ in names]) for _ in range(rng.randint(0, 6))
            )
            self.assertTrue(self.check((fresh(*names), random_sections(rng, names), days)))

    def test_six_lines_and_ten_days(self):
        rng = random.Random(7)
        seen = {True: 0, False: 0}
        for k in range(24):
            under = rng.choice((2, 3, 10 ** 4, 9973))
            state = []
            for name in NAMES:
                exact = Fraction(rng.randint(0, 10 ** 6), under) if k % 3 else Fraction(0)
                state.append(line(name, exact, exact.__floor__() + (rng.randint(0, 1) if k % 3 else 0)))
            days = tuple(day(*[Fraction(rng.randint(0, 1000), under) for _ in NAMES]) for _ in range(10))
            seen[self.check((tuple(state), random_sections(rng, NAMES), days))] += 1
        self.assertGreater(min(seen.values()), 2)

    def test_sections_in_one_another(self):
        sections = (("a", "b"), ("a", "b", "c"), ("a", "b", "c", "d", "e", "f"))
        for other in (sections, (("a", "b", "c", "d"), ("a", "c"), ("b", "d")), (("a", "f"), ("b", "c", "d", "e"), ("c", "d"))):
            for charge in (HALF, THIRD, Fraction(5, 6)):
                state = fresh(*NAMES)
                sheet = (state, other, (day(*[charge] * 6),) * 5)
                self.assertTrue(self.check(sheet))

    def test_a_section_makes_a_sheet_stuck(self):
        """Lines a and b are ahead, c and d behind: the cents of the day must be those of c and d."""
        state = (line("a", HALF, 1), line("b", HALF, 1), line("c", HALF), line("d", HALF))
        days = (day(HALF, HALF, HALF, HALF),)
        self.assertTrue(self.check((state, (), days)))
        self.assertTrue(self.check((state, (("a", "c"), ("b", "d")), days)))
        self.assertFalse(self.check((state, (("a", "b"),), days)))
        used = [which[0] for _, which in stuck_list((state, (("a", "b"),), days))]
        self.assertIn("section", used)

    def test_lines_ahead_and_behind(self):
        ahead = (line("a", HALF, 1), line("b", HALF, 1), line("c", HALF, 0))
        self.assertFalse(self.check((ahead, (), (day(HALF, HALF, 0),))))
        self.assertTrue(self.check((ahead, (), (day(HALF, 0, 0),))))
        self.assertTrue(self.check((ahead, (), (day(HALF, HALF, HALF),))))
        self.assertFalse(self.check((ahead, (), (day(0, 0, 0), day(HALF, HALF, 0)))))
        self.assertFalse(self.check((ahead, (), (day(HALF, HALF, 0), day(1, 1, 1)))))

    def test_lines_that_have_ended(self):
        self.assertTrue(self.check(((line("a"), line("b", HALF, 1, False)), (), (day(THIRD, 0),))))
        self.assertFalse(self.check(((line("a"), line("b", HALF, 2, False)), (), (day(THIRD, 0),))))
        self.assertFalse(self.check(((line("a"), line("b", HALF, -1, False)), (), (day(1, 0), day(1, 0)))))
        self.assertTrue(self.check(((line("a", HALF, 1), line("b", HALF, 1, False)), (), (day(HALF, 0),))))
        self.assertFalse(self.check(((line("a", HALF, 1), line("b", HALF, 1, False)), (), (day(0, 0), day(HALF, 0)))))
        self.assertTrue(self.check(((line("b", 3, 7, False),), (), ())))

    def test_cents_that_are_not_close(self):
        self.assertFalse(self.check(((line("a", 0, 5),), (), (day(5),))))
        self.assertTrue(self.check(((line("a", HALF, 2),), (), (day(Fraction(3, 4)),))))
        self.assertFalse(self.check(((line("a", HALF, 2),), (), (day(0), day(Fraction(3, 4))))))
        self.assertFalse(self.check(((line("a", 10 ** 6, 0),), (), (day(1000),))))
        self.assertFalse(self.check(((line("a", 0, 10 ** 6),), (), (day(1000),))))
        self.assertFalse(self.check(((line("a", 0, -10 ** 6), line("b", 0, 10 ** 6)), (), (day(7, 7),) * 3)))

    def test_without_days(self):
        for state in (SHEET[0], THREE[0], (line("a", 5, -7), line("b", HALF, 3, False))):
            sheet = (state, (), ())
            self.assertEqual((found_booking(sheet), stuck_list(sheet)), ((), None))

    def test_charges_of_zero(self):
        sheet = (fresh("a", "b"), (("a", "b"),), (day(0, 0),) * 3)
        self.assertEqual(found_booking(sheet), ((0, 0),) * 3)
        sheet = ((line("a", HALF, 1),), (), (day(0),) * 2)
        self.assertEqual(found_booking(sheet), ((0,),) * 2)

    def test_a_stuck_list_counts_both_sides(self):
        """For each stuck list: entries as often on the one side as on the other, and a gain of at least 1."""
        found = 0
        for seed in range(300, 500):
            sheet = random_sheet(seed, most_lines=6, most_days=6, astray=2)
            stuck = stuck_list(sheet)
            if stuck is None:
                continue
            found += 1
            rows = {which: (entries, exact, fixed) for which, entries, exact, fixed in plain_sums(sheet)}
            least = sum((rows[which][1].__floor__() - rows[which][2]) for side, which in stuck if side == "least")
            most = sum((rows[which][1].__ceil__() - rows[which][2]) for side, which in stuck if side == "most")
            self.assertGreaterEqual(least - most, 1)
            sides = {"least": [], "most": []}
            for side, which in stuck:
                sides[side].extend(rows[which][0])
            self.assertEqual(sorted(sides["least"]), sorted(sides["most"]))
            self.assertEqual(list(stuck), sorted(set(stuck)))
            self.assertNotEqual(stuck, ())
        self.assertGreater(found, 40)

    def test_days_one_after_the_other(self):
        """The state behind a close booking, and the next days: either there is a booking or a stuck list."""
        for seed in range(60):
            rng = random.Random(seed)
            sheet = random_sheet(seed, most_lines=5, most_days=3)
            booking = found_booking(sheet)
            if booking is None:
                continue
            after = state_after(sheet, booking)
            charges = [Fraction(rng.randint(0, 6), 4) if one[3] else 0 for one in after]
            self.check((after, sheet[1], (day(*charges),)))

    def test_results_and_arguments(self):
        sheet = random_sheet(11, most_lines=4, most_days=4)
        shown = repr(sheet)
        for one in (found_booking, stuck_list):
            self.assertEqual(one(sheet), one(sheet=sheet))
        self.assertEqual(repr(sheet), shown)
        booking = found_booking(SHEET)
        self.assertTrue(type(booking) is tuple and all(type(row) is tuple for row in booking))
        self.assertTrue(all(type(cents) is int for row in booking for cents in row))
        stuck = stuck_list(THREE)
        self.assertTrue(type(stuck) is tuple and all(type(pair) is tuple and type(pair[1]) is tuple for pair in stuck))

    def test_the_check_of_stuck_lists_itself(self):
        good = (("least", ("entry", 0, 0)), ("least", ("line", 1, 0)), ("least", ("line", 2, 0)), ("most", ("day", 0)))
        self.assertIsNone(stuck_fault(THREE, good))
        self.assertEqual(stuck_fault(THREE, good[1:]), "entry")
        self.assertEqual(stuck_fault(THREE, good[::-1]), "order")
        self.assertEqual(stuck_fault(THREE, ()), "gain")
        self.assertEqual(stuck_fault(THREE, (("least", ("day", 1)),)), "sum")
        self.assertEqual(stuck_fault(THREE, (("least", ("day", 0)), ("most", ("day", 0)))), "gain")

    def test_examples(self):
        self.assertEqual(lets_booking(SHEET, found_booking(SHEET)), 2)
        self.assertEqual([found_booking(THREE), stuck_list(SHEET)], [None, None])
        self.assertIsNone(stuck_fault(THREE, stuck_list(THREE)))


if __name__ == "__main__":
    unittest.main()
