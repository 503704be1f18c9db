"""Flows in networks, from whatever flows they begin with."""

import random
import unittest

from centbook.circulations import Circulation
from centbook.findings import found_booking
from centbook.sheetflows import booking_in, circulation_of, least_circulation, pairs_around
from centbook.sums import entries_of, sums_of
from tests.samples import all_close, random_sheet


def ring(bounds, flow):
    """A circulation of three arcs in a ring."""
    circulation = Circulation()
    for k, one in enumerate(bounds):
        circulation.add_arc(k, (k, (k + 1) % len(bounds)), one, flow)
    return circulation


class CirculationsTest(unittest.TestCase):
    def check_settled(self, circulation):
        self.assertIsNone(circulation.settled())
        for arc, flow in circulation.flows.items():
            self.assertTrue(circulation.lows[arc] <= flow <= circulation.highs[arc])
        self.check_balanced(circulation)

    def check_balanced(self, circulation):
        balance = {}
        for arc, (tail, head) in circulation.ends.items():
            balance[tail] = balance.get(tail, 0) - circulation.flows[arc]
            balance[head] = balance.get(head, 0) + circulation.flows[arc]
        self.assertFalse(any(balance.values()))

    def check_stuck(self, circulation):
        nodes = circulation.settled()
        inward = [arc for arc, (tail, head) in circulation.ends.items() if head in nodes and tail not in nodes]
        outward = [arc for arc, (tail, head) in circulation.ends.items() if tail in nodes and head not in nodes]
        self.assertGreater(sum(circulation.lows[arc] for arc in inward), sum(circulation.highs[arc] for arc in outward))

    def test_rings(self):
        for flow in range(-9, 10):
            self.check_settled(ring(((0, 5), (2, 9), (-3, 3)), flow))
            self.check_settled(ring(((-5, -2), (-2, 9), (-3, 3)), flow))
            self.check_settled(ring(((4, 4), (4, 4), (4, 4)), flow))
            self.check_stuck(ring(((0, 5), (6, 9), (0, 9)), flow))
            self.check_stuck(ring(((0, 5), (-9, -1), (-9, 9)), flow))

    def test_one_arc_alone(self):
        circulation = Circulation()
        circulation.add_arc("a", (0, 1), (1, 2), 0)
        self.check_stuck(circulation)

    def test_sheets_from_any_booking(self):
        for seed in range(200):
            rng = random.Random(seed)
            sheet = random_sheet(seed, most_lines=4, most_days=4)
            circulation = least_circulation(sheet)
            booking = [[rng.randint(0, 4) for _ in sheet[0]] for _ in sheet[2]]
            for which in sums_of(sheet):
                circulation.flows[which] = sum(booking[d][i] for d, i in entries_of(sheet, which))
            self.check_balanced(circulation)
            if found_booking(sheet) is None:
                self.check_stuck(circulation)
            else:
                self.check_settled(circulation)

    def test_the_flows_of_a_booking(self):
        for seed in range(60):
            sheet = random_sheet(seed, most_lines=4, most_days=4)
            for booking in all_close(sheet)[:5]:
                circulation = circulation_of(sheet, booking)
                self.check_balanced(circulation)
                self.check_settled(circulation)
                self.assertEqual(booking_in(sheet, circulation), booking)

    def test_pairs_around(self):
        circulation = ring(((0, 5), (6, 9), (0, 9)), 3)
        self.assertEqual(pairs_around(circulation, {0: True}), (("least", 2), ("most", 0)))
        self.assertEqual(pairs_around(circulation, {0: True, 1: True, 2: True}), ())

    def test_pushed_at_most_so_many_times(self):
        circulation = ring(((0, 5), (0, 9), (0, 4)), 0)
        self.assertIsNone(circulation.pushed(1, 1, 3))
        self.assertEqual(circulation.flows, {0: 3, 1: 3, 2: 3})
        circulation.lows[1] = 3
        self.assertIsNone(circulation.pushed(1, 1, 3))
        self.assertEqual(circulation.flows, {0: 4, 1: 4, 2: 4})
        circulation.lows[1] = 4
        self.assertEqual(sorted(circulation.pushed(1, 1, 1)), [2])


if __name__ == "__main__":
    unittest.main()
