"""Flows in networks, from whatever flows they begin with."""

import random
import unittest

from centbook.circulations import Circulation
from centbook.findings import circulation_of, found_booking
from centbook.sums import entries_of, sums_of
from tests.samples import random_sheet


def ring(bounds, flow):
    """A circulation of three arcs in a ring."""
    circulation = Circulation()
    for k, one in enumerate(bounds):
        circulation.add_arc(k, (k, (k + 1) % len(bounds)), one, flow)
    return circulation


class CirculationsTest(unittest.TestCase):
    def check_settled(self, circulation):
        self.assertIsNone(circulation.settled())
        for arc, flow in circulation.flows.items():
            self.assertTrue(circulation.lows[arc] <= flow <= circulation.highs[arc])
        self.check_balanced(circulation)

    def check_balanced(self, circulation):
        balance = {}
        for arc, (tail, head) in circulation.ends.items():
            balance[tail] = balance.get(tail, 0) - circulation.flows[arc]
            balance[head] = balance.get(head, 0) + circulation.flows[arc]
        self.assertFalse(any(balance.values()))

    def check_stuck(self, circulation):
        nodes = circulation.settled()
        inward = [arc for arc, (tail, head) in circulation.ends.items() if head in nodes and tail not in nodes]
        outward = [arc for arc, (tail, head) in circulation.ends.items() if tail in nodes and head not in nodes]
        self.assertGreater(sum(circulation.lows[arc] for arc in inward), sum(circulation.highs[arc] for arc in outward))

    def test_rings(self):
        for flow in range(-9, 10):
            self.check_settled(ring(((0, 5), (2, 9), (-3, 3)), flow))
            self.check_settled(ring(((-5, -2), (-2, 9), (-3, 3)), flow))
            self.check_settled(ring(((4, 4), (4, 4), (4, 4)), flow))
            self.check_stuck(ring(((0, 5), (6, 9), (0, 9)), flow))
            self.check_stuck(ring(((0, 5), (-9, -1), (-9, 9)), flow))

    def test_one_arc_alone(self):
        circulation = Circulation()
        circulation.add_arc("a", (0, 1), (1, 2), 0)
        self.check_stuck(circulation)

    def test_sheets_from_any_booking(self):
        for seed in range(200):
            rng = random.Random(seed)
            sheet = random_sheet(seed, most_lines=4, most_days=4)
            circulation = circulation_of(sheet)
            booking = [[rng.randint(0, 4) for _ in sheet[0]] for _ in sheet[2]]
            for which in sums_of(sheet):
                circulation.flows[which] = sum(booking[d][i] for d, i in entries_of(sheet, which))
            self.check_balanced(circulation)
            if found_booking(sheet) is None:
                self.check_stuck(circulation)
            else:
                self.check_settled(circulation)


if __name__ == "__main__":
    unittest.main()
