"""[34] to [36], [7] (C2): exchanges, and ways between close bookings."""

import random
import types
import unittest
from fractions import Fraction

from centbook.bookingchecker import lets_booking
from centbook.cycles import divided
from centbook.errors import BookError, InvalidStep
from centbook.exchanges import exchanged, exchanges, way_between
from centbook.findings import found_booking
from centbook.sheetflows import circulation_of
from centbook.sheets import fresh
from tests.samples import (
    ODD_VALUES, all_close, changed, day, line, plain_exchanges, random_sections, random_sheet, spoiled, steps_between,
)

HALF, THIRD = Fraction(1, 2), Fraction(1, 3)
SHEET = ((("a", (0, 1), 0, True), ("b", (0, 1), 0, True)), (), (((1, 2), (1, 2)), ((1, 2), (1, 2))))
MIXED = ((("a", (0, 1), 0, True), ("b", (0, 1), 0, True)), (), (((1, 1), (1, 2)),))
ONE, OTHER = ((0, 1), (1, 0)), ((1, 0), (0, 1))
SWAP = ((0, 0, 1), (0, 1, -1), (1, 0, -1), (1, 1, 1))


def some_sheets(many, first=0, **limits):
    """Sheets with several close bookings, and these bookings."""
    found = []
    seed = first
    while len(found) < many:
        sheet = random_sheet(seed, **limits)
        close = all_close(sheet)
        if len(close) > 1:
            found.append((sheet, close))
        seed += 1
    return found


def thirds(names, many, sections=()):
    """A fresh sheet in which each charge is a third."""
    return fresh(*names), sections, (day(*[THIRD] * len(names)),) * many


class ExchangesTest(unittest.TestCase):
    def check_refused(self, sheet, booking, some, step):
        """The step, the very object, is refused among some."""
        with self.assertRaises(InvalidStep, msg=repr(some)) as caught:
            exchanged(sheet, booking, *some)
        self.assertIs(caught.exception.step, step)
        self.assertEqual(caught.exception.reason, "exchange")

    def test_against_the_definition(self):
        many = 0
        for sheet, close in some_sheets(90, most_lines=4, most_days=3):
            for booking in close[:6]:
                expected = plain_exchanges(close, booking)
                self.assertEqual(list(exchanges(sheet, booking)), expected, repr((sheet, booking)))
                many += len(expected)
        self.assertGreater(many, 400)

    def test_four_lines_and_four_days(self):
        sections = (("a", "b"), ("a", "b", "c"), ("a", "b", "c", "d"))
        for sheet in (thirds("abcd", 4), thirds("abcd", 4, sections), thirds("abcd", 3, (("a", "c"), ("b", "d")))):
            close = all_close(sheet)
            for booking in random.Random(1).sample(close, min(len(close), 12)):
                self.assertEqual(list(exchanges(sheet, booking)), plain_exchanges(close, booking))

    def test_states_that_are_not_fresh(self):
        """Cents ahead and behind, ended lines, and states that are not close."""
        seen = 0
        for sheet, close in some_sheets(40, first=5000, most_lines=4, most_days=2, astray=2):
            seen += any(not one[3] for one in sheet[0])
            for booking in close:
                self.assertEqual(list(exchanges(sheet, booking)), plain_exchanges(close, booking))
        self.assertGreater(seen, 3)

    def test_none_if_and_only_if_it_is_the_only_one(self):
        alone = 0
        for seed in range(150):
            sheet = random_sheet(seed)
            close = all_close(sheet)
            for booking in close[:3]:
                self.assertEqual(list(exchanges(sheet, booking)) == [], len(close) == 1)
                alone += len(close) == 1
        self.assertGreater(alone, 20)
        self.assertEqual(list(exchanges((SHEET[0], (), ()), ())), [])

    def test_the_reverse_leads_back(self):
        for sheet, close in some_sheets(40, most_lines=4, most_days=2):
            for exchange in exchanges(sheet, close[0]):
                reached = exchanged(sheet, close[0], exchange)
                self.assertIn(reached, close)
                reverse = tuple((d, i, -step) for d, i, step in exchange)
                self.assertIn(reverse, list(exchanges(sheet, reached)))
                self.assertEqual(exchanged(sheet, reached, reverse), close[0])
                self.assertEqual(exchanged(sheet, close[0], exchange, reverse, exchange), reached)

    def test_exchanges_lead_to_all_close_bookings(self):
        for sheet, close in some_sheets(25, most_lines=4, most_days=3):
            reached, front = {close[-1]}, [close[-1]]
            while front:
                booking = front.pop()
                for exchange in exchanges(sheet, booking):
                    other = exchanged(sheet, booking, exchange)
                    if other not in reached:
                        reached.add(other)
                        front.append(other)
            self.assertEqual(reached, set(close))

    def test_one_after_the_other(self):
        for seed, (sheet, close) in enumerate(some_sheets(30, most_lines=4, most_days=3)):
            rng = random.Random(seed)
            booking, path = close[0], []
            for _ in range(6):
                step = rng.choice(list(exchanges(sheet, booking)))
                path.append(step)
                booking = tuple(
                    tuple(cents + dict(((d, i), by) for d, i, by in step).get((e, j), 0) for j, cents in enumerate(row))
                    for e, row in enumerate(booking)
                )
                self.assertEqual(exchanged(sheet, close[0], *path), booking)

    def test_no_exchange_at_all(self):
        self.assertEqual(exchanged(SHEET, ONE), ONE)
        self.assertEqual(exchanged((SHEET[0], (), ()), ()), ())
        self.check_refused((SHEET[0], (), ()), (), [SWAP], SWAP)

    def test_refused_values(self):
        """Of any kind, also as the second or third one."""
        for odd in ODD_VALUES:
            self.check_refused(SHEET, ONE, [odd], odd)
            self.check_refused(SHEET, ONE, [SWAP, odd], odd)
            self.check_refused(SHEET, ONE, [SWAP, tuple((d, i, -step) for d, i, step in SWAP), odd, SWAP], odd)
            for thing in ((odd,), (SWAP[0], odd), (odd, SWAP[0]), ((0, 0, odd),)):
                self.check_refused(SHEET, ONE, [thing], thing)
        for step in (
            (), list(SWAP), SWAP[::-1], SWAP[:2], SWAP[2:], SWAP[1:], SWAP + SWAP, (SWAP,), ((0, 0, 1),),
            tuple((d, i, -by) for d, i, by in SWAP), tuple(list(row) for row in SWAP), tuple(row + (0,) for row in SWAP),
            changed(SWAP, 0, (0, 0, True)), changed(SWAP, 0, (False, 0, 1)), changed(SWAP, 0, (0, False, 1)),
            changed(SWAP, 3, (True, 1, 1)), changed(SWAP, 3, (1, True, 1)), changed(SWAP, 3, (1, 1, 2)), changed(SWAP, 3, (1, 1, 0)),
            changed(SWAP, 3, (1, 3, 1)), changed(SWAP, 3, (2, 1, 1)), changed(SWAP, 3, (1, -1, 1)), changed(SWAP, 3, (-1, 1, 1)),
            changed(SWAP, 3, (1, 10 ** 60 - 1, 1)), changed(SWAP, 0, (0, "0", 1)), changed(SWAP, 0, (0, 0, None)), changed(SWAP, 0, None),
            ((0, 0, -1),) + SWAP, SWAP[:3] + ((1, 1, -1), (1, 1, 1)), SWAP + ((2, 0, 1),),
        ):
            self.check_refused(SHEET, ONE, [step], step)
            self.check_refused(SHEET, OTHER, [tuple((d, i, -by) for d, i, by in SWAP), step], step)
        self.check_refused(SHEET, OTHER, [SWAP], SWAP)
        self.check_refused(SHEET, ONE, [SWAP, SWAP], SWAP)

    def test_an_entry_comes_once(self):
        """Also where the steps at an entry add up to none, and the others are an exchange."""
        for step in (
            ((0, 1, 1), (0, 1, 1)), ((0, 1, -1), (0, 1, 1)), ((0, 0, -1), (0, 0, 1), (0, 1, 1)), ((0, 0, 1), (0, 0, -1), (0, 1, 1)),
            ((0, 1, -1), (0, 1, 1), (0, 1, 1)),
        ):
            self.check_refused(MIXED, ((1, 0),), [step], step)
        wider = ((line("a"), line("b"), line("c")), (), (day(1, HALF, 1),))
        self.assertEqual(exchanged(wider, ((1, 0, 1),), ((0, 1, 1),)), ((1, 1, 1),))
        for step in (((0, 0, 1), (0, 1, 1), (0, 2, -1)), ((0, 1, 1), (0, 2, -1), (0, 2, 1))):
            self.check_refused(wider, ((1, 0, 1),), [step], step)

    def test_a_step_is_never_zero(self):
        for step in (((0, 0, 0), (0, 1, 1)), ((0, 0, 0),), ((0, 0, 0), (0, 1, 0)), ((0, 1, 2),), ((0, 1, -2),)):
            self.check_refused(MIXED, ((1, 0),), [step], step)

    def test_two_exchanges_at_once_are_none(self):
        """Two steps that are both exchanges alone: together they lead to a close booking, too."""
        four = (fresh("a", "b", "c", "d"), (("a", "b"), ("c", "d")), (day(HALF, HALF, HALF, HALF),))
        both = ((0, 0, 1), (0, 1, -1), (0, 2, 1), (0, 3, -1))
        booking = ((0, 1, 0, 1),)
        self.assertEqual(lets_booking(four, ((1, 0, 1, 0),)), 2)
        self.check_refused(four, booking, [both], both)
        self.assertEqual(exchanged(four, booking, both[:2], both[2:]), ((1, 0, 1, 0),))
        self.assertEqual(list(exchanges(four, booking)), [both[:2], both[2:]])

    def test_spoiled_exchanges(self):
        refused = 0
        for seed, (sheet, close) in enumerate(some_sheets(40, most_lines=4, most_days=3)):
            rng = random.Random(seed)
            known = plain_exchanges(close, close[0])
            changes = [steps_between(close[0], other) for other in close[1:]]
            for _ in range(20):
                thing = rng.choice([spoiled(rng.choice(known), rng), rng.choice(changes)])
                if any(repr(thing) == repr(one) for one in known):
                    exchanged(sheet, close[0], thing)
                else:
                    refused += 1
                    self.check_refused(sheet, close[0], [thing], thing)
        self.assertGreater(refused, 300)

    def test_two_generators_at_the_same_time(self):
        sheet = thirds("abc", 3)
        booking = found_booking(sheet)
        expected = list(exchanges(sheet, booking))
        other = list(exchanges(SHEET, ONE))
        one, two, three = exchanges(sheet, booking), exchanges(sheet, booking), exchanges(SHEET, ONE)
        self.assertIsInstance(one, types.GeneratorType)
        first = [next(one), next(one)]
        self.assertEqual([next(three), *three], other)
        self.assertEqual(list(two), expected)
        self.assertEqual(first + list(one), expected)

    def test_ways(self):
        """Each of a way's exchanges is one of the booking that is reached, and no entry comes twice."""
        for sheet, close in some_sheets(40, most_lines=4, most_days=3):
            rng = random.Random(len(close))
            for _ in range(12):
                self.check_way(sheet, rng.choice(close), rng.choice(close))

    def check_way(self, sheet, one, other):
        way = way_between(sheet, one, other)
        self.assertIs(type(way), tuple)
        booking = one
        for exchange in way:
            self.assertIn(exchange, list(exchanges(sheet, booking)))
            booking = exchanged(sheet, booking, exchange)
        self.assertEqual(booking, other)
        self.assertEqual(exchanged(sheet, one, *way), other)
        rows = [row for exchange in way for row in exchange]
        self.assertEqual(sorted(rows), list(steps_between(one, other)))
        self.assertEqual(len({row[:2] for row in rows}), len(rows))
        self.assertLessEqual(len(way), len(sheet[0]) * len(sheet[2]))

    def test_ways_of_several_exchanges(self):
        seen = 0
        sheet = thirds("abcd", 4, (("a", "b"), ("c", "d")))
        close = all_close(sheet)
        rng = random.Random(2)
        for _ in range(30):
            one, other = rng.choice(close), rng.choice(close)
            self.check_way(sheet, one, other)
            seen += len(way_between(sheet, one, other)) > 1
        self.assertGreater(seen, 5)

    def test_a_way_from_a_booking_to_itself(self):
        for sheet, booking in ((SHEET, ONE), (MIXED, ((1, 0),)), ((SHEET[0], (), ()), ())):
            self.assertEqual(way_between(sheet, booking, booking), ())

    def test_cycles_that_meet_in_a_node(self):
        """Changes that go through a node twice are divided there."""
        four = (fresh("a", "b", "c", "d"), (), (day(HALF, HALF, HALF, HALF),) * 2)
        one, other = ((0, 1, 0, 1), (1, 0, 1, 0)), ((1, 0, 1, 0), (0, 1, 0, 1))
        flows, goal = circulation_of(four, one), circulation_of(four, other)
        steps = {arc: goal.flows[arc] - flow for arc, flow in flows.flows.items() if goal.flows[arc] != flow}
        cycles = divided(flows, steps)
        self.assertEqual(len(cycles), 2)
        self.assertEqual(sorted(move for cycle in cycles for move in cycle), sorted(steps.items()))
        self.check_way(four, one, other)
        self.assertEqual(divided(flows, {}), [])

    def test_names_of_arguments_and_what_is_kept(self):
        shown = repr((SHEET, ONE, SWAP))
        self.assertEqual(list(exchanges(booking=ONE, sheet=SHEET)), [SWAP])
        self.assertEqual(way_between(other=OTHER, one=ONE, sheet=SHEET), (SWAP,))
        self.assertEqual(exchanged(booking=ONE, sheet=SHEET), ONE)
        self.assertEqual(exchanged(SHEET, ONE, SWAP), OTHER)
        self.assertEqual(repr((SHEET, ONE, SWAP)), shown)
        things = [[0, 0, 1]]
        self.check_refused(SHEET, ONE, [SWAP, things], things)
        self.assertEqual(things, [[0, 0, 1]])
        self.assertTrue(issubclass(InvalidStep, BookError))

    def test_kinds_of_results(self):
        for exchange in exchanges(SHEET, ONE):
            self.assertTrue(type(exchange) is tuple and all(type(row) is tuple for row in exchange))
            self.assertTrue(all(type(part) is int for row in exchange for part in row))
        reached = exchanged(SHEET, ONE, SWAP)
        self.assertTrue(type(reached) is tuple and all(type(row) is tuple for row in reached))
        way = way_between(SHEET, ONE, OTHER)
        self.assertTrue(type(way) is tuple and type(way[0]) is tuple and type(way[0][0]) is tuple)

    def test_whole_cents_added_to_a_charge(self):
        """The exchanges stay the same."""
        for sheet, close in some_sheets(20, most_lines=3, most_days=2):
            state, sections, days = sheet
            i = max(k for k, one in enumerate(state) if one[3])
            charge = (days[0][i][0] + 3 * days[0][i][1], days[0][i][1])
            more = (state, sections, changed(days, 0, changed(days[0], i, charge)))
            booking = changed(close[0], 0, changed(close[0][0], i, close[0][0][i] + 3))
            self.assertEqual(list(exchanges(more, booking)), list(exchanges(sheet, close[0])))

    def test_beyond_the_limits(self):
        names = "abcdef"
        rng = random.Random(4)
        days = tuple(day(*[Fraction(rng.randint(0, 9), 7) for _ in names]) for _ in range(5))
        sheet = (fresh(*names), random_sections(rng, list(names)), days)
        booking = found_booking(sheet)
        found = list(exchanges(sheet, booking))
        self.assertEqual(found, sorted(set(found)))
        for exchange in found[::20]:
            lets_booking(sheet, exchanged(sheet, booking, exchange))

    def test_examples(self):
        self.assertEqual(list(exchanges(SHEET, ((0, 1), (1, 0)))), [((0, 0, 1), (0, 1, -1), (1, 0, -1), (1, 1, 1))])
        self.assertEqual(
            [exchanged(MIXED, ((1, 0),), ((0, 1, 1),)), way_between(MIXED, ((1, 1),), ((1, 0),)), exchanged(MIXED, ((1, 0),))],
            [((1, 1),), (((0, 1, -1),),), ((1, 0),)],
        )
        step = ((0, 0, 1),)
        self.check_refused(SHEET, ((0, 1), (1, 0)), [step], step)


if __name__ == "__main__":
    unittest.main()
