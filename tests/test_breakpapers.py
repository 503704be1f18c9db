"""[48], [50], [57], [7] (C4, C5): papers of days that break a state, and of its room."""

import random
import unittest
from fractions import Fraction

from centbook.breakchecker import lets_broken, lets_room
from centbook.breaking import breaking_day, room
from centbook.breakpapers import broken_paper, room_paper
from centbook.findings import found_booking
from centbook.kinds import is_sheet
from tests.samples import ODD_VALUES, caught_error, close_state, day, is_plain_open, line, looks_like, places_in, put_at, stuck_error, value_of
from tests.test_breakchecker import broken_error, room_error
from tests.test_breaking import NAMES, broken_states, plain_totals

HALF, ZERO = (1, 2), (0, 1)
THREE = (("a", HALF, 1, True), ("b", HALF, 1, True), ("c", HALF, 0, True))


def open_states_of_all_kinds(many):
    rng = random.Random(many)
    found = []
    while len(found) < many:
        state = close_state(rng, NAMES[:rng.randint(1, 6)], ends=rng.choice((0, 0.4)))
        if is_plain_open(state):
            found.append(state)
    return found


class BreakPapersTest(unittest.TestCase):
    def test_broken_papers(self):
        ends = {True: 0, False: 0}
        for state in broken_states(150) + broken_states(60, unders=(2, 3, 5, 7)):
            paper = broken_paper(state)
            self.assertTrue(type(paper) is tuple and len(paper) == 2 and type(paper[1]) is tuple)
            charges, stuck = paper
            self.assertEqual(charges, breaking_day(state))
            self.assertTrue(is_sheet((state, (), (charges,))))
            self.assertIsInstance(stuck_error((state, (), (charges,)), stuck), int)
            self.assertIs(lets_broken(state, paper), True)
            self.assertIsNone(found_booking((state, (), (charges,))))
            ends[all(one[3] for one in state)] += 1
        self.assertGreater(min(ends.values()), 30)

    def test_room_papers(self):
        """Of states for which each of the four totals is the least, and for which each one exists."""
        least, there = [0, 0, 0, 0], [0, 0, 0, 0]
        ends = {True: 0, False: 0}
        for state in broken_states(250) + broken_states(100, unders=(2, 3, 5, 7, 10)):
            paper = room_paper(state)
            self.assertTrue(type(paper) is tuple and len(paper) == 3 and type(paper[2]) is tuple)
            total, charges, stuck = paper
            self.assertEqual((total, charges), room(state))
            self.assertIsInstance(stuck_error((state, (), (charges,)), stuck), int)
            totals = plain_totals(state)
            self.assertEqual(value_of(total), min(one for one in totals if one is not None))
            self.assertEqual(lets_room(state, paper), total)
            least[totals.index(value_of(total))] += 1
            for j, one in enumerate(totals):
                there[j] += one is not None
            ends[all(one[3] for one in state)] += 1
        self.assertGreater(min(least), 3)
        self.assertGreater(min(there), 20)
        self.assertGreater(min(ends.values()), 30)

    def test_open_states_have_none(self):
        for state in open_states_of_all_kinds(120) + [(line("a", 0),), (line("z", 7, 7, False),)]:
            self.assertIsNone(broken_paper(state))
            self.assertIsNone(room_paper(state))

    def test_papers_for_another_state(self):
        """They are accepted only if they hold for it, too."""
        states = broken_states(25, lines=4) + open_states_of_all_kinds(15)
        seen = {True: 0, False: 0}
        for state in states[:25]:
            broken, roomy = broken_paper(state), room_paper(state)
            for other in states:
                found = caught_error(lets_broken, other, broken)
                self.assertTrue(looks_like(found, broken_error(other, broken)), repr((other, broken)))
                expected = room_error(other, roomy)
                self.assertTrue(looks_like(caught_error(lets_room, other, roomy), expected), repr((other, roomy)))
                if is_plain_open(other):
                    self.assertIsInstance(found, tuple)
                    self.assertIsInstance(expected[0], str)
                seen[found is True] += 1
        self.assertGreater(min(seen.values()), 20)

    def test_papers_with_a_place_changed(self):
        for state in broken_states(6, lines=4) + [THREE]:
            for paper, function, error in ((broken_paper(state), lets_broken, broken_error), (room_paper(state), lets_room, room_error)):
                for path in list(places_in(paper)):
                    for odd in ODD_VALUES + ((1, 2), (1, 1), (-1, 2), "least", "most", "line", 2):
                        thing = put_at(paper, path, odd)
                        expected = error(state, thing)
                        self.assertTrue(looks_like(caught_error(function, state, thing), expected), repr((state, thing)))

    def test_the_room(self):
        """[57]: it is above zero, and without ended lines at most one."""
        for state in broken_states(120):
            total = value_of(room_paper(state)[0])
            self.assertGreater(total, 0)
            if all(one[3] for one in state):
                self.assertLessEqual(total, 1)

    def test_a_room_above_one(self):
        """With an ended line that is ahead the room may be greater."""
        fifths = [line(name, Fraction(1, 5), 0) for name in "bcdef"]
        state = (line("a", Fraction(4, 5), 1, False), *fifths)
        self.assertFalse(is_plain_open(state))
        total, charges, _ = room_paper(state)
        self.assertEqual(value_of(total), 4)
        self.assertEqual(charges, day(0, *[Fraction(4, 5)] * 5))
        self.assertEqual(lets_room(state, room_paper(state)), total)

    def test_names_of_arguments_and_what_is_kept(self):
        shown = repr(THREE)
        self.assertEqual(lets_room(thing=room_paper(state=THREE), state=THREE), HALF)
        self.assertIs(lets_broken(thing=broken_paper(state=THREE), state=THREE), True)
        self.assertEqual(repr(THREE), shown)

    def test_examples(self):
        self.assertEqual(lets_room(THREE, room_paper(THREE)), (1, 2))
        self.assertEqual(caught_error(lets_broken, THREE, ((HALF, HALF, (-1, 2)), ())), ("day", -1))


if __name__ == "__main__":
    unittest.main()
