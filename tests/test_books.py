"""[60], [61], [62]: books, their steps, what bars them, and what they tell of the present state."""

import random
import types
import unittest
from fractions import Fraction

from centbook.amounts import Amount
from centbook.books import Book
from centbook.breaking import room
from centbook.errors import InvalidStep, UnknownLine
from centbook.findings import found_booking
from centbook.kinds import is_sheet
from centbook.states import is_close_state, is_open, offs
from tests.plainbook import PlainBook, any_step, is_plain_step, odd_step, walk_of
from tests.samples import ODD_VALUES, all_close, day, fraction_pair, line, looks_like, value_of

HALF, THIRD = (1, 2), (1, 3)
ZERO = (0, 1)
WHAT_IT_TELLS = ("state", "announced", "sections", "owed", "offs", "is_open", "room", "can_go_on")


def told(book):
    """All that a book tells, without its counts."""
    return [getattr(book, name) for name in WHAT_IT_TELLS] + [book.log(), str(book), list(book.days()), len(book)]


def sheet_of(book):
    return book.state, book.sections, book.announced


def book_of(*steps):
    """A book after some steps."""
    book = Book()
    for step in steps:
        book.go(step)
    return book


def own_way(book, step):
    """Does a step by the book's own method, and returns what this returns."""
    word, *rest = step
    if word == "announce":
        return book.announce(**dict(*rest))
    if word == "correct":
        return book.correct(**dict(*rest))
    return getattr(book, {"add": "add_line", "sections": "set_sections"}.get(word, word))(*rest)


class BookTest(unittest.TestCase):
    def refused(self, step, reason, call, *values, **more):
        """The call raises InvalidStep for the very step."""
        with self.assertRaises(InvalidStep, msg=repr(step)) as caught:
            call(*values, **more)
        self.assertTrue(looks_like(caught.exception.step, step), repr((caught.exception.step, step)))
        self.assertEqual(caught.exception.reason, reason, repr(step))

    def barred(self, book, step, reason):
        """The step is barred, and the book is as before."""
        before = told(book)
        self.assertEqual(book.barred(step), reason, repr(step))
        self.refused(step, reason, book.go, step)
        self.assertEqual(told(book), before, repr(step))


class StepsTest(BookTest):
    def test_a_new_book(self):
        for book in (Book(), Book.empty()):
            self.assertEqual(told(book), [(), (), (), ZERO, (), True, None, True, (), "-", [], 0])
            self.assertEqual(book.counts(), (0, 0))
            self.assertIs(type(book), Book)

    def test_books_with_lines(self):
        book = Book("tea", "milk")
        self.assertEqual(book.state, (line("milk"), line("tea")))
        self.assertEqual(book.log(), (("add", "milk"), ("add", "tea")))
        self.assertEqual(book, Book("milk", "tea", sections=()))
        book = Book("b", "a", "c", sections=(("a", "b"),))
        self.assertEqual(book.log(), (("add", "a"), ("add", "b"), ("add", "c"), ("sections", (("a", "b"),))))
        self.assertEqual(book.sections, (("a", "b"),))
        self.assertEqual(book.counts(), (0, 0))

    def test_books_with_lines_that_are_refused(self):
        for sections, reason in (
            ([], "shape"), (None, "shape"), (0, "shape"), (False, "shape"), ("", "shape"), ((("a", "b"), ()), "shape"),
            ((("a", "c"),), "line"), ((("b", "a"),), "sections"), ((("a",),), "sections"),
        ):
            self.refused(("sections", sections), reason, Book, "b", "a", sections=sections)
        self.assertEqual(Book("a", sections=()).log(), (("add", "a"),))

    def test_most(self):
        self.assertEqual(Book.MOST, 6)
        book = Book(*"abcdef")
        self.assertEqual(book.MOST, 6)
        self.assertEqual(len(book), Book.MOST)
        self.barred(book, ("add", "g"), "full")

    def test_add(self):
        book = Book("b", "d")
        book.announce(b=HALF)
        book.sections = (("b", "d"),)
        self.assertIsNone(book.go(("add", "c")))
        self.assertIsNone(book.add_line("a"))
        self.assertIsNone(book.add_line(name="e"))
        self.assertEqual([one[0] for one in book.state], ["a", "b", "c", "d", "e"])
        self.assertEqual(book.state[0], ("a", ZERO, 0, True))
        self.assertEqual(book.announced, ((ZERO, HALF, ZERO, ZERO, ZERO),))
        self.assertEqual(book.sections, (("b", "d"),))

    def test_add_behind_sent_days(self):
        book = Book("b")
        book.announce(b=(5, 2))
        book.send((3,))
        book.add_line("a")
        self.assertEqual(book.state, (line("a"), line("b", Fraction(5, 2), 3)))

    def test_sections(self):
        book = Book(*"abcd")
        self.assertIsNone(book.go(("sections", (("a", "b"), ("c", "d")))))
        self.assertEqual(book.sections, (("a", "b"), ("c", "d")))
        self.assertIsNone(book.set_sections((("a", "b", "c"), ("a", "c"))))
        self.assertEqual(book.sections, (("a", "b", "c"), ("a", "c")))
        self.assertIsNone(book.set_sections(value=(("a", "d"),)))
        book.sections = (("b", "c"),)
        self.assertEqual(book.sections, (("b", "c"),))
        book.sections = ()
        self.assertEqual(book.sections, ())
        self.assertEqual(len(book.log()), 9)

    def test_setting_sections_to_any_value(self):
        book = Book("a", "b", sections=(("a", "b"),))
        for odd in ODD_VALUES:
            if odd == () and type(odd) is tuple:
                continue
            reason = book.barred(("sections", odd))
            self.assertIn(reason, ("shape", "line", "sections"))
            with self.assertRaises(InvalidStep) as caught:
                book.sections = odd
            self.assertTrue(looks_like((caught.exception.step, caught.exception.reason), (("sections", odd), reason)))
            self.refused(("sections", odd), reason, book.set_sections, odd)
        self.assertEqual(book.sections, (("a", "b"),))

    def test_announce(self):
        book = Book("a", "b", "c")
        self.assertIsNone(book.go(("announce", (("a", HALF), ("c", (7, 3))))))
        self.assertEqual(book.announce(c=HALF, b=(1, 1)), 2)
        self.assertEqual(book.announce(), 3)
        self.assertEqual(book.announced, (day(Fraction(1, 2), 0, Fraction(7, 3)), day(0, 1, Fraction(1, 2)), day(0, 0, 0)))
        self.assertEqual(book.log()[4:], (("announce", (("b", (1, 1)), ("c", HALF))), ("announce", ())))

    def test_announce_with_any_values(self):
        """Pairs of names and values, ascending by name, whatever the values are."""
        book = Book("a", "b")
        for odd in ODD_VALUES:
            self.refused(("announce", (("a", odd), ("b", odd))), "shape", book.announce, b=odd, a=odd)
            is_change = type(odd) is int and odd != 0
            self.refused(("correct", (("a", odd), ("b", odd))), "close" if is_change else "shape", book.correct, b=odd, a=odd)
        self.refused(("announce", (("A", HALF),)), "shape", book.announce, A=HALF)
        self.refused(("announce", (("a_b", HALF),)), "shape", book.announce, a_b=HALF)
        self.refused(("announce", (("a", (2, 4)),)), "shape", book.announce, a=(2, 4))
        self.refused(("announce", (("a", (-1, 2)),)), "shape", book.announce, a=(-1, 2))

    def test_a_line_called_self(self):
        book = Book("self")
        self.assertRaises(TypeError, lambda: book.announce(**{"self": HALF}))
        book.go(("announce", (("self", HALF),)))
        self.assertEqual(book.announced, (day(Fraction(1, 2)),))
        self.assertEqual(book["self"], (ZERO, 0, True))

    def test_withdraw(self):
        book = Book("a")
        book.announce(a=HALF)
        book.announce(a=THIRD)
        self.assertIsNone(book.withdraw())
        self.assertEqual(book.announced, (day(Fraction(1, 2)),))
        self.assertIsNone(book.go(("withdraw",)))
        self.assertEqual(book.announced, ())

    def test_send(self):
        book = Book("a", "b")
        book.announce(a=(3, 2), b=HALF)
        book.announce(b=HALF)
        self.assertEqual(book.send((1, 1)), (1, 1))
        self.assertEqual(book.state, (line("a", Fraction(3, 2), 1), line("b", Fraction(1, 2), 1)))
        self.assertEqual(book.announced, (day(0, Fraction(1, 2)),))
        self.assertIsNone(book.go(("send", (0, 0))))
        self.assertEqual(book.state[1], line("b", 1, 1))
        self.assertEqual(book.log()[-1], ("send", (0, 0)))

    def test_send_by_name(self):
        book = Book("a")
        book.announce(a=HALF)
        self.assertEqual(book.send(cents=(1,)), (1,))

    def test_end(self):
        book = Book("a", "b", "c", sections=(("a", "b"),))
        self.assertIsNone(book.end("a"))
        self.assertIsNone(book.end(line="c"))
        self.assertEqual([one[3] for one in book.state], [False, True, False])
        self.assertEqual(book.sections, (("a", "b"),))
        self.assertEqual(book.announce(a=ZERO, b=HALF), 1)
        self.assertIsNone(book_of(("add", "a")).go(("end", "a")))

    def test_correct(self):
        book = Book("a", "b")
        book.announce(a=HALF, b=HALF)
        book.send((1, 0))
        self.assertIsNone(book.correct(b=1, a=-1))
        self.assertEqual([one[2] for one in book.state], [0, 1])
        self.assertEqual(book.log()[-1], ("correct", (("a", -1), ("b", 1))))
        book.end("b")
        self.assertIsNone(book.go(("correct", (("a", 1), ("b", -1)))))
        self.assertEqual([one[2] for one in book.state], [1, 0])

    def test_values_that_are_no_steps(self):
        book = Book("a", "b")
        book.announce(a=HALF)
        for odd in ODD_VALUES:
            self.barred(book, odd, "shape")
            for word in ("add", "sections", "announce", "send", "end", "correct", "undo", "Add"):
                step = (word, odd)
                self.assertEqual(book.barred(step) == "shape", not is_plain_step(step), repr(step))
                if not is_plain_step(step):
                    self.barred(book, step, "shape")
        for step in (
            ("add",), ("add", "a", "b"), ["add", "c"], ("add", "C"), ("add", "abcdefghi"), ("add", ""), ("withdraw", ()), ("withdraw", None),
            ["withdraw"], ("sections", ((),)), ("sections", [("a", "b")]), ("sections", (["a", "b"],)), ("sections", ("ab",)), ("sections",),
            ("announce", (("b", HALF), ("a", HALF))), ("announce", (("a", HALF), ("a", HALF))), ("announce", (("a", (2, 4)),)),
            ("announce", (("a", (-1, 2)),)), ("announce", (("a", 1),)), ("announce", (("a", (True, 1)),)), ("announce", [("a", HALF)]),
            ("announce", (["a", HALF],)), ("announce", {"a": HALF}), ("announce",), ("send",), ("send", [0, 0]), ("send", (0, -1)),
            ("send", (0, True)), ("send", 0), ("send", (0, None)), ("send", None), ("end",), ("end", None), ("correct", ()), ("correct",),
            ("correct", (("a", 0),)), ("correct", (("a", True),)), ("correct", (("b", 1), ("a", 1))), ("correct", (("a", 1), ("a", 1))),
            ("correct", (("a", HALF),)), (("add", "c"),), ((), ()), (1, "c"), ("new",), ("",), ("add ", "c"), ("correct", (("A", 1),)),
            ([], "a"), ({}, ()), ("announce", (("a", HALF, 1),)), ("announce", ("ab",)), ("add", ("c",)), (True,),
        ):
            self.barred(book, step, "shape")

    def test_what_bars_a_line(self):
        book = Book(*"abcdef")
        self.barred(book, ("add", "a"), "name")
        self.barred(book, ("add", "f"), "name")
        self.barred(book, ("add", "aa"), "full")
        book = Book("a")
        book.end("a")
        self.barred(book, ("add", "a"), "name")

    def test_what_bars_sections(self):
        book = Book(*"abcdef")
        for sections, reason in (
            ((("a", "g"),), "line"), ((("b", "a"), ("a", "g")), "line"), ((("g",),), "line"), ((("a",),), "sections"),
            ((("b", "a"),), "sections"), ((("a", "a"),), "sections"), ((("a", "b"), ("a", "b")), "sections"),
            ((("c", "d"), ("a", "b")), "sections"), ((("a", "b"), ("b", "c")), "sections"), ((("a", "b", "c"), ("b", "d")), "sections"),
            ((("a", "b"), ("a", "b", "c"), ("b", "c", "d"), ("e", "f")), "sections"),
            ((("a", "b"), ("a", "b", "c"), ("d", "e"), ("d", "e", "f")), "full"),
            ((("a", "b"), ("a", "b", "c"), ("d", "e"), ("d", "g")), "line"),
        ):
            self.barred(book, ("sections", sections), reason)
        book.set_sections((("a", "b"), ("a", "b", "c"), ("d", "e")))
        book.end("a")
        book.set_sections((("a", "b"),))

    def test_what_bars_a_day(self):
        book = Book("a", "b")
        book.end("b")
        self.barred(book, ("announce", (("c", ZERO),)), "line")
        self.barred(book, ("announce", (("b", HALF), ("c", HALF))), "line")
        self.barred(book, ("announce", (("a", HALF), ("b", HALF))), "ended")
        for _ in range(10):
            book.go(("announce", (("a", HALF), ("b", ZERO))))
        self.barred(book, ("announce", ()), "full")
        self.barred(book, ("announce", (("a", HALF),)), "full")
        self.barred(book, ("announce", (("b", HALF),)), "ended")
        self.barred(book, ("announce", (("c", HALF),)), "line")
        book.send()
        self.assertEqual(book.announce(a=HALF), 10)

    def test_what_bars_withdrawing_and_sending(self):
        book = Book("a", "b")
        self.barred(book, ("withdraw",), "none")
        self.barred(book, ("send", (0, 0)), "none")
        self.barred(book, ("send", ()), "none")
        self.barred(book, ("send", (1, 2, 3)), "none")
        book.announce(a=HALF, b=(3, 2))
        for cents in ((), (0,), (0, 0, 0), (9, 9, 9)):
            self.barred(book, ("send", cents), "count")
        for cents in ((0, 0), (1, 2), (2, 0), (0, 3), (1, 0), (10 ** 50, 1)):
            self.barred(book, ("send", cents), "close")
        book.send((0, 2))
        self.barred(book, ("withdraw",), "none")

    def test_sending_looks_at_the_sections_of_the_day(self):
        book = Book(*"abcd")
        book.announce(a=HALF, b=HALF, c=HALF, d=HALF)
        self.assertIsNone(book.barred(("send", (1, 1, 0, 0))))
        book.sections = (("a", "b"),)
        self.barred(book, ("send", (1, 1, 0, 0)), "close")
        self.assertEqual(book.send((1, 0, 1, 0)), (1, 0, 1, 0))

    def test_cents_that_leave_the_next_day_stuck(self):
        """They are close for the day alone."""
        book = Book("a", "b", "c")
        book.announce(a=HALF, b=HALF, c=HALF)
        book.announce(a=HALF, b=HALF)
        self.assertEqual(list(book.choices()), sorted({booking[0] for booking in all_close(sheet_of(book))}))
        self.assertNotIn((1, 1, 0), list(book.choices()))
        self.assertIsNone(book.barred(("send", (1, 1, 0))))
        self.assertEqual(book.tried(("send", (1, 1, 0))), (False, False))
        self.assertEqual(book.send((1, 1, 0)), (1, 1, 0))
        self.assertFalse(book.can_go_on)
        self.assertEqual(list(book.choices()), [])
        self.refused(("send", ()), "stuck", book.send)
        self.assertEqual(book.undo(), ("send", (1, 1, 0)))
        self.assertTrue(book.can_go_on)

    def test_what_bars_an_end(self):
        book = Book("a", "b")
        book.announce(a=ZERO, b=HALF)
        self.barred(book, ("end", "c"), "line")
        self.barred(book, ("end", "b"), "charged")
        book.end("a")
        self.barred(book, ("end", "a"), "ended")
        book.send((0, 0))
        book.end("b")
        self.barred(book, ("end", "b"), "ended")
        book = Book("a")
        book.announce()
        book.announce(a=THIRD)
        self.barred(book, ("end", "a"), "charged")

    def test_what_bars_corrections(self):
        book = Book("a", "b")
        self.barred(book, ("correct", (("c", 1),)), "line")
        self.barred(book, ("correct", (("a", 9), ("c", 1))), "line")
        self.barred(book, ("correct", (("a", 1),)), "close")
        self.barred(book, ("correct", (("a", 1), ("b", -1))), "close")
        book.announce(a=HALF, b=HALF)
        book.send((1, 0))
        for changes in ((("a", -1),), (("b", 1),), (("a", 1), ("b", -1)), (("a", -2), ("b", 2))):
            self.barred(book, ("correct", changes), "close")
        book.correct(a=-1, b=1)

    def test_each_kind_by_its_own_method(self):
        """The same steps by go, and by the methods: equal books, and equal errors."""
        refused = 0
        for seed in range(60):
            one, other = Book(), Book()
            for step, _ in walk_of(seed)[0]:
                names = [name for name, _ in step[1]] if is_plain_step(step) and step[0] in ("announce", "correct") else []
                if not is_plain_step(step) or "self" in names:
                    continue
                try:
                    one.go(step)
                except InvalidStep as error:
                    self.refused(error.step, error.reason, own_way, other, step)
                    refused += 1
                else:
                    expected = {"announce": len(one.announced), "send": step[-1]}.get(step[0])
                    self.assertEqual(own_way(other, step), expected)
                self.assertEqual(told(one), told(other))
        self.assertGreater(refused, 100)

    def test_against_the_document(self):
        """Each step is barred by the word that a plain book finds, and has the effect that it has there."""
        seen = {}
        for seed in range(250):
            book, plain = Book(), PlainBook()
            for step, reason in walk_of(seed)[0]:
                self.assertEqual(book.barred(step), reason, repr((plain.sheet(), step)))
                if reason is None:
                    book.go(step)
                    plain.do(step)
                else:
                    self.refused(step, reason, book.go, step)
                self.assertEqual(sheet_of(book), plain.sheet())
                self.assertEqual(book.log(), tuple(plain.steps))
                word = step[0] if is_plain_step(step) else None
                seen[word, reason] = seen.get((word, reason), 0) + 1
        kinds = {
            "add": ("name", "full"), "sections": ("line", "sections"), "announce": ("line", "ended"), "withdraw": ("none",),
            "send": ("none", "count", "close"), "end": ("line", "ended", "charged"), "correct": ("line", "close"), None: ("shape",),
        }
        wanted = {(word, reason) for word in kinds for reason in kinds[word] + (() if word is None else (None,))}
        self.assertLessEqual(wanted, set(seen))

    def test_spoiled_steps(self):
        """Steps with a part changed are barred by the word that a plain book finds."""
        for seed in range(60):
            walk, plain = walk_of(seed, many=15)
            book = book_of(*[step for step, reason in walk if reason is None])
            rng = random.Random(seed)
            before = told(book)
            for _ in range(60):
                step = odd_step(rng, any_step(rng, plain))
                reason = plain.barred(step)
                self.assertEqual(book.barred(step), reason, repr((plain.sheet(), step)))
                if reason is not None:
                    self.refused(step, reason, book.go, step)
            self.assertEqual(told(book), before)

    def test_an_error_keeps_the_step_it_was_given(self):
        book = Book("a")
        step = ["add", "b"]
        with self.assertRaises(InvalidStep) as caught:
            book.go(step)
        self.assertIs(caught.exception.step, step)


class PropertiesTest(BookTest):
    def check(self, book):
        """All that a book tells, compared with the functions for states and sheets."""
        state, sections, days = sheet_of(book)
        if state:
            self.assertTrue(is_sheet((state, sections, days)))
        self.assertTrue(is_close_state(state))
        self.assertEqual(book.offs, tuple((one[0], off) for one, off in zip(state, offs(state))))
        owed = sum((value_of(one[1]) - one[2] for one in state), Fraction(0))
        self.assertEqual(book.owed, fraction_pair(owed))
        self.assertIs(book.is_open, is_open(state))
        self.assertEqual(book.room, None if is_open(state) else room(state)[0])
        self.assertIs(book.can_go_on, found_booking((state, sections, days)) is not None)
        self.assertEqual(len(book), len(state))
        for name, exact, cents, goes_on in state:
            self.assertIn(name, book)
            self.assertEqual(book[name], (exact, cents, goes_on))

    def test_after_each_of_many_steps(self):
        seen = {"open": 0, "closed": 0, "stuck": 0}
        for seed in range(120):
            book = Book()
            for step, reason in walk_of(seed, many=50)[0]:
                if reason is None:
                    book.go(step)
                    self.check(book)
                    seen["open" if book.is_open else "closed"] += 1
                    seen["stuck"] += not book.can_go_on
        self.assertGreater(min(seen.values()), 15, repr(seen))

    def test_states_that_are_not_open(self):
        """Three halves, sent as they may be; the room is told until a correction, and again after undoing it."""
        book = Book("a", "b", "c", "d")
        book.announce(a=HALF, b=HALF, c=HALF)
        book.send((1, 1, 0, 0))
        self.assertEqual((book.is_open, book.room, book.owed), (False, HALF, (-1, 2)))
        book.announce(c=HALF)
        self.assertEqual((book.is_open, book.can_go_on), (False, False))
        self.check(book)
        book.correct(a=-1)
        self.assertEqual((book.is_open, book.can_go_on, book.room, book.owed), (False, True, HALF, HALF))
        book.undo()
        self.assertEqual((book.is_open, book.can_go_on, book.room), (False, False, HALF))
        book.withdraw()
        self.assertEqual((book.is_open, book.can_go_on), (False, True))

    def test_an_end_may_close_a_state(self):
        """Lines that have ended count otherwise."""
        book = Book("a", "b", "c")
        book.announce(a=HALF, b=(3, 4), c=HALF)
        book.send((1, 1, 0))
        self.assertEqual((book.is_open, book.room), (True, None))
        book.end("c")
        self.check(book)
        self.assertEqual((book.is_open, book.room), (True, None))
        book = Book("a", "b", "c", "d")
        book.announce(a=(1, 4), b=HALF, c=HALF, d=HALF)
        book.send((0, 0, 1, 1))
        self.assertEqual((book.is_open, book.room), (False, (1, 1)))
        book.end("d")
        self.check(book)

    def test_books_without_lines(self):
        book = Book()
        for step in (("sections", ()), ("announce", ()), ("announce", ())):
            self.assertIsNone(book.barred(step))
            book.go(step)
        self.assertEqual(book.announced, ((), ()))
        self.assertEqual((book.is_open, book.can_go_on, book.room, book.owed, book.offs), (True, True, None, ZERO, ()))
        self.assertEqual(list(book.choices()), [()])
        self.barred(book, ("send", (0,)), "count")
        self.assertEqual(book.send(), ())
        self.assertEqual(book.send(()), ())
        self.assertEqual(list(book.days()), [(0, ()), (1, ())])
        self.barred(book, ("sections", (("a", "b"),)), "line")
        book.announce()
        book.add_line("a")
        self.assertEqual(book.announced, ((ZERO,),))
        self.assertEqual(list(book.choices()), [(0,)])

    def test_choices(self):
        """The cents of the first day in all close bookings, found by trying."""
        seen, many = 0, 0
        for seed in range(150):
            book = Book()
            for step, reason in walk_of(seed, many=30)[0]:
                if reason is not None:
                    continue
                book.go(step)
                if 0 < len(book.announced) and len(book) * len(book.announced) <= 9 and len(book) <= 4 and step[0] != "send":
                    expected = sorted({booking[0] for booking in all_close(sheet_of(book))})
                    self.assertEqual(list(book.choices()), expected, repr(sheet_of(book)))
                    self.assertIs(book.can_go_on, expected != [])
                    seen += 1
                    many += len(expected) > 1
        self.assertGreater(seen, 300)
        self.assertGreater(many, 80)

    def test_choices_is_a_generator(self):
        book = Book("a", "b")
        self.assertEqual(list(book.choices()), [])
        book.announce(a=HALF, b=HALF)
        one, two = book.choices(), book.choices()
        self.assertIsInstance(one, types.GeneratorType)
        self.assertEqual(next(one), (0, 1))
        self.assertEqual((list(two), list(one)), ([(0, 1), (1, 0)], [(1, 0)]))
        for choice in book.choices():
            self.assertIs(type(choice), tuple)
            self.assertIsNone(book.barred(("send", choice)))

    def test_sending_any_choice(self):
        seen = 0
        for seed in range(60):
            book = Book()
            for step, reason in walk_of(seed, many=30)[0]:
                if reason is None:
                    book.go(step)
            while book.announced:
                choices = list(book.choices())
                before = book.log()
                if not choices:
                    self.refused(("send", ()), "stuck", book.send, None)
                    break
                self.assertIs(book.can_go_on, True)
                cents = book.send()
                self.assertIn(cents, choices)
                self.assertEqual(book.log(), before + (("send", cents),))
                self.assertIs(book.can_go_on, True)
                seen += 1
            else:
                self.refused(("send", ()), "none", book.send)
        self.assertGreater(seen, 50)

    def test_a_stuck_book(self):
        book = Book("a", "b", "c")
        book.announce(a=HALF, b=HALF, c=HALF)
        book.send((1, 1, 0))
        book.announce(c=HALF)
        before = told(book)
        for call in (book.send, lambda: book.send(None), lambda: book.send(cents=None)):
            self.refused(("send", ()), "stuck", call)
        self.assertEqual(told(book), before)
        self.assertEqual((book.can_go_on, list(book.choices())), (False, []))
        self.barred(book, ("send", (0, 0, 1)), "close")

    def test_six_lines_and_ten_days(self):
        rng = random.Random(5)
        book = Book(*"abcdef", sections=(("a", "b"), ("a", "b", "c"), ("e", "f")))
        for _ in range(10):
            book.announce(**{name: fraction_pair(Fraction(rng.randint(0, 1000), rng.choice((3, 7, 9973)))) for name in "abcdef"})
        self.assertEqual((book.can_go_on, book.is_open), (True, True))
        self.barred(book, ("announce", ()), "full")
        for left in reversed(range(10)):
            cents = book.send()
            self.assertEqual((len(cents), len(book.announced), book.can_go_on), (6, left, True))
            self.check(book)

    def test_rounded(self):
        for fraction, expected in (((7, 2), (3, 4)), ((-7, 2), (-4, -3)), ((5, 1), (5, 5)), (ZERO, (0, 0)), ((1, 10 ** 4), (0, 1))):
            self.assertEqual(Book.rounded(fraction), expected)
            self.assertEqual(Book("a").rounded(fraction=fraction), expected)
            self.assertIs(type(Book.rounded(fraction)), tuple)

    def test_lines_of_a_book(self):
        book = Book("a", "tea")
        self.assertEqual(book["a"], (ZERO, 0, True))
        self.assertIs(type(book["a"]), tuple)
        for thing in (*ODD_VALUES, "b", "te", ("a",), ["a"], Amount(1), book):
            with self.assertRaises(UnknownLine) as caught:
                book[thing]
            self.assertIs(caught.exception.name, thing)
            self.assertIs(thing in book, False)
        for name in ("a", "tea"):
            self.assertIs(name in book, True)
        self.assertEqual((len(book), len(Book())), (2, 0))

    def test_a_book_is_not_iterated_over(self):
        self.assertRaises(TypeError, lambda: list(Book("a")))
        self.assertRaises(TypeError, lambda: [one for one in Book()])

    def test_only_sections_can_be_set(self):
        book = Book("a")
        for name in set(WHAT_IT_TELLS) - {"sections"}:
            self.assertRaises(AttributeError, setattr, book, name, getattr(book, name))

    def test_kinds(self):
        book = Book("a", "b")
        book.announce(a=HALF)
        for name, kind in zip(WHAT_IT_TELLS, (tuple, tuple, tuple, tuple, tuple, bool, type(None), bool)):
            self.assertIs(type(getattr(book, name)), kind)
        self.assertTrue(all(type(one) is tuple for one in book.state + book.announced + book.offs + book.log()))

    def test_examples(self):
        book = Book("tea", "milk")
        self.assertEqual(book.announce(tea=(1, 2), milk=(1, 2)), 1)
        self.assertIsNone(book.go(("send", (1, 0))))
        self.assertEqual(
            [book.owed, book.offs, book.is_open, book.can_go_on], [(0, 1), (("milk", (1, 2)), ("tea", (-1, 2))), True, True],
        )
        book = Book("a", "b", "c")
        self.assertEqual(book.announce(a=(1, 2), b=(1, 2), c=(1, 2)), 1)
        self.assertEqual(
            [list(book.choices())[:2], book.barred(("send", (0, 0, 0))), book.barred(("end", "c"))],
            [[(0, 0, 1), (0, 1, 0)], "close", "charged"],
        )


if __name__ == "__main__":
    unittest.main()
