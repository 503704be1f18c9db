"""[63], [64], [7] (C10), [9]: trials, several steps at once, undoing, counts, and equal books."""

import random
import unittest

from centbook.amounts import Amount
from centbook.books import Book
from centbook.errors import BookError, CentError, InvalidStep, InvalidText, NothingToUndo, TextError, UnknownLine
from tests.plainbook import any_step, odd_step, walk_of
from tests.samples import ODD_VALUES, changed, looks_like
from tests.test_books import book_of, sheet_of, told

HALF = (1, 2)
ZERO = (0, 1)


def walked_book(seed, many=25):
    """A book after the steps of a walk that are not barred, and the plain book."""
    walk, plain = walk_of(seed, many)
    return book_of(*[step for step, reason in walk if reason is None]), plain


def steps_ahead(rng, plain, many):
    """Steps that can be done one after the other, and the plain books before and behind each of them."""
    steps, plains = [], [plain]
    while len(steps) < many:
        step = any_step(rng, plains[-1])
        if plains[-1].barred(step) is None:
            plains.append(plains[-1].copy())
            plains[-1].do(step)
            steps.append(step)
    return steps, plains


def barred_step(rng, plain):
    """Any value that is barred as the next step."""
    while True:
        step = odd_step(rng, any_step(rng, plain)) if rng.random() < 0.4 else any_step(rng, plain)
        if plain.barred(step) is not None:
            return step


class TrialsTest(unittest.TestCase):
    def refused(self, step, reason, call, *values, **more):
        with self.assertRaises(InvalidStep, msg=repr(step)) as caught:
            call(*values, **more)
        self.assertTrue(looks_like(caught.exception.step, step))
        self.assertEqual(caught.exception.reason, reason)

    def test_tried(self):
        """What is told is that of a book that does the steps; and the book is exactly as before."""
        seen = {}
        for seed in range(120):
            book, plain = walked_book(seed)
            rng = random.Random(seed)
            steps, _ = steps_ahead(rng, plain, rng.randint(0, 5))
            before = (told(book), book.counts())
            found = book.tried(*steps)
            self.assertEqual((told(book), book.counts()), before)
            other = book_of(*book.log(), *steps)
            self.assertTrue(looks_like(found, (other.is_open, other.can_go_on)))
            seen[found] = seen.get(found, 0) + 1
        self.assertEqual(len(seen), 3, seen)
        self.assertEqual(Book().tried(), (True, True))

    def test_tried_with_a_barred_step(self):
        """In each place, also with a value of any kind; nothing remains of it."""
        for seed in range(60):
            book, plain = walked_book(seed)
            rng = random.Random(seed)
            steps, plains = steps_ahead(rng, plain, 4)
            before = (told(book), book.counts())
            for k in range(5):
                bad = barred_step(rng, plains[k])
                self.refused(bad, plains[k].barred(bad), book.tried, *steps[:k], bad, *steps[k:])
                self.refused(bad, plains[k].barred(bad), book.tried, *steps[:k], bad, None, bad)
            for odd in ODD_VALUES:
                self.refused(odd, "shape", book.tried, *steps[:2], odd)
            self.assertEqual((told(book), book.counts()), before)

    def test_a_trial_leaves_no_trace(self):
        """(C10): a book with trials in between is and goes on like one without."""
        for seed in range(40):
            one, other = Book(), Book()
            rng = random.Random(seed)
            walk, plain = walk_of(seed)
            for step, reason in walk:
                if reason is None:
                    one.go(step)
                    other.go(step)
                    for trial in ([step], [any_step(rng, plain), step], [odd_step(rng, step)], []):
                        try:
                            other.tried(*trial)
                        except InvalidStep:
                            pass
            self.assertEqual(one, other)
            self.assertEqual(told(one), told(other))
            self.assertEqual(one.counts(), other.counts())
            self.assertEqual([one.undo() for _ in one.log()], [other.undo() for _ in other.log()])

    def test_do_all(self):
        for seed in range(60):
            book, plain = walked_book(seed)
            rng = random.Random(seed)
            steps, plains = steps_ahead(rng, plain, rng.randint(0, 6))
            expected = book_of(*book.log(), *steps)
            started = book.counts()[0]
            self.assertEqual(book.do_all(*steps, keep=bool(seed % 2)), len(steps))
            self.assertEqual(told(book), told(expected))
            self.assertEqual(sheet_of(book), plains[-1].sheet())
            self.assertEqual(book.counts(), (started + 1, started + 1))
        self.assertEqual(Book().do_all(), 0)

    def test_do_all_with_a_barred_step(self):
        """In each place: the book is as before the first step, or with keep as before the barred one."""
        for seed in range(40):
            rng = random.Random(seed)
            _, plain = walked_book(seed)
            steps, plains = steps_ahead(rng, plain, 4)
            for k in range(5):
                for keep in (False, True, None):
                    book = walked_book(seed)[0]
                    bad = barred_step(rng, plains[k])
                    before, started = book.log(), book.counts()[0]
                    more = {} if keep is None else {"keep": keep}
                    self.refused(bad, plains[k].barred(bad), book.do_all, *steps[:k], bad, *steps[k:], bad, **more)
                    done = before + tuple(steps[:k]) if keep else before
                    self.assertEqual(told(book), told(book_of(*done)))
                    self.assertEqual(book.counts(), (started + 1, started + 1))
                    self.assertEqual([book.undo() for _ in done], list(done[::-1]))

    def test_do_all_with_any_values(self):
        for odd in ODD_VALUES:
            for keep in (False, True):
                book = Book("a")
                self.refused(odd, "shape", book.do_all, ("add", "b"), odd, ("add", "c"), keep=keep)
                self.assertEqual(len(book), 1 + keep)

    def test_undo(self):
        for seed in range(60):
            walk, _ = walk_of(seed)
            book, past = Book(), []
            for step, reason in walk:
                if reason is None:
                    past.append((told(book), step))
                    book.go(step)
            for before, step in past[::-1]:
                self.assertEqual(book.undo(), step)
                self.assertEqual(told(book), before)
            self.assertEqual(book, Book())
            for _ in range(2):
                with self.assertRaises(NothingToUndo) as caught:
                    book.undo()
                self.assertTrue(looks_like(caught.exception.steps, 0))
            self.assertEqual(told(book), told(Book()))

    def test_undo_the_steps_a_book_was_made_with(self):
        book = Book("b", "a", sections=(("a", "b"),))
        self.assertEqual([book.undo(), book.undo(), book.undo()], [("sections", (("a", "b"),)), ("add", "b"), ("add", "a")])
        self.assertRaises(NothingToUndo, book.undo)

    def test_undo_and_go_on(self):
        book = Book("a", "b")
        book.announce(a=HALF, b=HALF)
        book.send((0, 1))
        book.undo()
        self.assertEqual((book.announced, list(book.days())), (((HALF, HALF),), []))
        book.send((1, 0))
        self.assertEqual(book, book_of(("add", "a"), ("add", "b"), ("announce", (("a", HALF), ("b", HALF))), ("send", (1, 0))))

    def test_counts(self):
        """Each operation is one, also one that raises an error."""
        book = Book("a", "b", sections=(("a", "b"),))
        expected = 0
        for call, fails in (
            (lambda: book.go(("announce", (("a", HALF), ("b", HALF)))), False), (lambda: book.announce(a=HALF), False),
            (lambda: book.go(("add", "a")), True), (lambda: book.go(None), True), (lambda: book.add_line("c"), False),
            (lambda: book.add_line("c"), True), (lambda: book.announce(z=HALF), True), (lambda: book.withdraw(), False),
            (lambda: book.send((1, 0, 0)), False), (lambda: book.send(), True), (lambda: book.send((0,)), True), (lambda: book.send(None), True),
            (lambda: book.withdraw(), True), (lambda: book.set_sections(()), False), (lambda: book.set_sections(0), True),
            (lambda: setattr(book, "sections", (("a", "c"),)), False), (lambda: setattr(book, "sections", [1]), True),
            (lambda: book.end("c"), False), (lambda: book.end("c"), True), (lambda: book.correct(a=5), True),
            (lambda: book.correct(a=-1, b=1), False), (lambda: book.undo(), False),
            (lambda: book.do_all(), False), (lambda: book.do_all(("announce", ()), ("withdraw",)), False),
            (lambda: book.do_all(("announce", ()), 1), True), (lambda: book.do_all(("announce", ()), 1, keep=True), True),
        ):
            if fails:
                self.assertRaises(InvalidStep, call)
            else:
                call()
            expected += 1
            self.assertEqual(book.counts(), (expected, expected))
        while book.log():
            book.undo()
            expected += 1
        self.assertRaises(NothingToUndo, book.undo)
        self.assertEqual(book.counts(), (expected + 1, expected + 1))

    def test_stuck_sending_is_counted(self):
        book = Book("a", "b", "c")
        book.announce(a=HALF, b=HALF, c=HALF)
        book.send((1, 1, 0))
        book.announce(c=HALF)
        self.assertRaises(InvalidStep, book.send)
        self.assertEqual(book.counts(), (4, 4))

    def test_what_is_not_counted(self):
        book = Book("a", "b")
        book.announce(a=HALF, b=HALF)
        told(book)
        list(book.choices())
        book.barred(("add", "a"))
        book.barred(None)
        book.tried(("add", "c"), ("send", (1, 0, 0)))
        self.assertRaises(InvalidStep, book.tried, None)
        self.assertRaises(UnknownLine, lambda: book["c"])
        self.assertEqual((book["a"], "a" in book, book == Book(), book != Book(), Book.rounded((1, 2))), ((ZERO, 0, True), True, False, True, (0, 1)))
        self.assertEqual(book.counts(), (1, 1))
        self.assertEqual(type(book.counts()), tuple)
        for other in (Book(), Book.empty(), Book("a", "b", sections=(("a", "b"),)), Book.read("add a\nannounce a:1/2\nsend 1")):
            self.assertEqual(other.counts(), (0, 0))

    def test_equal_books(self):
        """Exactly if their logs are equal."""
        for seed in range(40):
            book, plain = walked_book(seed)
            same = book_of(*book.log())
            self.assertTrue(book == same and not book != same)
            same.tried()
            same.do_all()
            self.assertTrue(book == same)
            steps, _ = steps_ahead(random.Random(seed), plain, 1)
            same.go(steps[0])
            self.assertTrue(book != same and not book == same)
            same.undo()
            self.assertTrue(book == same)

    def test_books_with_the_same_sheet_and_other_logs(self):
        one = Book("a", "b")
        other = Book("b")
        other.add_line("a")
        self.assertEqual(sheet_of(one), sheet_of(other))
        self.assertTrue(one != other and not one == other)
        one.announce()
        one.withdraw()
        self.assertNotEqual(one, Book("a", "b"))
        self.assertNotEqual(book_of(("add", "a"), ("announce", ())), book_of(("add", "a"), ("announce", (("a", ZERO),))))

    def test_other_values(self):
        book = Book("a")
        for thing in (*ODD_VALUES, book.log(), list(book.log()), str(book), Amount(1), object(), Book):
            self.assertIs(book == thing, False)
            self.assertIs(book != thing, True)
            self.assertIs(thing == book, False)
        self.assertIs(book == book, True)
        self.assertIs(book != book, False)

    def test_equal_kinds(self):
        """A bool in the place of a number makes no step, so it is in no log."""
        book = Book("a", "b")
        book.announce(a=(1, 1), b=(1, 2))
        self.refused(("send", (True, 0)), "shape", book.send, (True, 0))
        self.refused(("send", (1, False)), "shape", book.go, ("send", (1, False)))
        book.send((1, 0))
        self.assertTrue(looks_like(book.log()[-1], ("send", (1, 0))))
        self.refused(("announce", (("a", (True, 1)),)), "shape", book.announce, a=(True, 1))
        self.assertFalse(looks_like(book.log(), changed(book.log(), 3, ("send", (True, 0)))))

    def test_log(self):
        book = Book("a")
        first = book.log()
        book.announce(a=HALF)
        self.assertEqual(first, (("add", "a"),))
        self.assertIs(type(book.log()), tuple)
        self.assertEqual(str(book), "add a / announce a:1/2")
        self.assertEqual((str(Book()), str(Book("b", "a", sections=(("a", "b"),)))), ("-", "add a / add b / sections a+b"))

    def test_errors_of_books(self):
        """[9]: their classes, families and attributes, from the calls that raise them."""
        for call, error, family, values in (
            (lambda: Book("a").undo() and Book().undo(), NothingToUndo, BookError, {"steps": 0}),
            (lambda: Book("a")["b"], UnknownLine, BookError, {"name": "b"}),
            (lambda: Book("a").add_line("a"), InvalidStep, BookError, {"step": ("add", "a"), "reason": "name"}),
            (lambda: Book().send(), InvalidStep, BookError, {"step": ("send", ()), "reason": "none"}),
            (lambda: Book.read("add a\nadd"), InvalidText, TextError, {"row": 1, "field": 1}),
        ):
            with self.assertRaises(CentError) as caught:
                call()
            self.assertIs(type(caught.exception), error)
            self.assertIsInstance(caught.exception, family)
            self.assertEqual(vars(caught.exception), values)


if __name__ == "__main__":
    unittest.main()
