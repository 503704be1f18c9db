"""[67], [68], [60]: rows of steps, written and read."""

import random
import unittest
from fractions import Fraction

from centbook.books import Book
from centbook.errors import InvalidStep, InvalidText
from centbook.replaying import is_log, replayed
from centbook.rowreadings import read_log, read_step
from centbook.steprows import log_rows, step_row
from tests.plainbook import is_plain_name, is_plain_step, odd_step, walk_of
from tests.samples import ODD_VALUES, fraction_pair, looks_like
from tests.test_books import told
from tests.test_sheetreadings import NO_FRACTIONS, NO_INTEGERS

HALF = (1, 2)
ZERO = (0, 1)
NINES = 10 ** 60 - 1

# Steps by kind, and their rows.
WRITTEN = (
    (("add", "tea"), "add tea"), (("add", "a"), "add a"), (("add", "add"), "add add"), (("add", "abcdefgh"), "add abcdefgh"),
    (("add", "total"), "add total"), (("end", "withdraw"), "end withdraw"), (("end", "z"), "end z"), (("withdraw",), "withdraw"),
    (("sections", ()), "sections -"), (("sections", (("a", "b"),)), "sections a+b"), (("sections", (("b",), ("b", "a", "b"))), "sections b b+a+b"),
    (("sections", (("a",),)), "sections a"), (("sections", (("c", "d"), ("a", "b"), ("a", "b"))), "sections c+d a+b a+b"),
    (("announce", ()), "announce -"), (("announce", (("a", ZERO),)), "announce a:0"),
    (("announce", (("milk", ZERO), ("tea", (7, 2)))), "announce milk:0 tea:7/2"),
    (("announce", (("a", (NINES, 1)), ("ab", (1, NINES)))), f"announce a:{NINES} ab:1/{NINES}"),
    (("send", ()), "send -"), (("send", (0,)), "send 0"), (("send", (10, 0, NINES)), f"send 10,0,{NINES}"),
    (("correct", (("a", 1),)), "correct a:1"), (("correct", (("a", -10), ("b", NINES), ("c", -NINES))), f"correct a:-10 b:{NINES} c:-{NINES}"),
)

# Rows that write no step, with the field of the first word that cannot stand at its place, or that is missing.
NO_ROWS = (
    ("", 0), (" ", 0), ("  ", 0), ("-", 0), ("- add a", 0), ("-add a", 0), (" add a", 0), ("Add a", 0), ("adds a", 0), ("a", 0), ("total", 0),
    ("\n", 0), ("\nadd a", 0), ("add\n a", 0), ("undo", 0), ("new", 0), ("0", 0), ("withdraw\n", 0), ("announce\n -", 0), ("add+a", 0),
    ("/", 0), ("add:a", 0), ("send,1", 0),
    ("withdraw ", 1), ("withdraw -", 1), ("withdraw a", 1), ("withdraw  a", 1), ("withdraw withdraw", 1), ("withdraw \n", 1),
    ("add", 1), ("add ", 1), ("add -", 1), ("add A", 1), ("add  a", 1), ("add abcdefghi", 1), ("add a1", 1), ("add a\n", 1), ("add \na", 1),
    ("add a b", 2), ("add a ", 2), ("add a -", 2), ("add a+b", 1), ("add a,b", 1), ("add a:1", 1), ("add a\nadd b", 1), ("add a  ", 2),
    ("end", 1), ("end ", 1), ("end -", 1), ("end 1", 1), ("end a a", 2), ("end a\n", 1), ("end a \n", 2),
    ("send", 1), ("send ", 1), ("send a", 1), ("send -1", 1), ("send 1,-1", 1), ("send 1,,2", 1), ("send ,", 1), ("send 1,", 1), ("send ,1", 1),
    ("send 01", 1), ("send +1", 1), ("send 1/2", 1), ("send 1, 2", 1), ("send 1 2", 2), ("send - 1", 2), ("send 1 -", 2), ("send - -", 2),
    ("send -,1", 1), ("send 1,-", 1), ("send 1\n", 1), ("send 1,2\n3", 1), ("send 1" + "0" * 60, 1), ("send 0,1" + "0" * 60, 1), ("send -0", 1),
    ("send - ", 2), ("send 1,2 ", 2), ("send --", 1),
    ("sections", 1), ("sections ", 1), ("sections  ", 1), ("sections - -", 2), ("sections - a", 2), ("sections a -", 2), ("sections a+b -", 2),
    ("sections a+", 1), ("sections +a", 1), ("sections a++b", 1), ("sections +", 1), ("sections a+B", 1), ("sections a+b c+-", 2),
    ("sections a,b", 1), ("sections a+b  c+d", 2), ("sections a+b c+d ", 3), ("sections a+abcdefghi", 1), ("sections a+b\n", 1),
    ("sections a+b c+d e+f\n", 3), ("sections - \n", 2), ("sections --", 1),
    ("announce", 1), ("announce ", 1), ("announce - -", 2), ("announce - a:1", 2), ("announce a:1 -", 2), ("announce a", 1), ("announce a:", 1),
    ("announce :1", 1), ("announce a:-1", 1), ("announce a:-1/2", 1), ("announce a:1:1", 1), ("announce a:2/4", 1), ("announce a:1/1", 1),
    ("announce A:1", 1), ("announce a:1 b", 2), ("announce a:1 a:1", 2), ("announce b:1 a:1", 2), ("announce a:1 b:1 ab:1", 3),
    ("announce a:1  b:1", 2), ("announce a:1 ", 2), ("announce a:1\n", 1), ("announce a:1 b:1\n", 2), ("announce a: 1", 1), ("announce a :1", 1),
    ("announce b:x a:1", 1), ("announce a:1 b:x c:y", 2), ("announce a:-0", 1), ("announce a:1,b:1", 1), ("announce abcdefghi:1", 1),
    ("correct", 1), ("correct ", 1), ("correct -", 1), ("correct - a:1", 1), ("correct a:1 -", 2), ("correct a:0", 1), ("correct a:-0", 1),
    ("correct a:1/2", 1), ("correct a:+1", 1), ("correct a", 1), ("correct a:", 1), ("correct a:1 a:2", 2), ("correct b:1 a:1", 2),
    ("correct a:1 b:0", 2), ("correct a:1 b:1 ", 3), ("correct a:1\n", 1), ("correct a:--1", 1), ("correct a:1 b:1 ab:1", 3), ("correct a:-", 1),
    ("correct a:1" + "0" * 60, 1), ("correct a:-1" + "0" * 60, 1), ("correct tea:1 milk:1", 2),
)


class WrittenTest(unittest.TestCase):
    def test_rows(self):
        for step, row in WRITTEN:
            self.assertTrue(is_plain_step(step))
            self.assertEqual(step_row(step), row)
            self.assertTrue(looks_like(read_step(row), step), row)
        self.assertEqual(step_row(step=("add", "a")), "add a")
        self.assertEqual(read_step(text="add a"), ("add", "a"))

    def test_rows_of_logs(self):
        log = tuple(step for step, _ in WRITTEN)
        rows = [row for _, row in WRITTEN]
        found = log_rows(log)
        self.assertTrue(looks_like(found, rows))
        self.assertTrue(looks_like(read_log(rows), log))
        self.assertEqual((log_rows(log=()), read_log(rows=[])), ([], ()))
        self.assertEqual(rows, [row for _, row in WRITTEN])

    def test_whatever_the_numbers_are(self):
        """Longer ones are written, too, but not read."""
        great = 7 ** 6000
        for step in (
            ("send", (great, 0)), ("announce", (("a", (great, 2)),)), ("announce", (("a", (1, great)),)), ("correct", (("a", -great),)),
        ):
            row = step_row(step)
            self.assertEqual(log_rows((step,)), [row])
            self.assertGreater(len(row), 5000)
            self.assertRaises(InvalidText, read_step, row)

    def test_reading_is_inverse(self):
        rng = random.Random(1)
        for seed in range(80):
            for step, _ in walk_of(seed)[0]:
                if is_plain_step(step):
                    self.assertTrue(looks_like(read_step(step_row(step)), step))
        for _ in range(300):
            names = sorted({"".join(rng.choice("abz") for _ in range(rng.randint(1, 8))) for _ in range(4)})
            for step in (
                ("sections", tuple(tuple(rng.choices(names, k=rng.randint(1, 4))) for _ in range(rng.randint(0, 4)))),
                ("announce", tuple((name, fraction_pair(Fraction(rng.randint(0, 10 ** 9), rng.randint(1, 10 ** 9)))) for name in names)),
                ("correct", tuple((name, rng.choice((-1, 1)) * rng.randint(1, 10 ** 40)) for name in names)),
                ("send", tuple(rng.randint(0, 10 ** rng.randint(0, 59)) for _ in range(rng.randint(0, 6)))),
            ):
                self.assertTrue(is_plain_step(step) and looks_like(read_step(step_row(step)), step))


class ReadTest(unittest.TestCase):
    def check(self, text, field):
        with self.assertRaises(InvalidText, msg=repr(text)) as caught:
            read_step(text)
        self.assertTrue(looks_like((caught.exception.row, caught.exception.field), (0, field)), repr((text, caught.exception.field, field)))
        for row in (0, 3):
            with self.assertRaises(InvalidText) as caught:
                read_log(["add a"] * row + [text, "", "add"])
            self.assertEqual((caught.exception.row, caught.exception.field), (row, field))

    def test_rows_that_write_no_step(self):
        for text, field in NO_ROWS:
            self.check(text, field)

    def test_numbers_that_are_none(self):
        for text in NO_INTEGERS:
            for row in ("correct a:{}", "announce a:{}", "announce a:1/{}"):
                self.check(row.format(text), 1)
            if text != "1,0":
                self.check(f"send 1,{text}", 1)
                self.check(f"send {text},1", 1)
        for text in NO_FRACTIONS:
            self.check(f"announce a:{text}", 1)
            self.check(f"announce a:0 b:{text}", 2)
            self.check(f"correct a:1 b:{text}", 2)

    def test_sixty_digits(self):
        self.assertEqual(read_step("send " + "9" * 60), ("send", (NINES,)))
        self.assertEqual(read_step("correct a:-" + "9" * 60), ("correct", (("a", -NINES),)))
        self.assertEqual(read_step("announce a:1/" + "9" * 60), ("announce", (("a", (1, NINES)),)))
        for text in ("send 1" + "0" * 60, "correct a:-1" + "0" * 60, "announce a:1" + "0" * 60, "announce a:1/1" + "0" * 60):
            self.check(text, 1)

    def test_names(self):
        for name in ("a", "z", "add", "end", "send", "total", "announce", "withdraw", "line", "abcdefgh"):
            self.assertEqual(read_step(f"add {name}"), ("add", name))
            self.assertEqual(read_step(f"correct {name}:1"), ("correct", ((name, 1),)))
        for name in ("", "A", "a1", "a_b", "abcdefghi", "a-b", "-", "a.b", "1"):
            self.assertFalse(is_plain_name(name))
            for row in ("add {}", "end {}", "sections {}+a", "sections a+{}", "announce {}:1", "correct {}:1"):
                self.check(row.format(name), 1)

    def test_barred_steps_are_read(self):
        self.assertEqual(read_log(["withdraw", "send 5", "add a", "add a", "sections b+a a"]), (
            ("withdraw",), ("send", (5,)), ("add", "a"), ("add", "a"), ("sections", (("b", "a"), ("a",))),
        ))

    def test_changed_rows(self):
        """A row is read exactly if it is the written form of the step that is read."""
        rng = random.Random(2)
        seen = {True: 0, False: 0}
        for _ in range(4000):
            _, row = rng.choice(WRITTEN)
            k = rng.randint(0, len(row))
            row = rng.choice((row[:k] + row[k + 1:], row[:k] + rng.choice(" -+:,/0a1\nb") + row[k:], row[:k], row + " " + row, row[k:]))
            try:
                step = read_step(row)
            except InvalidText as error:
                self.assertTrue(error.row == 0 and 0 <= error.field <= row.count(" ") + 1)
                seen[False] += 1
            else:
                self.assertTrue(is_plain_step(step))
                self.assertEqual(step_row(step), row)
                seen[True] += 1
        self.assertGreater(min(seen.values()), 500)

    def test_examples(self):
        self.assertEqual(step_row(("announce", (("milk", (0, 1)), ("tea", (7, 2))))), "announce milk:0 tea:7/2")
        with self.assertRaises(InvalidText) as caught:
            read_log(["add tea", "correct tea:1 milk:1"])
        self.assertEqual((caught.exception.row, caught.exception.field), (1, 2))


class ReplayingTest(unittest.TestCase):
    def test_is_log(self):
        self.assertIs(is_log(()), True)
        self.assertIs(is_log(thing=tuple(step for step, _ in WRITTEN)), True)
        for odd in ODD_VALUES:
            self.assertIs(is_log(odd), odd == () and type(odd) is tuple)
            self.assertIs(is_log((("add", "a"), odd)), False)
            self.assertIs(is_log((odd,)), False)
        self.assertIs(is_log([("add", "a")]), False)
        self.assertIs(is_log((["add", "a"],)), False)
        self.assertIs(is_log((("withdraw",), ("send", (True,)))), False)

    def test_is_log_against_the_document(self):
        seen = {True: 0, False: 0}
        for seed in range(60):
            rng = random.Random(seed)
            for step, _ in walk_of(seed)[0]:
                thing = odd_step(rng, step) if rng.random() < 0.5 and is_plain_step(step) else step
                self.assertIs(is_log((thing,)), is_plain_step(thing), repr(thing))
                seen[is_plain_step(thing)] += 1
        self.assertGreater(min(seen.values()), 200)

    def test_replayed_books(self):
        """(C10): from its log, its rows and its text, a book is equal, and goes on alike."""
        for seed in range(40):
            walk, _ = walk_of(seed, many=60)
            book, later = Book(), []
            for k, (step, reason) in enumerate(walk):
                if reason is None and k < 40:
                    book.go(step)
                elif reason is None:
                    later.append(step)
            self.assertTrue(is_log(book.log()))
            rows = log_rows(book.log())
            text = str(book)
            others = [
                replayed(book.log()), replayed(log=book.log()), replayed(read_log(rows)), Book.read("\n".join(rows)),
                Book.read(text=text.replace(" / ", "\n") if text != "-" else ""),
            ]
            for other in others:
                self.assertTrue(other == book)
                self.assertEqual(other.counts(), (0, 0))
                self.assertEqual(told(other), told(book))
                for step in later:
                    self.assertEqual(other.barred(step), None)
                    other.go(step)
                self.assertEqual(other.counts(), (len(later), len(later)))
            for step in later:
                book.go(step)
            for other in others:
                self.assertEqual(told(other), told(book))
                self.assertEqual([other.undo() for _ in other.log()], list(book.log())[::-1])

    def test_a_replayed_book_is_another_one(self):
        book = Book("a")
        other = replayed(book.log())
        other.add_line("b")
        self.assertEqual((len(book), len(other)), (1, 2))

    def test_barred_steps(self):
        for log, step, reason in (
            ((("add", "a"), ("add", "a"), ("withdraw",)), ("add", "a"), "name"), ((("withdraw",),), ("withdraw",), "none"),
            ((("add", "a"), ("announce", (("a", HALF),)), ("send", (2,))), ("send", (2,)), "close"),
        ):
            with self.assertRaises(InvalidStep) as caught:
                replayed(log)
            self.assertEqual((caught.exception.step, caught.exception.reason), (step, reason))
            with self.assertRaises(InvalidStep) as caught:
                Book.read("\n".join(log_rows(log)))
            self.assertEqual((caught.exception.step, caught.exception.reason), (step, reason))

    def test_read_books(self):
        self.assertEqual(Book.read(""), Book())
        self.assertEqual(Book.read("add b\nadd a\nsections a+b\nannounce a:1/2 b:1/2\nsend 1,0").offs, (("a", HALF), ("b", (-1, 2))))
        for text, row, field in (
            ("\n", 0, 0), ("add a\n", 1, 0), ("add a\n\nadd b", 1, 0), (" ", 0, 0), ("-", 0, 0), ("add a / add b", 0, 2), ("add a\nadd", 1, 1),
            ("add a\nadd a\nsend", 2, 1), ("add a\r", 0, 1),
        ):
            with self.assertRaises(InvalidText, msg=text) as caught:
                Book.read(text)
            self.assertEqual((caught.exception.row, caught.exception.field), (row, field), repr(text))


if __name__ == "__main__":
    unittest.main()
