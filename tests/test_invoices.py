"""[65]: the sent days of a book, and their invoices."""

import types
import unittest
from fractions import Fraction

from centbook.books import Book
from tests.plainbook import PlainBook, walk_of
from tests.samples import fraction_pair, value_of
from tests.test_books import book_of

HALF = (1, 2)


def plain_invoice(rows):
    """The invoice of the (line, charge, cents) of a day, as the document says."""
    total = sum((value_of(charge) for _, charge, _ in rows), Fraction(0))
    written = []
    for name, charge, cents in (*rows, ("total", fraction_pair(total), sum(cents for _, _, cents in rows))):
        digits, groups = str(cents), []
        while digits:
            digits, group = digits[:-3], digits[-3:]
            groups.insert(0, group)
        over, under = charge
        text = str(over) if under == 1 else str(over) + "/" + str(under)
        written.append(name + " " * (8 - len(name)) + " " * (16 - len(text)) + text + " " * (10 - len(",".join(groups))) + ",".join(groups))
    return "\n".join(written)


class InvoicesTest(unittest.TestCase):
    def test_days_of_many_books(self):
        """Of books whose lines were added, ended and undone in between."""
        seen, kinds = 0, {}
        for seed in range(120):
            book, plain = Book(), PlainBook()
            for k, (step, reason) in enumerate(walk_of(seed, many=50)[0]):
                if reason is not None:
                    continue
                book.go(step)
                if k % 5 == 0:
                    book.undo()
                    book.go(step)
                plain.do(step)
                kinds[step[0]] = kinds.get(step[0], 0) + 1
                found = list(book.days())
                self.assertEqual(found, list(enumerate(plain.sent)))
                if step[0] == "send":
                    for day, rows in found:
                        self.assertEqual(book.invoice(day), plain_invoice(rows))
                        seen += 1
        self.assertGreater(seen, 500)
        self.assertGreater(min(kinds.values()), 10)

    def test_the_lines_at_that_time(self):
        book = Book("b")
        book.announce(b=HALF)
        book.send((1,))
        book.add_line("a")
        book.announce(a=HALF, b=HALF)
        book.add_line("c")
        book.send((1, 0, 0))
        book.end("a")
        book.announce(b=HALF)
        book.undo()
        self.assertEqual(list(book.days()), [(0, (("b", HALF, 1),)), (1, (("a", HALF, 1), ("b", HALF, 0), ("c", (0, 1), 0)))])
        self.assertEqual(book.invoice(0).split("\n")[0], "b" + " " * 20 + "1/2" + " " * 9 + "1")
        self.assertEqual([book.undo()[0], len(list(book.days()))], ["end", 2])
        self.assertEqual([book.undo()[0], len(list(book.days()))], ["send", 1])
        self.assertEqual([book.undo()[0], len(list(book.days()))], ["add", 1])

    def test_undone_days(self):
        book = Book("a")
        book.announce(a=HALF)
        book.send((1,))
        self.assertEqual(len(list(book.days())), 1)
        self.assertEqual(book.undo(), ("send", (1,)))
        self.assertEqual(list(book.days()), [])

    def test_days_is_a_generator(self):
        book = Book("a", "b")
        for cents in ((1, 0), (0, 1)):
            book.announce(a=HALF, b=HALF)
            book.send(cents)
        one, two = book.days(), book.days()
        self.assertIsInstance(one, types.GeneratorType)
        first = next(one)
        self.assertEqual(first, (0, (("a", HALF, 1), ("b", HALF, 0))))
        self.assertTrue(type(first) is tuple and type(first[1]) is tuple and all(type(row) is tuple for row in first[1]))
        self.assertEqual(list(two), [first] + list(one))
        self.assertEqual(list(Book("a").days()), [])

    def test_filled(self):
        book = Book("tea", "abcdefgh", "total")
        book.announce(tea=(10 ** 6, 1), abcdefgh=(1, 3))
        book.send((0, 10 ** 6, 0))
        self.assertEqual(book.invoice(day=0).split("\n"), [
            "abcdefgh             1/3         0",
            "tea              1000000 1,000,000",
            "total                  0         0",
            "total          3000001/3 1,000,000",
        ])

    def test_what_is_too_long_is_not_cut(self):
        over = 10 ** 17 + 1
        book = book_of(("add", "abcdefgh"), ("announce", (("abcdefgh", (over, 10 ** 4)),)), ("send", (over // 10 ** 4 + 1,)))
        row = "100000000000000001/10000" + "10,000,000,000,001"
        self.assertEqual(book.invoice(0).split("\n"), ["abcdefgh" + row, "total   " + row])

    def test_commas(self):
        for cents, text in ((0, "0"), (7, "7"), (999, "999"), (1000, "1,000"), (999999, "999,999"), (1234567, "1,234,567")):
            book = book_of(("add", "a"), ("announce", (("a", (cents, 1)),)), ("send", (cents,)))
            for row in book.invoice(0).split("\n"):
                self.assertEqual((row[24:], row[8:24]), (" " * (10 - len(text)) + text, " " * (16 - len(str(cents))) + str(cents)))

    def test_without_lines(self):
        book = book_of(("announce", ()), ("send", ()))
        self.assertEqual(book.invoice(0), "total   " + " " * 15 + "0" + " " * 9 + "0")

    def test_examples(self):
        book = Book("tea", "rent")
        self.assertEqual(book.announce(tea=(7, 2), rent=(1500, 1)), 1)
        self.assertEqual(book.send((1500, 4)), (1500, 4))
        self.assertEqual(book.invoice(0).split("\n")[2], "total             3007/2     1,504")


if __name__ == "__main__":
    unittest.main()
