"""[69], [9]: a desk, its answers and its errors."""

import random
import unittest

from centbook.books import Book
from centbook.desk import Desk
from centbook.errors import CentError, InvalidCommand, InvalidStep, NothingToUndo
from centbook.rowreadings import read_step
from centbook.steprows import step_row
from tests.plainbook import any_step, is_plain_step, walk_of
from tests.samples import value_of
from tests.test_rows import NO_ROWS, WRITTEN

HALF = (1, 2)


def desk_after(*rows):
    desk = Desk()
    for row in rows:
        desk.say(row)
    return desk


def written(pair):
    """A fraction as it is written."""
    return str(value_of(pair))


def expected_answers(book):
    """The answers to the strings that only ask, by a book in the same state."""
    yes = {True: "yes", False: "no"}
    return {
        "goes": yes[book.can_go_on], "open": yes[book.is_open], "room": "-" if book.room is None else written(book.room),
        "owed": written(book.owed), "offs": ",".join(f"{name}:{written(off)}" for name, off in book.offs) or "-",
        "lines": ",".join(one[0] for one in book.state) or "-", "days": f"{len(list(book.days()))} {len(book.announced)}",
        "count": str(len(book.log())), "log": str(book),
    }


class DeskTest(unittest.TestCase):
    def unknown(self, desk, text):
        """The string is none: InvalidCommand is raised for it, it is counted, and changes nothing."""
        before = [desk.say(question) for question in ("log", "count", "days")]
        counts = desk.counts()
        with self.assertRaises(InvalidCommand, msg=repr(text)) as caught:
            desk.say(text)
        self.assertEqual(vars(caught.exception), {"text": text})
        self.assertEqual(desk.counts(), (counts[0] + 1, counts[1] + 1))
        self.assertEqual([desk.say(question) for question in ("log", "count", "days")], before)

    def refused(self, desk, text, step, reason):
        with self.assertRaises(InvalidStep, msg=repr(text)) as caught:
            desk.say(text)
        self.assertEqual((caught.exception.step, caught.exception.reason), (step, reason))

    def test_a_new_desk(self):
        desk = Desk()
        self.assertEqual(desk.counts(), (0, 0))
        self.assertEqual({text: desk.say(text) for text in expected_answers(Book())}, {
            "goes": "yes", "open": "yes", "room": "-", "owed": "0", "offs": "-", "lines": "-", "days": "0 0", "count": "0", "log": "-",
        })
        self.assertEqual(desk.counts(), (9, 9))

    def test_steps_and_questions(self):
        desk = Desk()
        for text, answer in (
            ("add tea", "ok"), ("add milk", "ok"), ("lines", "milk,tea"), ("sections milk+tea", "ok"), ("announce milk:1/2 tea:1/2", "ok"),
            ("days", "0 1"), ("bars send 1,1", "close"), ("bars send 0,1", "-"), ("send 0,1", "ok"), ("offs", "milk:-1/2,tea:1/2"),
            ("owed", "0"), ("days", "1 0"), ("correct milk:1 tea:-1", "ok"), ("offs", "milk:1/2,tea:-1/2"), ("undo", "correct milk:1 tea:-1"),
            ("announce milk:1/3", "ok"), ("owed", "0"), ("withdraw", "ok"), ("end milk", "ok"), ("bars end milk", "ended"), ("sections -", "ok"),
            ("announce -", "ok"), ("send", "0,0"), ("count", "11"), ("open", "yes"), ("room", "-"), ("goes", "yes"), ("undo", "send 0,0"),
            ("invoice 0", "milk                 1/2         0\ntea                  1/2         1\ntotal                  1         1"),
            ("log", "add tea / add milk / sections milk+tea / announce milk:1/2 tea:1/2 / send 0,1 / announce milk:1/3 / withdraw / end milk"
             " / sections - / announce -"), ("count", "10"), ("new", "ok"), ("log", "-"), ("count", "0"),
        ):
            self.assertEqual(desk.say(text), answer, text)

    def test_a_state_that_is_not_open(self):
        desk = desk_after("add a", "add b", "add c", "announce a:1/2 b:1/2 c:1/2", "send 1,1,0")
        self.assertEqual([desk.say(text) for text in ("open", "goes", "room", "owed", "days")], ["no", "yes", "1/2", "-1/2", "1 0"])
        desk.say("announce c:1/2")
        self.assertEqual([desk.say(text) for text in ("open", "goes", "room")], ["no", "no", "1/2"])
        self.refused(desk, "send", ("send", ()), "stuck")
        self.assertEqual(desk.say("try correct a:-1"), "yes")
        self.assertEqual(desk.say("try withdraw"), "yes")
        self.assertEqual(desk.say("try announce -"), "no")

    def test_send_any_choice(self):
        desk = Desk()
        self.refused(desk, "send", ("send", ()), "none")
        desk.say("announce -")
        self.assertEqual((desk.say("send"), desk.say("log")), ("-", "announce - / send -"))
        desk = desk_after("add a", "add b", "announce a:1/2 b:1/2", "announce a:1/2 b:1/2")
        first = desk.say("send")
        self.assertIn(first, ("0,1", "1,0"))
        self.assertEqual(desk.say("send"), first[::-1])
        self.assertEqual(desk.say("log").split(" / ")[-1], "send " + first[::-1])

    def test_each_row_of_a_step(self):
        """It is done, told what bars it, and tried."""
        for step, row in WRITTEN:
            desk = Desk()
            reason = Book().barred(step)
            self.assertEqual(desk.say("bars " + row), reason or "-")
            if reason is None:
                self.assertEqual(desk.say("try " + row), "yes")
                self.assertEqual(desk.say(row), "ok")
                self.assertEqual(desk.say("log"), row)
            else:
                self.refused(desk, row, step, reason)
                self.refused(desk, "try " + row, step, reason)
                self.assertEqual(desk.say("log"), "-")

    def test_like_a_book(self):
        """Each string does what the book does."""
        seen = 0
        for seed in range(60):
            desk, book = Desk(), Book()
            for step, reason in walk_of(seed, many=30)[0]:
                if not is_plain_step(step):
                    continue
                row = step_row(step)
                self.assertEqual(desk.say("bars " + row), reason or "-")
                if reason is None:
                    self.assertEqual(desk.say("try " + row), "yes" if book.tried(step)[1] else "no")
                    self.assertEqual(desk.say(row), "ok")
                    book.go(step)
                else:
                    self.refused(desk, "try " + row, step, reason)
                    self.refused(desk, row, step, reason)
                for text, answer in expected_answers(book).items():
                    self.assertEqual(desk.say(text), answer, text)
                    seen += 1
            for k in range(len(list(book.days()))):
                self.assertEqual(desk.say(f"invoice {k}"), book.invoice(k))
            while book.log():
                self.assertEqual(desk.say("undo"), step_row(book.undo()))
            self.assertRaises(NothingToUndo, desk.say, "undo")
        self.assertGreater(seen, 5000)

    def test_trials(self):
        for seed in range(60):
            walk, plain = walk_of(seed, many=25)
            rows = [step_row(step) for step, reason in walk if reason is None]
            desk, book = desk_after(*rows), Book.read("\n".join(rows))
            rng = random.Random(seed)
            for _ in range(6):
                steps = [any_step(rng, plain) for _ in range(rng.randint(1, 4))]
                text = "try " + " / ".join(map(step_row, steps))
                try:
                    expected = "yes" if book.tried(*steps)[1] else "no"
                except InvalidStep as error:
                    self.refused(desk, text, error.step, error.reason)
                else:
                    self.assertEqual(desk.say(text), expected)
                self.assertEqual(desk.say("log"), str(book))

    def test_strings_that_are_none(self):
        desk = desk_after("add a", "add b", "announce a:1/2", "send")
        for text in (
            "", " ", "  ", "-", "- goes", "-goes", " goes", "goes ", "goes goes", "goes -", "Goes", "goes\n", "\ngoes", "go", "x", "0", "yes",
            "open ", "open a", "room 1", "room -", "owed a", "offs -", "lines a", "days 0", "count 1", "log -", "log ", "new ", "new a", " new",
            "undo 1", "undo undo", "undo\n", "send ", "send send", " send", "send\n", "new\n", "log\nlog", "help", "invoices 0", "state",
            "invoice", "invoice ", "invoice  0", "invoice -", "invoice a", "invoice 00", "invoice 01", "invoice +0", "invoice -0", "invoice 0 ",
            "invoice 0 0", "invoice 0\n", "invoice 0/1", "invoice 1", "invoice 2", "invoice -1", "invoice 1" + "0" * 61, "invoice " + "9" * 60,
            "Invoice 0", "invoice0", "bars", "bars ", "bars -", "bars goes", "bars undo", "bars new", "bars send", "bars  add c", "bars add c ",
            "bars add c / add d", "bars bars add c", "bars try add c", "bars add c\n", "bars invoice 0", "try", "try ", "try -", "try / ",
            "try /", "try  / add c", "try add c /", "try add c / ", "try add c /  add d", "try add c  / add d", "try add c/add d",
            "try add c / / add d", "try add c /  / add d", "try add c / add", "try send", "try goes", "try undo", "try new", "try try add c",
            "try bars add c", "try  add c", "try add c ", "try add c\n/ add d", "try add c / add d\n", "try / add c", "add c / add d",
            "try add c / -", "tries add c", "add c\nadd d", "try announce a:1/2 /b:1/2",
        ):
            self.unknown(desk, text)

    def test_rows_that_write_no_step(self):
        desk = desk_after("add a")
        for row, _ in NO_ROWS:
            if row not in ("undo", "new", "send"):
                self.unknown(desk, row)
            self.unknown(desk, "bars " + row)
            self.unknown(desk, "try " + row)
            self.unknown(desk, "try add b / " + row)
            self.unknown(desk, "try " + row + " / add b")

    def test_invalid_commands_come_first(self):
        """Before the error of a step ahead in the same string."""
        desk = desk_after("add a")
        self.unknown(desk, "try add a / add A")
        self.unknown(desk, "try withdraw / undo")
        self.refused(desk, "try add b / add a / withdraw", ("add", "a"), "name")
        self.refused(desk, "try withdraw / add a", ("withdraw",), "none")
        self.assertEqual(desk.say("log"), "add a")

    def test_invoices(self):
        desk = desk_after("add a")
        for k in range(12):
            self.unknown(desk, f"invoice {k}")
            desk.say(f"announce a:{k}")
            self.unknown(desk, f"invoice {k}")
            desk.say("send")
            rows = ["a" + " " * 7 + str(k).rjust(16) + str(k).rjust(10), "total   " + str(k).rjust(16) + str(k).rjust(10)]
            self.assertEqual(desk.say(f"invoice {k}"), "\n".join(rows))
        self.assertEqual(len(desk.say("invoice 3")), 69)
        desk.say("undo")
        self.unknown(desk, "invoice 11")
        self.unknown(desk, "invoice 010")

    def test_undo(self):
        desk = desk_after("add a", "announce a:7/3", "send 3", "sections -", "correct a:-1", "end a")
        self.assertEqual(
            [desk.say("undo") for _ in range(6)], ["end a", "correct a:-1", "sections -", "send 3", "announce a:7/3", "add a"],
        )
        with self.assertRaises(NothingToUndo) as caught:
            desk.say("undo")
        self.assertEqual(caught.exception.steps, 0)

    def test_counts(self):
        """Each string is one, also those that raise an error; new sets nothing back."""
        desk = Desk()
        expected = 0
        for text, fails in (
            ("add a", False), ("add a", True), ("", True), ("undo", False), ("undo", True), ("send", True), ("send 1", True), ("new", False),
            ("log", False), ("try add a / add b", False), ("try add a / add a", True), ("bars add a", False), ("invoice 0", True),
            ("new ", True), ("goes", False), ("announce -", False), ("send", False), ("invoice 0", False), ("new", False), ("count", False),
        ):
            if fails:
                self.assertRaises(CentError, desk.say, text)
            else:
                desk.say(text=text)
            expected += 1
            self.assertEqual(desk.counts(), (expected, expected))
        self.assertIs(type(desk.counts()), tuple)

    def test_new(self):
        desk = desk_after("add a", "announce a:1/2", "send")
        self.assertEqual(desk.say("new"), "ok")
        for text, answer in expected_answers(Book()).items():
            self.assertEqual(desk.say(text), answer)
        self.assertRaises(NothingToUndo, desk.say, "undo")
        self.assertEqual(desk.say("add a"), "ok")

    def test_two_desks(self):
        one, other = desk_after("add a"), desk_after("add b", "add c")
        self.assertEqual((one.say("lines"), other.say("lines")), ("a", "b,c"))
        self.assertEqual((one.counts(), other.counts()), ((2, 2), (3, 3)))

    def test_a_log_makes_the_same_book(self):
        for seed in range(20):
            desk = Desk()
            for step, reason in walk_of(seed)[0]:
                if reason is None:
                    desk.say(step_row(step))
            log = desk.say("log")
            rows = log.split(" / ") if log != "-" else []
            other = desk_after(*rows)
            for text in expected_answers(Book()):
                self.assertEqual(desk.say(text), other.say(text))
            self.assertEqual(Book.read("\n".join(rows)).log(), tuple(read_step(row) for row in rows))

    def test_examples(self):
        desk = Desk()
        self.assertEqual([desk.say("add tea"), desk.say("announce tea:7/2"), desk.say("try send 3"), desk.say("goes")], ["ok", "ok", "yes", "yes"])


if __name__ == "__main__":
    unittest.main()
