import copy
import itertools
import unittest

from decidebook.book import Book
from decidebook.errors import NoMark, NoOrder, NoRoom, NoRow, NoSentence
from decidebook.sentences import worth
from helper import (A, B, C, MARKS, NO_ORDERS, NO_ROWS_OF_TWO, all_rooms, drawn, drawn_book, every_meaning,
                    great_and_deep, makes_none, meaning, nested, no_rooms, no_sentences, of_tuples, orders, plain_below,
                    plain_lead, plain_worth, refused, refused_by, rows, shallow, well_made)

# Each row holds sentences with one worth in each row of values.
ONE_MEANING = [
    [("and", A, B), ("and", B, A), ("not", ("or", ("not", A), ("not", B))), ("not", ("if", A, ("not", B)))],
    [("or", A, B), ("if", ("not", A), B), ("either", A, ("and", B, ("not", A)))],
    [("if", A, B), ("or", ("not", A), B), ("if", ("not", B), ("not", A))],
    [("either", A, B), ("not", ("either", A, ("not", B))), ("and", ("or", A, B), ("not", ("and", A, B)))],
    [("yes",), ("or", A, ("not", A)), ("some", "a", A), ("if", C, C), ("each", "c", ("yes",)), ("not", ("no",))],
    [("no",), ("and", A, ("not", A)), ("each", "b", B), ("either", C, C), ("some", "c", ("no",))],
    [A, ("not", ("not", A)), ("and", A, A), ("some", "b", A), ("each", "c", A), ("and", A, ("or", A, B))],
    [("some", "c", ("and", C, B)), B, ("each", "c", ("or", B, ("and", B, C)))],
    [("and", A, ("or", B, C)), ("or", ("and", A, B), ("and", A, C)), ("some", "d", ("and", A, ("or", C, B)))],
]


class Rooms(unittest.TestCase):

    def test_a_new_book_has_no_and_yes(self):
        for order in orders():
            book = Book(order)
            self.assertEqual(book.order(), order)
            self.assertEqual(book.size(), 2)
            self.assertIsNone(book.room(0))
            self.assertIsNone(book.room(1))
            self.assertEqual((book.enter(("no",)), book.enter(("yes",)), book.size()), (0, 1, 2))

    def test_rooms_of_one_mark(self):
        book = Book(["b", "a"])
        self.assertEqual(book.enter(A), 2)
        self.assertEqual(book.room(2), ("a", 0, 1))
        self.assertEqual(book.enter(("not", B)), 3)
        self.assertEqual(book.room(3), ("b", 1, 0))
        self.assertEqual(book.size(), 4)

    def test_rooms_of_two_marks(self):
        self.assertEqual([book.room(book.enter(("and", A, B))) for book in (Book(["a", "b"]), Book(["b", "a"]))],
                         [("a", 0, 2), ("b", 0, 2)])
        book = Book(["a", "b"])
        told = book.room(book.enter(("either", A, B)))
        self.assertEqual((told[0], book.room(told[1]), book.room(told[2])), ("a", ("b", 0, 1), ("b", 1, 0)))

    def test_behind_each_entering_the_rooms_are_well_made(self):
        for turn, order in enumerate(orders()):
            book = Book(order)
            for number in range(20 if len(order) < 6 else 6):
                before = all_rooms(book)
                book.enter(drawn(50 * turn + number, order, 5))
                self.assertEqual(all_rooms(book)[:len(before)], before)
                well_made(self, book)

    def test_all_meanings_of_three_marks(self):
        book = Book(["c", "a", "b"])
        for number, some in enumerate(every_meaning(book.order())):
            self.assertEqual(meaning(book, book.enter(some)), [number >> turn & 1 for turn in range(8)])
        well_made(self, book)
        self.assertEqual(book.size(), 256)

    def test_books_do_not_hang_together(self):
        one, other = Book(["a", "b"]), Book(["a", "b"])
        one.enter(("and", A, B))
        self.assertEqual(other.size(), 2)
        self.assertEqual(Book(["a", "b"]).size(), 2)

    def test_the_list_handed_in_is_not_kept(self):
        order = ["a", "b", "c"]
        book = Book(order)
        one = book.enter(("if", A, C))
        order.reverse()
        order.append("h")
        self.assertEqual(book.order(), ["a", "b", "c"])
        self.assertEqual(book.room(one)[0], "a")
        refused_by(self, NoMark, book, book.enter, ("mark", "h"))
        order.clear()
        self.assertEqual(book.worth_at(one, [1, 0, 0]), 0)
        self.assertEqual(order, [])

    def test_the_order_told_is_the_askers_own(self):
        book = Book(["a", "b"])
        told = book.order()
        told.reverse()
        told.append("c")
        self.assertEqual(book.order(), ["a", "b"])
        self.assertIsNot(book.order(), book.order())
        self.assertEqual(book.room(book.enter(("and", A, B)))[0], "a")

    def test_no_order(self):
        for order in NO_ORDERS:
            with self.subTest(order):
                before = list(order)
                refused(self, NoOrder, Book, order)
                self.assertEqual(order, before)

    def test_no_room(self):
        for book in (Book(["a"]), Book(["a", "b"]), drawn_book(1, ["a", "b"])):
            for number in no_rooms(book):
                with self.subTest(number):
                    refused_by(self, NoRoom, book, book.room, number)
                    refused_by(self, NoRoom, book, book.below, number)
                    refused_by(self, NoRoom, book, book.worth_at, number, [0] * len(book.order()))

    def test_the_last_room_is_one(self):
        book = drawn_book(2, ["a", "b", "c"])
        self.assertIsNotNone(book.room(book.size() - 1))
        refused(self, NoRoom, book.room, book.size())


class Leading(unittest.TestCase):

    def test_each_room_leads_each_row(self):
        for turn, order in enumerate(orders()):
            book = drawn_book(turn, order, 6)
            for number in range(book.size()):
                for row in rows(len(order)):
                    told = book.worth_at(number, row)
                    self.assertIs(type(told), int)
                    self.assertEqual(told, plain_lead(book, number, row))

    def test_no_and_yes_lead_every_row(self):
        book = Book(["a", "b"])
        for row in rows(2):
            self.assertEqual((book.worth_at(0, row), book.worth_at(1, row)), (0, 1))

    def test_no_row(self):
        book = Book(["a", "b"])
        for number in (0, 1, book.enter(("and", A, B))):
            for row in NO_ROWS_OF_TWO:
                with self.subTest(row):
                    refused_by(self, NoRow, book, book.worth_at, number, row)

    def test_no_room_goes_ahead_of_no_row(self):
        book = drawn_book(3, ["a", "b"])
        for number in no_rooms(book):
            for row in NO_ROWS_OF_TWO:
                refused_by(self, NoRoom, book, book.worth_at, number, row)

    def test_the_row_stays_as_it_is(self):
        book, row = Book(["a", "b"]), [1, 0]
        number = book.enter(("either", A, B))
        self.assertEqual(makes_none(self, book, book.worth_at, number, row), 1)
        self.assertEqual(row, [1, 0])


class Entering(unittest.TestCase):

    def entered(self, book, some):
        order = book.order()
        number = book.enter(some)
        self.assertIs(type(number), int)
        for row in rows(len(order)):
            value = plain_worth(some, dict(zip(order, row)))
            self.assertEqual(plain_lead(book, number, row), value, (some, order, row))
            self.assertEqual(book.worth_at(number, row), value)
        self.assertEqual(makes_none(self, book, book.enter, some), number)

    def test_all_shallow_sentences_in_all_orders(self):
        for order in itertools.permutations("abc"):
            book = Book(list(order))
            for some in shallow("abc"):
                self.entered(book, some)
            well_made(self, book)

    def test_drawn_sentences_in_orders_of_one_to_eight(self):
        for turn, order in enumerate(orders()):
            book = Book(order)
            for number in range(24 if len(order) < 6 else 8):
                self.entered(book, drawn(900 + 30 * turn + number, order, 2 + number % 5))

    def test_each_mark_alone_in_the_order(self):
        for mark in MARKS:
            for some in shallow(mark):
                self.entered(Book([mark]), some)

    def test_marks_that_do_not_stand_in_the_sentence(self):
        book = Book(list("gdfbeca"))
        number = book.enter(("either", B, ("some", "d", ("mark", "d"))))
        self.assertEqual(book.room(number), ("b", 1, 0))

    def test_the_greatest_sentences(self):
        book = Book(["b", "c", "a"])
        for some in (of_tuples(200), nested(24), nested(24, "some"), nested(24, "each"), great_and_deep(200, 24)):
            number = book.enter(some)
            self.assertEqual(meaning(book, number), [worth(some, ["b", "c", "a"], row) for row in rows(3)])

    def test_many_of_some_and_each_within_one_another(self):
        some = ("either", A, B)
        for turn in range(22):
            some = (("some", "each")[turn % 2], MARKS[turn % 8], some)
        self.assertEqual(Book(list(MARKS)).enter(some), 1)

    def test_one_meaning_is_one_room(self):
        for order in (list("abcd"), list("dcba"), list("cadb")):
            for alike in ONE_MEANING:
                for some in (alike, alike[::-1]):
                    book = Book(order)
                    number = book.enter(some[0])
                    for other in some[1:]:
                        self.assertEqual(makes_none(self, book, book.enter, other), number)

    def test_unlike_meanings_are_unlike_rooms(self):
        book = Book(list("abcd"))
        self.assertEqual(len({book.enter(alike[0]) for alike in ONE_MEANING}), len(ONE_MEANING))

    def test_the_order_of_entering_does_not_matter(self):
        every = [drawn(number, "abc", 4) for number in range(80)]
        for some in (every, every[::-1]):
            book = Book(["b", "a", "c"])
            told = {}
            for one in some:
                worths = tuple(plain_worth(one, dict(zip("bac", row))) for row in rows(3))
                self.assertEqual(told.setdefault(worths, book.enter(one)), book.enter(one))
            self.assertEqual(len(set(told.values())), len(told))

    def test_the_same_questions_make_the_same_book(self):
        self.assertEqual(all_rooms(drawn_book(5, list("dbca"))), all_rooms(drawn_book(5, list("dbca"))))

    def test_no_sentence(self):
        book = drawn_book(4, list(MARKS), 3)
        for some in no_sentences():
            with self.subTest(some):
                refused_by(self, NoSentence, book, book.enter, some)

    def test_no_mark(self):
        for some in (B, ("not", B), ("and", A, B), ("and", ("either", A, C), B), ("some", "b", A),
                     ("each", "b", ("yes",)), ("if", A, nested(23, "not", B))):
            for order in (["a", "c"], ["c", "h", "a"]):
                book = Book(order)
                with self.subTest(some):
                    refused_by(self, NoMark, book, book.enter, some)
                    self.assertEqual(book.size(), 2)

    def test_no_sentence_goes_ahead_of_no_mark(self):
        book = Book(["a"])
        for some in (("and", B, ("mark", "z")), ("and", B, ("yes", "yes")), nested(25, "not", B), ("mark", "b", "c")):
            refused_by(self, NoSentence, book, book.enter, some)


class Below(unittest.TestCase):

    def test_below_each_room(self):
        for turn, order in enumerate(orders()):
            book = drawn_book(turn, order, 8)
            for number in range(book.size()):
                told = makes_none(self, book, book.below, number)
                self.assertEqual(told, sorted(plain_below(book, number)))

    def test_below_no_yes_and_a_mark(self):
        book = Book(["a", "b"])
        book.enter(("either", A, B))
        number = book.enter(A)
        self.assertEqual((book.below(0), book.below(1), book.below(number)), ([0], [1], [0, 1, number]))

    def test_a_room_met_twice_is_told_once(self):
        book = Book(["a", "b", "c"])
        number = book.enter(("either", A, ("either", B, C)))
        self.assertEqual(len(book.below(number)), 7)

    def test_what_is_told_is_the_askers_own(self):
        book = drawn_book(6, ["a", "b"])
        before = copy.deepcopy(book.below(book.size() - 1))
        book.below(book.size() - 1).clear()
        self.assertEqual(book.below(book.size() - 1), before)


if __name__ == "__main__":
    unittest.main()
