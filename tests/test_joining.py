import itertools
import random
import unittest

from decidebook.book import Book
from decidebook.errors import NoMark, NoNumber, NoRoom, NoWord
from decidebook.joining import for_each, for_some, held, joined, put, turned
from helper import (A, B, C, MARKS, NO_WORDS, WORDS, again, drawn_book, makes_none, meaning, no_rooms, orders,
                    plain_lead, refused_by, rows, well_made)

NO_MARKS = ["", "i", "A", "ab", "h", "a ", " a", "yes", "0", "a" * 2000, "\n"]
NO_VALUES = [2, -1, 3, 10, 10 ** 60 - 1, 1 - 10 ** 60]


def with_value(book, row, mark, value):
    changed = list(row)
    changed[book.order().index(mark)] = value
    return changed


def plain_joined(book, row, word, one, other):
    return int(word[2 * plain_lead(book, one, row) + plain_lead(book, other, row)])


def plain_turned(book, row, one):
    return 1 - plain_lead(book, one, row)


def plain_held(book, row, one, mark, value):
    return plain_lead(book, one, with_value(book, row, mark, value))


def plain_some(book, row, mark, one):
    return max(plain_held(book, row, one, mark, value) for value in (0, 1))


def plain_each(book, row, mark, one):
    return min(plain_held(book, row, one, mark, value) for value in (0, 1))


def plain_put(book, row, one, mark, other):
    return plain_held(book, row, one, mark, plain_lead(book, other, row))


PLAIN = {joined: plain_joined, turned: plain_turned, held: plain_held, for_some: plain_some, for_each: plain_each,
         put: plain_put}


class Joining(unittest.TestCase):

    def right(self, book, call, *given):
        """What is told leads each row as it should, the elder rooms stay, and done again none is made."""
        due = [PLAIN[call](book, row, *given) for row in rows(len(book.order()))]
        told = again(self, book, call, book, *given)
        self.assertIs(type(told), int)
        self.assertEqual(meaning(book, told), due, given)
        return told

    def all_ways(self, book, one, other):
        for word in WORDS:
            self.right(book, joined, word, one, other)
        self.right(book, turned, one)
        for mark in book.order():
            self.right(book, held, one, mark, 0)
            self.right(book, held, one, mark, 1)
            self.right(book, for_some, mark, one)
            self.right(book, for_each, mark, one)
            self.right(book, put, one, mark, other)

    def test_all_rooms_of_a_small_book(self):
        book = Book(["b", "a"])
        for some in (A, B, ("and", A, B), ("either", A, B), ("if", B, A)):
            book.enter(some)
        for one, other in itertools.product(range(book.size()), repeat=2):
            self.all_ways(book, one, other)
        well_made(self, book)

    def test_orders_of_one_to_eight(self):
        source = random.Random(11)
        for turn, order in enumerate(orders()):
            book = drawn_book(turn, order, 4)
            for one, other in ((0, 1), (book.size() - 1, source.randrange(book.size()))):
                self.all_ways(book, one, other)
            well_made(self, book)

    def test_one_behind_the_other_in_one_book(self):
        for number in range(12):
            source = random.Random(number)
            order = source.sample(MARKS, 1 + number % 6)
            book = Book(order)
            told = [0, 1] + [book.enter(("mark", mark)) for mark in order]
            for _ in range(40):
                one, other, mark = source.choice(told), source.choice(told), source.choice(order)
                call, given = source.choice([
                    (joined, (source.choice(WORDS), one, other)), (turned, (one,)), (held, (one, mark, number % 2)),
                    (for_some, (mark, one)), (for_each, (mark, one)), (put, (one, mark, other)),
                    (joined, ("0110", one, other)), (put, (one, mark, other))])
                told.append(self.right(book, call, *given))
            well_made(self, book)

    def test_joined_is_the_room_that_is_entered(self):
        book = Book(["a", "b"])
        one, other = book.enter(A), book.enter(B)
        for word, some in (("0001", "and"), ("0111", "or"), ("0110", "either"), ("1101", "if")):
            told = joined(book, word, one, other)
            self.assertEqual(makes_none(self, book, book.enter, (some, A, B)), told)
        self.assertEqual([joined(book, word, one, other) for word in ("0000", "1111", "0011", "0101")],
                         [0, 1, one, other])

    def test_no_and_yes(self):
        book = Book(["a"])
        for word in WORDS:
            for one, other in itertools.product((0, 1), repeat=2):
                self.assertEqual(joined(book, word, one, other), int(word[2 * one + other]))
        for one in (0, 1):
            self.assertEqual([turned(book, one), held(book, one, "a", 0), held(book, one, "a", 1),
                              for_some(book, "a", one), for_each(book, "a", one), put(book, one, "a", 1 - one)],
                             [1 - one] + [one] * 5)
        self.assertEqual(book.size(), 2)

    def test_turned_twice_is_the_room(self):
        book = drawn_book(8, list("cab"))
        for one in range(book.size()):
            self.assertEqual(turned(book, turned(book, one)), one)

    def test_some_and_each_are_as_of_sentences(self):
        book = Book(list("bca"))
        inner = ("either", A, ("or", B, ("not", C)))
        one = book.enter(inner)
        for mark in "abc":
            told = [for_some(book, mark, one), for_each(book, mark, one)]
            for number, word in zip(told, ("some", "each")):
                self.assertEqual(makes_none(self, book, book.enter, (word, mark, inner)), number)

    def test_put_in_the_place_of_a_mark_that_stands_in_it_too(self):
        book = Book(["a", "b"])
        one = book.enter(("and", A, B))
        self.assertEqual(put(book, one, "a", book.enter(("not", A))), book.enter(("and", ("not", A), B)))
        self.assertEqual(put(book, one, "a", book.enter(B)), book.enter(B))
        self.assertEqual(put(book, one, "b", book.enter(("not", A))), 0)
        self.assertEqual(put(book, one, "a", book.enter(A)), one)
        self.assertEqual(put(book, one, "a", 1), book.enter(B))


class Refusals(unittest.TestCase):

    def setUp(self):
        self.book = drawn_book(9, ["a", "b", "c"])
        self.last = self.book.size() - 1

    def none(self, kind, call, *given):
        with self.subTest(given):
            refused_by(self, kind, self.book, call, self.book, *given)

    def test_no_mark(self):
        for mark in NO_MARKS:
            for one in (0, 1, self.last):
                self.none(NoMark, held, one, mark, 0)
                self.none(NoMark, for_some, mark, one)
                self.none(NoMark, for_each, mark, one)
                self.none(NoMark, put, one, mark, self.last)

    def test_no_room(self):
        for number in no_rooms(self.book):
            for one, other in ((number, 0), (1, number), (number, self.last), (number, number)):
                self.none(NoRoom, joined, "0110", one, other)
                self.none(NoRoom, joined, "0000", one, other)
                self.none(NoRoom, put, one, "a", other)
            self.none(NoRoom, turned, number)
            self.none(NoRoom, held, number, "b", 1)
            self.none(NoRoom, for_some, "c", number)
            self.none(NoRoom, for_each, "a", number)

    def test_no_word(self):
        for word in NO_WORDS:
            for one, other in ((0, 1), (self.last, self.last), (self.last, 0)):
                self.none(NoWord, joined, word, one, other)

    def test_no_number(self):
        for value in NO_VALUES:
            for one in (0, 1, self.last):
                self.none(NoNumber, held, one, "a", value)

    def test_several_wrong_at_once(self):
        for number in no_rooms(self.book):
            for word in NO_WORDS:
                self.none(NoRoom, joined, word, number, 0)
                self.none(NoRoom, joined, word, self.last, number)
            for mark in NO_MARKS:
                self.none(NoMark, held, number, mark, 1)
                self.none(NoMark, held, number, mark, 2)
                self.none(NoMark, for_some, mark, number)
                self.none(NoMark, for_each, mark, number)
                self.none(NoMark, put, number, mark, self.last)
                self.none(NoMark, put, self.last, mark, number)
            for value in NO_VALUES:
                self.none(NoRoom, held, number, "a", value)
        for mark in NO_MARKS:
            for value in NO_VALUES:
                self.none(NoMark, held, self.last, mark, value)


if __name__ == "__main__":
    unittest.main()
