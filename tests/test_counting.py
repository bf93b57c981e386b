import copy
import unittest

from decidebook.book import Book
from decidebook.counting import by_yeses, counts, counts_hold, how_many, row_at, row_number
from decidebook.errors import NoNumber, NoRoom, NoRow
from helper import (A, B, C, MARKS, NO_ROWS_OF_TWO, changed_lists, drawn_book, makes_none, no_rooms, orders, place_of,
                    plain_below, refused_by, rows, rows_from_its_mark, yes_rows)


def books():
    for turn, order in enumerate(orders()):
        yield drawn_book(turn, order, 5)


def summed(book, room, no, yes):
    """Counts that would be right if no and yes had these."""
    found = {0: no, 1: yes}
    for number in sorted(plain_below(book, room) - {0, 1}):
        place = place_of(book, number)
        found[number] = sum(found[going] * 2 ** (place_of(book, going) - place - 1) for going in book.room(number)[1:])
    return [(number, found[number]) for number in sorted(plain_below(book, room))]


class Counting(unittest.TestCase):

    def test_how_many_and_by_yeses(self):
        for book in books():
            for room in range(book.size()):
                found = yes_rows(book, room)
                sums = [sum(row) for row in found]
                self.assertEqual(makes_none(self, book, how_many, book, room), len(found))
                self.assertEqual(makes_none(self, book, by_yeses, book, room),
                                 [sums.count(many) for many in range(len(book.order()) + 1)])

    def test_no_and_yes(self):
        for many in range(1, 9):
            book = Book(list(MARKS[:many]))
            self.assertEqual((how_many(book, 0), how_many(book, 1)), (0, 2 ** many))
            self.assertEqual(by_yeses(book, 0), [0] * (many + 1))
        self.assertEqual(by_yeses(Book(list("abcd")), 1), [1, 4, 6, 4, 1])
        self.assertEqual(by_yeses(Book(list(MARKS)), 1), [1, 8, 28, 56, 70, 56, 28, 8, 1])

    def test_marks_that_the_room_does_not_ask(self):
        book = Book(list("abc"))
        self.assertEqual([how_many(book, book.enter(("mark", mark))) for mark in "abc"], [4, 4, 4])
        self.assertEqual([by_yeses(book, book.enter(("mark", mark))) for mark in "abc"], [[0, 1, 2, 1]] * 3)
        self.assertEqual(how_many(book, book.enter(("or", A, C))), 6)

    def test_what_is_told_is_the_askers_own(self):
        book = drawn_book(1, list("abc"))
        room = book.size() - 1
        for told in (by_yeses, counts):
            before = copy.deepcopy(told(book, room))
            told(book, room).clear()
            self.assertEqual(told(book, room), before)
        row_at(book, 1, 3).clear()
        self.assertEqual(row_at(book, 1, 3), [0, 1, 1])

    def test_no_room(self):
        book = drawn_book(2, list("ab"))
        for number in no_rooms(book):
            for call in (how_many, by_yeses, counts):
                refused_by(self, NoRoom, book, call, book, number)


class Rows(unittest.TestCase):

    def test_every_row_and_number(self):
        for book in books():
            for room in range(book.size()) if len(book.order()) < 6 else (0, 1, book.size() // 2, book.size() - 1):
                found = yes_rows(book, room)
                self.assertEqual([row_at(book, room, number) for number in range(len(found))], found)
                self.assertEqual([row_number(book, room, row) for row in found], list(range(len(found))))

    def test_no_number_of_a_row(self):
        for book in books():
            for room in range(book.size()):
                many = len(yes_rows(book, room))
                for number in (-1, -many, -many - 1, many, many + 1, 10 ** 60 - 1, 1 - 10 ** 60):
                    if not 0 <= number < many:
                        refused_by(self, NoNumber, book, row_at, book, room, number)

    def test_no_row_of_a_number(self):
        for book in books():
            for room in range(book.size()) if len(book.order()) < 6 else (0, book.size() - 1):
                found = yes_rows(book, room)
                for row in rows(len(book.order())):
                    if row not in found:
                        refused_by(self, NoNumber, book, row_number, book, room, row)

    def test_the_order_of_marks_is_the_books(self):
        book = Book(["b", "a"])
        room = book.enter(("or", A, B))
        self.assertEqual([row_at(book, room, number) for number in range(3)], [[0, 1], [1, 0], [1, 1]])
        room = book.enter(("not", B))
        self.assertEqual([row_at(book, room, number) for number in range(2)], [[0, 0], [0, 1]])

    def test_no_row(self):
        book = Book(["a", "b"])
        for room in (0, 1, book.enter(("if", A, B))):
            for row in NO_ROWS_OF_TWO:
                with self.subTest(row):
                    refused_by(self, NoRow, book, row_number, book, room, row)

    def test_which_goes_first(self):
        book = drawn_book(3, list("ab"))
        for number in no_rooms(book):
            for row in NO_ROWS_OF_TWO + [[0, 0]]:
                refused_by(self, NoRoom, book, row_number, book, number, row)
            for at in (-1, 0, 4, 10 ** 60 - 1):
                refused_by(self, NoRoom, book, row_at, book, number, at)

    def test_rows_handed_in_stay(self):
        book, row = Book(["a", "b"]), [0, 1]
        self.assertEqual(makes_none(self, book, row_number, book, 1, row), 1)
        self.assertEqual(row, [0, 1])


class Counts(unittest.TestCase):

    def test_counts_of_each_room(self):
        for book in books():
            for room in range(book.size()):
                below = sorted(plain_below(book, room))
                due = [(number, len(rows_from_its_mark(book, number))) for number in below]
                told = makes_none(self, book, counts, book, room)
                self.assertEqual(told, due)
                self.assertEqual({type(entry) for entry in told}, {tuple})

    def test_plain_ones(self):
        book = Book(["a", "b", "c"])
        last = book.enter(C)
        self.assertEqual(counts(book, 0), [(0, 0)])
        self.assertEqual(counts(book, 1), [(1, 1)])
        self.assertEqual(counts(book, last), [(0, 0), (1, 1), (last, 1)])
        first = book.enter(("or", A, C))
        self.assertEqual(counts(book, first), [(0, 0), (1, 1), (last, 1), (first, 6)])

    def test_the_told_ones_hold(self):
        for book in books():
            for room in range(book.size()):
                told = counts(book, room)
                self.assertIs(makes_none(self, book, counts_hold, book, room, told), True)
                self.assertEqual(told, counts(book, room))
                self.assertEqual(summed(book, room, 0, 1), told)

    def test_changed_ones_do_not_hold(self):
        for book in books():
            for room in (0, 1, 2, book.size() // 2, book.size() - 1):
                if room >= book.size():
                    continue
                told = counts(book, room)
                for other in changed_lists(book, told):
                    before = list(other)
                    self.assertIs(counts_hold(book, room, other), False, (told, other))
                    self.assertEqual(other, before)

    def test_a_count_one_more_or_less(self):
        for book in books():
            for room in range(book.size()):
                told = counts(book, room)
                for at, (number, count) in enumerate(told):
                    for wrong in (count + 1, count - 1, -count - 1, 2 * count + 1, 10 ** 60 - 1):
                        other = told[:at] + [(number, wrong)] + told[at + 1:]
                        self.assertIs(counts_hold(book, room, other), False)

    def test_no_and_yes_put_otherwise(self):
        for book in books():
            for room in range(book.size()):
                told = counts(book, room)
                for no, yes in ((1, 0), (0, 2), (1, 1), (0, 0), (-1, 1), (0, -1)):
                    other = summed(book, room, no, yes)
                    if other != told:
                        self.assertIs(makes_none(self, book, counts_hold, book, room, other), False)

    def test_the_counts_of_another_room(self):
        book = drawn_book(4, list("abc"))
        for room in range(book.size()):
            for other in range(book.size()):
                self.assertIs(counts_hold(book, room, counts(book, other)), room == other)

    def test_hundreds_of_entries(self):
        book = drawn_book(5, list("abc"))
        self.assertIs(counts_hold(book, 1, [(1, 1)] * 700), False)
        self.assertIs(counts_hold(book, 0, [(number, 0) for number in range(700)]), False)

    def test_no_room(self):
        book = drawn_book(6, list("ab"))
        for number in no_rooms(book):
            for told in ([], [(0, 0)], [(number, 0)], counts(book, 2)):
                refused_by(self, NoRoom, book, counts_hold, book, number, told)


if __name__ == "__main__":
    unittest.main()
