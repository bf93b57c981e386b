import itertools
import random
import unittest

from decidebook.book import Book
from decidebook.errors import NoNumber, NoOrder, NoRoom, TooGreat
from decidebook.orders import all_sizes, best, exchanged, reordered, size_of
from helper import (A, B, C, MARKS, NO_ORDERS, all_rooms, by_name, drawn, drawn_book, full_book, lists_in, makes_none,
                    no_rooms, orders, plain_below, refused_by, well_made)

D = ("mark", "d")
NO_PLACES = [-1, -2, 7, 8, 700, 10 ** 60 - 1, 1 - 10 ** 60]


class Others(unittest.TestCase):

    def right(self, book, due, call, given):
        told = makes_none(self, book, call, book, given)
        self.assertEqual((type(told), len(told)), (tuple, 2))
        new, rooms = told
        self.assertIsInstance(new, Book)
        self.assertIsNot(new, book)
        self.assertEqual(new.order(), due)
        self.assertEqual(len(rooms), book.size())
        for number, other in enumerate(rooms):
            self.assertEqual(by_name(new, other), by_name(book, number))
        self.assertEqual(rooms[:2], [0, 1])
        well_made(self, new)
        again = call(book, given)
        self.assertEqual((all_rooms(again[0]), again[1]), (all_rooms(new), rooms))
        return told

    def test_exchanged_at_each_place(self):
        for turn, order in enumerate(orders()):
            book = drawn_book(turn, order, 3, 4)
            for at in range(len(order) - 1):
                due = list(order)
                due[at], due[at + 1] = order[at + 1], order[at]
                self.right(book, due, exchanged, at)

    def test_exchanged_twice(self):
        book = drawn_book(2, list("cadb"))
        for at in range(3):
            new, rooms = exchanged(book, at)
            old, back = self.right(new, book.order(), exchanged, at)
            self.assertEqual([by_name(old, back[room]) for room in rooms],
                             [by_name(book, number) for number in range(book.size())])

    def test_reordered_by_each_order_of_a_few_marks(self):
        for many in (1, 2, 3, 4):
            book = drawn_book(many, list("dbca"[:many]), 6, 4)
            for order in itertools.permutations(book.order()):
                self.right(book, list(order), reordered, list(order))

    def test_reordered_by_orders_of_many_marks(self):
        for turn, order in enumerate(orders()):
            book = drawn_book(turn + 60, order, 3, 4)
            for number in range(2):
                due = random.Random(number).sample(order, len(order))
                self.right(book, due, reordered, due)
            self.right(book, order[::-1], reordered, order[::-1])

    def test_books_without_rooms_of_their_own(self):
        for order in orders():
            self.assertEqual(self.right(Book(order), order[::-1], reordered, order[::-1])[1], [0, 1])

    def test_all_meanings_of_three_marks(self):
        book = full_book(list("bac"))
        for order in itertools.permutations("abc"):
            new, rooms = self.right(book, list(order), reordered, list(order))
            self.assertEqual(sorted(rooms), list(range(256)))

    def test_marks_go_by_their_names(self):
        book = Book(list("abc"))
        room = book.enter(("and", A, ("not", C)))
        new, rooms = reordered(book, list("cab"))
        self.assertEqual(rooms[room], makes_none(self, new, new.enter, ("and", A, ("not", C))))
        self.assertEqual([new.worth_at(rooms[room], row) for row in ([0, 1, 0], [0, 1, 1], [1, 1, 0], [1, 0, 0])],
                         [1, 1, 0, 0])
        new, rooms = exchanged(book, 0)
        self.assertEqual(new.order(), list("bac"))
        self.assertEqual(rooms[room], makes_none(self, new, new.enter, ("and", A, ("not", C))))

    def test_the_books_do_not_hang_together(self):
        book = drawn_book(3, list("abc"))
        for new, rooms in (exchanged(book, 1), reordered(book, list("abc")), reordered(book, list("cba"))):
            before, there = all_rooms(book), all_rooms(new)
            new.enter(("either", A, ("either", B, C)))
            self.assertEqual(all_rooms(book), before)
            book.enter(("either", A, ("either", B, ("not", C))))
            self.assertEqual(all_rooms(book)[:len(before)], before)
            self.assertEqual(all_rooms(new)[:len(there)], there)
            well_made(self, new)
            well_made(self, book)

    def test_what_is_handed_in_is_not_kept_and_what_is_told_is_the_askers_own(self):
        book, order = drawn_book(4, list("abc")), list("cab")
        new, rooms = reordered(book, order)
        self.assertEqual(order, list("cab"))
        order.reverse()
        self.assertEqual(new.order(), list("cab"))
        before = list(rooms)
        rooms.clear()
        self.assertEqual(reordered(book, list("cab"))[1], before)
        new, rooms = exchanged(book, 0)
        new.order().clear()
        rooms.reverse()
        self.assertEqual((book.order(), new.order()), (list("abc"), list("bac")))
        self.assertEqual(exchanged(book, 0)[1], rooms[::-1])

    def test_no_number(self):
        for order in orders():
            book = drawn_book(5, order, 2)
            for at in NO_PLACES + [len(order) - 1, len(order), -len(order)]:
                if not 0 <= at < len(order) - 1:
                    refused_by(self, NoNumber, book, exchanged, book, at)

    def test_no_order(self):
        book = drawn_book(6, list("bca"))
        for order in NO_ORDERS + [["a", "b"], ["a", "b", "d"], ["a", "b", "c", "d"], ["a", "b", "c", "a"], ["c"],
                                  ["a", "b", "b"], ["a", "b", "C"], ["a", "b", ""], ["abc"], ["a", "b", "c", ""],
                                  ["d", "e", "f"], list(MARKS)]:
            with self.subTest(order):
                before = list(order)
                refused_by(self, NoOrder, book, reordered, book, order)
                self.assertEqual(order, before)
        for order in NO_ORDERS:
            refused_by(self, NoOrder, book, reordered, Book(["a"]), order)
            refused_by(self, NoOrder, book, reordered, Book(list(MARKS)), order)


class Sizes(unittest.TestCase):

    def test_size_of_each_room(self):
        for turn, order in enumerate(orders()):
            book = drawn_book(turn, order, 5)
            for room in range(book.size()):
                self.assertEqual(makes_none(self, book, size_of, book, room), len(plain_below(book, room)))

    def test_plain_ones(self):
        book = Book(list("abc"))
        some = [("no",), ("yes",), C, ("and", A, C), ("either", A, ("either", B, C))]
        self.assertEqual([size_of(book, book.enter(one)) for one in some], [1, 1, 3, 4, 7])

    def test_all_sizes_and_best_against_books_with_these_orders(self):
        for number in range(30):
            marks = sorted(random.Random(number).sample(MARKS, 1 + number % 5))
            some = drawn(300 + number, marks, 5)
            due = []
            for order in itertools.permutations(marks):
                there = Book(list(order))
                due.append((list(order), len(plain_below(there, there.enter(some)))))
            for order in (marks, marks[::-1], random.Random(number).sample(marks, len(marks))):
                book = drawn_book(number, order, 3)
                room = book.enter(some)
                told = makes_none(self, book, all_sizes, book, room)
                self.assertEqual(told, due)
                self.assertEqual({(type(entry), type(entry[0])) for entry in told}, {(tuple, list)})
                least = min(size for _, size in due)
                first = [entry for entry in due if entry[1] == least][0]
                self.assertEqual(makes_none(self, book, best, book, room), first)

    def test_all_meanings_of_three_marks(self):
        book = full_book(list("cab"))
        there = {order: reordered(book, list(order)) for order in itertools.permutations("abc")}
        for room in range(book.size()):
            due = [(list(order), len(plain_below(there[order][0], there[order][1][room]))) for order in sorted(there)]
            self.assertEqual(all_sizes(book, room), due)
            self.assertEqual(best(book, room), min(due, key=lambda entry: (entry[1], entry[0])))

    def test_sizes_that_hang_on_the_order(self):
        book = Book(list("abcd"))
        room = book.enter(("or", ("and", A, C), ("and", B, D)))
        told = all_sizes(book, room)
        self.assertEqual([order for order, _ in told], [list(order) for order in itertools.permutations("abcd")])
        self.assertEqual(told[0], (list("abcd"), 8))
        self.assertEqual(told[2], (list("acbd"), 6))
        self.assertEqual(best(book, room), (list("acbd"), 6))

    def test_no_yes_and_a_mark(self):
        book = Book(list("cab"))
        for room, size in ((0, 1), (1, 1), (book.enter(C), 3), (book.enter(("not", A)), 3)):
            self.assertEqual(all_sizes(book, room), [(list(order), size) for order in itertools.permutations("abc")])
            self.assertEqual(best(book, room), (list("abc"), size))
        self.assertEqual(all_sizes(Book(["h"]), 1), [(["h"], 1)])

    def test_what_is_told_is_the_askers_own(self):
        book = drawn_book(7, list("cab"))
        room = book.size() - 1
        found = lists_in(all_sizes(book, room)) + lists_in(best(book, room)) + lists_in(best(book, room))
        self.assertEqual(len({id(one) for one in found}), len(found))
        before = [all_sizes(book, room), best(book, room)]
        for told in (all_sizes(book, room), best(book, room)):
            for one in lists_in(told):
                one.clear()
        self.assertEqual([all_sizes(book, room), best(book, room)], before)
        self.assertEqual(book.order(), list("cab"))

    def test_no_room(self):
        for order in (list("ab"), list("edcba"), list(MARKS[:6]), list(MARKS)):
            book = drawn_book(8, order, 3)
            for number in no_rooms(book):
                for call in (size_of, all_sizes, best):
                    refused_by(self, NoRoom, book, call, book, number)

    def test_too_great(self):
        for order in orders():
            book = drawn_book(9, order, 3)
            for room in (0, 1, book.size() - 1):
                for call in (all_sizes, best):
                    if len(order) > 5:
                        refused_by(self, TooGreat, book, call, book, room)
                    else:
                        makes_none(self, book, call, book, room)


if __name__ == "__main__":
    unittest.main()
