import itertools
import random
import unittest

from decidebook.book import Book
from decidebook.errors import NoOrder, NoRoom, NoWord
from decidebook.joining import joined
from decidebook.papers import alike, apart, are_alike_by, is_made, making
from helper import (A, B, C, NO_WORDS, WORDS, again, drawn, drawn_book, full_book, makes_none, meaning,
                    no_rooms, orders, plain_lead, refused_by, rows, well_made)

TWO_ORDERS = [("ab", "ba"), ("a", "b"), ("a", "ab"), ("ab", "a"), ("abc", "abd"), ("abc", "acb"),
              ("abcdefgh", "abcdefhg")]


def plain_apart(book, one, two, other):
    """Point 20, row by row."""
    for row in rows(len(book.order())):
        if plain_lead(book, one, row) != plain_lead(two, other, row):
            return row
    return None


def plain_alike_by(book, two, pairs):
    """Point 21, word by word."""
    for one, other in pairs:
        if one < 2 or other < 2:
            shown = one == other
        else:
            here, there = book.room(one), two.room(other)
            shown = here[0] == there[0] and (here[1], there[1]) in pairs and (here[2], there[2]) in pairs
        if not shown:
            return False
    return True


def plain_is_made(book, word, told):
    """Point 22, word by word."""
    for at, (one, other, made) in enumerate(told):
        if one < 2 and other < 2:
            if made != int(word[2 * one + other]):
                return False
            continue
        mark = min([book.room(room)[0] for room in (one, other) if room > 1], key=book.order().index)
        going = []
        for value in (1, 2):
            pair = tuple(book.room(room)[value] if room > 1 and book.room(room)[0] == mark else room
                         for room in (one, other))
            found = [row[2] for row in told[:at] if row[:2] == pair]
            if not found:
                return False
            going.append(found[-1])
        if going[0] == going[1] and made != going[0]:
            return False
        if going[0] != going[1] and book.room(made) != (mark, going[0], going[1]):
            return False
    return True


def two_books(number, order):
    """Two books with the same order and some of the same meanings, entered otherwise."""
    some = [drawn(7 * number + turn, order, 4) for turn in range(6)]
    book, two = Book(order), Book(order)
    for turn in range(6):
        book.enter(some[turn])
        two.enter(("not", some[5 - turn]))
        two.enter(some[5 - turn])
    return book, two


def swapped(told, one, other):
    changed = list(told)
    changed[one], changed[other] = told[other], told[one]
    return changed


class Apart(unittest.TestCase):

    def right(self, book, one, two, other):
        told = makes_none(self, two, makes_none, self, book, apart, book, one, two, other)
        self.assertEqual(told, plain_apart(book, one, two, other))

    def test_rooms_of_one_book(self):
        for turn, order in enumerate(orders()):
            book = drawn_book(turn, order, 4, 4)
            some = range(book.size()) if len(order) < 5 else random.Random(turn).choices(range(book.size()), k=7)
            for one, other in itertools.product(some, repeat=2):
                self.right(book, one, book, other)
                self.assertEqual(apart(book, one, book, other) is None, one == other)

    def test_rooms_of_two_books(self):
        for turn, order in enumerate(orders()):
            book, two = two_books(turn, order)
            source = random.Random(turn)
            for _ in range(30):
                self.right(book, source.randrange(book.size()), two, source.randrange(two.size()))

    def test_all_meanings_of_three_marks(self):
        book = full_book(list("bca"))
        for one, other in itertools.product(range(0, book.size(), 5), repeat=2):
            self.right(book, one, book, other)

    def test_the_first_mark_weighs_most(self):
        book = Book(["b", "a", "c"])
        one, other = book.enter(("or", B, C)), book.enter(("or", A, C))
        self.assertEqual(apart(book, one, book, other), [0, 1, 0])
        self.assertEqual(apart(book, 0, book, book.enter(("either", B, A))), [0, 1, 0])
        self.assertEqual(apart(book, 1, book, book.enter(("if", B, ("and", A, C)))), [1, 0, 0])
        self.assertEqual((apart(book, 0, book, 1), apart(book, 1, book, 1)), ([0, 0, 0], None))

    def test_what_is_told_is_the_askers_own(self):
        book = drawn_book(3, list("ab"))
        apart(book, 0, book, 1).append(7)
        self.assertEqual(apart(book, 0, book, 1), [0, 0])

    def test_no_order(self):
        for one, other in TWO_ORDERS:
            book, two = Book(list(one)), Book(list(other))
            for room, number in ((0, 0), (0, 1), (2, 0), (0, -1), (10 ** 60 - 1, 1 - 10 ** 60)):
                refused_by(self, NoOrder, book, apart, book, room, two, number)
                refused_by(self, NoOrder, book, alike, book, room, two, number)

    def test_no_room(self):
        book, two = Book(list("ab")), drawn_book(4, list("ab"))
        for call in (apart, alike):
            for number in no_rooms(book) + no_rooms(two):
                if number not in range(book.size()):
                    refused_by(self, NoRoom, book, call, book, number, two, 1)
                    refused_by(self, NoRoom, book, call, book, number, two, two.size())
                if number not in range(two.size()):
                    refused_by(self, NoRoom, two, call, book, 1, two, number)
            refused_by(self, NoRoom, two, call, two, two.size() - 1, book, two.size() - 1)
            refused_by(self, NoRoom, book, call, book, 2, book, 2)


class Alike(unittest.TestCase):

    def right(self, book, one, two, other):
        told = makes_none(self, two, makes_none, self, book, alike, book, one, two, other)
        if plain_apart(book, one, two, other) is not None:
            self.assertIsNone(told)
            return None
        self.assertIs(type(told), list)
        self.assertEqual({(type(pair), len(pair)) for pair in told}, {(tuple, 2)})
        self.assertEqual(told[0], (one, other))
        self.assertTrue(plain_alike_by(book, two, told))
        self.shown(book, two, told, True)
        return told

    def shown(self, book, two, pairs, due):
        before = list(pairs)
        told = makes_none(self, two, makes_none, self, book, are_alike_by, book, two, pairs)
        self.assertIs(told, due, pairs)
        self.assertEqual(pairs, before)

    def test_rooms_of_one_book(self):
        for turn, order in enumerate(orders()):
            book = drawn_book(turn, order, 4, 4)
            some = range(book.size()) if len(order) < 4 else random.Random(turn).choices(range(book.size()), k=6)
            for one, other in itertools.product(some, repeat=2):
                self.right(book, one, book, other)

    def test_rooms_of_two_books(self):
        for turn, order in enumerate(orders()):
            book, two = two_books(turn, order)
            there = {tuple(meaning(two, other)): other for other in range(two.size())}
            found = 0
            for one in range(book.size()):
                other = there.get(tuple(meaning(book, one)), 0)
                found += self.right(book, one, two, other) is not None
            self.assertGreater(found, 2)

    def test_rooms_have_other_numbers_in_another_book(self):
        book, two = Book(list("ab")), Book(list("ab"))
        one = book.enter(A), book.enter(B)
        other = two.enter(B), two.enter(A)
        self.assertEqual((one, other), ((2, 3), (2, 3)))
        self.assertEqual((alike(book, 2, two, 2), alike(book, 3, two, 3)), (None, None))
        self.assertEqual(sorted(alike(book, 2, two, 3)), [(0, 0), (1, 1), (2, 3)])
        self.shown(book, two, [(2, 3), (0, 0), (1, 1)], True)
        self.shown(book, two, [(2, 2), (0, 0), (1, 1)], False)

    def test_no_and_yes(self):
        book, two = Book(["a"]), Book(["a"])
        self.assertEqual((alike(book, 0, two, 0), alike(book, 1, two, 1)), ([(0, 0)], [(1, 1)]))
        self.assertEqual((alike(book, 0, two, 1), alike(book, 1, two, 0)), (None, None))
        for pairs, due in (([], True), ([(0, 0)], True), ([(1, 1)], True), ([(1, 1), (0, 0)], True), ([(0, 1)], False),
                           ([(1, 0)], False), ([(0, 0), (1, 1), (1, 0)], False), ([(0, 1), (1, 0)], False),
                           ([(0, 0)] * 700, True), ([(0, 0)] * 699 + [(0, 1)], False)):
            self.shown(book, two, pairs, due)

    def test_no_or_yes_beside_a_room_with_a_mark(self):
        book = Book(list("ab"))
        room = book.enter(("or", A, B))
        for end in (0, 1):
            self.shown(book, book, [(0, 0), (1, 1), (room, end)], False)
            self.shown(book, book, [(0, 0), (1, 1), (end, room)], False)

    def test_the_pairs_stand_anyhow_and_as_often_as_you_like(self):
        for turn, order in enumerate(orders()):
            book, two = two_books(turn, order)
            told = alike(book, book.size() - 1, book, book.size() - 1)
            random.Random(turn).shuffle(told)
            self.shown(book, book, told, True)
            self.shown(book, book, told + told[:3], True)
            self.shown(book, book, told[::-1], True)

    def test_changed_pairs(self):
        for turn, order in enumerate(orders()):
            book, two = two_books(turn, order)
            there = {tuple(meaning(two, other)): other for other in range(two.size())}
            one = max(number for number in range(book.size()) if tuple(meaning(book, number)) in there)
            told = alike(book, one, two, there[tuple(meaning(book, one))])
            self.shown(book, two, told[1:], True)
            for at in range(1, len(told)):
                self.shown(book, two, told[:at] + told[at + 1:], False)
            for at, (room, other) in enumerate(told):
                for number in range(min(two.size(), 20)):
                    if number != other:
                        self.shown(book, two, told[:at] + [(room, number)] + told[at + 1:], False)
                        self.shown(book, two, told + [(room, number)], False)
                for number in range(min(book.size(), 20)):
                    if number != room:
                        self.shown(book, two, told[:at] + [(number, other)] + told[at + 1:], False)
            for (one, other), (here, there_too) in itertools.islice(itertools.combinations(told, 2), 30):
                rest = [pair for pair in told if pair not in ((one, other), (here, there_too))]
                self.shown(book, two, rest + [(one, there_too), (here, other)], False)

    def test_one_put_in_without_its_goings(self):
        book = Book(list("ab"))
        low, room = book.enter(B), book.enter(("and", A, B))
        for pairs, due in (([(low, low)], False), ([(low, low), (0, 0)], False), ([(low, low), (1, 1)], False),
                           ([(low, low), (1, 1), (0, 0)], True), ([(room, room), (1, 1), (0, 0)], False),
                           ([(0, 0), (room, room), (low, low)], False),
                           ([(0, 0), (room, room), (low, low), (1, 1)], True)):
            self.shown(book, book, pairs, due)

    def test_one_mark_with_goings_changed_about(self):
        book = Book(list("a"))
        one, other = book.enter(A), book.enter(("not", A))
        self.shown(book, book, [(0, 0), (1, 1), (one, other)], False)
        self.shown(book, book, [(0, 1), (1, 0), (one, other)], False)

    def test_another_mark_with_the_same_goings(self):
        book = Book(list("ab"))
        one, other = book.enter(A), book.enter(B)
        self.shown(book, book, [(0, 0), (1, 1), (one, other)], False)

    def test_all_lists_of_few_pairs(self):
        book, two = Book(list("ab")), Book(list("ab"))
        book.enter(("and", A, B))
        two.enter(("and", A, B))
        two.enter(("not", B))
        every = list(itertools.product(range(book.size()), range(two.size())))
        for many in (1, 2, 3):
            for pairs in itertools.product(every, repeat=many):
                told = are_alike_by(book, two, list(pairs))
                self.assertIs(told, plain_alike_by(book, two, pairs), pairs)
                if told:
                    self.assertTrue(all(meaning(book, one) == meaning(two, other) for one, other in pairs))

    def test_what_is_told_is_the_askers_own(self):
        book = drawn_book(5, list("abc"))
        room = book.size() - 1
        before = list(alike(book, room, book, room))
        alike(book, room, book, room).clear()
        self.assertEqual(alike(book, room, book, room), before)

    def test_no_order(self):
        for one, other in TWO_ORDERS:
            book, two = Book(list(one)), Book(list(other))
            for pairs in ([], [(0, 0)], [(0, 1)], [(0, 0), (-1, 7)], [(9, 9)]):
                refused_by(self, NoOrder, book, are_alike_by, book, two, pairs)

    def test_no_room(self):
        book, two = Book(list("ab")), drawn_book(6, list("ab"))
        for number in no_rooms(book) + no_rooms(two):
            for ahead in ([], [(0, 0)], [(0, 1)]):
                for behind in ([], [(1, 1)], [(1, 0)]):
                    if number not in range(book.size()):
                        refused_by(self, NoRoom, book, are_alike_by, book, two, ahead + [(number, 1)] + behind)
                    if number not in range(two.size()):
                        refused_by(self, NoRoom, book, are_alike_by, book, two, ahead + [(1, number)] + behind)
        self.assertIs(are_alike_by(book, two, [(0, two.size() - 1)]), False)
        refused_by(self, NoRoom, book, are_alike_by, book, two, [(two.size() - 1, 0)])


class Making(unittest.TestCase):

    def right(self, book, word, one, other):
        told = again(self, book, making, book, word, one, other)
        self.assertIs(type(told), list)
        self.assertEqual({(type(row), len(row)) for row in told}, {(tuple, 3)})
        self.assertEqual(told[-1], (one, other, makes_none(self, book, joined, book, word, one, other)))
        due = [int(word[2 * here + there]) for here, there in zip(meaning(book, one), meaning(book, other))]
        self.assertEqual(meaning(book, told[-1][2]), due)
        self.assertTrue(plain_is_made(book, word, told))
        self.shown(book, word, told, True)
        return told

    def shown(self, book, word, told, due):
        before = list(told)
        self.assertIs(makes_none(self, book, is_made, book, word, told), due, (word, told))
        self.assertEqual(told, before)

    def test_all_rooms_of_a_small_book(self):
        book = Book(["b", "a"])
        for some in (A, B, ("and", A, B), ("either", A, B)):
            book.enter(some)
        for one, other in itertools.product(range(book.size()), repeat=2):
            for word in WORDS:
                self.right(book, word, one, other)
        well_made(self, book)

    def test_orders_of_one_to_eight(self):
        source = random.Random(5)
        for turn, order in enumerate(orders()):
            for word in WORDS:
                book = drawn_book(turn, order, 3, 4)
                self.right(book, word, book.size() - 1, source.randrange(book.size()))
                well_made(self, book)

    def test_rooms_as_great_as_can_be(self):
        book = Book(list("abcdefgh"))
        source = random.Random(6)
        great = []
        for _ in range(2):
            made = [1 if source.random() < 0.5 else 0 for _ in range(256)]
            for mark in "hgfedcba":
                room = book.enter(("mark", mark))
                high = [joined(book, "0001", room, entry) for entry in made[1::2]]
                low = [joined(book, "0100", room, entry) for entry in made[::2]]
                made = [joined(book, "0111", one, other) for one, other in zip(low, high)]
            great.append(made[0])
        told = self.right(book, "0110", *great)
        self.assertGreater(len(told), 120)

    def test_no_and_yes(self):
        book = Book(["a"])
        for word in WORDS:
            for one, other in itertools.product((0, 1), repeat=2):
                self.assertEqual(self.right(book, word, one, other), [(one, other, int(word[2 * one + other]))])
                self.shown(book, word, [(one, other, 1 - int(word[2 * one + other]))], False)
        self.assertEqual(book.size(), 2)

    def test_no_row_at_all(self):
        for word in WORDS:
            self.shown(Book(["a"]), word, [], True)

    def test_one_word_among_the_others(self):
        book = drawn_book(8, list("bac"), 3)
        for word in WORDS:
            told = making(book, word, book.size() - 1, book.size() - 2)
            for other in WORDS:
                self.shown(book, other, told, plain_is_made(book, other, told))

    def test_rows_left_out_and_changed_about(self):
        for turn, order in enumerate(orders()):
            book = drawn_book(turn, order, 3, 4)
            for word in ("0110", "0001", "1101", "0011"):
                told = making(book, word, book.size() - 1, book.size() // 2)
                self.shown(book, word, told[:-1], True)
                for at in range(len(told) - 1):
                    self.shown(book, word, told[:at] + told[at + 1:], False)
                for one, other in itertools.islice(itertools.combinations(range(len(told)), 2), 40):
                    changed = swapped(told, one, other)
                    self.shown(book, word, changed, plain_is_made(book, word, changed))
                if len(told) > 1:
                    self.shown(book, word, told[::-1], False)
                    self.shown(book, word, [told[-1]] + told[:-1], False)

    def test_another_room_made(self):
        for turn, order in enumerate(orders()):
            book = drawn_book(turn, order, 3, 4)
            for word in ("0110", "0111", "0000"):
                told = making(book, word, book.size() - 1, book.size() // 2)
                for at, (one, other, made) in enumerate(told):
                    for number in range(min(book.size(), 12)):
                        if number != made:
                            row = [(one, other, number)]
                            self.shown(book, word, told[:at] + row + told[at + 1:], False)
                            self.shown(book, word, told[:at] + row + told[at:], False)
                            self.shown(book, word, told + row, False)

    def test_rows_told_twice(self):
        for turn, order in enumerate(orders()):
            book = drawn_book(turn, order, 3, 4)
            told = making(book, "0110", book.size() - 1, book.size() // 2)
            self.shown(book, "0110", told + told, True)
            self.shown(book, "0110", [row for row in told for _ in (0, 1)], True)
            for at, row in enumerate(told):
                self.shown(book, "0110", told[:at] + [row] + told[at:], True)
                self.shown(book, "0110", told + [row], True)
                self.shown(book, "0110", [row] + told, row[0] < 2 and row[1] < 2)

    def test_a_right_row_put_in_without_its_goings(self):
        book = Book(list("ab"))
        one, other = book.enter(A), book.enter(B)
        made = joined(book, "0001", one, other)
        ends = [(0, 0, 0), (0, 1, 0), (1, 0, 0), (1, 1, 1)]
        self.shown(book, "0001", ends, True)
        self.shown(book, "0001", [(one, other, made)], False)
        self.shown(book, "0001", ends + [(one, other, made)], False)
        self.shown(book, "0001", ends + [(0, other, 0), (one, other, made)], False)
        self.shown(book, "0001", ends + [(1, other, other), (one, other, made)], False)
        self.shown(book, "0001", ends + [(0, other, 0), (1, other, other), (one, other, made)], True)
        self.shown(book, "0001", ends + [(0, other, 0), (1, other, other), (other, one, made)], False)

    def test_a_room_with_another_mark_goes_to_itself(self):
        book = Book(list("ba"))
        one, other = book.enter(A), book.enter(B)
        made = joined(book, "0111", one, other)
        told = [(0, 0, 0), (1, 0, 1), (0, 1, 1), (1, 1, 1), (one, 0, one), (one, 1, 1), (one, other, made)]
        self.shown(book, "0111", told, True)
        self.shown(book, "0111", told[:4] + [(0, other, other), (1, other, 1), (one, other, made)], False)

    def test_all_lists_of_few_rows(self):
        book = Book(["a"])
        book.enter(A)
        every = list(itertools.product(range(3), repeat=3))
        for word in ("0001", "0110", "1111", "0101"):
            for told in itertools.product(every, repeat=2):
                self.assertIs(is_made(book, word, list(told)), plain_is_made(book, word, told), told)
            ends = [(one, other, int(word[2 * one + other])) for one in (0, 1) for other in (0, 1)]
            for row in every:
                for left in range(5):
                    told = ends[:left] + ends[left + 1:] + [row]
                    self.assertIs(is_made(book, word, told), plain_is_made(book, word, told), told)

    def test_hundreds_of_rows(self):
        book = Book(["a"])
        self.shown(book, "0001", [(0, 1, 0)] * 700, True)
        self.shown(book, "0001", [(0, 1, 0)] * 699 + [(0, 1, 1)], False)

    def test_what_is_told_is_the_askers_own(self):
        book = drawn_book(7, list("abc"))
        before = list(making(book, "0110", 2, 3))
        making(book, "0110", 2, 3).clear()
        self.assertEqual(making(book, "0110", 2, 3), before)

    def test_no_room(self):
        book = drawn_book(9, list("abc"))
        for number in no_rooms(book):
            for one, other in ((number, 0), (1, number), (number, number), (book.size() - 1, number)):
                for word in ["0110", "0000"] + NO_WORDS:
                    refused_by(self, NoRoom, book, making, book, word, one, other)
                    for made in (0, number):
                        refused_by(self, NoRoom, book, is_made, book, word, [(one, other, made)])
            for word in ["0110", "0000"] + NO_WORDS:
                for told in ([(0, 0, number)], [(0, 0, 1), (0, 0, number)], [(0, 0, 0), (0, number, 0), (1, 1, 1)]):
                    refused_by(self, NoRoom, book, is_made, book, word, told)

    def test_no_word(self):
        book = drawn_book(9, list("abc"))
        for word in NO_WORDS:
            for one, other in ((0, 0), (0, 1), (book.size() - 1, book.size() - 2)):
                refused_by(self, NoWord, book, making, book, word, one, other)
                refused_by(self, NoWord, book, is_made, book, word, [(one, other, 0)])
            refused_by(self, NoWord, book, is_made, book, word, [])


if __name__ == "__main__":
    unittest.main()
