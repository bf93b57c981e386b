"""What the document promises over the whole program: in books of other orders, of elder rooms, of what is handed in."""

import copy
import fractions
import random
import unittest

from decidebook.book import Book
from decidebook.counting import by_yeses, counts, counts_hold, how_many, row_at, row_number
from decidebook.covers import cared, cover, cover_shows, cube_room, is_cover, is_cube, is_prime, is_within, primes
from decidebook.joining import for_each, for_some, held, joined, put, turned
from decidebook.notes import read, shown
from decidebook.orders import all_sizes, best, exchanged, reordered, size_of
from decidebook.papers import alike, apart, are_alike_by, is_made, making
from decidebook.sentences import is_order, is_sentence, marks_of, words, worth
from decidebook.weighing import chance, lightest, loads, loads_hold
from decidebook.worlds import image, preimage, reached, rounds, rounds_show, stays, way_shows, way_to
from helper import (WORDS, again, all_rooms, by_name, drawn, drawn_book, lists_in, makes_none, meaning, orders,
                    place_of, plain_below, plain_lead, rows, rows_from_its_mark, well_made, yes_rows)

OF_NOW = (image, preimage, reached, stays, rounds)


def other_books():
    """Books with orders of one to eight marks, each with a book of another order and the rooms of its own there."""
    for turn, order in enumerate(orders()):
        book = drawn_book(turn + 20, order, 4, 4)
        source = random.Random(turn)
        yield (book,) + reordered(book, source.sample(order, len(order)))
        if len(order) > 1:
            yield (book,) + exchanged(book, source.randrange(len(order) - 1))
            new, rooms = reordered(book, order[::-1])
            newer, there = exchanged(new, 0)
            yield book, newer, [there[room] for room in rooms]


def carried(book, new, entries):
    """The entries for the marks of a book, in the order of another one."""
    known = dict(zip(book.order(), entries))
    return [known[mark] for mark in new.order()]


class OtherBooks(unittest.TestCase):

    def test_rooms_and_rows(self):
        for book, new, rooms in other_books():
            well_made(self, new)
            for number in rooms[-6:]:
                for row in rows(len(new.order())):
                    self.assertEqual(new.worth_at(number, row), plain_lead(new, number, row))
                self.assertEqual(new.below(number), sorted(plain_below(new, number)))

    def test_entering(self):
        for turn, (book, new, rooms) in enumerate(other_books()):
            for number in range(4):
                some = drawn(turn + number, book.order(), 4)
                there = again(self, new, new.enter, some)
                self.assertEqual(meaning(new, there), [worth(some, new.order(), row) for row in rows(len(new.order()))])
                self.assertEqual(by_name(new, there), by_name(book, book.enter(some)))
            well_made(self, new)

    def test_joining(self):
        for turn, (book, new, rooms) in enumerate(other_books()):
            source = random.Random(turn)
            for word in source.sample(WORDS, 4):
                one, other = source.randrange(len(rooms)), source.randrange(len(rooms))
                mark, value = source.choice(book.order()), source.choice((0, 1))
                here, there = rooms[one], rooms[other]
                for call, given, due in (
                        (joined, (word, here, there), (word, one, other)), (turned, (here,), (one,)),
                        (held, (here, mark, value), (one, mark, value)), (for_some, (mark, here), (mark, one)),
                        (for_each, (mark, here), (mark, one)), (put, (here, mark, there), (one, mark, other))):
                    told = again(self, new, call, new, *given)
                    self.assertEqual(by_name(new, told), by_name(book, call(book, *due)))
            well_made(self, new)

    def test_counting(self):
        for book, new, rooms in other_books():
            for number in range(len(rooms))[-8:]:
                there, found = rooms[number], yes_rows(new, rooms[number])
                self.assertEqual(makes_none(self, new, how_many, new, there), how_many(book, number))
                self.assertEqual(makes_none(self, new, by_yeses, new, there), by_yeses(book, number))
                self.assertEqual([row_at(new, there, at) for at in range(len(found))], found)
                self.assertEqual([row_number(new, there, row) for row in found], list(range(len(found))))
                told = makes_none(self, new, counts, new, there)
                self.assertEqual(told, [(room, len(rows_from_its_mark(new, room))) for room in new.below(there)])
                self.assertIs(counts_hold(new, there, told), True)
                self.assertIs(counts_hold(new, there, told[:-1] + [(there, told[-1][1] + 1)]), False)

    def test_weighing(self):
        for turn, (book, new, rooms) in enumerate(other_books()):
            source = random.Random(turn)
            weights = [(source.randint(-9, 9), source.randint(-9, 9)) for _ in book.order()]
            there = carried(book, new, weights)
            for number in range(len(rooms))[-8:]:
                told = makes_none(self, new, lightest, new, rooms[number], there)
                found = [(sum(pair[value] for pair, value in zip(there, row)), row)
                         for row in yes_rows(new, rooms[number])]
                self.assertEqual(told, min(found, default=None))
                if told is not None:
                    self.assertEqual(told[0], lightest(book, number, weights)[0])
                loaded = makes_none(self, new, loads, new, rooms[number], there)
                due = []
                for room in new.below(rooms[number]):
                    behind = there[place_of(new, room):]
                    due.append((room, min((sum(pair[value] for pair, value in zip(behind, row))
                                           for row in rows_from_its_mark(new, room)), default=None)))
                self.assertEqual(loaded, due)
                self.assertIs(loads_hold(new, rooms[number], there, loaded), True)

    def test_chance(self):
        for turn, (book, new, rooms) in enumerate(other_books()):
            source = random.Random(turn)
            bottoms = [source.randint(1, 12) for _ in book.order()]
            shares = [(source.randint(0, bottom), bottom) for bottom in bottoms]
            there = carried(book, new, shares)
            for number in range(len(rooms))[-8:]:
                told = makes_none(self, new, chance, new, rooms[number], there)
                self.assertEqual(told, chance(book, number, shares))
                due = fractions.Fraction(0)
                for row in yes_rows(new, rooms[number]):
                    part = fractions.Fraction(1)
                    for (top, bottom), value in zip(there, row):
                        part *= fractions.Fraction(top if value else bottom - top, bottom)
                    due += part
                self.assertEqual(told, (due.numerator, due.denominator))

    def test_papers_and_covers(self):
        for turn, (book, new, rooms) in enumerate(other_books()):
            source = random.Random(turn)
            plain = Book(new.order())
            some = drawn(turn, book.order(), 4)
            one, other = new.enter(some), plain.enter(some)
            self.assertIsNone(apart(new, one, plain, other))
            self.assertIs(are_alike_by(new, plain, alike(new, one, plain, other)), True)
            room = source.choice(rooms)
            self.assertIs(is_made(new, "0110", making(new, "0110", one, room)), True)
            cubes, own = cover(new, room)
            self.assertIs(cover_shows(new, room, cubes, own), True)
            well_made(self, new)

    def test_worlds(self):
        book = drawn_book(5, list("aebf"), 6)
        steps, start = book.enter(read("either(e, and(b, f))")), book.enter(read("and(a, not(b))"))
        for order in ("feba", "abef", "beaf"):
            new, rooms = reordered(book, list(order))
            for call in (image, preimage, reached, stays):
                self.assertEqual(by_name(new, call(new, rooms[steps], rooms[start])),
                                 by_name(book, call(book, steps, start)))
            self.assertEqual([by_name(new, room) for room in rounds(new, rooms[steps], rooms[start])],
                             [by_name(book, room) for room in rounds(book, steps, start)])


def questions(book, source):
    """One question of each kind about a book that tells a world, with at most five marks; some drawn for it."""
    order, size = book.order(), book.size()
    one, other = source.randrange(size), source.randrange(size)
    mark, word, many = source.choice(order), source.choice(WORDS), len(order)
    start = book.enter(drawn(source.randrange(10 ** 6), [letter for letter in order if letter in "abcd"], 3))
    goal = book.enter(("mark", min(order)))
    row = [source.choice((0, 1)) for _ in order]
    weights = [(source.randint(-5, 5), source.randint(-5, 5)) for _ in order]
    shares = [(source.randint(0, 3), 3) for _ in order]
    cube = "".join(source.choice("01--") for _ in order)
    some = drawn(source.randrange(10 ** 6), order, 4)
    covered = cover(book, one)
    return [
        (Book.order, book), (Book.enter, book, some), (Book.room, book, one), (Book.worth_at, book, one, row),
        (Book.below, book, one), (joined, book, word, one, other), (turned, book, one),
        (held, book, one, mark, source.choice((0, 1))), (for_some, book, mark, one), (for_each, book, mark, one),
        (put, book, one, mark, other), (how_many, book, one), (by_yeses, book, one), (row_at, book, 1, 1),
        (row_number, book, 1, row), (counts, book, one), (counts_hold, book, one, counts(book, one)),
        (lightest, book, one, weights), (loads, book, one, weights),
        (loads_hold, book, one, weights, loads(book, one, weights)), (chance, book, one, shares),
        (apart, book, one, book, other), (alike, book, one, book, one), (are_alike_by, book, book, [(0, 0), (1, 1)]),
        (making, book, word, one, other), (is_made, book, word, making(book, word, one, other)), (size_of, book, one),
        (all_sizes, book, one), (best, book, one), (is_cube, book, cube), (cube_room, book, cube),
        (is_within, book, one, cube), (is_prime, book, one, cube), (primes, book, one), (cover, book, one),
        (is_cover, book, one, covered[0]), (cover_shows, book, one, covered[0], covered[1]), (cared, book, one, other),
        (image, book, other, start), (preimage, book, other, start), (reached, book, other, start),
        (stays, book, other, start), (rounds, book, other, start),
        (rounds_show, book, other, start, rounds(book, other, start)), (way_to, book, other, start, goal),
        (way_shows, book, other, start, goal, way_to(book, other, start, goal) or [[0] * (many // 2)]),
        (is_order, order), (is_sentence, some), (words, some), (marks_of, some), (worth, some, order, row),
        (shown, some), (read, shown(some)),
    ]


def some_worlds():
    for turn, order in enumerate(("ae", "fb", "aebf", "fabe", "hgdc")):
        yield random.Random(turn), drawn_book(turn, list(order), 4)


def questions_of_eight(book, source):
    """What can be asked of a book with eight marks and makes rooms."""
    room = book.size() - 1
    steps = joined(book, "0001", room, book.enter(("mark", "f")))
    start = book.enter(drawn(7, "abcd", 4))
    return [
        (making, book, source.choice(WORDS), room, room // 2), (cube_room, book, "01--1-0-"), (primes, book, room),
        (cover, book, room), (cared, book, room, room // 2), (cared, book, room // 2, room),
    ] + [(call, book, steps, start) for call in OF_NOW] + [
        (way_to, book, steps, start, book.enter(("mark", "b"))), (put, book, room, "a", room // 2),
        (for_some, book, "e", room), (turned, book, room), (joined, book, "0110", room, room // 2),
    ]


class WholeProgram(unittest.TestCase):

    def test_elder_rooms_stay_and_the_book_stays_well_made(self):
        for source, book in some_worlds():
            for _ in range(4):
                for call, *given in questions(book, source):
                    again(self, book, call, *given)
                well_made(self, book)

    def test_elder_rooms_stay_in_a_book_of_eight_marks(self):
        book = drawn_book(4, list("ecagbhdf"), 3)
        source = random.Random(4)
        for call, *given in questions_of_eight(book, source):
            again(self, book, call, *given)
        well_made(self, book)

    def test_the_same_question_is_answered_alike_in_a_grown_book(self):
        for source, book in some_worlds():
            asked = questions(book, source)
            told = [call(*given) for call, *given in asked]
            for number in range(20):
                book.enter(drawn(5000 + number, book.order(), 4))
            self.assertEqual([call(*given) for call, *given in asked], told)

    def test_the_same_questions_in_the_same_book_made_anew(self):
        for number in range(3):
            told = []
            for _ in range(2):
                book = drawn_book(number, list("bfea"), 4)
                told.append([call(*given) for call, *given in questions(book, random.Random(number))])
                told[-1].append(all_rooms(book))
            self.assertEqual(told[0], told[1])

    def test_what_is_handed_in_is_not_changed(self):
        for source, book in some_worlds():
            for call, *given in questions(book, source):
                before = [copy.deepcopy(one) for one in given if one is not book]
                call(*given)
                self.assertEqual([one for one in given if one is not book], before, call)

    def test_what_is_told_is_the_askers_own(self):
        for source, book in some_worlds():
            for call, *given in questions(book, source):
                told = call(*given)
                handed = [one for part in given for one in lists_in(part)]
                found = lists_in(told) + lists_in(call(*given)) + handed
                self.assertEqual(len({id(one) for one in found}), len(found), call)
                before = copy.deepcopy(told)
                for one in lists_in(told):
                    one.append("changed")
                self.assertEqual(call(*given), before, call)
            well_made(self, book)

    def test_what_was_handed_in_may_be_changed_later(self):
        for source, book in some_worlds():
            rooms = all_rooms(book)
            for call, *given in questions(book, source):
                handed = [copy.deepcopy(one) if one is not book else book for one in given]
                told = call(*handed)
                for one in [one for part in handed for one in lists_in(part)]:
                    one.clear()
                self.assertEqual(call(*given), told, call)
            self.assertEqual(all_rooms(book)[:len(rooms)], rooms)

    def test_books_of_other_orders_are_told_alike(self):
        for source, book in some_worlds():
            order = source.sample(book.order(), len(book.order()))
            for call, given in ((reordered, order), (exchanged, 0)):
                new, rooms = makes_none(self, book, call, book, given)
                newer, there = call(book, given)
                self.assertIsNot(new, newer)
                self.assertEqual((new.order(), all_rooms(new), rooms), (newer.order(), all_rooms(newer), there))
                new.enter(("either", ("mark", new.order()[0]), ("mark", new.order()[1])))
                rooms.clear()
                self.assertEqual(call(book, given)[1], there)


if __name__ == "__main__":
    unittest.main()
