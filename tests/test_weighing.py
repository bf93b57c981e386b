import copy
import fractions
import itertools
import random
import unittest

from decidebook.book import Book
from decidebook.errors import NoRoom, NoShares, NoWeights
from decidebook.weighing import chance, lightest, loads, loads_hold
from helper import (A, B, C, MARKS, changed_lists, drawn_book, makes_none, no_rooms, orders, place_of, plain_below,
                    refused_by, rows_from_its_mark, yes_rows)

MOST = 1000000
NO_WEIGHTS_OF_TWO = [
    [], [(0, 0)], [(0, 0)] * 3, [(0, 0)] * 700, [(0, 0), ()], [(0,), (0, 0)], [(0, 0, 0), (0, 0)], [(), ()],
    [(0, 0), (0, MOST + 1)], [(MOST + 1, 0), (0, 0)], [(0, -MOST - 1), (0, 0)], [(0, 0), (-MOST - 1, 0)],
    [(0, 0), (10 ** 60 - 1, 0)], [(0, 1 - 10 ** 60), (0, 0)],
]
NO_SHARES_OF_TWO = [
    [], [(1, 2)], [(1, 2)] * 3, [(1, 2)] * 700, [(1, 2), ()], [(1,), (1, 2)], [(1, 2, 3), (1, 2)], [(), ()],
    [(1, 2), (2, 1)], [(0, 0), (1, 2)], [(1, 2), (-1, 2)], [(0, 1001), (1, 2)], [(1, 2), (1001, 1001)],
    [(1, 2), (-2, -1)], [(-1, -2), (1, 2)], [(0, -1), (1, 2)], [(1, 0), (1, 2)], [(1, 2), (1, 10 ** 60 - 1)],
    [(1 - 10 ** 60, 1), (1, 2)], [(10 ** 60 - 1, 10 ** 60 - 1), (1, 2)], [(1001, 1000), (1, 2)],
]


def books():
    for turn, order in enumerate(orders()):
        yield drawn_book(turn + 40, order, 4)


def some_weights(many):
    """Weights for so many marks: all alike, at the bounds, below nought, with equal ones, and drawn ones."""
    source = random.Random(many)
    yield [(0, 0)] * many
    yield [(1, 1)] * many
    yield [(MOST, MOST)] * many
    yield [(-MOST, MOST)] * many
    yield [(MOST, -MOST)] * many
    yield [(-3, -5)] * many
    for width in (1, 2, MOST):
        yield [(source.randint(-width, width), source.randint(-width, width)) for _ in range(many)]


def weight(row, weights):
    return sum(pair[value] for value, pair in zip(row, weights, strict=True))


def plain_lightest(book, room, weights):
    found = yes_rows(book, room)
    least = min((weight(row, weights) for row in found), default=None)
    return next(((least, row) for row in found if weight(row, weights) == least), None)


def plain_loads(book, room, weights):
    told = []
    for number in sorted(plain_below(book, room)):
        behind = weights[place_of(book, number):]
        told.append((number, min((weight(row, behind) for row in rows_from_its_mark(book, number)), default=None)))
    return told


def built(book, room, weights, no, yes):
    """Loads that would be right if no and yes had these."""
    found = {0: no, 1: yes}
    for number in sorted(plain_below(book, room) - {0, 1}):
        place = place_of(book, number)
        ways = []
        for value, going in enumerate(book.room(number)[1:]):
            if found[going] is not None:
                between = sum(min(pair) for pair in weights[place + 1:place_of(book, going)])
                ways.append(weights[place][value] + between + found[going])
        found[number] = min(ways, default=None)
    return [(number, found[number]) for number in sorted(plain_below(book, room))]


def plain_chance(book, room, shares):
    whole = fractions.Fraction(0)
    for row in yes_rows(book, room):
        part = fractions.Fraction(1)
        for value, (top, bottom) in zip(row, shares, strict=True):
            one = fractions.Fraction(top, bottom)
            part *= one if value else 1 - one
        whole += part
    return (whole.numerator, whole.denominator)


class Lightest(unittest.TestCase):

    def test_each_room(self):
        for book in books():
            for weights in some_weights(len(book.order())):
                for room in range(book.size()) if len(book.order()) < 6 else (0, 1, book.size() - 1):
                    before = copy.deepcopy(weights)
                    told = makes_none(self, book, lightest, book, room, weights)
                    self.assertEqual(told, plain_lightest(book, room, weights))
                    self.assertEqual(weights, before)

    def test_no_and_yes(self):
        book = Book(["a", "b"])
        self.assertIsNone(lightest(book, 0, [(1, 2), (3, 4)]))
        self.assertEqual(lightest(book, 1, [(1, 2), (4, 3)]), (4, [0, 1]))
        self.assertEqual(lightest(book, 1, [(0, -7), (-2, -2)]), (-9, [1, 0]))

    def test_of_equal_ones_the_first(self):
        book = Book(["b", "a", "c"])
        room = book.enter(("or", A, ("or", B, C)))
        self.assertEqual(lightest(book, room, [(5, 5)] * 3), (15, [0, 0, 1]))
        self.assertEqual(lightest(book, book.enter(("either", A, B)), [(0, 1)] * 3), (1, [0, 1, 0]))
        self.assertEqual(lightest(book, book.enter(("or", B, C)), [(0, 1), (1, 0), (0, 1)]), (1, [0, 1, 1]))

    def test_the_bounds(self):
        book = Book(list(MARKS))
        self.assertEqual(lightest(book, 1, [(MOST, MOST)] * 8), (8 * MOST, [0] * 8))
        self.assertEqual(lightest(book, 1, [(MOST, -MOST)] * 8), (-8 * MOST, [1] * 8))

    def test_what_is_told_is_the_askers_own(self):
        book = Book(["a", "b"])
        lightest(book, 1, [(0, 0)] * 2)[1].clear()
        self.assertEqual(lightest(book, 1, [(0, 0)] * 2), (0, [0, 0]))


class Loads(unittest.TestCase):

    def test_each_room(self):
        for book in books():
            for weights in some_weights(len(book.order())):
                for room in range(book.size()) if len(book.order()) < 6 else (0, 1, book.size() - 1):
                    told = makes_none(self, book, loads, book, room, weights)
                    self.assertEqual(told, plain_loads(book, room, weights))
                    self.assertEqual({type(entry) for entry in told}, {tuple})
                    before = copy.deepcopy((weights, told))
                    self.assertIs(makes_none(self, book, loads_hold, book, room, weights, told), True)
                    self.assertEqual((weights, told), before)
                    self.assertEqual(built(book, room, weights, None, 0), told)

    def test_plain_ones(self):
        book = Book(["a", "b", "c"])
        weights = [(1, 2), (7, 5), (-3, 4)]
        last = book.enter(C)
        first = book.enter(("and", A, C))
        self.assertEqual(loads(book, 0, weights), [(0, None)])
        self.assertEqual(loads(book, 1, weights), [(1, 0)])
        self.assertEqual(loads(book, last, weights), [(0, None), (1, 0), (last, 4)])
        self.assertEqual(loads(book, first, weights), [(0, None), (1, 0), (last, 4), (first, 11)])

    def test_changed_ones_do_not_hold(self):
        for book in books():
            for weights in list(some_weights(len(book.order())))[::4]:
                for room in (0, 1, book.size() - 1):
                    told = loads(book, room, weights)
                    for other in changed_lists(book, told):
                        self.assertIs(loads_hold(book, room, weights, other), False, (told, other))

    def test_a_load_put_otherwise(self):
        for book in books():
            for weights in list(some_weights(len(book.order())))[::4]:
                for room in (0, 1, book.size() // 2, book.size() - 1):
                    told = loads(book, room, weights)
                    for at, (number, load) in enumerate(told):
                        near = 0 if load is None else load
                        for wrong in {near, near + 1, near - 1, None, 10 ** 60 - 1, 1 - 10 ** 60} - {load}:
                            other = told[:at] + [(number, wrong)] + told[at + 1:]
                            self.assertIs(loads_hold(book, room, weights, other), False)

    def test_no_and_yes_put_otherwise(self):
        for book in books():
            for weights in list(some_weights(len(book.order())))[::4]:
                for room in range(book.size()):
                    told = loads(book, room, weights)
                    for no, yes in ((None, 1), (None, -1), (0, 0), (10 ** 59, 0), (None, None), (0, None)):
                        other = built(book, room, weights, no, yes)
                        if other != told:
                            self.assertIs(makes_none(self, book, loads_hold, book, room, weights, other), False)

    def test_the_loads_of_another_room_or_of_other_weights(self):
        book = drawn_book(4, list("abc"))
        weights = [(1, 2), (3, 5), (-7, 11)]
        for room, other in itertools.product(range(book.size()), repeat=2):
            self.assertIs(loads_hold(book, room, weights, loads(book, other, weights)), room == other)
            lighter = [(low - 1, high - 1) for low, high in weights]
            self.assertIs(loads_hold(book, room, lighter, loads(book, room, weights)), room in (0, 1))

    def test_what_is_told_is_the_askers_own(self):
        book = Book(["a", "b"])
        loads(book, 1, [(0, 0)] * 2).clear()
        self.assertEqual(loads(book, 1, [(0, 0)] * 2), [(1, 0)])


class Chance(unittest.TestCase):

    def test_each_room(self):
        source = random.Random(3)
        for book in books():
            many = len(book.order())
            drawn = [(source.randint(0, bottom), bottom) for bottom in (source.randint(1, 1000) for _ in range(many))]
            twelfths = [(source.randint(0, 12), 12) for _ in range(many)]
            plain = [source.choice([(0, 1), (1, 1), (0, 1000), (1000, 1000), (1, 2)]) for _ in range(many)]
            for shares in (drawn, twelfths, plain, [(1, 2)] * many, [(500, 1000)] * many, [(999, 1000)] * many):
                for room in range(book.size()) if many < 6 else (0, 1, book.size() - 1):
                    before = list(shares)
                    told = makes_none(self, book, chance, book, room, shares)
                    self.assertEqual(told, plain_chance(book, room, shares))
                    self.assertEqual([type(one) for one in told], [int, int])
                    self.assertEqual(shares, before)

    def test_none_and_all(self):
        book = Book(["a", "b"])
        for shares in ([(1, 2)] * 2, [(0, 1)] * 2, [(1000, 1000)] * 2, [(2, 6), (999, 1000)]):
            self.assertEqual(chance(book, 0, shares), (0, 1))
            self.assertEqual(chance(book, 1, shares), (1, 1))

    def test_plain_ones(self):
        book = Book(["b", "a"])
        room = book.enter(("and", A, ("not", B)))
        self.assertEqual(chance(book, room, [(1, 2), (1, 2)]), (1, 4))
        self.assertEqual(chance(book, room, [(2, 6), (3, 4)]), (1, 2))
        self.assertEqual(chance(book, room, [(0, 7), (4, 6)]), (2, 3))
        self.assertEqual(chance(book, room, [(7, 7), (4, 6)]), (0, 1))
        self.assertEqual(chance(book, room, [(0, 7), (6, 6)]), (1, 1))

    def test_of_any_greatness(self):
        book = Book(list(MARKS))
        some = ("yes",)
        for mark in MARKS:
            some = ("and", ("mark", mark), some)
        room = book.enter(some)
        self.assertEqual(chance(book, room, [(999, 1000)] * 8), (999 ** 8, 1000 ** 8))
        self.assertEqual(chance(book, room, [(500, 1000)] * 8), (1, 256))


class Refusals(unittest.TestCase):

    def setUp(self):
        self.book = drawn_book(7, ["a", "b"])
        self.rooms = (0, 1, self.book.size() - 1)

    def test_no_weights(self):
        for weights in NO_WEIGHTS_OF_TWO:
            for room in self.rooms:
                with self.subTest(weights):
                    refused_by(self, NoWeights, self.book, lightest, self.book, room, weights)
                    refused_by(self, NoWeights, self.book, loads, self.book, room, weights)
                    for told in ([], [(0, None)], [(1, 0)], loads(self.book, room, [(0, 0)] * 2), [(-1, 0)]):
                        refused_by(self, NoWeights, self.book, loads_hold, self.book, room, weights, told)

    def test_no_shares(self):
        for shares in NO_SHARES_OF_TWO:
            for room in self.rooms:
                with self.subTest(shares):
                    refused_by(self, NoShares, self.book, chance, self.book, room, shares)

    def test_no_room(self):
        for number in no_rooms(self.book):
            for weights in NO_WEIGHTS_OF_TWO + [[(0, 0), (MOST, -MOST)]]:
                refused_by(self, NoRoom, self.book, lightest, self.book, number, weights)
                refused_by(self, NoRoom, self.book, loads, self.book, number, weights)
                refused_by(self, NoRoom, self.book, loads_hold, self.book, number, weights, [(number, 0)])
            for shares in NO_SHARES_OF_TWO + [[(1, 2), (0, 1000)]]:
                refused_by(self, NoRoom, self.book, chance, self.book, number, shares)

    def test_the_bounds_are_taken(self):
        for room in self.rooms:
            lightest(self.book, room, [(MOST, -MOST), (-MOST, MOST)])
            chance(self.book, room, [(0, 1), (1000, 1000)])


if __name__ == "__main__":
    unittest.main()
