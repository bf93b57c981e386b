import itertools
import random
import unittest

from decidebook.book import Book
from decidebook.covers import cared, cover, cover_shows, cube_room, is_cover, is_cube, is_prime, is_within, primes
from decidebook.errors import NoCover, NoRoom
from decidebook.joining import joined
from helper import (A, B, C, MARKS, NO_ROWS_OF_TWO, again, drawn_book, full_book, lists_in, makes_none, no_rooms,
                    orders, plain_below, plain_lead, refused_by, rows, well_made, yes_rows)

NO_CUBES_OF_TWO = ["", "0", "-", "000", "---", "0 ", " 0", "0\n", "02", "ab", "a0", "0x", "*1", "--\n", "0" * 2000,
                   "~~", "+1", "1,", "0_"]


def all_cubes(many):
    return ["".join(signs) for signs in itertools.product("-01", repeat=many)]


def rows_of(cube):
    return [list(row) for row in itertools.product(*[(0, 1) if sign == "-" else (int(sign),) for sign in cube])]


def wider(cube):
    return [cube[:at] + "-" + cube[at + 1:] for at, sign in enumerate(cube) if sign != "-"]


class Plain:
    """Points 30 and 31 of one room, row by row."""

    def __init__(self, book, room):
        self.many = len(book.order())
        self.yes = {tuple(row) for row in yes_rows(book, room)}

    def within(self, cube):
        return all(tuple(row) in self.yes for row in rows_of(cube))

    def prime(self, cube):
        return self.within(cube) and not any(self.within(other) for other in wider(cube))

    def primes(self):
        inside = {cube for cube in all_cubes(self.many) if self.within(cube)}
        return [cube for cube in all_cubes(self.many) if cube in inside and not inside & set(wider(cube))]

    def covered(self, cubes):
        return {tuple(row) for cube in cubes for row in rows_of(cube)} == self.yes

    def shown(self, cubes, told):
        if not self.covered(cubes) or not all(self.prime(cube) for cube in cubes) or len(told) != len(cubes):
            return False
        for at, row in enumerate(told):
            if [turn for turn, cube in enumerate(cubes) if row in rows_of(cube)] != [at]:
                return False
        return True


def some_books():
    """Books with rooms to be asked for: all meanings of few marks, and drawn ones of up to six."""
    for order in ("a", "ba", "cab"):
        yield full_book(list(order))
    for turn, order in enumerate(orders()):
        if 3 < len(order) < 7:
            yield drawn_book(turn, order, 5)


def some_rooms(book, most=40):
    if book.size() <= most:
        return list(range(book.size()))
    return [0, 1, book.size() - 1] + random.Random(book.size()).sample(range(2, book.size() - 1), most - 3)


def great_rooms():
    """Rooms of eight marks with few and with many primes."""
    book = drawn_book(3, list("ecagbhdf"), 3)
    for room in (0, 1, book.size() - 1, book.size() - 2):
        yield book, room
    middle = 0
    for cube in ("000111--", "--000111", "111--000", "1-1-1-1-", "0-0-0-0-", "01010101", "11111111"):
        middle = joined(book, "0111", middle, cube_room(book, cube))
    yield book, middle
    yield book, joined(book, "1001", middle, book.size() // 2)


def changed_covers(cubes, told, others):
    """Covers that are this one with a cube left out, told twice, put in, widened or narrowed, or with other rows."""
    for at, cube in enumerate(cubes):
        yield cubes[:at] + cubes[at + 1:], told[:at] + told[at + 1:]
        yield cubes[:at] + cubes[at + 1:], told
        yield cubes, told[:at] + told[at + 1:]
        yield cubes + [cube], told + [told[at]]
        yield cubes + [cube], told
        for other in wider(cube) + [cube.replace("-", "0", 1), cube.replace("-", "1", 1)]:
            yield cubes[:at] + [other] + cubes[at + 1:], told
        for row in rows_of(cube)[:8] + told + [row + [0] for row in told] + [[], [2] * len(cube), told[at][:-1]]:
            yield cubes, told[:at] + [row] + told[at + 1:]
        yield cubes, told[:at] + [[1 - value for value in told[at]]] + told[at + 1:]
    for other in others:
        for row in rows_of(other)[:4]:
            yield cubes + [other], told + [row]
            yield [other] + cubes, [row] + told
    yield cubes, told + [[0] * 3]
    yield cubes, []
    yield [], told
    yield [], []
    yield cubes[::-1], told[::-1]
    yield cubes[::-1], told


class Cubes(unittest.TestCase):

    def test_is_cube(self):
        for order in orders():
            book, many = Book(order), len(order)
            for cube in ("0" * many, "1" * many, "-" * many, ("01-" * 3)[:many], ("-10" * 3)[:many]):
                self.assertIs(makes_none(self, book, is_cube, book, cube), True)
                for other in (cube + "0", cube[1:], cube + "-", cube + " ", "2" + cube[1:], cube[:-1] + "a",
                              cube[:-1] + "\n", cube[:-1] + "\t", cube + "\n"):
                    self.assertIs(makes_none(self, book, is_cube, book, other), False, other)
        for cube in NO_CUBES_OF_TWO:
            self.assertIs(is_cube(Book(["a", "b"]), cube), False, cube)
        self.assertEqual([cube for cube in map("".join, itertools.product("-01a2 ", repeat=2))
                          if is_cube(Book(["a", "b"]), cube)], all_cubes(2))

    def test_cube_room(self):
        for order in orders():
            if len(order) < 6:
                book = Book(order)
                for cube in all_cubes(len(order)):
                    room = again(self, book, cube_room, book, cube)
                    self.assertEqual(yes_rows(book, room), rows_of(cube))
                well_made(self, book)

    def test_cube_rooms_of_eight_marks(self):
        book = Book(list("hbdfaceg"))
        for cube in ("--------", "00000000", "11111111", "01-01-01", "-------1", "0-------", "1-1-0-0-"):
            self.assertEqual(yes_rows(book, again(self, book, cube_room, book, cube)), rows_of(cube))
        self.assertEqual(book.room(cube_room(book, "-------1")), ("g", 0, 1))
        self.assertEqual(cube_room(book, "--------"), 1)

    def test_signs_stand_for_the_marks_of_the_order(self):
        book = Book(["b", "a"])
        self.assertEqual(cube_room(book, "1-"), book.enter(B))
        self.assertEqual(cube_room(book, "-0"), book.enter(("not", A)))
        self.assertIs(is_within(book, book.enter(B), "1-"), True)
        self.assertIs(is_within(book, book.enter(B), "-1"), False)

    def test_within_and_prime(self):
        for book in some_books():
            cubes = all_cubes(len(book.order()))
            for room in some_rooms(book, 20):
                plain = Plain(book, room)
                for cube in cubes if len(cubes) < 100 else random.Random(room).sample(cubes, 80):
                    self.assertIs(is_within(book, room, cube), plain.within(cube), (room, cube))
                    self.assertIs(is_prime(book, room, cube), plain.prime(cube), (room, cube))

    def test_a_cube_that_is_within_and_no_prime(self):
        book = Book(list("ab"))
        room = book.enter(("or", A, B))
        told = {cube: is_prime(book, room, cube) for cube in all_cubes(2) if is_within(book, room, cube)}
        self.assertEqual(told, {"1-": True, "-1": True, "10": False, "01": False, "11": False})

    def test_elder_rooms_stay(self):
        book = drawn_book(4, list("cabd"))
        for room in some_rooms(book):
            for cube in ("----", "0-1-", "1111"):
                again(self, book, is_within, book, room, cube)
                again(self, book, is_prime, book, room, cube)

    def test_no_cover(self):
        book = drawn_book(5, list("ab"))
        for cube in NO_CUBES_OF_TWO:
            refused_by(self, NoCover, book, cube_room, book, cube)
            for room in (0, 1, book.size() - 1):
                refused_by(self, NoCover, book, is_within, book, room, cube)
                refused_by(self, NoCover, book, is_prime, book, room, cube)

    def test_no_room_goes_ahead(self):
        book = drawn_book(5, list("ab"))
        for number in no_rooms(book):
            for cube in ["--", "01"] + NO_CUBES_OF_TWO:
                refused_by(self, NoRoom, book, is_within, book, number, cube)
                refused_by(self, NoRoom, book, is_prime, book, number, cube)


class Primes(unittest.TestCase):

    def test_primes_against_all_cubes(self):
        for book in some_books():
            for room in some_rooms(book, 40 if len(book.order()) < 5 else 5):
                self.assertEqual(again(self, book, primes, book, room), Plain(book, room).primes())

    def test_all_meanings_of_three_marks(self):
        book = full_book(list("bca"))
        for room in range(book.size()):
            self.assertEqual(primes(book, room), Plain(book, room).primes())

    def test_eight_marks(self):
        for book, room in great_rooms():
            self.assertEqual(primes(book, room), Plain(book, room).primes())

    def test_plain_ones(self):
        book = Book(list("abc"))
        self.assertEqual((primes(book, 0), primes(book, 1)), ([], ["---"]))
        self.assertEqual(primes(book, book.enter(B)), ["-1-"])
        self.assertEqual(primes(book, book.enter(("either", A, C))), ["0-1", "1-0"])
        both = book.enter(("or", ("and", A, B), ("and", ("not", A), C)))
        self.assertEqual(primes(book, both), ["-11", "0-1", "11-"])
        self.assertEqual(primes(Book(["d"]), 1), ["-"])

    def test_hundreds_of_primes(self):
        book = Book(list(MARKS))
        some = [cube for cube in all_cubes(8) if cube.count("1") == 3 and cube.count("0") == 3]
        room = 0
        for cube in some:
            room = joined(book, "0111", room, cube_room(book, cube))
        self.assertEqual(primes(book, room), some)
        cubes, told = cover(book, room)
        self.assertTrue(Plain(book, room).shown(cubes, told))
        self.assertIs(cover_shows(book, room, cubes, told), True)
        self.assertIs(is_cover(book, room, some), True)
        self.assertIs(is_cover(book, room, some[1:] + some[:140]), True)
        self.assertIs(cover_shows(book, room, some, [row for cube in some for row in rows_of(cube)[:1]]), False)

    def test_no_room(self):
        book = drawn_book(6, list("abc"))
        for number in no_rooms(book):
            refused_by(self, NoRoom, book, primes, book, number)
            refused_by(self, NoRoom, book, cover, book, number)


class Covers(unittest.TestCase):

    def right(self, book, room):
        told = again(self, book, cover, book, room)
        self.assertEqual((type(told), len(told)), (tuple, 2))
        cubes, own = told
        plain = Plain(book, room)
        self.assertEqual(cubes, sorted(set(cubes)))
        self.assertTrue(plain.shown(cubes, own), (cubes, own))
        for at in range(len(cubes)):
            self.assertFalse(plain.covered(cubes[:at] + cubes[at + 1:]))
        self.assertIs(again(self, book, is_cover, book, room, cubes), True)
        self.assertIs(again(self, book, cover_shows, book, room, cubes, own), True)
        return told

    def test_covers_of_drawn_rooms(self):
        for book in some_books():
            for room in some_rooms(book, 12):
                self.right(book, room)
            well_made(self, book)

    def test_all_meanings_of_three_marks(self):
        book = full_book(list("acb"))
        for room in range(book.size()):
            self.right(book, room)

    def test_eight_marks(self):
        for book, room in great_rooms():
            self.right(book, room)

    def test_no_and_yes(self):
        for order in orders():
            book = Book(order)
            self.assertEqual(self.right(book, 0), ([], []))
            cubes, own = self.right(book, 1)
            self.assertEqual((cubes, len(own)), (["-" * len(order)], 1))
            self.assertEqual(book.size(), 2)

    def test_a_room_with_a_prime_to_be_left_out(self):
        book = Book(list("abc"))
        room = book.enter(("or", ("and", A, B), ("and", ("not", A), C)))
        cubes, own = self.right(book, room)
        self.assertEqual(cubes, ["0-1", "11-"])
        self.assertEqual(own, [[0, 0, 1], [1, 1, 0]])

    def test_is_cover(self):
        for book in some_books():
            if len(book.order()) > 3:
                continue
            cubes = all_cubes(len(book.order()))
            for room in some_rooms(book, 12):
                plain = Plain(book, room)
                for number in range(30):
                    source = random.Random(number)
                    some = [cube for cube in cubes if plain.within(cube) and source.random() < 0.7]
                    some = some + source.choices(cubes, k=number % 3)
                    self.assertIs(again(self, book, is_cover, book, room, some), plain.covered(some), (room, some))

    def test_cubes_that_cover_need_not_be_primes_nor_stand_once(self):
        book = Book(list("ab"))
        room = book.enter(("or", A, B))
        for cubes, due in ((["1-", "-1"], True), (["-1", "1-"], True), (["10", "-1"], True), (["01", "10", "11"], True),
                           (["1-", "-1", "1-"], True), (["1-"], False), (["1-", "-1", "00"], False), (["--"], False),
                           ([], False), (["1-", "-1"] * 350, True), (["1-"] * 700, False)):
            self.assertIs(is_cover(book, room, cubes), due, cubes)
        self.assertEqual([is_cover(book, 0, cubes) for cubes in ([], ["11"])], [True, False])
        self.assertEqual([is_cover(book, 1, cubes) for cubes in ([], ["--"], ["0-", "1-"])], [False, True, True])

    def test_changed_covers(self):
        for book in some_books():
            many = len(book.order())
            for room in some_rooms(book, 8):
                plain = Plain(book, room)
                cubes, own = cover(book, room)
                others = [cube for cube in primes(book, room) if cube not in cubes][:3] + ["0" * many, "-" * many]
                for some, told in changed_covers(cubes, own, others):
                    before = (list(some), [list(row) for row in told])
                    due = plain.shown(some, told)
                    self.assertIs(cover_shows(book, room, some, told), due, (room, some, told))
                    self.assertEqual((some, told), before)

    def test_what_a_cover_does_not_show(self):
        book = Book(list("ab"))
        room = book.enter(("or", A, B))
        for cubes, told, due in (
                (["-1", "1-"], [[0, 1], [1, 0]], True),
                (["1-", "-1"], [[1, 0], [0, 1]], True),
                (["-1", "1-"], [[1, 0], [0, 1]], False),
                (["-1", "1-"], [[1, 1], [1, 0]], False),
                (["-1", "1-"], [[0, 1], [1, 1]], False),
                (["-1", "1-"], [[0, 1]], False),
                (["-1", "1-"], [[0, 1], [1, 0], [1, 1]], False),
                (["-1", "1-"], [], False),
                (["-1", "1-", "1-"], [[0, 1], [1, 0], [1, 0]], False),
                (["01", "1-"], [[0, 1], [1, 0]], False),
                (["-1"], [[0, 1]], False),
                (["-1", "1-", "00"], [[0, 1], [1, 0], [0, 0]], False),
                ([], [], False)):
            self.assertIs(cover_shows(book, room, cubes, told), due, (cubes, told))
        for row in NO_ROWS_OF_TWO:
            self.assertIs(cover_shows(book, room, ["-1", "1-"], [[0, 1], row]), False, row)
            self.assertIs(cover_shows(book, room, ["-1", "1-"], [row, [1, 0]]), False, row)
            self.assertIs(cover_shows(book, 0, [], [row]), False, row)
            self.assertIs(cover_shows(book, 1, ["--"], [row]), False, row)
        self.assertIs(cover_shows(book, 0, [], []), True)
        for row in rows(2):
            self.assertIs(cover_shows(book, 1, ["--"], [row]), True)

    def test_values_that_lie_somewhat_beyond(self):
        book = Book(list("ab"))
        self.assertIs(cover_shows(book, 1, ["--"], [[10 ** 60 - 1, 0]]), False)
        self.assertIs(cover_shows(book, 1, ["--"], [[0, 1 - 10 ** 60]]), False)
        self.assertIs(cover_shows(book, 1, ["--"] * 700, [[0, 0]] * 700), False)

    def test_what_is_told_is_the_askers_own(self):
        book = drawn_book(7, list("abcd"))
        room = book.size() - 1
        before = cover(book, room), primes(book, room)
        found = lists_in(cover(book, room))
        self.assertEqual(len({id(one) for one in found}), len(found))
        for one in found + lists_in(primes(book, room)):
            one.clear()
        self.assertEqual((cover(book, room), primes(book, room)), before)

    def test_the_same_cover_when_the_book_has_grown(self):
        book = Book(list("abc"))
        room = book.enter(("either", A, ("or", B, C)))
        before = cover(book, room)
        for some in (("and", A, C), ("if", B, C), ("either", A, C)):
            book.enter(some)
        self.assertEqual(cover(book, room), before)

    def test_no_cover(self):
        book = drawn_book(8, list("ab"))
        for cube in NO_CUBES_OF_TWO:
            for cubes in ([cube], ["--", cube], [cube, "--"], ["00", cube, "00"], ["--"] * 600 + [cube]):
                for room in (0, 1, book.size() - 1):
                    refused_by(self, NoCover, book, is_cover, book, room, cubes)
                    for told in ([], [[0, 0]], [[7]] * len(cubes)):
                        refused_by(self, NoCover, book, cover_shows, book, room, cubes, told)

    def test_no_room_goes_ahead(self):
        book = drawn_book(8, list("ab"))
        for number in no_rooms(book):
            for cubes in ([], ["--"], [""], ["--", "ab"]):
                refused_by(self, NoRoom, book, is_cover, book, number, cubes)
                refused_by(self, NoRoom, book, cover_shows, book, number, cubes, [])
                refused_by(self, NoRoom, book, cover_shows, book, number, cubes, [[2]])


class Cared(unittest.TestCase):

    def right(self, book, room, care):
        told = again(self, book, cared, book, room, care)
        self.assertIs(type(told), int)
        for row in rows(len(book.order())):
            if plain_lead(book, care, row) == 1:
                self.assertEqual(plain_lead(book, told, row), plain_lead(book, room, row))
        self.assertLessEqual(len(plain_below(book, told)), len(plain_below(book, room)))
        return told

    def test_all_meanings_of_two_marks(self):
        book = full_book(list("ba"))
        for room, care in itertools.product(range(book.size()), repeat=2):
            self.right(book, room, care)

    def test_meanings_of_three_marks(self):
        book = full_book(list("cab"))
        for number in range(1500):
            source = random.Random(number)
            self.right(book, source.randrange(256), source.randrange(256))

    def test_drawn_rooms(self):
        for turn, order in enumerate(orders()):
            book = drawn_book(turn, order, 6)
            source = random.Random(turn)
            for _ in range(25 if len(order) < 6 else 8):
                self.right(book, source.randrange(book.size()), source.randrange(book.size()))
            well_made(self, book)

    def test_care_of_all_and_of_none(self):
        book = drawn_book(9, list("abcd"))
        for room in range(book.size()):
            self.assertEqual(self.right(book, room, 1), room)
            self.right(book, room, 0)
            self.right(book, 0, room)
            self.right(book, 1, room)
            self.right(book, room, room)

    def test_a_room_gets_less(self):
        book = Book(list("abc"))
        room, care = book.enter(("either", A, ("either", B, C))), book.enter(A)
        self.assertEqual(self.right(book, room, care), book.enter(("not", ("either", B, C))))
        self.assertEqual(self.right(book, book.enter(("and", A, B)), care), book.enter(B))
        self.assertEqual(self.right(book, care, care), 1)
        self.assertEqual(self.right(book, care, book.enter(("not", A))), 0)

    def test_a_room_that_could_get_more(self):
        book = Book(list("abcd"))
        told = [0, 0]
        for at, cubes in enumerate((["--00", "00--"], ["0-11", "0100", "10-0", "1101"])):
            for cube in cubes:
                told[at] = joined(book, "0111", told[at], cube_room(book, cube))
        self.right(book, told[0], told[1])

    def test_no_room(self):
        book = drawn_book(9, list("abc"))
        for number in no_rooms(book):
            for room, care in ((number, 1), (0, number), (number, number), (book.size() - 1, number)):
                refused_by(self, NoRoom, book, cared, book, room, care)


if __name__ == "__main__":
    unittest.main()
