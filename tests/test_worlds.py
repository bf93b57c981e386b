import itertools
import random
import unittest

from decidebook.book import Book
from decidebook.errors import NoOrder, NoRoom, NoRow
from decidebook.joining import joined
from decidebook.worlds import image, preimage, reached, rounds, rounds_show, stays, way_shows, way_to
from helper import (A, B, MARKS, NO_ROWS_OF_TWO, again, drawn, drawn_book, having, lists_in, no_rooms, plain_below,
                    plain_lead, refused_by, rows, well_made)

E = ("mark", "e")
F = ("mark", "f")
THEN = dict(zip("abcd", "efgh"))
WORLDS = ["ae", "ea", "bf", "gc", "hd", "aebf", "fbea", "abef", "efab", "ahed", "cgfb", "aebfcg", "gefcab", "dbhfae",
          "abcdefgh", "hgfedcba", "aebfcgdh", "fbhdaecg"]
NO_WORLDS = ["a", "e", "b", "h", "ab", "ef", "af", "be", "ah", "aeb", "aeg", "eabfh", "abc", "abce", "abcdefg",
             "bcdefgh", "abcdegh", "gcdhf", "bfd", "efgh", "abcd", "afbg"]
ASKING = (image, preimage, reached, stays, rounds)


def now_marks(book):
    return [mark for mark in "abcd" if mark in book.order()]


def now_rows(book, room):
    """The rows of now that a room of now tells."""
    many = len(now_marks(book))
    return [row for row in rows(many) if leads(book, room, row, [0] * many)]


def leads(book, room, row, then):
    now = now_marks(book)
    values = dict(zip(now, row)) | dict(zip([THEN[mark] for mark in now], then))
    return plain_lead(book, room, [values[mark] for mark in book.order()]) == 1


def is_of_now(book, room):
    return not any(book.room(number)[0] in "efgh" for number in plain_below(book, room) if number > 1)


def rooms_of_now(book):
    return [room for room in range(book.size()) if is_of_now(book, room)]


def room_of(book, told):
    """The room of now of these rows of now."""
    room = 0
    for row in told:
        room = joined(book, "0111", room, book.enter(having(now_marks(book), row)))
    return room


class Plain:
    """Points 35 to 38, gone through row by row."""

    def __init__(self, book, steps):
        every = rows(len(now_marks(book)))
        self.steps = [(one, other) for one in every for other in every if leads(book, steps, one, other)]

    def image(self, told):
        return sorted({tuple(other) for one, other in self.steps if one in told})

    def preimage(self, told):
        return sorted({tuple(one) for one, other in self.steps if other in told})

    def rounds(self, told):
        found = []
        new = sorted(told)
        while new:
            found.append(new)
            new = [list(row) for row in self.image(new) if not any(list(row) in one for one in found)]
        return found

    def reached(self, told):
        return sorted(row for one in self.rounds(told) for row in one)

    def stays(self, told):
        left = list(told)
        while True:
            kept = [row for row in left if any((row, other) in self.steps for other in left)]
            if kept == left:
                return kept
            left = kept

    def is_way(self, start, goal, way):
        if not way or way[0] not in start or way[-1] not in goal:
            return False
        return all(pair in self.steps for pair in zip(way, way[1:]))

    def fewest(self, start, goal):
        for turn, found in enumerate(self.rounds(start)):
            if any(row in goal for row in found):
                return turn + 1
        return None


def as_lists(told):
    return [list(row) for row in told]


def worlds(most=12):
    """Books that tell worlds, a room of theirs for the steps, and some rooms of now."""
    for turn, order in enumerate(WORLDS):
        book = drawn_book(turn, list(order), 2, 4)
        now = "".join(now_marks(book))
        for number in range(4):
            book.enter(drawn(1000 * turn + number, now, 4))
        rare = ("and", drawn(turn, order, 4), drawn(turn + 1, order, 4))
        steps = [0, 1, book.enter(drawn(turn + 2, order, 5)), book.enter(rare), book.size() - 1]
        for number in (turn, turn + 50):
            steps.append(some_steps(book, number, 1))
        steps.append(some_steps(book, turn + 90, 2))
        for room in sorted(set(steps)):
            some = rooms_of_now(book)
            source = random.Random(room)
            yield book, room, [0, 1] + source.sample(some[2:], min(most, len(some) - 2)) + one_each(book, source)


def one_each(book, source):
    every = rows(len(now_marks(book)))
    return [room_of(book, [row]) for row in source.sample(every, min(2, len(every)))]


def some_steps(book, number, many):
    """Steps from each row of now to so many drawn ones."""
    source = random.Random(number)
    every = rows(len(now_marks(book)))
    return steps_of(book, [(row, other) for row in every for other in source.choices(every, k=many)])


def steps_of(book, told):
    """The room of just these steps."""
    now = now_marks(book)
    then = [THEN[mark] for mark in now]
    room = 0
    for row, other in told:
        room = joined(book, "0111", room, book.enter(having(now + then, row + other)))
    return room


def changed_ways(told, others):
    """Ways that are this one with a row left out, told twice, put in or put otherwise, and turned about."""
    for at, row in enumerate(told):
        yield told[:at] + told[at + 1:]
        yield told[:at] + [row] + told[at:]
        for other in others:
            yield told[:at] + [other] + told[at:]
            yield told[:at] + [other] + told[at + 1:]
    for other in others:
        yield told + [other]
    yield told[::-1]
    yield []


class Worlds(unittest.TestCase):

    def of_now(self, book, room, due):
        self.assertIs(type(room), int)
        self.assertTrue(is_of_now(book, room))
        self.assertEqual(now_rows(book, room), as_lists(due))

    def test_image_preimage_reached_and_stays(self):
        for book, steps, some in worlds():
            plain = Plain(book, steps)
            for room in some:
                told = now_rows(book, room)
                for call, due in ((image, plain.image), (preimage, plain.preimage), (reached, plain.reached),
                                  (stays, plain.stays)):
                    self.of_now(book, again(self, book, call, book, steps, room), due(told))

    def test_the_books_stay_well_made(self):
        for order in WORLDS:
            book = drawn_book(2, list(order), 3)
            steps = some_steps(book, 5, 1)
            for room in rooms_of_now(book)[:6]:
                for call in ASKING:
                    again(self, book, call, book, steps, room)
            well_made(self, book)

    def test_plain_ones(self):
        book = Book(list("ebaf"))
        steps = book.enter(("and", ("either", A, E), ("not", ("either", B, F))))
        start = book.enter(("and", ("not", A), B))
        there = book.enter(("and", A, B))
        self.assertEqual(image(book, steps, start), there)
        self.assertEqual(preimage(book, steps, start), there)
        self.assertEqual(rounds(book, steps, start), [start, there])
        self.assertEqual(reached(book, steps, start), book.enter(B))
        self.assertEqual((stays(book, steps, start), stays(book, steps, book.enter(B))), (0, book.enter(B)))
        self.assertEqual(way_to(book, steps, start, there), [[0, 1], [1, 1]])
        self.assertIsNone(way_to(book, steps, start, book.enter(("not", B))))

    def test_a_step_to_the_row_itself(self):
        book = Book(list("ae"))
        steps, room = book.enter(("and", A, E)), book.enter(A)
        self.assertEqual((image(book, steps, room), preimage(book, steps, room)), (room, room))
        self.assertEqual((stays(book, steps, room), stays(book, steps, 1)), (room, room))
        self.assertEqual((rounds(book, steps, room), way_to(book, steps, room, room)), ([room], [[1]]))
        self.assertIs(way_shows(book, steps, room, room, [[1], [1], [1]]), True)

    def test_steps_of_no_and_of_yes(self):
        for order in WORLDS:
            book = drawn_book(1, list(order), 3)
            for room in rooms_of_now(book)[1:]:
                self.assertEqual([call(book, 0, room) for call in (image, preimage, stays)], [0, 0, 0])
                self.assertEqual((rounds(book, 0, room), reached(book, 0, room)), ([room], room))
                self.assertEqual([call(book, 1, room) for call in (image, preimage, reached)], [1, 1, 1])
                self.assertEqual(stays(book, 1, room), room)

    def test_nothing_from_no(self):
        for book, steps, some in worlds(2):
            self.assertEqual([call(book, steps, 0) for call in ASKING], [0, 0, 0, 0, []])
            for room in some:
                self.assertIsNone(way_to(book, steps, 0, room))
                self.assertIsNone(way_to(book, steps, room, 0))
                self.assertIs(way_shows(book, steps, 0, room, []), False)
            self.assertIs(rounds_show(book, steps, 0, []), True)
            self.assertIs(rounds_show(book, steps, 0, [0]), False)

    def test_rows_of_now_go_by_the_alphabet(self):
        book = Book(list("dbhf"))
        room = book.enter(("and", B, ("not", ("mark", "d"))))
        self.assertEqual(way_to(book, 0, room, 1), [[1, 0]])
        self.assertIs(way_shows(book, 0, room, 1, [[1, 0]]), True)
        self.assertIs(way_shows(book, 0, room, 1, [[0, 1]]), False)

    def test_each_mark_of_then_goes_with_its_mark_of_now(self):
        for order in ("aebfcgdh", "hcfagbed"):
            book = Book(list(order))
            steps = book.enter(("and", ("mark", "g"), ("and", ("not", E), ("and", F, ("mark", "h")))))
            self.of_now(book, image(book, steps, 1), [[0, 1, 1, 1]])
            for now, then in THEN.items():
                self.assertEqual(image(book, book.enter(("mark", then)), 1), book.enter(("mark", now)))
                self.assertEqual(preimage(book, book.enter(("mark", now)), 1), book.enter(("mark", now)))


class Rounds(unittest.TestCase):

    def shown(self, book, steps, start, told, due):
        before = list(told)
        self.assertIs(rounds_show(book, steps, start, told), due, told)
        self.assertEqual(told, before)

    def test_rounds(self):
        for book, steps, some in worlds():
            plain = Plain(book, steps)
            for start in some:
                told = again(self, book, rounds, book, steps, start)
                self.assertEqual([now_rows(book, room) for room in told], plain.rounds(now_rows(book, start)))
                self.assertTrue(all(is_of_now(book, room) for room in told))
                self.assertEqual(told[:1], [start] if start else [])
                self.assertIs(again(self, book, rounds_show, book, steps, start, told), True)

    def test_many_rounds(self):
        book = Book(list("aebfcgdh"))
        every = rows(4)
        steps = steps_of(book, list(zip(every, every[1:])))
        start, goal = room_of(book, every[:1]), room_of(book, every[-1:])
        self.assertEqual([now_rows(book, room) for room in rounds(book, steps, start)], [[row] for row in every])
        self.assertEqual(way_to(book, steps, start, goal), every)
        self.assertIs(way_shows(book, steps, start, goal, every), True)
        self.assertIsNone(way_to(book, steps, goal, start))
        self.assertEqual((stays(book, steps, 1), reached(book, steps, start)), (0, 1))

    def test_changed_rounds(self):
        for book, steps, some in worlds(3):
            others = rooms_of_now(book)[:5]
            for start in some[1:]:
                told = rounds(book, steps, start)
                for at, room in enumerate(told):
                    self.shown(book, steps, start, told[:at] + told[at + 1:], False)
                    self.shown(book, steps, start, told[:at] + [room] + told[at:], False)
                    for other in others:
                        self.shown(book, steps, start, told[:at] + [other] + told[at:], False)
                        self.shown(book, steps, start, told[:at] + [other] + told[at + 1:], other == room)
                for other in others + told:
                    self.shown(book, steps, start, told + [other], False)
                self.shown(book, steps, start, told[::-1], len(told) < 2)
                self.shown(book, steps, start, [], told == [])
                self.shown(book, steps, start, told * 50 + [0], False)
                for other in others:
                    self.shown(book, steps, other, told, other == start)

    def test_what_is_told_is_the_askers_own(self):
        book = drawn_book(4, list("aebf"))
        before = list(rounds(book, 1, 1))
        rounds(book, 1, 1).clear()
        self.assertEqual(rounds(book, 1, 1), before)


class Ways(unittest.TestCase):

    def test_ways(self):
        for book, steps, some in worlds(3):
            plain = Plain(book, steps)
            for start, goal in itertools.product(some, repeat=2):
                told = again(self, book, way_to, book, steps, start, goal)
                first, last = now_rows(book, start), now_rows(book, goal)
                due = plain.fewest(first, last)
                if due is None:
                    self.assertIsNone(told)
                    continue
                self.assertEqual(len(told), due)
                self.assertTrue(plain.is_way(first, last, told))
                self.assertIs(again(self, book, way_shows, book, steps, start, goal, told), True)

    def test_changed_ways(self):
        for book, steps, some in worlds(2):
            plain = Plain(book, steps)
            source = random.Random(steps)
            every = rows(len(now_marks(book)))
            for start, goal in source.sample(list(itertools.product(some[1:], repeat=2)), 8):
                whole = way_to(book, steps, start, goal) or [every[0], every[-1]]
                first, last = now_rows(book, start), now_rows(book, goal)
                for told in changed_ways(whole, source.sample(every, min(6, len(every)))):
                    before = as_lists(told)
                    due = plain.is_way(first, last, told)
                    self.assertIs(way_shows(book, steps, start, goal, told), due, told)
                    self.assertEqual(told, before)

    def test_a_longer_way_is_a_way_too(self):
        book = Book(list("ae"))
        self.assertEqual(way_to(book, 1, book.enter(A), 1), [[1]])
        for rows_told in ([[1], [0]], [[1], [1]], [[1], [0], [1]], [[1]] * 700):
            self.assertIs(way_shows(book, 1, book.enter(A), 1, rows_told), True)
        self.assertIs(way_shows(book, 1, book.enter(A), 1, [[0], [1]]), False)
        self.assertIs(way_shows(book, 0, book.enter(A), 1, [[1], [0]]), False)

    def test_what_is_told_is_the_askers_own(self):
        book = Book(list("abef"))
        steps = book.enter(("and", ("either", A, E), ("not", ("either", B, F))))
        start, goal = book.enter(("and", A, B)), book.enter(("and", ("not", A), B))
        before = as_lists(way_to(book, steps, start, goal))
        found = lists_in(way_to(book, steps, start, goal))
        self.assertEqual(len({id(one) for one in found}), len(found))
        for one in found:
            one.clear()
        self.assertEqual(way_to(book, steps, start, goal), before)


class Refusals(unittest.TestCase):

    def none(self, kind, book, call, *given):
        with self.subTest(given):
            refused_by(self, kind, book, call, book, *given)

    def all_asked(self, kind, book, steps, room, other=1, told=(), way=()):
        for call in ASKING:
            self.none(kind, book, call, steps, room)
        self.none(kind, book, rounds_show, steps, room, list(told))
        self.none(kind, book, way_to, steps, room, other)
        self.none(kind, book, way_to, steps, other, room)
        self.none(kind, book, way_shows, steps, room, other, list(way))
        self.none(kind, book, way_shows, steps, other, room, list(way))

    def test_no_order(self):
        for order in NO_WORLDS:
            book = drawn_book(1, list(order), 3)
            for steps, room in ((0, 0), (1, 1), (book.size() - 1, 1), (-1, 1), (1, book.size()), (-1, -1),
                                (0, book.size() - 1)):
                self.all_asked(NoOrder, book, steps, room)
                self.all_asked(NoOrder, book, steps, room, -1, [0, -1], [[2], []])

    def test_every_order_that_tells_a_world(self):
        for many in range(1, 9):
            for marks in itertools.combinations(MARKS, many):
                book = Book(list(marks)[::-1])
                if all((now in marks) == (then in marks) for now, then in THEN.items()):
                    self.assertEqual([call(book, 1, 1) for call in ASKING], [1, 1, 1, 1, [1]])
                else:
                    self.all_asked(NoOrder, book, 1, 1)

    def test_no_room(self):
        for order in ("ae", "fbea", "hgfedcba"):
            book = drawn_book(2, list(order), 3)
            for number in no_rooms(book):
                self.all_asked(NoRoom, book, number, 1)
                self.all_asked(NoRoom, book, 1, number)
                self.all_asked(NoRoom, book, 0, number, number)
                self.all_asked(NoRoom, book, number, number, number, [number], [[2], []])
                self.all_asked(NoRoom, book, 1, number, 0, [1], [[2], []])

    def test_rooms_that_are_not_of_now(self):
        for order in ("ae", "fbea", "abef", "hgfedcba"):
            book = drawn_book(3, list(order), 4)
            then = [mark for mark in order if mark in "efgh"]
            now = [mark for mark in order if mark in "abcd"]
            for mark in then:
                book.enter(("mark", mark))
                book.enter(("either", ("mark", mark), ("mark", now[0])))
                book.enter(("and", ("mark", now[-1]), ("mark", mark)))
            for room in range(book.size()):
                if is_of_now(book, room):
                    continue
                self.all_asked(NoRoom, book, 1, room)
                self.all_asked(NoRoom, book, 1, room, room, [0], [[2]])
                self.all_asked(NoRoom, book, room, room)
                for told in ([room], [1, room], [room, 1], [0, 1, room], [room, -1]):
                    self.none(NoRoom, book, rounds_show, 1, 1, told)

    def test_rooms_of_now_and_steps_of_any_kind(self):
        for order in ("fbea", "abef", "gefcab"):
            book = drawn_book(5, list(order), 6)
            for room in rooms_of_now(book):
                for steps in range(book.size()):
                    again(self, book, image, book, steps, room)
                    again(self, book, rounds_show, book, steps, room, [room])

    def test_no_room_among_the_rounds(self):
        book = drawn_book(6, list("aebf"), 3)
        for number in no_rooms(book):
            for told in ([number], [1, number], [number, 1], [0, 0, number], [1] * 600 + [number]):
                self.none(NoRoom, book, rounds_show, 1, 1, told)
                self.none(NoRoom, book, rounds_show, 0, 0, told)

    def test_no_row(self):
        book = drawn_book(7, list("afbe"), 3)
        for row in NO_ROWS_OF_TWO + [[0, 0, 0, 0], [1, 0, 1, 0]]:
            for told in ([row], [[0, 0], row], [row, [0, 0]], [[1, 1], row, [1, 1]], [[0, 1]] * 600 + [row]):
                for steps, start, goal in ((1, 1, 1), (0, 0, 0), (book.size() - 1, 1, 0)):
                    before = as_lists(told)
                    self.none(NoRow, book, way_shows, steps, start, goal, told)
                    self.assertEqual(told, before)

    def test_rows_of_all_marks_are_no_rows_of_now(self):
        for order in WORLDS:
            book = Book(list(order))
            many = len(order) // 2
            self.none(NoRow, book, way_shows, 1, 1, 1, [[0] * len(order)])
            self.none(NoRow, book, way_shows, 1, 1, 1, [[0] * (many - 1)])
            self.none(NoRow, book, way_shows, 1, 1, 1, [[0] * many, [2] + [0] * (many - 1)])
            self.assertIs(way_shows(book, 1, 1, 1, [[0] * many]), True)


if __name__ == "__main__":
    unittest.main()
