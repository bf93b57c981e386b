"""Cubes, the primes of a room, covers of it, and rooms that are like it where another room cares."""

from decidebook.errors import NoCover
from decidebook.orders import size_of
from decidebook.sentences import is_row
from decidebook.tables import (all_rows, chosen, first_row, hangs_on, held_at, rows_having, rows_with, value_at,
                               without)

SIGNS = ("-", "0", "1")


def is_cube(book, cube):
    return len(cube) == len(book.order()) and all([sign in SIGNS for sign in cube])


def must_be_cube(book, cube):
    if not is_cube(book, cube):
        raise NoCover("a cube has a sign, 0, 1 or -, for each mark of the order")


def must_be_cubes(book, cubes):
    for cube in cubes:
        must_be_cube(book, cube)


def rows_of(cube):
    places = [place for place, sign in enumerate(cube) if sign != "-"]
    return rows_having(places, [int(cube[place]) for place in places], len(cube))


def cube_room(book, cube):
    must_be_cube(book, cube)
    return book.room_with(rows_of(cube))


def is_within(book, room, cube):
    book.must_be_room(room)
    must_be_cube(book, cube)
    return without(rows_of(cube), book.table_at(room)) == 0


def is_prime(book, room, cube):
    return is_within(book, room, cube) and not any([is_within(book, room, wider) for wider in widened(cube)])


def widened(cube):
    return [cube[:place] + "-" + cube[place + 1:] for place, sign in enumerate(cube) if sign != "-"]


def primes(book, room):
    book.must_be_room(room)
    return primes_from(book.table_at(room), 0, len(book.order()))


# The primes without the signs of the places ahead, on which the table doesn't hang.
def primes_from(table, place, marks):
    if table == 0:
        return []
    if table == all_rows(marks):
        return ["-" * (marks - place)]
    low = held_at(table, place, 0, marks)
    high = held_at(table, place, 1, marks)
    either = primes_from(low & high, place + 1, marks)
    # A prime of one side that is within the other one too is a prime of both, and there it has a - here.
    noughts = [cube for cube in primes_from(low, place + 1, marks) if cube not in either]
    ones = [cube for cube in primes_from(high, place + 1, marks) if cube not in either]
    return ["-" + cube for cube in either] + ["0" + cube for cube in noughts] + ["1" + cube for cube in ones]


def cover(book, room):
    kept = {}
    for cube in primes(book, room):
        kept[cube] = rows_of(cube)
    for cube in list(kept):
        if kept[cube] & rows_of_one(list(kept.values())) == 0:
            kept.pop(cube)
    own = rows_of_one(list(kept.values()))
    return (list(kept), [first_row(table & own, len(book.order())) for table in kept.values()])


# The rows that just one of the tables has.
def rows_of_one(tables):
    seen = 0
    again = 0
    for table in tables:
        again = again | (seen & table)
        seen = seen | table
    return without(seen, again)


def is_cover(book, room, cubes):
    book.must_be_room(room)
    must_be_cubes(book, cubes)
    covered = 0
    for cube in cubes:
        covered = covered | rows_of(cube)
    return covered == book.table_at(room)


def cover_shows(book, room, cubes, rows):
    if not is_cover(book, room, cubes) or len(rows) != len(cubes):
        return False
    if not all([is_prime(book, room, cube) for cube in cubes]):
        return False
    own = rows_of_one([rows_of(cube) for cube in cubes])
    order = book.order()
    return all([is_row(order, row) and value_at(rows_of(cube) & own, row) == 1 for cube, row in zip(cubes, rows)])


def cared(book, room, care):
    book.must_be_room(room)
    book.must_be_room(care)
    made = book.room_with(trimmed(book.table_at(room), book.table_at(care), 0, len(book.order())))
    # What was one room under two marks can be trimmed in two ways, and so the trimmed room can be the greater one.
    if size_of(book, made) > size_of(book, room):
        return room
    return made


# Where one side of a mark has no row that is cared for, the other side stands for both, and the mark isn't asked.
def trimmed(table, care, place, marks):
    if table & care == 0:
        return 0
    if table & care == care:
        return all_rows(marks)
    cares = [held_at(care, place, value, marks) for value in (0, 1)]
    if not hangs_on(table, place, marks):
        return trimmed(table, cares[0] | cares[1], place + 1, marks)
    sides = [held_at(table, place, value, marks) for value in (0, 1)]
    for value in (0, 1):
        if cares[1 - value] == 0:
            return trimmed(sides[value], cares[value], place + 1, marks)
    made = [trimmed(sides[value], cares[value], place + 1, marks) for value in (0, 1)]
    return chosen(rows_with(place, marks), made[0], made[1])
