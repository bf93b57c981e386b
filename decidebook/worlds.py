"""Worlds of marks: rows of now, the steps between them, and where steps lead."""

from decidebook.errors import NoOrder, NoRoom
from decidebook.sentences import must_be_row
from decidebook.tables import chosen, first_values, flipped, hangs_on, held_at, rows_having, rows_with, without

# Each mark of now with its mark of then.
PAIRS = (("a", "e"), ("b", "f"), ("c", "g"), ("d", "h"))


def now_marks(book):
    return [now for now, then in PAIRS if now in book.order()]


def then_marks(book):
    return [then for now, then in PAIRS if then in book.order()]


def now_places(book):
    return [book.order().index(mark) for mark in now_marks(book)]


def then_places(book):
    return [book.order().index(mark) for mark in then_marks(book)]


def must_be_world(book):
    order = book.order()
    for now, then in PAIRS:
        if (now in order) != (then in order):
            raise NoOrder(f"of {now} and {then} the order has just one")


def must_be_of_now(book, room):
    book.must_be_room(room)
    for place in then_places(book):
        if hangs_on(book.table_at(room), place, len(book.order())):
            raise NoRoom(f"the room {room} asks for a mark of then")


def must_be_world_with(book, steps, rooms):
    must_be_world(book)
    book.must_be_room(steps)
    for room in rooms:
        must_be_of_now(book, room)


def image(book, steps, room):
    must_be_world_with(book, steps, [room])
    return book.room_with(after(book, steps, book.table_at(room)))


def preimage(book, steps, room):
    must_be_world_with(book, steps, [room])
    return book.room_with(before(book, steps, book.table_at(room)))


# Here tables stand for rooms of now, so that no room is made on the way.
def after(book, steps, table):
    marks = len(book.order())
    led = for_any(table & book.table_at(steps), now_places(book), marks)
    return moved(led, then_places(book), now_places(book), marks)


def before(book, steps, table):
    marks = len(book.order())
    goal = moved(table, now_places(book), then_places(book), marks)
    return for_any(goal & book.table_at(steps), then_places(book), marks)


def for_any(table, places, marks):
    for place in places:
        table = table | flipped(table, place, marks)
    return table


# The table may not hang on the places to which the values go.
def moved(table, places, others, marks):
    for place, other in zip(places, others):
        low = held_at(table, place, 0, marks)
        high = held_at(table, place, 1, marks)
        table = chosen(rows_with(other, marks), low, high)
    return table


def rounds(book, steps, start):
    must_be_world_with(book, steps, [start])
    return [book.room_with(table) for table in round_tables(book, steps, start)]


def round_tables(book, steps, start):
    found = []
    table = book.table_at(start)
    told = 0
    while table != 0:
        found.append(table)
        told = told | table
        table = without(after(book, steps, table), told)
    return found


def rounds_show(book, steps, start, told):
    must_be_world_with(book, steps, [start] + told)
    return [book.table_at(room) for room in told] == round_tables(book, steps, start)


def reached(book, steps, start):
    must_be_world_with(book, steps, [start])
    # The rounds have no row in common, so that their sum has the rows of all of them.
    return book.room_with(sum(round_tables(book, steps, start)))


def stays(book, steps, room):
    must_be_world_with(book, steps, [room])
    table = book.table_at(room)
    staying = table & before(book, steps, table)
    while staying != table:
        table = staying
        staying = table & before(book, steps, table)
    return book.room_with(table)


def way_to(book, steps, start, goal):
    must_be_world_with(book, steps, [start, goal])
    ahead = []
    for table in round_tables(book, steps, start):
        met = table & book.table_at(goal)
        if met != 0:
            return way_through(book, steps, ahead, met)
        ahead.append(table)
    return None


# From the goal back, since every row of a round has a step to it from the round ahead.
def way_through(book, steps, ahead, met):
    rows = [first_of_now(book, met)]
    for table in reversed(ahead):
        rows.append(first_of_now(book, table & before(book, steps, only(book, rows[-1]))))
    return list(reversed(rows))


def first_of_now(book, table):
    return first_values(table, now_places(book), len(book.order()))


def only(book, row):
    return rows_having(now_places(book), row, len(book.order()))


def way_shows(book, steps, start, goal, rows):
    must_be_world_with(book, steps, [start, goal])
    for row in rows:
        must_be_row(now_marks(book), row)
    if len(rows) == 0:
        return False
    tables = [only(book, row) for row in rows]
    if tables[0] & book.table_at(start) == 0 or tables[-1] & book.table_at(goal) == 0:
        return False
    return all([after(book, steps, tables[at]) & tables[at + 1] != 0 for at in range(len(tables) - 1)])
