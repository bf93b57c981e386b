"""A book's rooms in books of other orders, and how great rooms are there."""

from decidebook.book import Book
from decidebook.errors import NoNumber, NoOrder, TooGreat
from decidebook.tables import chosen, rows_with

MOST_MARKS = 5


def exchanged(book, at):
    order = book.order()
    if at < 0 or at + 1 >= len(order):
        raise NoNumber(f"no two marks stand at the place {at}")
    return reordered(book, order[:at] + [order[at + 1], order[at]] + order[at + 2:])


def reordered(book, order):
    if sorted(order) != sorted(book.order()):
        raise NoOrder("this is no order of the book's own marks")
    new = Book(order)
    return (new, rooms_in(new, book, list(range(book.size()))))


# The rooms handed in rise and have the goings of each among them, so what these are in the new book is known.
def rooms_in(new, book, rooms):
    known = {}
    for number in rooms:
        known[number] = room_in(new, book, number, known)
    return list(known.values())


def room_in(new, book, number, known):
    told = book.room(number)
    if told is None:
        return number
    order = new.order()
    where = rows_with(order.index(told[0]), len(order))
    return new.room_with(chosen(where, new.table_at(known[told[1]]), new.table_at(known[told[2]])))


def size_of(book, room):
    return len(book.below(room))


def all_sizes(book, room):
    book.must_be_room(room)
    if len(book.order()) > MOST_MARKS:
        raise TooGreat(f"the book has more than {MOST_MARKS} marks")
    return [(order, size_in(book, room, order)) for order in all_orders(sorted(book.order()))]


def size_in(book, room, order):
    new = Book(order)
    # Below a room it has the greatest number itself.
    return size_of(new, rooms_in(new, book, book.below(room))[-1])


def all_orders(marks):
    if len(marks) == 0:
        return [[]]
    found = []
    for mark in marks:
        others = [other for other in marks if other != mark]
        found.extend([[mark] + order for order in all_orders(others)])
    return found


def best(book, room):
    # Of several with the least size, min tells the first one.
    return min(all_sizes(book, room), key=lambda entry: entry[1])
