"""Rooms made of rooms."""

from decidebook.errors import NoNumber, NoWord
from decidebook.sentences import must_have_mark
from decidebook.tables import chosen, flipped, held_at, joined_by


def must_be_word(word):
    if len(word) != 4 or not all([figure in ("0", "1") for figure in word]):
        raise NoWord("a word of joining has four figures, each 0 or 1")


def must_be_value(value):
    if value not in (0, 1):
        raise NoNumber("a mark's value is 0 or 1")


def joined(book, word, one, other):
    book.must_be_room(one)
    book.must_be_room(other)
    must_be_word(word)
    return book.room_with(joined_by(word, book.table_at(one), book.table_at(other), book.table_at(1)))


def turned(book, one):
    book.must_be_room(one)
    return book.room_with(book.table_at(1) ^ book.table_at(one))


def held(book, one, mark, value):
    must_have_mark(book.order(), mark)
    book.must_be_room(one)
    must_be_value(value)
    return book.room_with(held_table(book, one, mark, value))


def for_some(book, mark, one):
    must_have_mark(book.order(), mark)
    book.must_be_room(one)
    return book.room_with(book.table_at(one) | flipped_table(book, one, mark))


def for_each(book, mark, one):
    must_have_mark(book.order(), mark)
    book.must_be_room(one)
    return book.room_with(book.table_at(one) & flipped_table(book, one, mark))


def put(book, one, mark, other):
    must_have_mark(book.order(), mark)
    book.must_be_room(one)
    book.must_be_room(other)
    low = held_table(book, one, mark, 0)
    high = held_table(book, one, mark, 1)
    return book.room_with(chosen(book.table_at(other), low, high))


def held_table(book, one, mark, value):
    order = book.order()
    return held_at(book.table_at(one), order.index(mark), value, len(order))


def flipped_table(book, one, mark):
    order = book.order()
    return flipped(book.table_at(one), order.index(mark), len(order))
