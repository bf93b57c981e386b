"""Where two rooms part, and papers by which anybody sees that rooms are alike, or what a word of joining makes."""

from decidebook.errors import NoOrder
from decidebook.joining import joined, must_be_word
from decidebook.tables import first_row


def must_have_one_order(book, two):
    if book.order() != two.order():
        raise NoOrder("the two books have two orders")


def apart(book, one, two, other):
    must_have_one_order(book, two)
    book.must_be_room(one)
    two.must_be_room(other)
    parting = book.table_at(one) ^ two.table_at(other)
    if parting == 0:
        return None
    return first_row(parting, len(book.order()))


def alike(book, one, two, other):
    if apart(book, one, two, other) is not None:
        return None
    return list(reversed(pairs_from(book, one, two, other)))


# Each pair stands behind those of its goings, so the two rooms themselves stand last.
def pairs_from(book, one, two, other):
    found = {}
    add_pairs(book, one, two, other, found)
    return list(found)


def add_pairs(book, one, two, other, found):
    if (one, other) in found:
        return
    place = min(book.place_of(one), two.place_of(other))
    if place < len(book.order()):
        for value in (0, 1):
            add_pairs(book, book.led(one, place, value), two, two.led(other, place, value), found)
    found[(one, other)] = True


def are_alike_by(book, two, pairs):
    must_have_one_order(book, two)
    known = {}
    for one, other in pairs:
        book.must_be_room(one)
        two.must_be_room(other)
        known[(one, other)] = True
    return all([is_alike_by(book, one, two, other, known) for one, other in pairs])


def is_alike_by(book, one, two, other, known):
    if book.place_of(one) != two.place_of(other):
        return False
    # No and yes stand at one place and go to themselves: by their goings no would show itself to be yes.
    if one in (0, 1):
        return one == other
    return all([(book.going(one, value), two.going(other, value)) in known for value in (0, 1)])


def making(book, word, one, other):
    book.must_be_room(one)
    book.must_be_room(other)
    must_be_word(word)
    # What is made of the goings lies below the joined room, so that no room is made but that one and those under it.
    return [pair + (joined(book, word, pair[0], pair[1]),) for pair in pairs_from(book, one, book, other)]


def is_made(book, word, rows):
    for row in rows:
        for number in row:
            book.must_be_room(number)
    must_be_word(word)
    known = {}
    for one, other, made in rows:
        if not is_made_by(book, word, one, other, made, known):
            return False
        known[(one, other)] = made
    return True


def is_made_by(book, word, one, other, made, known):
    place = min(book.place_of(one), book.place_of(other))
    if place == len(book.order()):
        return made == int(word[2 * one + other])
    lows = (book.led(one, place, 0), book.led(other, place, 0))
    highs = (book.led(one, place, 1), book.led(other, place, 1))
    if lows not in known or highs not in known:
        return False
    if known[lows] == known[highs]:
        return made == known[lows]
    return book.room(made) == (book.order()[place], known[lows], known[highs])
