"""At how many rows a room is yes, which ones they are, and the counts of the rooms below it."""

from decidebook.errors import NoNumber


# All rows of eight marks are no more than 256, so they are told one by one, in the order of lists.
def yes_rows(book, room):
    book.must_be_room(room)
    level = [([], room)]
    for place in range(len(book.order())):
        longer = []
        for row, here in level:
            longer.append((row + [0], book.led(here, place, 0)))
            longer.append((row + [1], book.led(here, place, 1)))
        level = [entry for entry in longer if entry[1] != 0]
    return [entry[0] for entry in level]


def how_many(book, room):
    return len(yes_rows(book, room))


def by_yeses(book, room):
    found = [sum(row) for row in yes_rows(book, room)]
    return [found.count(many) for many in range(len(book.order()) + 1)]


def row_at(book, room, number):
    found = yes_rows(book, room)
    if number < 0 or number >= len(found):
        raise NoNumber(f"the room is yes at no row with the number {number}")
    return found[number]


def row_number(book, room, row):
    if book.worth_at(room, row) == 0:
        raise NoNumber("the room isn't yes at this row")
    return yes_rows(book, room).index(row)


def counts(book, room):
    known = {}
    # The goings of a room have lesser numbers, so theirs are known when they are asked for.
    for number in book.below(room):
        known[number] = count_by(book, number, known)
    return list(known.items())


def counts_hold(book, room, told):
    if not is_of_rooms_below(book, room, told):
        return False
    known = dict(told)
    return all([count == count_by(book, number, known) for number, count in told])


def is_of_rooms_below(book, room, told):
    return [entry[0] for entry in told] == book.below(room)


def count_by(book, number, known):
    if number in (0, 1):
        return number
    return doubled(book, number, book.going(number, 0), known) + doubled(book, number, book.going(number, 1), known)


def doubled(book, number, going, known):
    between = book.place_of(going) - book.place_of(number) - 1
    return known[going] << between
