"""The lightest row at which a room is yes, the loads of the rooms below it, and its chance to be yes."""

from decidebook.counting import is_of_rooms_below, yes_rows
from decidebook.errors import NoShares, NoWeights

MOST_WEIGHT = 1000000
MOST_BOTTOM = 1000


def must_be_weights(book, weights):
    if len(weights) != len(book.order()) or not all([is_weighing(entry) for entry in weights]):
        raise NoWeights("weights have a tuple of two numbers from -1000000 to 1000000 for each mark of the order")


def is_weighing(entry):
    return len(entry) == 2 and all([abs(weight) <= MOST_WEIGHT for weight in entry])


def must_be_shares(book, shares):
    if len(shares) != len(book.order()) or not all([is_share(entry) for entry in shares]):
        raise NoShares("shares have a tuple of a top and a bottom from 1 to 1000 for each mark of the order")


def is_share(entry):
    return len(entry) == 2 and 0 <= entry[0] <= entry[1] and 1 <= entry[1] <= MOST_BOTTOM


def lightest(book, room, weights):
    book.must_be_room(room)
    must_be_weights(book, weights)
    # Of rows that weigh the same, the first one is the least one, as lists are ordered.
    return min([(weight_of(row, weights), row) for row in yes_rows(book, room)], default=None)


def weight_of(row, weights):
    return sum([entry[value] for value, entry in zip(row, weights)])


def loads(book, room, weights):
    book.must_be_room(room)
    must_be_weights(book, weights)
    known = {}
    # The goings of a room have lesser numbers, so theirs are known when they are asked for.
    for number in book.below(room):
        known[number] = load_by(book, number, weights, known)
    return list(known.items())


def loads_hold(book, room, weights, told):
    book.must_be_room(room)
    must_be_weights(book, weights)
    if not is_of_rooms_below(book, room, told):
        return False
    known = dict(told)
    return all([load == load_by(book, number, weights, known) for number, load in told])


def load_by(book, number, weights, known):
    if number == 0:
        return None
    if number == 1:
        return 0
    ways = [value for value in (0, 1) if known[book.going(number, value)] is not None]
    # What is told wrongly can leave neither of the two goings a load.
    return min([load_through(book, number, value, weights, known) for value in ways], default=None)


def load_through(book, number, value, weights, known):
    place = book.place_of(number)
    going = book.going(number, value)
    between = weights[place + 1:book.place_of(going)]
    return weights[place][value] + sum([min(entry) for entry in between]) + known[going]


def chance(book, room, shares):
    book.must_be_room(room)
    must_be_shares(book, shares)
    top = sum([part_of(row, shares) for row in yes_rows(book, room)])
    bottom = product([entry[1] for entry in shares])
    common = common_measure(top, bottom)
    return (top // common, bottom // common)


def part_of(row, shares):
    return product([entry[0] if value == 1 else entry[1] - entry[0] for value, entry in zip(row, shares)])


def product(numbers):
    made = 1
    for number in numbers:
        made = made * number
    return made


def common_measure(one, other):
    while other != 0:
        rest = one % other
        one = other
        other = rest
    return one
