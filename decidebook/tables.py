"""Tables: whole numbers with a bit for each row of an order, 1 for the rows that the table has.

The bit of a row is the one whose own number has the row's values as its bits, the first mark's lowest.
"""


def all_rows(marks):
    return (1 << (1 << marks)) - 1


def rows_with(place, marks):
    # The values of the marks up to this one fill a block; each further mark has all of it twice.
    half = 1 << place
    table = ((1 << half) - 1) << half
    for further in range(place + 1, marks):
        table = table | (table << (1 << further))
    return table


def flipped(table, place, marks):
    ones = table & rows_with(place, marks)
    noughts = table ^ ones
    return (ones >> (1 << place)) | (noughts << (1 << place))


def value_at(table, row):
    bit = 0
    for place, value in enumerate(row):
        bit = bit | (value << place)
    return (table >> bit) & 1


def held_at(table, place, value, marks):
    ones = table & rows_with(place, marks)
    kept = ones if value == 1 else table ^ ones
    return kept | flipped(kept, place, marks)


def hangs_on(table, place, marks):
    return flipped(table, place, marks) != table


def first_place(table, marks):
    # A table that has no row, or all of them, hangs on no mark: its place is behind them all.
    place = 0
    while place < marks and not hangs_on(table, place, marks):
        place += 1
    return place


def without(table, other):
    return table ^ (table & other)


def rows_having(places, values, marks):
    table = all_rows(marks)
    for place, value in zip(places, values):
        ones = rows_with(place, marks)
        table = table & ones if value == 1 else without(table, ones)
    return table


# The rows of a table that has any are compared at the first one of these places first.
def first_values(table, places, marks):
    values = []
    for place in places:
        low = held_at(table, place, 0, marks)
        value = 0 if low != 0 else 1
        table = held_at(table, place, value, marks)
        values.append(value)
    return values


def first_row(table, marks):
    return first_values(table, list(range(marks)), marks)


def chosen(where, low, high):
    return (high & where) | without(low, where)


def joined_by(word, one, other, every):
    table = 0
    if word[0] == "1":
        table = table | (every ^ (one | other))
    if word[1] == "1":
        table = table | (other & (every ^ one))
    if word[2] == "1":
        table = table | (one & (every ^ other))
    if word[3] == "1":
        table = table | (one & other)
    return table
