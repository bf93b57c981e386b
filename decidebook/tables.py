"""Tables: whole numbers with a bit for each row of an order, 1 for the rows that the table has.

The bit of a row is the one whose own number has the row's values as its bits, the first mark's lowest.
"""


def all_rows(marks):
    return (1 << (1 << marks)) - 1


def rows_with(place, marks):
    # The values of the marks up to this one fill a block; each further mark has all of it twice.
    half = 1 << place
    table = ((1 << half) - 1) << half
    for further in range(place + 1, marks):
        table = table | (table << (1 << further))
    return table


def flipped(table, place, marks):
    ones = table & rows_with(place, marks)
    noughts = table ^ ones
    return (ones >> (1 << place)) | (noughts << (1 << place))


def value_at(table, row):
    bit = 0
    for place, value in enumerate(row):
        bit = bit | (value << place)
    return (table >> bit) & 1
