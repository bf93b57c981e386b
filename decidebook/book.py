"""Books: an order, and one room for each meaning that was asked for."""

from decidebook.errors import NoRoom
from decidebook.sentences import must_be_order, must_be_row, must_be_sentence, must_have_marks, table_of
from decidebook.tables import all_rows, first_place, held_at


class Book:

    # A meaning is a table, so that rooms found by their tables are never two of one meaning.
    # No and yes stand behind all marks and go to themselves: a walk over the marks needs no other end.
    def __init__(self, order):
        must_be_order(order)
        marks = len(order)
        self.marks = list(order)
        self.rooms = [(marks, 0, 0), (marks, 1, 1)]
        self.tables = [0, all_rows(marks)]
        self.numbers = {0: 0, all_rows(marks): 1}

    def order(self):
        return list(self.marks)

    def size(self):
        return len(self.rooms)

    def enter(self, sentence):
        must_be_sentence(sentence)
        must_have_marks(self.marks, sentence)
        return self.room_with(table_of(sentence, self.marks))

    def room(self, number):
        self.must_be_room(number)
        if number in (0, 1):
            return None
        return (self.marks[self.place_of(number)], self.going(number, 0), self.going(number, 1))

    def worth_at(self, number, row):
        self.must_be_room(number)
        must_be_row(self.marks, row)
        for place, value in enumerate(row):
            number = self.led(number, place, value)
        return number

    def below(self, number):
        self.must_be_room(number)
        found = {}
        waiting = [number]
        while len(waiting) > 0:
            here = waiting.pop()
            if here not in found:
                found[here] = True
                waiting.extend([self.going(here, 0), self.going(here, 1)])
        return sorted(found)

    # What follows is for the other modules of the package; but for the first one they are handed rooms alone.
    def must_be_room(self, number):
        if number < 0 or number >= len(self.rooms):
            raise NoRoom(f"there is no room {number}")

    def place_of(self, number):
        return self.rooms[number][0]

    def going(self, number, value):
        return self.rooms[number][1 + value]

    def led(self, number, place, value):
        if self.place_of(number) == place:
            return self.going(number, value)
        return number

    def table_at(self, number):
        return self.tables[number]

    # The one place where rooms are made: the goings first, so that they are there ahead of the room.
    def room_with(self, table):
        if table not in self.numbers:
            marks = len(self.marks)
            place = first_place(table, marks)
            low = self.room_with(held_at(table, place, 0, marks))
            high = self.room_with(held_at(table, place, 1, marks))
            self.numbers[table] = len(self.rooms)
            self.rooms.append((place, low, high))
            self.tables.append(table)
        return self.numbers[table]
