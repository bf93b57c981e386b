"""The names and arguments of the document's interface, module by module."""

import importlib
import inspect
import unittest

INTERFACE = {
    "sentences": ["is_order(order)", "is_sentence(some)", "words(sentence)", "marks_of(sentence)",
                  "worth(sentence, order, row)"],
    "notes": ["shown(sentence)", "read(text)"],
    "joining": ["joined(book, word, one, other)", "turned(book, one)", "held(book, one, mark, value)",
                "for_some(book, mark, one)", "for_each(book, mark, one)", "put(book, one, mark, other)"],
    "counting": ["how_many(book, room)", "by_yeses(book, room)", "row_at(book, room, number)",
                 "row_number(book, room, row)", "counts(book, room)", "counts_hold(book, room, told)"],
    "weighing": ["lightest(book, room, weights)", "loads(book, room, weights)",
                 "loads_hold(book, room, weights, told)", "chance(book, room, shares)"],
    "papers": ["apart(book, one, two, other)", "alike(book, one, two, other)", "are_alike_by(book, two, pairs)",
               "making(book, word, one, other)", "is_made(book, word, rows)"],
    "orders": ["exchanged(book, at)", "reordered(book, order)", "size_of(book, room)", "all_sizes(book, room)",
               "best(book, room)"],
    "covers": ["is_cube(book, cube)", "cube_room(book, cube)", "is_within(book, room, cube)",
               "is_prime(book, room, cube)", "primes(book, room)", "cover(book, room)", "is_cover(book, room, cubes)",
               "cover_shows(book, room, cubes, rows)", "cared(book, room, care)"],
    "worlds": ["image(book, steps, room)", "preimage(book, steps, room)", "reached(book, steps, start)",
               "stays(book, steps, room)", "rounds(book, steps, start)", "rounds_show(book, steps, start, told)",
               "way_to(book, steps, start, goal)", "way_shows(book, steps, start, goal, rows)"],
}
METHODS = ["order()", "size()", "enter(sentence)", "room(number)", "worth_at(number, row)", "below(number)"]


class Interface(unittest.TestCase):

    def test_functions(self):
        for module, due in INTERFACE.items():
            for told in due:
                with self.subTest(module + "." + told):
                    name = told.partition("(")[0]
                    there = getattr(importlib.import_module("decidebook." + module), name)
                    self.assertEqual(name + str(inspect.signature(there)), told)

    def test_the_class(self):
        book = importlib.import_module("decidebook.book").Book
        self.assertEqual(str(inspect.signature(book)), "(order)")
        for told in METHODS:
            name = told.partition("(")[0]
            self.assertEqual(name + str(inspect.signature(getattr(book(["a"]), name))), told)


if __name__ == "__main__":
    unittest.main()
