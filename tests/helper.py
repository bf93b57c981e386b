"""What several tests need: sentences, books and refusals, and a plain reading of the document."""

import itertools
import random

from decidebook.book import Book
from decidebook.errors import BookError

MARKS = "abcdefgh"
A = ("mark", "a")
B = ("mark", "b")
C = ("mark", "c")
PAIRING = ("and", "or", "either", "if")
NO_ORDERS = [[], ["i"], ["A"], [""], ["ab"], ["a", "a"], ["a", "b", "a"], ["a", ""], ["a", "i"], [" a"], ["a\n"],
             ["abcdefgh"], list(MARKS) + ["a"], list(MARKS) + ["i"], ["a"] * 700, ["yes"], ["1"], ["-"], ["`"]]
WORDS = ["".join(figures) for figures in itertools.product("01", repeat=4)]
NO_WORDS = ["", "0", "000", "00000", "0002", "2000", "000-", "00 1", " 0001", "0001 ", "0001\n", "00o1", "abcd", "and",
            "0b01", "1" * 2000, "-001", "+001", "01,1"]
NO_ROWS_OF_TWO = [[], [0], [1], [0, 0, 0], [0, 2], [-1, 0], [1, 10 ** 60 - 1], [1 - 10 ** 60, 1], [0] * 700]


def refused(test, kind, call, *given):
    """The call is refused with this very class, and BookError and ValueError take it too."""
    for taken in (kind, BookError, ValueError):
        with test.assertRaises(taken) as caught:
            call(*given)
        test.assertIs(type(caught.exception), kind, given)


def of_tuples(many):
    """A sentence of so many tuples, no deeper than it must be."""
    if many == 1:
        return A
    if many == 2:
        return ("not", B)
    left = (many - 1) // 2
    return ("or", of_tuples(left), of_tuples(many - 1 - left))


def nested(deep, word="not", inner=A):
    """A sentence that is so deep; some and each stand with c."""
    head = (word, "c") if word in ("some", "each") else (word,)
    for _ in range(deep - 1):
        inner = head + (inner,)
    return inner


def great_and_deep(tuples, deep):
    """A sentence of so many tuples that is so deep: a chain, with the tuples that are left beside its end."""
    chain = deep - 10
    return nested(chain + 1, "not", ("and", nested(9), of_tuples(tuples - chain - 1 - 9)))


def plain_text(some):
    """Point 5, word by word; it asks nothing of bounds."""
    word = some[0]
    if word in ("yes", "no"):
        return word
    if word == "mark":
        return some[1]
    if word in ("some", "each"):
        return word + " " + some[1] + "(" + plain_text(some[2]) + ")"
    return word + "(" + ", ".join(plain_text(part) for part in some[1:]) + ")"


def plain_worth(some, values):
    """Point 4, word by word; the row is a dict from marks to values."""
    word = some[0]
    if word in ("yes", "no"):
        return 1 if word == "yes" else 0
    if word == "mark":
        return values[some[1]]
    if word in ("some", "each"):
        other = dict(values)
        other[some[1]] = 1 - values[some[1]]
        both = plain_worth(some[2], values) + plain_worth(some[2], other)
        return int(both >= 1) if word == "some" else int(both == 2)
    parts = [plain_worth(part, values) for part in some[1:]]
    if word == "not":
        return 1 - parts[0]
    if word == "and":
        return int(parts == [1, 1])
    if word == "or":
        return int(1 in parts)
    if word == "either":
        return int(sorted(parts) == [0, 1])
    return int(parts[0] == 0 or parts[1] == 1)


def rows(many):
    return [list(row) for row in itertools.product((0, 1), repeat=many)]


def shallow(marks):
    """All sentences of these marks that are at most 2 deep."""
    least = [("yes",), ("no",)] + [("mark", mark) for mark in marks]
    found = list(least)
    found += [("not", part) for part in least]
    found += [(word, one, other) for word in PAIRING for one in least for other in least]
    found += [(word, mark, part) for word in ("some", "each") for mark in marks for part in least]
    return found


def drawn(number, marks, deep):
    """A sentence of these marks, at most so deep; the same one for the same number."""
    return draw(random.Random(number), marks, deep)


def draw(source, marks, deep):
    word = source.choice(("mark", "not", "some", "each") + PAIRING + PAIRING)
    if deep == 1:
        word = source.choice(("yes", "no", "mark", "mark", "mark"))
    if word in ("yes", "no"):
        return (word,)
    if word == "mark":
        return (word, source.choice(marks))
    if word in ("some", "each"):
        return (word, source.choice(marks), draw(source, marks, deep - 1))
    many = 1 if word == "not" else 2
    return (word,) + tuple(draw(source, marks, deep - 1) for _ in range(many))


def no_sentences():
    """Tuples of texts and tuples that are no sentences, for every reason that point 3 has."""
    return [
        (), ((),), ("",), ("yes", "no"), ("yes", ()), ("yes", ("yes",)), ("no", "a"), ("Yes",), ("yes ",), ("a",),
        ("mark",), ("mark", "i"), ("mark", "A"), ("mark", ""), ("mark", "ab"), ("mark", "a", "b"), ("mark", A),
        ("mark", ("a",)), ("mark", "a", A), (A,), (A, A), (("yes",),), (("not",), A), ("marks", "a"),
        ("not",), ("not", "a"), ("not", "yes"), ("not", ()), ("not", A, B), ("not", ("not",)), ("not", "a", A),
        ("and",), ("and", A), ("and", A, B, C), ("and", "a", B), ("and", A, "b"), ("or", A), ("or", A, ()),
        ("either", A), ("either", A, B, A), ("if", A), ("if", A, B, C), ("if", A, ("mark", "z")), ("nor", A, B),
        ("xor", A, B), ("some",), ("some", "a"), ("some", A), ("some", "i", A), ("some", "", A), ("some", "ab", A),
        ("some", A, A), ("some", A, "a"), ("some", "a", "a"), ("some", "a", A, B), ("some", "a", "b", A),
        ("each",), ("each", "a"), ("each", "h", ()), ("each", "I", A), ("each", "a", A, A), ("each", ("a",), A),
        ("AND", A, B), ("not", ("and", A, ("or", B, ("mark", "x")))), of_tuples(201), of_tuples(202), of_tuples(400),
        nested(25), nested(26), nested(60), nested(25, "some"), nested(25, "each"), great_and_deep(201, 24),
        great_and_deep(200, 25), great_and_deep(201, 25),
    ]


def orders():
    """Orders of one to eight marks, by the alphabet and not."""
    for many in range(1, 9):
        yield list(MARKS[:many])
        yield list("ecagbhdf"[:many])


def drawn_book(number, order, many=12, deep=5):
    """A book with some sentences entered; the same one for the same numbers."""
    book = Book(order)
    for turn in range(many):
        book.enter(drawn(100 * number + turn, order, deep))
    return book


def no_rooms(book):
    """Numbers that are no rooms of the book."""
    return [-1, -2, -book.size(), book.size(), book.size() + 1, 10 ** 60 - 1, 1 - 10 ** 60]


def plain_lead(book, number, row):
    """Point 7, word by word."""
    while number not in (0, 1):
        told = book.room(number)
        number = told[1 + row[book.order().index(told[0])]]
    return number


def meaning(book, number):
    return [plain_lead(book, number, row) for row in rows(len(book.order()))]


def yes_rows(book, number):
    return [row for row in rows(len(book.order())) if plain_lead(book, number, row) == 1]


def plain_below(book, number):
    """Point 9, word by word."""
    if number in (0, 1):
        return {number}
    told = book.room(number)
    return {number} | plain_below(book, told[1]) | plain_below(book, told[2])


def all_rooms(book):
    return [book.room(number) for number in range(book.size())]


def well_made(test, book):
    """Point 6, and the last words of point 7: all that is asked of a book's rooms."""
    order, made = book.order(), all_rooms(book)
    test.assertEqual(made[:2], [None, None])
    for number, told in enumerate(made[2:], 2):
        test.assertIs(type(told), tuple)
        mark, low, high = told
        test.assertIn(mark, order)
        test.assertNotEqual(low, high)
        for going in (low, high):
            test.assertTrue(0 <= going < number, told)
            test.assertTrue(going < 2 or order.index(made[going][0]) > order.index(mark), told)
    test.assertEqual(len(set(made[2:])), len(made) - 2)
    meanings = {tuple(meaning(book, number)) for number in range(book.size())}
    test.assertEqual(len(meanings), book.size())


def makes_none(test, book, call, *given):
    """Tells what the call tells, and sees that the book has the same rooms behind it."""
    before = all_rooms(book)
    told = call(*given)
    test.assertEqual(all_rooms(book), before)
    return told


def again(test, book, call, *given):
    """Tells what the call tells, and sees that it turns no elder room, and that done again it tells and makes alike."""
    before = all_rooms(book)
    told = call(*given)
    test.assertEqual(all_rooms(book)[:len(before)], before)
    test.assertEqual(makes_none(test, book, call, *given), told)
    return told


def refused_by(test, kind, book, call, *given):
    """The call is refused with this class and makes no room."""
    makes_none(test, book, refused, test, kind, call, *given)


def place_of(book, number):
    """The place of the room's mark in the order; no and yes stand behind all marks."""
    told = book.room(number)
    return len(book.order()) if told is None else book.order().index(told[0])


def rows_from_its_mark(book, number):
    """The values of the room's own mark and those behind it at which it is yes, rising."""
    place = place_of(book, number)
    return [row[place:] for row in yes_rows(book, number) if not any(row[:place])]


def changed_lists(book, told):
    """Lists that are this one with a room left out, told twice, put in or exchanged, or two entries changed about."""
    strangers = [number for number in range(book.size()) if number not in dict(told)]
    yield []
    for at, entry in enumerate(told):
        yield told[:at] + told[at + 1:]
        yield told[:at] + [entry] + told[at:]
        yield told + [entry]
        for number in strangers[:2] + no_rooms(book):
            yield told[:at] + [(number, entry[1])] + told[at + 1:]
    for number in strangers + no_rooms(book):
        yield told + [(number, 0)]
        yield sorted(told + [(number, 1)], key=lambda entry: entry[0])
    for one, other in itertools.combinations(range(len(told)), 2):
        swapped = list(told)
        swapped[one], swapped[other] = told[other], told[one]
        yield swapped
        if told[one][1] != told[other][1]:
            swapped[one], swapped[other] = (told[one][0], told[other][1]), (told[other][0], told[one][1])
            yield swapped


def having(marks, values):
    """A sentence that is 1 where the marks have these values."""
    some = ("yes",)
    for mark, value in zip(marks, values):
        some = ("and", some, ("mark", mark) if value else ("not", ("mark", mark)))
    return some


def every_meaning(order):
    """A sentence for each meaning of three marks at most; the bits of its number tell at which rows it is 1."""
    least = [having(order, row) for row in rows(len(order))]
    for number in range(2 ** len(least)):
        some = ("no",)
        for turn, one in enumerate(least):
            if number >> turn & 1:
                some = ("or", some, one)
        yield some


def full_book(order):
    """A book with a room for each meaning that its marks can have, three at most."""
    book = Book(order)
    for some in every_meaning(order):
        book.enter(some)
    return book


def by_name(book, number):
    """What the room is worth at the rows of its book's marks, these by the alphabet."""
    order = book.order()
    told = []
    for row in rows(len(order)):
        values = dict(zip(sorted(order), row))
        told.append(plain_lead(book, number, [values[mark] for mark in order]))
    return told


def lists_in(told):
    """All lists in what is told, itself among them."""
    found = [told] if isinstance(told, list) else []
    for part in told if isinstance(told, (list, tuple)) else ():
        found += lists_in(part)
    return found
