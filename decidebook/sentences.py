"""Marks, orders, rows and sentences, and what a sentence is worth in a row."""

from decidebook.errors import NoMark, NoOrder, NoRow, NoSentence
from decidebook.tables import all_rows, flipped, rows_with, value_at

MARKS = ("a", "b", "c", "d", "e", "f", "g", "h")
MOST_TUPLES = 200
MOST_DEEP = 24

# For each word, how many letters stand behind it, and how many sentences behind these.
SHAPES = {
    "yes": (0, 0),
    "no": (0, 0),
    "mark": (1, 0),
    "not": (0, 1),
    "and": (0, 2),
    "or": (0, 2),
    "either": (0, 2),
    "if": (0, 2),
    "some": (1, 1),
    "each": (1, 1),
}


def is_mark(letter):
    return letter in MARKS


def is_order(order):
    return len(order) > 0 and all([is_mark(letter) for letter in order]) and len(set(order)) == len(order)


def is_row(order, row):
    return len(row) == len(order) and all([value in (0, 1) for value in row])


def letters_of(sentence):
    return sentence[1:1 + SHAPES[sentence[0]][0]]


def parts_of(sentence):
    return sentence[1 + SHAPES[sentence[0]][0]:]


def parts_of_all(level):
    found = []
    for sentence in level:
        found.extend(parts_of(sentence))
    return found


def is_shaped(some):
    # A tuple in the place of the word is never looked up: to look it up is to walk all of it.
    if len(some) == 0 or not isinstance(some[0], str) or some[0] not in SHAPES:
        return False
    shape = SHAPES[some[0]]
    if len(some) != 1 + shape[0] + shape[1]:
        return False
    if not all([is_mark(letter) for letter in letters_of(some)]):
        return False
    return all([isinstance(part, tuple) for part in parts_of(some)])


def is_sentence(some):
    # Level by level, so that what is far too deep or too great is left as soon as it is seen to be.
    level = [some]
    deep = 0
    tuples = 0
    while len(level) > 0:
        deep += 1
        tuples += len(level)
        if deep > MOST_DEEP or tuples > MOST_TUPLES:
            return False
        if not all([is_shaped(part) for part in level]):
            return False
        level = parts_of_all(level)
    return True


def must_be_order(order):
    if not is_order(order):
        raise NoOrder("an order is a list of marks from a to h, at least one, each once")


def must_be_sentence(some):
    if not is_sentence(some):
        raise NoSentence("this tuple is no sentence")


def must_have_mark(order, letter):
    if letter not in order:
        raise NoMark(f"{letter!r} is no mark of the order")


def must_have_marks(order, sentence):
    for letter in letters_in(sentence):
        must_have_mark(order, letter)


def must_be_row(order, row):
    if not is_row(order, row):
        raise NoRow("a row has a value, 0 or 1, for each of its marks")


def tuples_in(sentence):
    found = []
    level = [sentence]
    while len(level) > 0:
        found.extend(level)
        level = parts_of_all(level)
    return found


def words(sentence):
    must_be_sentence(sentence)
    return len(tuples_in(sentence))


def letters_in(sentence):
    found = []
    for part in tuples_in(sentence):
        found.extend(letters_of(part))
    return found


def marks_of(sentence):
    must_be_sentence(sentence)
    return sorted(set(letters_in(sentence)))


# By tables, since some and each within one another would double the rows to be asked with each of them.
def table_of(sentence, order):
    word = sentence[0]
    marks = len(order)
    if word == "no":
        return 0
    if word == "yes":
        return all_rows(marks)
    if word == "mark":
        return rows_with(order.index(sentence[1]), marks)
    tables = [table_of(part, order) for part in parts_of(sentence)]
    if word == "not":
        return all_rows(marks) ^ tables[0]
    if word == "some":
        return tables[0] | flipped(tables[0], order.index(sentence[1]), marks)
    if word == "each":
        return tables[0] & flipped(tables[0], order.index(sentence[1]), marks)
    return table_of_two(word, tables[0], tables[1], all_rows(marks))


def table_of_two(word, one, other, every):
    if word == "and":
        return one & other
    if word == "or":
        return one | other
    if word == "either":
        return one ^ other
    return (every ^ one) | other


def worth(sentence, order, row):
    must_be_order(order)
    must_be_sentence(sentence)
    must_have_marks(order, sentence)
    must_be_row(order, row)
    return value_at(table_of(sentence, order), row)
