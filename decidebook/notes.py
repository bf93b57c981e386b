"""Sentences as texts, written and read."""

from decidebook.errors import NoNote
from decidebook.sentences import MOST_DEEP, SHAPES, is_mark, is_sentence, letters_of, must_be_sentence, parts_of


def shown(sentence):
    must_be_sentence(sentence)
    return written(sentence)


def written(sentence):
    if sentence[0] == "mark":
        return sentence[1]
    head = " ".join((sentence[0],) + letters_of(sentence))
    parts = [written(part) for part in parts_of(sentence)]
    if len(parts) == 0:
        return head
    inner = ", ".join(parts)
    return f"{head}({inner})"


def read(text):
    told = read_sentence(text, 0, MOST_DEEP)
    if told[1] != len(text):
        raise NoNote("something stands behind the sentence")
    # A text can be written well and still have too many tuples.
    if not is_sentence(told[0]):
        raise NoNote("what is written is no sentence")
    return told[0]


# Each of these three readers tells what it read and the place behind it.
def read_sentence(text, at, deep):
    if deep == 0:
        raise NoNote("what is written is too deep")
    behind = behind_word(text, at)
    word = text[at:behind]
    if is_mark(word):
        return (("mark", word), behind)
    # A mark is written by its letter alone, never by its word.
    if word == "mark" or word not in SHAPES:
        raise NoNote(f"no word of sentences stands at place {at}")
    letters = read_letters(text, behind, SHAPES[word][0])
    parts = read_parts(text, letters[1], SHAPES[word][1], deep - 1)
    return ((word,) + letters[0] + parts[0], parts[1])


def read_letters(text, at, many):
    letters = ()
    for turn in range(many):
        at = behind_piece(text, at, " ")
        letter = text[at:at + 1]
        if not is_mark(letter):
            raise NoNote(f"no mark stands at place {at}")
        letters = letters + (letter,)
        at += 1
    return (letters, at)


def read_parts(text, at, many, deep):
    parts = ()
    if many == 0:
        return (parts, at)
    at = behind_piece(text, at, "(")
    for turn in range(many):
        if turn > 0:
            at = behind_piece(text, at, ", ")
        told = read_sentence(text, at, deep)
        parts = parts + (told[0],)
        at = told[1]
    return (parts, behind_piece(text, at, ")"))


def behind_word(text, at):
    while at < len(text) and text[at].isalpha():
        at += 1
    return at


def behind_piece(text, at, piece):
    if not text.startswith(piece, at):
        raise NoNote(f"{piece!r} is missing at place {at}")
    return at + len(piece)
