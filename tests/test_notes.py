import unittest

from decidebook.errors import NoNote, NoSentence
from decidebook.notes import read, shown
from decidebook.sentences import is_sentence
from helper import A, B, C, MARKS, drawn, great_and_deep, nested, no_sentences, of_tuples, plain_text, refused, shallow

WRITTEN = {
    "yes": ("yes",),
    "no": ("no",),
    "a": A,
    "h": ("mark", "h"),
    "not(b)": ("not", B),
    "and(a, b)": ("and", A, B),
    "or(b, a)": ("or", B, A),
    "either(a, a)": ("either", A, A),
    "if(a, not(b))": ("if", A, ("not", B)),
    "some c(and(a, c))": ("some", "c", ("and", A, C)),
    "each a(yes)": ("each", "a", ("yes",)),
    "not(some a(each b(if(no, either(a, yes)))))":
        ("not", ("some", "a", ("each", "b", ("if", ("no",), ("either", A, ("yes",)))))),
}

NO_NOTES = [
    "", " ", "\n", "\t", "i", "A", "ab", "aa", "1", "-", "Yes", "YES", "ye", "yess", "yes ", " yes", "yes\n", "\nyes",
    "yes()", "no()", "yesno", "yes no", "yes, no", "a, b", "a b", "(a)", "a()", "a(b)", "mark", "mark(a)", "mark a",
    "mark a(b)", "not", "not a", "not()", "not(a", "not(a))", "not(a) ", "not (a)", "not( a)", "not(a )", "not(i)",
    "not(a, b)", "not(a,)", "not(, a)", "NOT(a)", "not((a))", "nota", "not[a]", "not(a]", "not(a)b", "not(a)(b)",
    "and(a,b)", "and(a,  b)", "and(a , b)", "and(a b)", "and(a)", "and(a, b, c)", "and(a, )", "and(, b)", "and()",
    "and (a, b)", "and(a,\tb)", "and(a,\nb)", "and(a; b)", "and(a, b", "anda, b)", "nand(a, b)", "and a(a, b)",
    "some", "some ", "some c", "some c(", "some c()", "some c(a", "some c (a)", "some  c(a)", "somec(a)", "some(a)",
    "some (a)", "some ((a)", "some i(a)", "some C(a)", "some cc(a)", "some c(a, b)", "some c(a))", "some\tc(a)",
    "some c, a", "some yes(a)", "each", "each c", "each(c, a)", "each c(i)", "each c d(a)", "every c(a)",
    "not c(a)", "('yes',)", "('not', ('mark', 'a'))", "if a then b", "# a", "~", "~a",
]

SIGNS = "\t\n" + "".join(chr(sign) for sign in range(32, 127) if chr(sign) != "%")


def by_one_sign(text):
    """All texts that come of this one by leaving a sign out, putting one in, or changing one."""
    for place in range(len(text) + 1):
        for sign in SIGNS:
            yield text[:place] + sign + text[place:]
            yield text[:place] + sign + text[place + 1:]
        yield text[:place] + text[place + 1:]


class Shown(unittest.TestCase):

    def test_texts_of_the_document_and_their_like(self):
        for text, some in WRITTEN.items():
            with self.subTest(text):
                self.assertEqual(shown(some), text)

    def test_all_shallow_sentences(self):
        for some in shallow(MARKS):
            self.assertEqual(shown(some), plain_text(some))

    def test_the_greatest_sentences(self):
        for some in (of_tuples(200), nested(24), nested(24, "some"), great_and_deep(200, 24)):
            self.assertEqual(shown(some), plain_text(some))

    def test_no_sentence(self):
        for some in no_sentences():
            with self.subTest(some):
                refused(self, NoSentence, shown, some)

    def test_what_is_written_differs_for_any_two(self):
        every = shallow(MARKS)
        self.assertEqual(len({shown(some) for some in every}), len(set(every)))


class Read(unittest.TestCase):

    def test_texts_of_the_document_and_their_like(self):
        for text, some in WRITTEN.items():
            with self.subTest(text):
                self.assertEqual(read(text), some)

    def test_what_is_written_is_read_to_the_same(self):
        drawn_ones = [drawn(number, MARKS, 7) for number in range(300)]
        for some in shallow(MARKS) + [some for some in drawn_ones if is_sentence(some)]:
            self.assertEqual(read(shown(some)), some)

    def test_the_greatest_sentences(self):
        for some in (of_tuples(199), of_tuples(200), nested(24), nested(24, "some"), nested(24, "each"),
                     great_and_deep(200, 24)):
            self.assertEqual(read(plain_text(some)), some)

    def test_texts_of_greater_ones_are_refused(self):
        for some in (of_tuples(201), of_tuples(202), nested(25), nested(60), nested(25, "some"), nested(25, "each"),
                     ("and", A, nested(24)), ("and", nested(24), A), great_and_deep(201, 24),
                     great_and_deep(200, 25)):
            refused(self, NoNote, read, plain_text(some))

    def test_other_texts_are_refused(self):
        for text in NO_NOTES:
            with self.subTest(text):
                refused(self, NoNote, read, text)

    def test_long_texts_are_refused(self):
        for text in ("a" * 2000, "(" * 2000, ")" * 2000, " " * 2000, "not(" * 500, "not(" * 400 + "a" + ")" * 400,
                     "and(a, " * 285, "some c(" * 285, "yes" + " " * 1997, "and(" * 500, "yes, " * 400):
            refused(self, NoNote, read, text)

    def test_one_sign_makes_another_sentence_or_none(self):
        read_well = 0
        for text in WRITTEN:
            for other in by_one_sign(text):
                try:
                    some = read(other)
                except NoNote:
                    continue
                read_well += 1
                self.assertTrue(is_sentence(some), other)
                self.assertEqual(plain_text(some), other)
        self.assertGreater(read_well, 0)

    def test_one_letter_for_another_is_read(self):
        for mark in MARKS:
            self.assertEqual(read("some " + mark + "(and(a, c))"), ("some", mark, ("and", A, C)))
            self.assertEqual(read("if(" + mark + ", not(b))"), ("if", ("mark", mark), ("not", B)))

    def test_every_beginning_of_a_text_is_refused(self):
        text = "some d(if(some c(and(a, c)), either(yes, not(no))))"
        self.assertEqual(shown(read(text)), text)
        for end in range(len(text)):
            refused(self, NoNote, read, text[:end])

    def test_the_same_question_is_answered_alike(self):
        text = "or(a, each b(b))"
        first = read(text)
        refused(self, NoNote, read, text + ")")
        self.assertEqual(read(text), first)
        self.assertEqual(shown(first), text)
        self.assertEqual(shown(first), text)


if __name__ == "__main__":
    unittest.main()
