import copy
import itertools
import unittest

from decidebook.errors import NoMark, NoOrder, NoRow, NoSentence
from decidebook.sentences import is_order, is_sentence, marks_of, words, worth
from helper import (A, B, C, MARKS, NO_ORDERS, PAIRING, drawn, great_and_deep, nested, no_sentences, of_tuples,
                    plain_worth, refused, rows, shallow)


class Orders(unittest.TestCase):

    def test_orders(self):
        for order in ([mark] for mark in MARKS):
            self.assertIs(is_order(order), True)
        for order in (list(MARKS), list(reversed(MARKS)), ["h", "a"], ["c", "a", "b"]):
            self.assertIs(is_order(order), True)

    def test_other_lists_of_texts_are_none(self):
        for order in NO_ORDERS:
            with self.subTest(order):
                self.assertIs(is_order(order), False)


class Sentences(unittest.TestCase):

    def test_every_form_is_a_sentence(self):
        for some in shallow(MARKS):
            self.assertIs(is_sentence(some), True, some)

    def test_other_tuples_are_none(self):
        for some in no_sentences():
            with self.subTest(some):
                self.assertIs(is_sentence(some), False)
                refused(self, NoSentence, words, some)
                refused(self, NoSentence, marks_of, some)
                refused(self, NoSentence, worth, some, list(MARKS), [0] * 8)

    def test_the_greatest_sentences(self):
        for some in (of_tuples(199), of_tuples(200), nested(24), nested(24, "some"), nested(24, "each"),
                     great_and_deep(200, 24), great_and_deep(199, 23)):
            with self.subTest(some):
                self.assertIs(is_sentence(some), True)
        self.assertEqual(words(of_tuples(200)), 200)
        self.assertEqual(words(great_and_deep(200, 24)), 200)

    def test_depth_is_that_of_the_deepest_part(self):
        for word in PAIRING:
            self.assertIs(is_sentence((word, A, nested(23))), True)
            self.assertIs(is_sentence((word, nested(23), A)), True)
            self.assertIs(is_sentence((word, A, nested(24))), False)
            self.assertIs(is_sentence((word, nested(24), A)), False)

    def test_a_leaf_of_any_form_is_one_deep(self):
        for leaf in (A, ("yes",), ("no",)):
            self.assertIs(is_sentence(nested(24, inner=leaf)), True)
            self.assertIs(is_sentence(nested(25, inner=leaf)), False)

    def test_a_fault_is_seen_at_any_depth(self):
        for deep in range(1, 25):
            self.assertIs(is_sentence(nested(deep, inner=("mark", "z"))), False)
            self.assertIs(is_sentence(nested(deep, inner=("yes", "yes"))), False)

    def test_far_beyond_the_bounds(self):
        doubled = A
        for _ in range(60):
            doubled = ("and", doubled, doubled)
        for some in (doubled, (doubled,), ("mark", doubled), ("some", doubled, A), nested(2000),
                     ("and",) + (A,) * 700):
            self.assertIs(is_sentence(some), False)

    def test_the_same_part_counts_as_often_as_it_stands(self):
        part = of_tuples(99)
        self.assertEqual(words(("and", part, part)), 199)
        self.assertIs(is_sentence(("not", ("and", part, part))), True)
        self.assertIs(is_sentence(("not", ("not", ("and", part, part)))), False)

    def test_words(self):
        self.assertEqual(words(("yes",)), 1)
        self.assertEqual(words(A), 1)
        self.assertEqual(words(("not", A)), 2)
        self.assertEqual(words(("some", "c", ("and", A, C))), 4)
        for many in range(1, 201):
            self.assertEqual(words(of_tuples(many)), many)

    def test_marks_of(self):
        self.assertEqual(marks_of(("yes",)), [])
        self.assertEqual(marks_of(("not", ("no",))), [])
        self.assertEqual(marks_of(("mark", "h")), ["h"])
        self.assertEqual(marks_of(("and", C, ("or", A, C))), ["a", "c"])
        self.assertEqual(marks_of(("some", "d", ("yes",))), ["d"])
        self.assertEqual(marks_of(("each", "g", ("some", "b", A))), ["a", "b", "g"])
        every = ("yes",)
        for mark in "hbgcfdea":
            every = ("if", ("mark", mark), every)
        self.assertEqual(marks_of(every), list(MARKS))


class Worth(unittest.TestCase):

    def alike(self, some, order):
        for row in rows(len(order)):
            told = worth(some, order, row)
            self.assertEqual(told, plain_worth(some, dict(zip(order, row))), (some, order, row))
            self.assertIs(type(told), int)

    def test_the_words_of_two(self):
        told = {word: [worth((word, A, B), ["a", "b"], row) for row in rows(2)] for word in PAIRING}
        self.assertEqual(told, {"and": [0, 0, 0, 1], "or": [0, 1, 1, 1], "either": [0, 1, 1, 0], "if": [1, 1, 0, 1]})

    def test_the_other_words(self):
        for row in rows(2):
            self.assertEqual(worth(("yes",), ["b", "a"], row), 1)
            self.assertEqual(worth(("no",), ["b", "a"], row), 0)
            self.assertEqual(worth(A, ["b", "a"], row), row[1])
            self.assertEqual(worth(B, ["b", "a"], row), row[0])
            self.assertEqual(worth(("not", A), ["b", "a"], row), 1 - row[1])

    def test_some_and_each(self):
        both = ("and", A, B)
        one = ("or", A, B)
        self.assertEqual([worth(("some", "a", both), ["a", "b"], row) for row in rows(2)], [0, 1, 0, 1])
        self.assertEqual([worth(("each", "a", both), ["a", "b"], row) for row in rows(2)], [0, 0, 0, 0])
        self.assertEqual([worth(("some", "b", one), ["a", "b"], row) for row in rows(2)], [1, 1, 1, 1])
        self.assertEqual([worth(("each", "b", one), ["a", "b"], row) for row in rows(2)], [0, 0, 1, 1])

    def test_the_inner_one_of_two_for_one_mark_holds(self):
        self.assertEqual(worth(("each", "a", ("some", "a", A)), ["a"], [0]), 1)
        self.assertEqual(worth(("some", "a", ("each", "a", A)), ["a"], [1]), 0)
        self.assertEqual(worth(("and", A, ("some", "a", ("not", A))), ["a"], [1]), 1)

    def test_all_shallow_sentences_in_all_orders(self):
        for order in itertools.permutations("abc"):
            for some in shallow("abc"):
                self.alike(some, list(order))

    def test_each_mark_at_each_place_of_eight(self):
        for turn in range(8):
            order = list(MARKS[turn:] + MARKS[:turn])
            self.alike(("some", "a", ("either", A, ("if", B, ("each", "h", ("or", C, ("mark", "h")))))), order)

    def test_drawn_sentences(self):
        for number in range(300):
            marks = MARKS[:1 + number % 5]
            order = list(reversed(marks)) if number % 2 else list(marks)
            some = drawn(number, marks, 6)
            if is_sentence(some):
                self.alike(some, order)

    def test_marks_of_the_order_that_do_not_stand_in_it(self):
        self.alike(("either", B, ("some", "d", ("mark", "d"))), list("gdfbeca"))

    def test_the_greatest_sentences(self):
        self.alike(of_tuples(200), ["b", "a"])
        self.alike(great_and_deep(200, 24), ["a", "b"])

    def test_many_of_some_and_each_within_one_another(self):
        some = ("either", A, B)
        for turn in range(22):
            some = (("some", "each")[turn % 2], MARKS[turn % 8], some)
        self.assertEqual(worth(some, list(MARKS), [0, 1] * 4), 1)
        self.assertEqual(worth(nested(24, "some", A), ["a", "c"], [1, 0]), 1)


class Refusals(unittest.TestCase):

    def test_no_order(self):
        for order in NO_ORDERS:
            with self.subTest(order):
                refused(self, NoOrder, worth, ("yes",), order, [0] * len(order))

    def test_no_mark(self):
        for some in (B, ("not", B), ("and", A, B), ("some", "b", A), ("each", "b", ("yes",)),
                     ("if", A, nested(23, "not", B))):
            with self.subTest(some):
                refused(self, NoMark, worth, some, ["a"], [0])
                refused(self, NoMark, worth, some, ["a", "h", "c"], [0, 0, 1])
                self.assertIn(worth(some, ["b", "a"], [0, 1]), (0, 1))

    def test_no_row(self):
        for row in ([], [0], [0, 0, 0], [0, 2], [-1, 0], [1, 10 ** 60 - 1], [1 - 10 ** 60, 1], [0] * 700):
            with self.subTest(row):
                refused(self, NoRow, worth, A, ["a", "b"], row)
                refused(self, NoRow, worth, ("yes",), ["a", "b"], row)

    def test_which_goes_first(self):
        no_order, no_sentence, no_mark, no_row = ["a", "a"], ("mark", "z"), B, [2]
        refused(self, NoOrder, worth, no_sentence, no_order, no_row)
        refused(self, NoOrder, worth, no_sentence, no_order, [0])
        refused(self, NoOrder, worth, no_mark, no_order, no_row)
        refused(self, NoOrder, worth, A, no_order, no_row)
        refused(self, NoSentence, worth, no_sentence, ["a"], no_row)
        refused(self, NoSentence, worth, ("and", no_mark, no_sentence), ["a"], no_row)
        refused(self, NoSentence, worth, ("and", no_mark, ("yes", "yes")), ["a"], [0])
        refused(self, NoSentence, worth, nested(25, "not", no_mark), ["a"], [0])
        refused(self, NoMark, worth, no_mark, ["a"], no_row)
        refused(self, NoMark, worth, no_mark, ["a"], [])


class Keeping(unittest.TestCase):

    def test_nothing_handed_in_is_changed(self):
        order, row = ["c", "a", "b"], [0, 1, 1]
        some = ("some", "c", ("and", A, C))
        before = copy.deepcopy((order, row, some))
        is_order(order)
        is_sentence(some)
        words(some)
        marks_of(some)
        worth(some, order, row)
        self.assertEqual((order, row, some), before)

    def test_what_is_told_is_the_askers_own(self):
        some = ("and", A, B)
        told = marks_of(some)
        told.append("c")
        self.assertEqual(marks_of(some), ["a", "b"])
        self.assertIsNot(marks_of(some), marks_of(some))

    def test_nothing_hangs_on_what_was_handed_in(self):
        order, row = ["a", "b"], [1, 0]
        self.assertEqual(worth(A, order, row), 1)
        row[0] = 0
        self.assertEqual(worth(A, order, row), 0)
        order.reverse()
        row[1] = 1
        self.assertEqual(worth(A, order, row), 1)

    def test_the_same_question_is_answered_alike(self):
        some = drawn(7, "abc", 5)
        first = [worth(some, ["a", "b", "c"], row) for row in rows(3)]
        refused(self, NoMark, worth, ("mark", "h"), ["a", "b", "c"], [0, 0, 0])
        self.assertEqual([worth(some, ["a", "b", "c"], row) for row in rows(3)], first)


if __name__ == "__main__":
    unittest.main()
