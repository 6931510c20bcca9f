import copy
import inspect
import itertools
import unittest

from hearsaybook.words import heard, is_book, is_word, merged, newer
from tests.anything import Agreeing, Stubborn, anything, is_told, misplaced, nested, resized

GREAT = 10 ** 40
WORDS = [(number, mark) for number in (0, 1, 2, 9, 10 ** 6, GREAT) for mark in range(4)]


def book_of(many, shift=0):
    return tuple(WORDS[(at * 5 + shift) % len(WORDS)] for at in range(many))


def elder_first(word, other):
    """Which of two words is newer, by the document's words, told number by number."""
    if word[0] != other[0]:
        return word if word[0] > other[0] else other
    return word if word[1] > other[1] else other


class IsWord(unittest.TestCase):
    def test_words(self):
        for word in WORDS:
            self.assertIs(is_word(word), True, word)

    def test_marks_beside_the_four(self):
        for mark in (-1, 4, -4, 5, GREAT, -GREAT):
            self.assertIs(is_word((0, mark)), False, mark)

    def test_numbers_below_0(self):
        for number in (-1, -2, -GREAT):
            self.assertIs(is_word((number, 0)), False, number)

    def test_truths_are_no_numbers(self):
        for thing in ((True, 0), (False, 0), (0, True), (0, False), (True, True), (False, False)):
            self.assertIs(is_word(thing), False, thing)

    def test_tuples_too_short_and_too_long(self):
        for thing in ((), (0,), (0, 0, 0), (0, 0, 0, 0), (0, 0, None)):
            self.assertIs(is_word(thing), False, thing)

    def test_anything(self):
        for thing in anything():
            self.assertIs(is_word(thing), False)

    def test_other_kinds_within(self):
        for word in ((0, 0), (1, 1), (GREAT, 3)):
            for thing in misplaced(word) + resized(word):
                self.assertIs(is_word(thing), False)


class IsBook(unittest.TestCase):
    def test_books_of_two_to_eight(self):
        for many in range(2, 9):
            for shift in range(6):
                self.assertIs(is_book(book_of(many, shift)), True)

    def test_too_few_and_too_many_words(self):
        for many in (0, 1, 9, 10, 40):
            self.assertIs(is_book(book_of(many)), False, many)

    def test_one_wrong_word_at_each_place(self):
        wrong = [(-1, 0), (0, -1), (0, 4), (True, 0), (0, True), (0, False), (0,), (0, 0, 0), [0, 0], 0, None, "00"]
        for many in (2, 5, 8):
            for at, thing in itertools.product(range(many), wrong):
                book = book_of(many)
                self.assertIs(is_book(book[:at] + (thing,) + book[at + 1:]), False, (at, thing))

    def test_a_word_is_no_book(self):
        self.assertIs(is_book((0, 0)), False)

    def test_anything(self):
        for thing in anything():
            self.assertIs(is_book(thing), False)
            self.assertIs(is_book(((0, 0), thing)), False)
            self.assertIs(is_book((thing,) * 3), False)

    def test_other_kinds_within(self):
        for many in (2, 3, 8):
            for thing in misplaced(book_of(many)):
                self.assertIs(is_book(thing), False)

    def test_of_anything_nested_thirty_deep(self):
        for kind in (tuple, list):
            for inmost in ((0, 0), book_of(2), 0, True, None, Stubborn(), Agreeing()):
                for thing in (nested(kind, inmost), (nested(kind, inmost), (0, 0)), ((0, nested(kind, inmost)),) * 2):
                    self.assertIs(is_word(thing), False)
                    self.assertIs(is_book(thing), False)


class Newer(unittest.TestCase):
    def test_each_two_words(self):
        for one, other in itertools.product(WORDS, repeat=2):
            expected = one != other and elder_first(one, other) == one
            self.assertIs(newer(one, other), expected, (one, other))

    def test_two_alike(self):
        for word in WORDS:
            self.assertIs(newer(word, tuple(list(word))), False)

    def test_the_number_counts_first(self):
        self.assertIs(newer((1, 0), (0, 3)), True)
        self.assertIs(newer((0, 3), (1, 0)), False)

    def test_of_one_number_the_greater_mark(self):
        self.assertIs(newer((5, 1), (5, 0)), True)
        self.assertIs(newer((5, 3), (5, 2)), True)
        self.assertIs(newer((5, 0), (5, 1)), False)

    def test_of_one_mark_the_greater_number(self):
        self.assertIs(newer((10, 2), (9, 2)), True)
        self.assertIs(newer((GREAT, 2), (GREAT + 1, 2)), False)

    def test_just_one_of_two_unlike_words_is_newer(self):
        for one, other in itertools.combinations(WORDS, 2):
            self.assertNotEqual(newer(one, other), newer(other, one))


class Merged(unittest.TestCase):
    def test_by_hand(self):
        self.assertEqual(merged(((0, 0), (2, 1)), ((0, 1), (1, 3))), ((0, 1), (2, 1)))
        self.assertEqual(merged(((3, 2), (0, 0), (1, 1)), ((3, 2), (1, 0), (1, 0))), ((3, 2), (1, 0), (1, 1)))

    def test_place_by_place(self):
        for many in range(2, 9):
            for shift, other_shift in itertools.product(range(0, 24, 3), repeat=2):
                book, other = book_of(many, shift), book_of(many, other_shift)
                expected = tuple(elder_first(one, two) for one, two in zip(book, other))
                self.assertEqual(merged(book, other), expected)

    def test_with_itself(self):
        for many in range(2, 9):
            self.assertEqual(merged(book_of(many), book_of(many)), book_of(many))

    def test_either_way_about(self):
        for many, shift in itertools.product(range(2, 9), range(24)):
            book, other = book_of(many), book_of(many, shift)
            self.assertEqual(merged(book, other), merged(other, book))

    def test_of_three_in_whatever_order(self):
        books = [book_of(4, shift) for shift in (0, 7, 13)]
        told = {merged(merged(one, two), three) for one, two, three in itertools.permutations(books)}
        told |= {merged(one, merged(two, three)) for one, two, three in itertools.permutations(books)}
        self.assertEqual(len(told), 1)

    def test_what_is_told_is_a_book(self):
        for many in range(2, 9):
            told = merged(book_of(many), book_of(many, 3))
            self.assertTrue(is_told(told))
            self.assertIs(is_book(told), True)


class Heard(unittest.TestCase):
    BOOK = ((0, 0), (2, 1), (1, 3))

    def test_no_notes(self):
        for many in range(2, 9):
            self.assertEqual(heard(book_of(many), ()), book_of(many))

    def test_a_newer_word_is_taken_in(self):
        self.assertEqual(heard(self.BOOK, ((1, (2, 2)),)), ((0, 0), (2, 2), (1, 3)))
        self.assertEqual(heard(self.BOOK, ((2, (2, 0)),)), ((0, 0), (2, 1), (2, 0)))
        self.assertEqual(heard(self.BOOK, ((0, (GREAT, 3)),)), ((GREAT, 3), (2, 1), (1, 3)))

    def test_one_alike_or_elder_is_not(self):
        for note in ((0, (0, 0)), (1, (2, 1)), (1, (2, 0)), (1, (1, 3)), (2, (1, 2)), (2, (0, 3))):
            self.assertEqual(heard(self.BOOK, (note,)), self.BOOK, note)

    def test_one_behind_the_other(self):
        notes = ((0, (0, 1)), (0, (1, 0)), (0, (0, 3)), (1, (0, 0)), (2, (1, 2)), (2, (4, 1)))
        self.assertEqual(heard(self.BOOK, notes), ((1, 0), (2, 1), (4, 1)))

    def test_in_whatever_order_and_told_twice(self):
        notes = ((0, (0, 2)), (0, (1, 0)), (1, (2, 2)), (2, (1, 1)), (2, (1, 3)))
        told = {heard(self.BOOK, order) for order in itertools.permutations(notes)}
        told |= {heard(self.BOOK, order + order[:3]) for order in itertools.permutations(notes)}
        told |= {heard(heard(self.BOOK, order[:2]), order[2:]) for order in itertools.permutations(notes)}
        self.assertEqual(told, {((1, 0), (2, 2), (1, 3))})

    def test_of_eight_houses(self):
        notes = tuple((house, word) for house in range(8) for word in WORDS[house::7])
        expected = tuple(max([book_of(8)[house]] + WORDS[house::7]) for house in range(8))
        for order in (notes, notes[::-1], notes + notes, notes[3:] + notes[:3]):
            self.assertEqual(heard(book_of(8), order), expected)

    def test_as_merged_tells(self):
        for many, shift in itertools.product(range(2, 9), range(8)):
            book, other = book_of(many), book_of(many, shift)
            self.assertEqual(heard(book, tuple(enumerate(other))), merged(book, other))

    def test_no_word_gives_way_to_an_elder_one(self):
        for notes in itertools.product([(at, word) for at in (0, 2) for word in WORDS[:9]], repeat=2):
            behind = heard(self.BOOK, notes)
            self.assertTrue(all(now >= then for now, then in zip(behind, self.BOOK)))

    def test_what_is_told_is_a_book(self):
        told = heard(self.BOOK, ((0, (1, 1)), (0, (1, 1))))
        self.assertTrue(is_told(told))
        self.assertIs(is_book(told), True)


class All(unittest.TestCase):
    def test_arguments(self):
        names = {is_word: ["thing"], newer: ["one", "other"], is_book: ["thing"], merged: ["book", "other"],
                 heard: ["book", "notes"]}
        for told, arguments in names.items():
            self.assertEqual(list(inspect.signature(told).parameters), arguments)

    def test_nothing_handed_in_is_changed(self):
        for thing in ([0, 0], [[0, 0], [0, 0]], ([0, 0], [0, 0]), {"a": [0]}, ((0, 0), [(0, 0)])):
            kept = copy.deepcopy(thing)
            is_word(thing)
            is_book(thing)
            self.assertEqual(thing, kept)

    def test_asked_again_the_same_is_told(self):
        book, other, notes = book_of(5), book_of(5, 2), tuple(enumerate(book_of(5, 9)))
        kept = copy.deepcopy((book, other, notes))
        self.assertEqual(merged(book, other), merged(book, other))
        self.assertEqual(heard(book, notes), heard(book, notes))
        self.assertEqual((book, other, notes), kept)


if __name__ == "__main__":
    unittest.main()
