import copy
import inspect
import itertools
import random
import unittest

from hearsaybook.rules import whole_rules
from hearsaybook.states import begun
from hearsaybook.views import agrees, elder_in, gone_everywhere, gone_wrongly, views
from tests.anything import is_told
from tests.reckoned import some_cases, some_rules, some_state, some_town


def state_of(*rows):
    """A state of (up, marks), or (up, words), for each house."""
    houses = []
    for up, row in rows:
        book = tuple(each if isinstance(each, tuple) else (0, each) for each in row)
        houses.append((up, book, (0,) * len(row), (0,) * len(row)))
    return (5, tuple(houses))


def all_states(many, marks):
    """All states of so many houses, up or not, with some of these marks."""
    books = list(itertools.product(marks, repeat=many))
    for ups in itertools.product((0, 1), repeat=many):
        for rows in itertools.product(books, repeat=many):
            yield state_of(*zip(ups, rows))


class Views(unittest.TestCase):
    def test_the_marks_of_those_that_are_up(self):
        state = state_of((1, (0, 1, 2)), (0, (1, 1, 1)), (1, ((5, 3), (2, 2), (7, 0))))
        self.assertEqual(views(state), ((0, (0, 1, 2)), (2, (3, 2, 0))))

    def test_begun(self):
        for many in range(2, 9):
            town = ((1, 0),) * many
            self.assertEqual(views(begun(whole_rules(1, 2, 3, 4), town)),
                             tuple((house, (0,) * many) for house in range(many)))

    def test_none_up(self):
        self.assertEqual(views(state_of((0, (0, 1)), (0, (1, 0)))), ())


class GoneWrongly(unittest.TestCase):
    def test_each_mark(self):
        for mark in range(4):
            self.assertIs(gone_wrongly(state_of((1, (0, mark)), (1, (0, 0)))), mark >= 2)
            self.assertIs(gone_wrongly(state_of((1, (0, 0, 0)), (1, (0, 0, 0)), (1, (0, mark, 0)))), mark >= 2)

    def test_one_that_is_not_up_may_be_told_gone(self):
        self.assertIs(gone_wrongly(state_of((1, (0, 2)), (0, (0, 0)))), False)
        self.assertIs(gone_wrongly(state_of((1, (0, 3, 0)), (0, (0, 0, 0)), (1, (0, 2, 0)))), False)

    def test_what_one_that_is_not_up_tells_does_not_count(self):
        self.assertIs(gone_wrongly(state_of((1, (0, 0)), (0, (2, 0)))), False)
        self.assertIs(gone_wrongly(state_of((0, (3, 2, 3)), (1, (2, 0, 0)), (1, (3, 0, 0)))), False)

    def test_own_words_do_not_count(self):
        self.assertIs(gone_wrongly(state_of((1, (2, 0)), (1, (0, 3)))), False)

    def test_none_up(self):
        self.assertIs(gone_wrongly(state_of((0, (2, 2)), (0, (2, 2)))), False)

    def test_all_small_states(self):
        for state in all_states(2, range(4)):
            (up, book, told, timers), (other_up, other_book, *rest) = state[1]
            expected = up == other_up == 1 and (book[1][1] > 1 or other_book[0][1] > 1)
            self.assertIs(gone_wrongly(state), expected)


class GoneEverywhere(unittest.TestCase):
    def test_each_mark(self):
        for one, other in itertools.product(range(4), repeat=2):
            state = state_of((1, (0, 0, one)), (1, (0, 0, other)), (0, (0, 0, 0)))
            self.assertIs(gone_everywhere(state, 2), one >= 2 and other >= 2)
            self.assertIs(gone_everywhere(state, 0), False)

    def test_those_that_are_not_up_do_not_count(self):
        state = state_of((1, (0, 2, 0)), (1, (0, 0, 0)), (0, (0, 0, 0)))
        self.assertIs(gone_everywhere(state, 1), True)
        self.assertIs(gone_everywhere(state, 2), False)

    def test_its_own_book_does_not_count(self):
        self.assertIs(gone_everywhere(state_of((1, (0, 2)), (1, (0, 0))), 1), True)
        self.assertIs(gone_everywhere(state_of((1, (2, 0)), (1, (0, 2))), 0), False)

    def test_no_other_one_up(self):
        self.assertIs(gone_everywhere(state_of((1, (0, 0)), (0, (0, 0))), 0), True)
        self.assertIs(gone_everywhere(state_of((0, (0, 0)), (0, (0, 0))), 1), True)

    def test_all_small_states(self):
        for state in all_states(2, range(4)):
            for house in (0, 1):
                up, book, told, timers = state[1][1 - house]
                self.assertIs(gone_everywhere(state, house), up == 0 or book[house][1] > 1)


class Agrees(unittest.TestCase):
    def test_begun(self):
        for many in range(2, 9):
            self.assertIs(agrees(begun(whole_rules(1, 2, 3, 4), ((1, 0),) * many)), True)

    def test_who_is_not_up_is_gone_or_left(self):
        for mark in range(4):
            state = state_of((1, (0, 0, mark)), (1, (0, 0, mark)), (0, (1, 2, 3)))
            self.assertIs(agrees(state), mark >= 2)

    def test_who_is_up_is_alive(self):
        for mark in range(4):
            state = state_of((1, (0, mark, 2)), (1, (0, mark, 2)), (0, (0, 0, 0)))
            self.assertIs(agrees(state), mark == 0)
            state = state_of((1, (mark, 2, 2)), (0, (0, 0, 0)), (0, (0, 0, 0)))
            self.assertIs(agrees(state), mark == 0)

    def test_books_are_equal(self):
        for word in ((0, 0), (1, 0), (0, 1), (1, 2)):
            state = state_of((1, ((0, 0), (0, 0))), (1, ((0, 0), word)))
            self.assertIs(agrees(state), word == (0, 0))
        for word in ((0, 2), (1, 2), (0, 3)):
            state = state_of((1, (0, 0, 2)), (1, ((0, 0), (0, 0), word)), (0, (0, 0, 0)))
            self.assertIs(agrees(state), word == (0, 2))

    def test_all_books_of_those_that_are_up(self):
        for at in range(4):
            rows = [(1, (0, 0, 0, 0))] * 4
            rows[at] = (1, ((1, 0), 0, 0, 0))
            self.assertIs(agrees(state_of(*rows)), False)
            rows = [(1, (0, 0, 0, 0))] * 4
            rows[at] = (1, (0, 0, 0, 1))
            self.assertIs(agrees(state_of(*rows)), False)

    def test_one_up(self):
        self.assertIs(agrees(state_of((1, (0, 2)), (0, (0, 0)))), True)
        self.assertIs(agrees(state_of((1, (0, 0)), (0, (0, 0)))), False)

    def test_none_up(self):
        self.assertIs(agrees(state_of((0, (1, 2)), (0, (0, 3)))), True)

    def test_neither_told_nor_timers_count(self):
        turn, houses = state_of((1, (0, 0)), (1, (0, 0)))
        self.assertIs(agrees((turn, (houses[0], (1, houses[1][1], (3, 1), (2, 0))))), True)

    def test_all_small_states(self):
        for state in all_states(2, range(4)):
            ups = [house[0] for house in state[1]]
            books = [house[1] for house in state[1] if house[0] == 1]
            marks = [mark for number, mark in books[0]] if books else []
            expected = len(set(books)) <= 1 and all(mark == 0 if up else mark > 1 for up, mark in zip(ups, marks))
            self.assertIs(agrees(state), expected)


class ElderIn(unittest.TestCase):
    STATE = state_of((1, ((2, 1), (3, 0), (1, 2))), (1, ((2, 1), (3, 0), (1, 2))), (1, ((2, 1), (3, 0), (1, 2))))

    def with_word(self, *places):
        """The state with another word at each (house, of which house)."""
        houses = [list(house[1]) for house in self.STATE[1]]
        for house, about, word in places:
            houses[house][about] = word
        return state_of(*[(1, tuple(book)) for book in houses])

    def test_alike(self):
        self.assertIsNone(elder_in(self.STATE, self.STATE))
        self.assertIsNone(elder_in(self.STATE, (9, self.STATE[1])))

    def test_an_elder_word_at_each_place(self):
        for house, about in itertools.product(range(3), repeat=2):
            number, mark = self.STATE[1][house][1][about]
            for word in ((number - 1, 3), (number - 1, 0)) + (((number, mark - 1),) if mark else ()):
                self.assertEqual(elder_in(self.STATE, self.with_word((house, about, word))), (house, about))

    def test_a_newer_word_at_each_place(self):
        for house, about in itertools.product(range(3), repeat=2):
            number, mark = self.STATE[1][house][1][about]
            for word in ((number + 1, 0), (number, mark + 1), (number + 7, 3)):
                self.assertIsNone(elder_in(self.STATE, self.with_word((house, about, word))))

    def test_own_words_too(self):
        for house in range(3):
            self.assertEqual(elder_in(self.STATE, self.with_word((house, house, (0, 0)))), (house, house))

    def test_the_least(self):
        places = list(itertools.product(range(3), repeat=2))
        for one, other in itertools.combinations(places, 2):
            behind = self.with_word(one + ((0, 0),), other + ((0, 3),))
            self.assertEqual(elder_in(self.STATE, behind), one)
        behind = self.with_word((0, 0, (9, 0)), (0, 2, (1, 1)), (1, 0, (0, 0)))
        self.assertEqual(elder_in(self.STATE, behind), (0, 2))

    def test_houses_up_in_both_alone(self):
        behind = self.with_word((1, 2, (0, 0)))
        for then, now in itertools.product((0, 1), repeat=2):
            first = (5, tuple((then if at == 1 else 1,) + house[1:] for at, house in enumerate(self.STATE[1])))
            second = (6, tuple((now if at == 1 else 1,) + house[1:] for at, house in enumerate(behind[1])))
            self.assertEqual(elder_in(first, second), (1, 2) if then == now == 1 else None)

    def test_of_a_house_that_is_not_up_words_of_others_count(self):
        # House 2 isn't up, but house 1's word of it gave way to an elder one.
        first = (5, self.STATE[1][:2] + ((0,) + self.STATE[1][2][1:],))
        behind = self.with_word((1, 2, (0, 0)))
        second = (6, behind[1][:2] + ((0,) + behind[1][2][1:],))
        self.assertEqual(elder_in(first, second), (1, 2))

    def test_none_up(self):
        first = state_of((0, (1, 1)), (0, (1, 1)))
        self.assertIsNone(elder_in(first, state_of((0, (0, 0)), (0, (0, 0)))))

    def test_held_against_all_places(self):
        chance = random.Random(12)
        for _ in range(200):
            rules, town = some_rules(chance), some_town(chance, chance.randint(2, 5))
            one, other = some_state(chance, rules, town), some_state(chance, rules, town)
            found = [(at, about) for at in range(len(town)) for about in range(len(town))
                     if one[1][at][0] == other[1][at][0] == 1 and one[1][at][1][about] > other[1][at][1][about]]
            self.assertEqual(elder_in(one, other), min(found, default=None))


class All(unittest.TestCase):
    def test_arguments(self):
        for each in (views, gone_wrongly, agrees):
            self.assertEqual(list(inspect.signature(each).parameters), ["state"])
        self.assertEqual(list(inspect.signature(gone_everywhere).parameters), ["state", "house"])
        self.assertEqual(list(inspect.signature(elder_in).parameters), ["state", "behind"])

    def test_what_is_told_and_that_nothing_is_changed(self):
        for rules, town, state, doings in some_cases(13, 100):
            kept = copy.deepcopy(state)
            for each in (views, gone_wrongly, agrees):
                self.assertTrue(is_told(each(state)))
                self.assertEqual(each(state), each(state))
            for each in (gone_wrongly(state), agrees(state), gone_everywhere(state, 0)):
                self.assertIs(type(each), bool)
            self.assertTrue(is_told(elder_in(state, state)))
            self.assertEqual(state, kept)


if __name__ == "__main__":
    unittest.main()
