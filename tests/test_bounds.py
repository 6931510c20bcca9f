import copy
import inspect
import itertools
import unittest

from hearsaybook.bounds import gone_by, letters_most, safe_number
from hearsaybook.doings import quiet
from hearsaybook.rules import whole_rules, without
from hearsaybook.states import begun
from hearsaybook.turns import stepped
from tests.anything import is_told
from tests.reckoned import CLAUSES, some_cases


def with_timers(state, at, *timers):
    """The state in which one house has these timers."""
    turn, houses = state
    house = houses[at][:3] + (timers,)
    return (turn, houses[:at] + (house,) + houses[at + 1:])


def with_up(state, *ups):
    """The state in which each house is up or not as told."""
    turn, houses = state
    return (turn, tuple((up,) + house[1:] for up, house in zip(ups, houses)))


class SafeNumber(unittest.TestCase):
    def test_by_hand(self):
        for others, wait, many, expected in ((0, 1, 2, 2), (1, 1, 2, 2), (3, 9, 2, 10), (0, 2, 3, 3), (1, 2, 3, 6),
                                             (2, 2, 3, 6), (3, 2, 3, 6), (2, 2, 4, 9), (3, 3, 4, 12), (3, 3, 5, 16),
                                             (3, 9, 8, 40), (0, 9, 8, 10), (1, 4, 8, 10), (2, 1, 8, 6)):
            self.assertEqual(safe_number(whole_rules(others, wait, 3, 4), ((1, 0),) * many), expected)

    def test_neither_clocks_nor_news_nor_clauses_count(self):
        rules = whole_rules(2, 3, 4, 5)
        for town in (((1, 0),) * 4, ((4, 3),) * 4, ((1, 0), (2, 1), (3, 2), (4, 0))):
            self.assertEqual(safe_number(rules, town), 12)
            self.assertEqual(safe_number(whole_rules(2, 3, 0, 0), town), 12)
            for clause in CLAUSES:
                self.assertEqual(safe_number(without(rules, clause), town), 12)


class GoneBy(unittest.TestCase):
    def test_by_hand(self):
        town = ((1, 0), (2, 1), (3, 0), (4, 3))
        for wait, expected in ((1, (4, 8, 12, 16)), (2, (5, 10, 15, 20)), (9, (12, 24, 36, 48))):
            rules = whole_rules(1, wait, 3, 4)
            self.assertEqual(tuple(gone_by(rules, town, house) for house in range(4)), expected)

    def test_by_the_number_of_houses(self):
        rules = whole_rules(1, 2, 3, 4)
        for many in range(2, 9):
            self.assertEqual(gone_by(rules, ((3, 1),) * many, many - 1), 3 * (many + 1))

    def test_neither_others_nor_news_nor_clauses_count(self):
        for others, told, carry, clause in itertools.product((0, 3), (0, 9), (0, 8), CLAUSES):
            self.assertEqual(gone_by(without(whole_rules(others, 2, told, carry), clause), ((2, 0),) * 3, 1), 8)


class LettersMost(unittest.TestCase):
    RULES = whole_rules(2, 3, 3, 4)

    def test_those_that_tick(self):
        town = ((1, 0), (2, 0), (2, 1), (4, 3))
        state = begun(self.RULES, town)
        for turn, ticking in ((0, 2), (1, 2), (2, 2), (3, 3), (4, 2), (5, 2), (6, 2), (7, 3)):
            self.assertEqual(letters_most(self.RULES, town, (turn, state[1]), quiet()), ticking * 10)

    def test_others_and_houses(self):
        for others, many in itertools.product(range(4), range(2, 9)):
            rules, town = whole_rules(others, 3, 3, 4), ((1, 0),) * many
            self.assertEqual(letters_most(rules, town, begun(rules, town), quiet()),
                             many * (2 + 4 * min(others, many - 2)))

    def test_timers(self):
        town = ((1, 0), (1, 0), (2, 1), (1, 0))
        state = with_timers(with_timers(begun(self.RULES, town), 0, 0, 3, 1, 0), 2, 1, 1, 0, 1)
        self.assertEqual(letters_most(self.RULES, town, state, quiet()), (3 + 1 + 1) * 10)
        self.assertEqual(letters_most(self.RULES, town, (1, state[1]), quiet()), (3 + 1 + 4 + 1) * 10)

    def test_those_that_are_up(self):
        town = ((1, 0),) * 4
        state = begun(self.RULES, town)
        for ups in itertools.product((0, 1), repeat=4):
            self.assertEqual(letters_most(self.RULES, town, with_up(state, *ups), quiet()), sum(ups) * 10)

    def test_no_house_up(self):
        for many in range(2, 9):
            town = ((1, 0),) * many
            state = with_up(begun(self.RULES, town), *[0] * many)
            self.assertEqual(letters_most(self.RULES, town, state, quiet()), 0)
            state = begun(self.RULES, town)
            self.assertEqual(letters_most(self.RULES, town, state, ((), tuple(range(many)), (), ())), 0)
            self.assertEqual(letters_most(self.RULES, town, state, ((), (), tuple(range(many)), ())), many * (many - 1))

    def test_falls_leaves_and_comes(self):
        town = ((1, 0),) * 4
        state = with_up(begun(self.RULES, town), 1, 1, 1, 0)
        for falls, leaves, comes, expected in (((), (), (), 30), ((0,), (), (), 20), ((), (1,), (), 20 + 3),
                                               ((), (), (3,), 40 + 3), ((0,), (1,), (3,), 20 + 6),
                                               ((), (0, 1, 2), (3,), 10 + 12), ((0, 1, 2), (), (3,), 10 + 3)):
            self.assertEqual(letters_most(self.RULES, town, state, ((), falls, leaves, comes)), expected)

    def test_those_that_come_without_a_tick(self):
        town = ((2, 1),) * 3
        rules = whole_rules(1, 3, 3, 4)
        state = with_up(begun(rules, town), 1, 0, 0)
        self.assertEqual(letters_most(rules, town, state, ((), (), (), (1, 2))), 4)
        self.assertEqual(letters_most(rules, town, (1, state[1]), ((), (), (), (1, 2))), 4 + 18)

    def test_timers_are_those_of_the_state(self):
        # Who falls, though it has timers, asks nobody; who stays up keeps what it has.
        town = ((1, 0),) * 3
        rules = whole_rules(1, 3, 3, 4)
        state = with_timers(with_timers(begun(rules, town), 0, 0, 3, 1), 1, 2, 0, 0)
        self.assertEqual(letters_most(rules, town, state, ((), (0,), (), ())), (2 + 1) * 6)
        self.assertEqual(letters_most(rules, town, state, ((), (), (1,), ())), (3 + 1) * 6 + 2)

    def test_lost_letters_do_not_count(self):
        town = ((1, 0),) * 3
        state = begun(self.RULES, town)
        for lost in ((0,), (0, 1, 2, 3), (900,)):
            self.assertEqual(letters_most(self.RULES, town, state, (lost, (), (), ())), 18)

    def test_it_may_be_reached(self):
        # The last letter of each way is lost: so all are sent.
        rules, town = whole_rules(1, 3, 3, 4), ((1, 0), (4, 3), (4, 3))
        state = begun(rules, town)
        letters = stepped(rules, town, state, ((1, 5), (), (), ()))[1]
        self.assertEqual(len(letters), letters_most(rules, town, state, quiet()))


class All(unittest.TestCase):
    def test_arguments(self):
        self.assertEqual(list(inspect.signature(safe_number).parameters), ["rules", "town"])
        self.assertEqual(list(inspect.signature(gone_by).parameters), ["rules", "town", "house"])
        self.assertEqual(list(inspect.signature(letters_most).parameters), ["rules", "town", "state", "doings"])

    def test_whole_numbers_are_told_and_nothing_is_changed(self):
        for rules, town, state, doings in some_cases(11, 100):
            kept = copy.deepcopy((rules, town, state, doings))
            numbers = [safe_number(rules, town), gone_by(rules, town, 0), letters_most(rules, town, state, doings)]
            self.assertTrue(all(type(number) is int and is_told(number) for number in numbers))
            self.assertEqual((rules, town, state, doings), kept)
            self.assertEqual(letters_most(rules, town, state, doings), numbers[2])


if __name__ == "__main__":
    unittest.main()
