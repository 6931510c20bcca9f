import copy
import inspect
import itertools
import unittest

from hearsaybook.doings import is_doings, quiet
from hearsaybook.rules import whole_rules
from hearsaybook.states import begun
from tests.anything import Agreeing, Stubborn, anything, is_told, misplaced, nested, resized

RULES = whole_rules(1, 2, 3, 4)


def state_of(ups):
    """A state in which each house is up or not as told."""
    turn, houses = begun(RULES, ((1, 0),) * len(ups))
    return (turn, tuple((up,) + house[1:] for up, house in zip(ups, houses)))


STATE = state_of((1, 0, 1, 1, 0))


class Quiet(unittest.TestCase):
    def test_four_empty_tuples(self):
        self.assertEqual(quiet(), ((), (), (), ()))
        self.assertTrue(is_told(quiet()))
        self.assertEqual(quiet(), quiet())

    def test_it_is_doings_everywhere(self):
        for many in range(2, 9):
            for ups in ((1,) * many, (0,) * many, (1, 0) * (many // 2) + (1,) * (many % 2)):
                self.assertIs(is_doings(state_of(ups), quiet()), True)


class IsDoings(unittest.TestCase):
    def test_what_may_be_done(self):
        for doings in (((0,), (), (), ()), ((0, 3, 7), (), (), ()), ((), (0,), (), ()), ((), (0, 2, 3), (), ()),
                       ((), (), (3,), ()), ((), (), (0, 2), ()), ((), (), (), (1,)), ((), (), (), (1, 4)),
                       ((1, 2), (0,), (2, 3), (1, 4)), ((5,), (3,), (0,), (4,)), ((), (2, 3), (0,), ())):
            self.assertIs(is_doings(STATE, doings), True, doings)

    def test_each_row_of_houses_in_each_place(self):
        rows = [row for many in range(4) for row in itertools.product(range(-1, 4), repeat=many)]
        for ups in itertools.product((0, 1), repeat=3):
            state = state_of(ups)
            for row in rows:
                rising = list(row) == sorted(set(row)) and all(0 <= house < 3 for house in row)
                all_up = rising and all(ups[house] == 1 for house in row)
                none_up = rising and all(ups[house] == 0 for house in row)
                self.assertIs(is_doings(state, ((), row, (), ())), all_up, row)
                self.assertIs(is_doings(state, ((), (), row, ())), all_up, row)
                self.assertIs(is_doings(state, ((), (), (), row)), none_up, row)

    def test_a_house_in_two(self):
        for house in range(5):
            for one, other in ((1, 2), (1, 3), (2, 3)):
                doings = [(), (), (), ()]
                doings[one] = doings[other] = (house,)
                self.assertIs(is_doings(STATE, tuple(doings)), False, doings)
        self.assertIs(is_doings(STATE, ((), (0, 2), (2, 3), ())), False)
        self.assertIs(is_doings(STATE, ((), (0, 3), (2, 3), ())), False)
        self.assertIs(is_doings(STATE, ((), (3,), (0, 2, 3), ())), False)
        self.assertIs(is_doings(STATE, ((), (0, 2, 3), (0,), ())), False)

    def test_who_is_up_among_comes_and_who_is_not_among_the_others(self):
        for doings in (((), (1,), (), ()), ((), (0, 1), (), ()), ((), (), (4,), ()), ((), (), (3, 4), ()),
                       ((), (), (), (0,)), ((), (), (), (1, 3)), ((), (), (), (0, 1))):
            self.assertIs(is_doings(STATE, doings), False, doings)

    def test_houses_beyond_the_last(self):
        for house in (5, 6, 10 ** 30, -1, -2, -5):
            for doings in (((), (house,), (), ()), ((), (), (house,), ()), ((), (), (), (house,))):
                self.assertIs(is_doings(STATE, doings), False, doings)

    def test_lost_numbers(self):
        for lost in ((), (0,), (0, 1, 2), (1000,), (10 ** 30, 10 ** 40), tuple(range(300)), (0, 7)):
            self.assertIs(is_doings(STATE, (lost, (), (), ())), True, lost)
        for lost in ((-1,), (-1, 0), (0, 0), (1, 0), (0, 2, 1), (3, 3, 4), (0, 1, 1), (-10 ** 30,), (1, 2, 0)):
            self.assertIs(is_doings(STATE, (lost, (), (), ())), False, lost)

    def test_lost_numbers_are_no_houses(self):
        self.assertIs(is_doings(STATE, ((0, 1, 9), (0,), (2,), (1,))), True)

    def test_truths_are_no_numbers(self):
        for truth in (True, False):
            for place in range(4):
                doings = [(), (), (), ()]
                doings[place] = (truth,)
                for ups in ((1, 1), (0, 0)):
                    self.assertIs(is_doings(state_of(ups), tuple(doings)), False, doings)
        self.assertIs(is_doings(STATE, ((0, True), (), (), ())), False)

    def test_tuples_too_short_and_too_long(self):
        for thing in resized(quiet()) + [((), (), ()), ((), (), (), (), ())]:
            self.assertIs(is_doings(STATE, thing), False)

    def test_anything(self):
        for thing in anything():
            self.assertIs(is_doings(STATE, thing), False)
            self.assertIs(is_doings(STATE, ((thing,), (), (), ())), type(thing) is int and thing >= 0)
            for place in range(4):
                # House 0 is up: it may be lost, fall and leave, but not come.
                fits = type(thing) is tuple and all(type(each) is int for each in thing) and (place < 3 or not thing)
                self.assertIs(is_doings(STATE, quiet()[:place] + (thing,) + quiet()[place + 1:]), fits)

    def test_other_kinds_within(self):
        for doings in (quiet(), ((0, 3), (0,), (2, 3), (1, 4)), ((1,), (), (0,), (1,))):
            for thing in misplaced(doings):
                self.assertIs(is_doings(STATE, thing), False)

    def test_nested_thirty_deep(self):
        for kind, inmost in itertools.product((tuple, list), (quiet(), 0, None, Stubborn(), Agreeing())):
            deep = nested(kind, inmost)
            for thing in (deep, (deep, (), (), ()), ((), (), (), deep), ((), (0, deep), (), ())):
                self.assertIs(is_doings(STATE, thing), False)


class All(unittest.TestCase):
    def test_arguments(self):
        self.assertEqual(list(inspect.signature(is_doings).parameters), ["state", "thing"])
        self.assertEqual(list(inspect.signature(quiet).parameters), [])

    def test_nothing_handed_in_is_changed(self):
        for thing in ([[], [], [], []], ([1, 0], (), (), ()), ((), [0, 0], [0], ()), {"a": [1]}):
            kept = copy.deepcopy(thing)
            is_doings(STATE, thing)
            self.assertEqual(thing, kept)
        self.assertEqual(STATE, state_of((1, 0, 1, 1, 0)))


if __name__ == "__main__":
    unittest.main()
