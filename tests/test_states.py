import copy
import inspect
import itertools
import unittest

from hearsaybook.rules import whole_rules, without
from hearsaybook.states import begun, is_state
from tests.anything import Agreeing, Stubborn, anything, is_told, misplaced, nested, resized

MOST = 10 ** 6
RULES = whole_rules(1, 3, 4, 2)
TOWN = ((1, 0), (2, 1), (4, 3))
STATE = (7, (
    (1, ((2, 0), (0, 1), (5, 2)), (0, 4, 1), (0, 3, 0)),
    (0, ((2, 0), (0, 0), (5, 3)), (4, 4, 4), (0, 0, 0)),
    (1, ((1, 1), (0, 2), (6, 0)), (2, 3, 0), (1, 2, 0)),
))


def changed(thing, path, other):
    """The thing with another one at the place to which the path leads."""
    if not path:
        return other
    at = path[0]
    return thing[:at] + (changed(thing[at], path[1:], other),) + thing[at + 1:]


def answered(path, other):
    return is_state(RULES, TOWN, changed(STATE, path, other))


class Begun(unittest.TestCase):
    def test_by_hand(self):
        house = (1, ((0, 0), (0, 0)), (4, 4), (0, 0))
        self.assertEqual(begun(RULES, ((1, 0), (2, 0))), (0, (house, house)))

    def test_of_several_rules_and_towns(self):
        for many, wait, told in itertools.product(range(2, 9), (1, 9), (0, 1, 5, 9)):
            rules, town = whole_rules(0, wait, told, 8), TOWN[:2] + ((3, 2),) * (many - 2)
            turn, houses = begun(rules, town)
            self.assertEqual(turn, 0)
            self.assertEqual(len(houses), many)
            for up, book, told_of, timers in houses:
                self.assertEqual(up, 1)
                self.assertEqual(book, ((0, 0),) * many)
                self.assertEqual(told_of, (told,) * many)
                self.assertEqual(timers, (0,) * many)
            self.assertIs(is_state(rules, town, (turn, houses)), True)
            self.assertTrue(is_told((turn, houses)))

    def test_clauses_do_not_count(self):
        for clause in RULES[4]:
            self.assertEqual(begun(without(RULES, clause), TOWN), begun(RULES, TOWN))

    def test_rules_a_little_beyond_the_bounds(self):
        self.assertEqual(begun(whole_rules(4, 10, 11, 9), TOWN)[1][0][2], (11, 11, 11))


class IsState(unittest.TestCase):
    def test_a_state(self):
        self.assertIs(is_state(RULES, TOWN, STATE), True)

    def test_turn(self):
        for turn, expected in ((0, True), (1, True), (10 ** 6, True), (-1, False), (-7, False)):
            self.assertIs(answered((0,), turn), expected, turn)

    def test_up(self):
        for at, up in itertools.product(range(3), (-1, 2, 3, True, False, None, "1", 1.0, 0.0)):
            self.assertIs(answered((1, at, 0), up), False, up)
        for up in (0, 1):
            self.assertIs(answered((1, 1, 0), up), True)

    def test_books(self):
        for at, of in itertools.product(range(3), range(3)):
            for word in ((0, 0), (0, 3), (MOST, 0), (MOST, 3), (9, 2)):
                self.assertIs(answered((1, at, 1, of), word), True, word)
            for word in ((MOST + 1, 0), (-1, 0), (0, 4), (0, -1), (True, 0), (0, False), (0,), (0, 0, 0), [0, 0], 0,
                         (10 ** 30, 1), None):
                self.assertIs(answered((1, at, 1, of), word), False, word)

    def test_told(self):
        for at, of in itertools.product(range(3), range(3)):
            for told in range(5):
                self.assertIs(answered((1, at, 2, of), told), True, told)
            for told in (-1, 5, 10 ** 6, True, False, None, 1.0):
                self.assertIs(answered((1, at, 2, of), told), False, told)

    def test_told_of_other_rules(self):
        for most in range(10):
            for told in range(11):
                state = changed(begun(whole_rules(0, 1, 0, 0), TOWN), (1, 1, 2), (0, told, 0))
                self.assertIs(is_state(whole_rules(0, 1, most, 0), TOWN, state), told <= most)

    def test_timers(self):
        for at, of in ((0, 1), (0, 2), (2, 0), (2, 1)):
            for timer in range(4):
                self.assertIs(answered((1, at, 3, of), timer), True, timer)
            for timer in (-1, 4, 10 ** 6, True, False, None, 1.0):
                self.assertIs(answered((1, at, 3, of), timer), False, timer)

    def test_timers_of_other_rules(self):
        for wait, timer in itertools.product(range(1, 10), range(11)):
            rules = whole_rules(0, wait, 4, 0)
            state = changed(begun(rules, TOWN), (1, 2, 3), (timer, 0, 0))
            self.assertIs(is_state(rules, TOWN, state), timer <= wait)

    def test_no_timer_of_its_own(self):
        for at in range(3):
            for timer in (1, 2, 3):
                self.assertIs(answered((1, at, 3, at), timer), False)
                state = changed(begun(RULES, TOWN), (1, at, 3, at), timer)
                self.assertIs(is_state(RULES, TOWN, state), False)

    def test_no_timers_where_it_is_not_up(self):
        for of, timer in itertools.product(range(3), (1, 3)):
            self.assertIs(answered((1, 1, 3, of), timer), False)
        for at in (0, 2):
            self.assertIs(answered((1, at, 0), 0), False)
            self.assertIs(is_state(RULES, TOWN, changed(changed(STATE, (1, at, 0), 0), (1, at, 3), (0, 0, 0))), True)

    def test_none_is_up(self):
        state = begun(RULES, TOWN)
        for at in range(3):
            state = changed(state, (1, at, 0), 0)
        self.assertIs(is_state(RULES, TOWN, state), True)

    def test_of_another_town(self):
        for many in range(2, 9):
            for other in range(2, 9):
                state = begun(RULES, ((1, 0),) * other)
                self.assertIs(is_state(RULES, ((1, 0),) * many, state), many == other)

    def test_tuples_too_short_and_too_long(self):
        paths = [(), (1,)] + [(1, at) for at in range(3)]
        paths += [(1, at, part) for at in range(3) for part in (1, 2, 3)]
        paths += [(1, at, 1, of) for at in range(3) for of in range(3)]
        for path in paths:
            inner = STATE
            for at in path:
                inner = inner[at]
            for other in resized(inner):
                self.assertIs(answered(path, other), False, path)

    def test_parts_of_another_number_of_houses(self):
        two = begun(RULES, TOWN[:2])
        for part in (1, 2, 3):
            self.assertIs(answered((1, 1, part), two[1][0][part]), False)

    def test_anything(self):
        for thing in anything():
            self.assertIs(is_state(RULES, TOWN, thing), False)
            self.assertIs(is_state(RULES, TOWN, (0, thing)), False)
            self.assertIs(is_state(RULES, TOWN, (0, (thing, thing, thing))), False)
            for part in range(1, 4):
                self.assertIs(answered((1, 0, part), thing), False)
            self.assertIs(answered((0,), thing), type(thing) is int and thing >= 0)

    def test_other_kinds_within(self):
        for thing in misplaced(STATE):
            self.assertIs(is_state(RULES, TOWN, thing), False)
        for thing in misplaced(begun(RULES, TOWN[:2])):
            self.assertIs(is_state(RULES, TOWN[:2], thing), False)

    def test_nested_thirty_deep(self):
        for kind, inmost in itertools.product((tuple, list), (STATE, STATE[1], 0, None, Stubborn(), Agreeing())):
            deep = nested(kind, inmost)
            for thing in (deep, (0, deep), (deep, STATE[1]), changed(STATE, (1, 0, 1, 0), deep)):
                self.assertIs(is_state(RULES, TOWN, thing), False)


class All(unittest.TestCase):
    def test_arguments(self):
        self.assertEqual(list(inspect.signature(begun).parameters), ["rules", "town"])
        self.assertEqual(list(inspect.signature(is_state).parameters), ["rules", "town", "thing"])

    def test_nothing_handed_in_is_changed(self):
        for thing in ([0, list(STATE[1])], (0, list(STATE[1])), {"a": [1]}, changed(STATE, (1, 0, 3), [0, 0, 0])):
            kept = copy.deepcopy(thing)
            is_state(RULES, TOWN, thing)
            self.assertEqual(thing, kept)

    def test_asked_again_the_same_is_told(self):
        self.assertEqual(begun(RULES, TOWN), begun(RULES, TOWN))
        self.assertIs(is_state(RULES, TOWN, STATE), is_state(RULES, TOWN, STATE))


if __name__ == "__main__":
    unittest.main()
