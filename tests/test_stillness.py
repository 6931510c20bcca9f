import copy
import inspect
import itertools
import random
import unittest

from hearsaybook.doings import quiet
from hearsaybook.rules import whole_rules, without
from hearsaybook.states import begun, is_state
from hearsaybook.stillness import shows_still, still_behind
from hearsaybook.towns import cycle
from hearsaybook.turns import stepped, walked
from tests.anything import Agreeing, Stubborn, anything, instead_of, is_told, misplaced, nested, resized
from tests.reckoned import Reckoned, clause_rows, some_row, some_rules, some_state, some_town

RULES = whole_rules(1, 2, 2, 1)

# Without "newer" house 1 tells 2, which fell, gone, and hears of 0 that it is but suspect, for ever.
RESTLESS = without(whole_rules(1, 1, 4, 3), "newer")
RESTLESS_TOWN = ((1, 0), (1, 0), (3, 1))
RESTLESS_STATE = walked(RESTLESS, RESTLESS_TOWN, begun(RESTLESS, RESTLESS_TOWN), (((0, 3), (2,), (), ()),))[0]


def some_places(seed, many):
    """(rules, town, state): begun, states behind rows, and other states."""
    chance = random.Random(seed)
    for number in range(many):
        rules = some_rules(chance, clause_rows()[number % len(clause_rows())], wait=3)
        town = some_town(chance, chance.randint(2, 5), pace=chance.choice((1, 2, 3)))
        state = begun(rules, town)
        row = some_row(chance, rules, town, state, chance.choice((1, 5, 15)), chance.choice((0.1, 0.5, 1)), 0.1)
        yield rules, town, chance.choice((state, walked(rules, town, state, row)[0], walked(rules, town, state, row)[0],
                                          some_state(chance, rules, town)))


def reckoned_still(rules, town, state, most=500):
    """still_behind, by all states from there on."""
    reckoned, length = Reckoned(rules, town, state), cycle(town)
    states = [state]
    for _ in range(most + length):
        reckoned.turn_by(quiet())
        states.append(reckoned.state())
    run, found = 0, None
    for number in range(most + length - 1, -1, -1):
        run = run + 1 if states[number][1] == states[number + 1][1] else 0
        if run >= length and number <= most:
            found = (number, states[number])
    return found


class StillBehind(unittest.TestCase):
    def test_begun_is_still_at_once(self):
        for many, pace in itertools.product(range(2, 9), (1, 2)):
            town = ((pace, 0),) * many
            self.assertEqual(still_behind(RULES, town, begun(RULES, town)), (0, begun(RULES, town)))

    def test_no_house_up_is_still_at_once(self):
        for rules, town, (turn, houses) in some_places(71, 12):
            state = (turn, tuple((0,) + house[1:3] + ((0,) * len(town),) for house in houses))
            self.assertEqual(still_behind(rules, town, state), (0, state))

    def test_one_that_fell(self):
        # It is suspected in turn 0, in which it falls, and gone in turn 2.
        rules, town = whole_rules(0, 2, 0, 0), ((1, 0), (1, 0))
        state = walked(rules, town, begun(rules, town), (((), (1,), (), ()),))[0]
        self.assertEqual(still_behind(rules, town, state),
                         (2, (3, ((1, ((0, 0), (0, 2)), (0, 0), (0, 0)), (0, ((0, 0), (0, 0)), (0, 0), (0, 0))))))

    def test_it_may_change_behind_turns_in_which_it_did_not(self):
        # House 0's clock ticks in turn 3, 7 and 11; house 1 isn't up.
        rules, town = whole_rules(0, 2, 0, 0), ((4, 3), (1, 0))
        turn, houses = begun(rules, town)
        state = (turn, (houses[0], (0,) + houses[1][1:]))
        number, behind = still_behind(rules, town, state)
        self.assertEqual((number, behind[0]), (12, 12))
        self.assertEqual(behind[1][0][1], ((0, 0), (0, 2)))

    def test_one_is_asked_only_behind_all_others(self):
        # House 0 alone is up, and has just asked 1: it is the last one to be asked again.
        for many in range(3, 9):
            rules, town = whole_rules(0, 1, 0, 0), ((1, 0),) * many
            turn, houses = begun(rules, town)
            state = (1, houses[:1] + tuple((0,) + house[1:] for house in houses[1:]))
            number, behind = still_behind(rules, town, state)
            self.assertEqual(number, many)
            self.assertEqual([word for word in behind[1][0][1]], [(0, 0)] + [(0, 2)] * (many - 1))

    def test_what_is_told_on_counts_as_a_change(self):
        for told in range(6):
            rules, town = without(whole_rules(0, 2, told, 1), "about"), ((1, 0),) * 3
            turn, houses = begun(rules, town)
            state = (turn, ((1, houses[0][1], (told, told, 0), (0, 0, 0)),) + houses[1:])
            number, behind = still_behind(rules, town, state)
            self.assertEqual(behind[1][0][2], (told,) * 3)
            self.assertEqual(number > 0, told > 0)

    def test_held_against_a_second_reckoning(self):
        found = []
        for rules, town, state in some_places(72, 70):
            told = still_behind(rules, town, state)
            self.assertEqual(told, reckoned_still(rules, town, state))
            found.append(told)
        self.assertTrue(any(told is not None and told[0] > 20 for told in found))

    def test_the_least_number_and_for_good(self):
        for rules, town, state in some_places(73, 60):
            told = still_behind(rules, town, state)
            if told is None:
                continue
            number, behind = told
            self.assertEqual(behind, walked(rules, town, state, (quiet(),) * number)[0])
            later = behind
            for _ in range(cycle(town) + 30):
                later = stepped(rules, town, later, quiet())[0]
                self.assertEqual(later[1], behind[1])
            self.assertEqual(still_behind(rules, town, later), (0, later))
            if number:
                ahead = walked(rules, town, state, (quiet(),) * (number - 1))[0]
                self.assertEqual(still_behind(rules, town, ahead), (1, behind))

    def test_the_turn_counts_on(self):
        rules, town = whole_rules(0, 2, 0, 0), ((1, 0), (1, 0))
        turn, houses = begun(rules, town)
        for turn in (0, 1, 7, 400):
            self.assertEqual(still_behind(rules, town, (turn, houses)), (0, (turn, houses)))
            number, behind = still_behind(rules, town, (turn, (houses[0], (0,) + houses[1][1:])))
            self.assertEqual((number, behind[0]), (3, turn + 3))

    def test_to_500_and_no_further(self):
        # With so long a wait house 0 counts down for that many turns until house 1 is gone.
        town = ((1, 0), (1, 0))
        for wait, number in ((400, 401), (498, 499), (499, 500), (500, None), (501, None), (900, None)):
            rules = whole_rules(0, wait, 0, 0)
            turn, houses = begun(rules, town)
            told = still_behind(rules, town, (turn, (houses[0], (0,) + houses[1][1:])))
            self.assertEqual(told if number is None else told[0], number)

    def test_none_where_it_never_is(self):
        self.assertTrue(is_state(RESTLESS, RESTLESS_TOWN, RESTLESS_STATE))
        self.assertIsNone(still_behind(RESTLESS, RESTLESS_TOWN, RESTLESS_STATE))
        self.assertIsNone(reckoned_still(RESTLESS, RESTLESS_TOWN, RESTLESS_STATE))
        whole = whole_rules(*RESTLESS[:4])
        self.assertIsNotNone(still_behind(whole, RESTLESS_TOWN, RESTLESS_STATE))


class ShowsStill(unittest.TestCase):
    RULES = whole_rules(0, 2, 1, 0)
    TOWN = ((1, 0), (2, 1))
    STATE = walked(RULES, TOWN, begun(RULES, TOWN), (((), (1,), (), ()),))[0]
    TOLD = still_behind(RULES, TOWN, STATE)

    def shows(self, thing):
        return shows_still(self.RULES, self.TOWN, self.STATE, thing)

    def test_what_still_behind_tells(self):
        self.assertIs(self.shows(self.TOLD), True)
        for rules, town, state in some_places(74, 40):
            self.assertIs(shows_still(rules, town, state, still_behind(rules, town, state)), True)

    def test_number_0(self):
        state = begun(self.RULES, self.TOWN)
        self.assertIs(shows_still(self.RULES, self.TOWN, state, (0, state)), True)
        self.assertIs(shows_still(self.RULES, self.TOWN, state, (False, state)), False)
        self.assertIs(shows_still(self.RULES, self.TOWN, state, (1, (1, state[1]))), False)

    def test_none(self):
        for thing, expected in ((None, True), (False, False), (0, False), ((), False), ((None, None), False),
                                ((500, RESTLESS_STATE), False), ((0, RESTLESS_STATE), False)):
            self.assertIs(shows_still(RESTLESS, RESTLESS_TOWN, RESTLESS_STATE, thing), expected)
        self.assertIs(self.shows(None), False)

    def test_another_number(self):
        number, state = self.TOLD
        for other in (number - 1, number + 1, 0, -number, 10 ** 30):
            self.assertIs(self.shows((other, state)), False)

    def test_later_and_earlier_ones(self):
        number, state = self.TOLD
        for other in list(range(number)) + [number + 1, number + 2]:
            behind = walked(self.RULES, self.TOWN, self.STATE, (quiet(),) * other)[0]
            self.assertIs(self.shows((other, behind)), False)
            self.assertIs(self.shows((number, behind)), False)

    def test_another_state(self):
        number, (turn, houses) = self.TOLD
        up, book, told, timers = houses[0]
        for other in ((up, book[:1] + ((0, 3),), told, timers), (up, book[:1] + ((1, 2),), told, timers),
                      (up, book, (0,) + told[1:], timers), (up, book, told, (0, 1)), (0, book, told, timers)):
            self.assertIs(self.shows((number, (turn, (other,) + houses[1:]))), False)
        self.assertIs(self.shows((number, (turn + 1, houses))), False)
        self.assertIs(self.shows((number, (turn, houses[::-1]))), False)
        self.assertIs(self.shows((number, self.STATE)), False)

    def test_tuples_too_short_and_too_long(self):
        number, (turn, houses) = self.TOLD
        for thing in resized(self.TOLD) + [(number, other) for other in resized((turn, houses))]:
            self.assertIs(self.shows(thing), False)
        for other in resized(houses):
            self.assertIs(self.shows((number, (turn, other))), False)

    def test_other_kinds_within(self):
        for thing in misplaced(self.TOLD):
            self.assertIs(self.shows(thing), False)

    def test_anything(self):
        number, state = self.TOLD
        for thing in anything() + instead_of(self.TOLD):
            self.assertIs(self.shows(thing), False)
            self.assertIs(self.shows((number, thing)), False)
            self.assertIs(self.shows((thing, state)), type(thing) is int and thing == number)
            self.assertIs(shows_still(RESTLESS, RESTLESS_TOWN, RESTLESS_STATE, thing), thing is None)

    def test_nested_thirty_deep(self):
        for kind, inmost in itertools.product((tuple, list), (self.TOLD, 0, None, Stubborn(), Agreeing())):
            self.assertIs(self.shows(nested(kind, inmost)), False)
            self.assertIs(self.shows((self.TOLD[0], nested(kind, inmost, 29))), False)

    def test_what_was_told_whatever_its_size(self):
        rules, town = whole_rules(0, 2, 1, 0), ((1, 0), (1, 0))
        turn, houses = begun(rules, town)
        house = (1, ((0, 0), (10 ** 6, 1)), (1, 0), (0, 1))
        state = (10 ** 20, (house, houses[1]))
        told = still_behind(rules, town, state)
        self.assertEqual(told[1][1][0][1][1], (10 ** 6 + 1, 0))
        self.assertIs(shows_still(rules, town, state, told), True)


class All(unittest.TestCase):
    def test_arguments(self):
        self.assertEqual(list(inspect.signature(still_behind).parameters), ["rules", "town", "state"])
        self.assertEqual(list(inspect.signature(shows_still).parameters), ["rules", "town", "state", "thing"])

    def test_what_is_told_and_that_nothing_is_changed(self):
        for rules, town, state in some_places(75, 24):
            kept = copy.deepcopy((rules, town, state))
            told = still_behind(rules, town, state)
            self.assertTrue(is_told(told))
            self.assertEqual(still_behind(rules, town, state), told)
            self.assertTrue(told is None or is_state(rules, town, told[1]))
            self.assertEqual((rules, town, state), kept)
        for thing in ([0, [1]], ([0], {}), {"a": []}):
            kept = copy.deepcopy(thing)
            shows_still(RULES, ((1, 0),) * 2, begun(RULES, ((1, 0),) * 2), thing)
            self.assertEqual(thing, kept)


if __name__ == "__main__":
    unittest.main()
