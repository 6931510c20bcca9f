import copy
import inspect
import itertools
import unittest

from hearsaybook.towns import cycle, is_town, target, ticks, ticks_by
from tests.anything import Agreeing, Stubborn, anything, is_told, misplaced, nested, resized

CLOCKS = [(pace, start) for pace in range(1, 5) for start in range(pace)]
LATE = 10 ** 30


def town_of(many, shift=0):
    return tuple(CLOCKS[(at * 3 + shift) % len(CLOCKS)] for at in range(many))


def towns():
    return [town_of(many, shift) for many in range(2, 9) for shift in range(len(CLOCKS))]


def ticking(clock, turns):
    """The turns below so many in which a clock ticks."""
    pace, start = clock
    return [start + rounds * pace for rounds in range(turns) if start + rounds * pace < turns]


class IsTown(unittest.TestCase):
    def test_towns_of_two_to_eight_houses(self):
        for town in towns():
            self.assertIs(is_town(town), True, town)

    def test_too_few_and_too_many_houses(self):
        for many in (0, 1, 9, 10, 30):
            self.assertIs(is_town(((1, 0),) * many), False, many)

    def test_each_clock(self):
        for pace, start in itertools.product(range(-2, 8), range(-2, 8)):
            for town in (((pace, start), (1, 0)), ((1, 0), (pace, start)), ((1, 0), (4, 3), (pace, start))):
                self.assertIs(is_town(town), (pace, start) in CLOCKS, town)

    def test_start_at_its_bounds(self):
        for pace in range(1, 5):
            self.assertIs(is_town(((pace, 0),) * 2), True)
            self.assertIs(is_town(((pace, pace - 1),) * 2), True)
            self.assertIs(is_town(((pace, pace),) * 2), False)
            self.assertIs(is_town(((pace, -1),) * 2), False)

    def test_pace_at_its_bounds(self):
        for pace, expected in ((0, False), (1, True), (4, True), (5, False), (-1, False), (LATE, False)):
            self.assertIs(is_town(((pace, 0), (1, 0))), expected, pace)

    def test_truths_are_no_numbers(self):
        for clock in ((True, 0), (1, False), (True, False), (2, True), (4, False)):
            self.assertIs(is_town((clock, (1, 0))), False, clock)
            self.assertIs(is_town(((1, 0), clock)), False, clock)

    def test_clocks_too_short_and_too_long(self):
        for clock in ((), (1,), (1, 0, 0), (1, 0, None)):
            self.assertIs(is_town(((1, 0), clock)), False, clock)

    def test_anything(self):
        for thing in anything():
            self.assertIs(is_town(thing), False)
            self.assertIs(is_town(((1, 0), thing)), False)
            self.assertIs(is_town((thing, thing)), False)
            self.assertIs(is_town(((thing, 0), (1, 0))), type(thing) is int and 1 <= thing <= 4)
            self.assertIs(is_town(((4, thing), (1, 0))), type(thing) is int and 0 <= thing <= 3)

    def test_other_kinds_within(self):
        for town in (((1, 0), (1, 0)), ((4, 3), (2, 1), (3, 0)), town_of(8)):
            for thing in misplaced(town):
                self.assertIs(is_town(thing), False)

    def test_nested_thirty_deep(self):
        for kind, inmost in itertools.product((tuple, list), ((1, 0), ((1, 0), (1, 0)), 1, Stubborn(), Agreeing())):
            for thing in (nested(kind, inmost), (nested(kind, inmost),) * 2, ((1, nested(kind, inmost)), (1, 0))):
                self.assertIs(is_town(thing), False)

    def test_a_house_more_and_less(self):
        self.assertIs(is_town(((1, 0), (2, 1), (4, 0))), True)
        for thing in resized(((1, 0), (2, 1))):
            self.assertIs(is_town(thing), len(thing) > 1 and all(isinstance(each, tuple) for each in thing))


class Ticks(unittest.TestCase):
    def test_over_a_row_of_turns(self):
        for clock in CLOCKS:
            for house, town in ((0, (clock, (1, 0))), (1, ((3, 1), clock)), (2, ((4, 0), (2, 0), clock))):
                told = [turn for turn in range(60) if ticks(town, house, turn)]
                self.assertEqual(told, ticking(clock, 60), clock)

    def test_truths_are_told(self):
        for town, turn in itertools.product(towns(), range(9)):
            for house in range(len(town)):
                self.assertIn(ticks(town, house, turn), (True, False))
                self.assertIs(type(ticks(town, house, turn)), bool)

    def test_ahead_of_the_first_tick(self):
        self.assertEqual([turn for turn in range(8) if ticks(((4, 3), (4, 0)), 0, turn)], [3, 7])
        self.assertIs(ticks(((4, 0), (1, 0)), 0, 0), True)
        for pace, start in CLOCKS:
            for turn in range(start):
                self.assertIs(ticks(((pace, start), (1, 0)), 0, turn), False)

    def test_at_late_turns(self):
        for pace, start in CLOCKS:
            town = ((1, 0), (pace, start))
            self.assertIs(ticks(town, 1, start + pace * LATE), True)
            for beside in range(1, pace):
                self.assertIs(ticks(town, 1, start + pace * LATE + beside), False)


    def test_a_start_beyond_its_bound(self):
        self.assertEqual([turn for turn in range(12) if ticks(((2, 4), (1, 0)), 0, turn)], [4, 6, 8, 10])


class TicksBy(unittest.TestCase):
    def test_a_start_beyond_its_bound(self):
        self.assertEqual([ticks_by(((2, 4), (1, 0)), 0, turn) for turn in range(8)], [0, 0, 0, 0, 1, 1, 2, 2])

    def test_over_a_row_of_turns(self):
        for town in towns():
            for house, clock in enumerate(town):
                for turn in range(30):
                    expected = len(ticking(clock, turn + 1))
                    self.assertEqual(ticks_by(town, house, turn), expected, (clock, turn))

    def test_by_hand(self):
        self.assertEqual([ticks_by(((3, 2), (1, 0)), 0, turn) for turn in range(9)], [0, 0, 1, 1, 1, 2, 2, 2, 3])
        self.assertEqual([ticks_by(((3, 2), (1, 0)), 1, turn) for turn in range(4)], [1, 2, 3, 4])

    def test_ahead_of_the_first_tick(self):
        for pace, start in CLOCKS:
            for turn in range(start):
                self.assertEqual(ticks_by(((1, 0), (pace, start)), 1, turn), 0)

    def test_at_late_turns(self):
        for pace, start in CLOCKS:
            for beside in range(pace):
                self.assertEqual(ticks_by(((pace, start), (1, 0)), 0, start + pace * LATE + beside), LATE + 1)

    def test_whole_numbers_are_told(self):
        for turn in range(5):
            self.assertIs(type(ticks_by(((4, 3), (1, 0)), 0, turn)), int)


class Target(unittest.TestCase):
    def test_by_hand(self):
        town = ((1, 0), (2, 1), (1, 0), (1, 0))
        self.assertEqual([target(town, 0, turn) for turn in range(7)], [1, 2, 3, 1, 2, 3, 1])
        self.assertEqual([target(town, 1, turn) for turn in (1, 3, 5, 7, 9)], [2, 3, 0, 2, 3])
        self.assertEqual([target(town, 3, turn) for turn in range(4)], [0, 1, 2, 0])

    def test_of_two_houses_it_is_the_other_one(self):
        for clock in CLOCKS:
            for turn in ticking(clock, 30):
                self.assertEqual(target((clock, (1, 0)), 0, turn), 1)
                self.assertEqual(target(((1, 0), clock), 1, turn), 0)

    def test_in_one_less_ticks_than_houses_each_other_one_is_it_once(self):
        for town in towns():
            for house, clock in enumerate(town):
                turns = ticking(clock, 100)
                told = [target(town, house, turn) for turn in turns]
                others = [other for other in range(len(town)) if other != house]
                self.assertEqual(told[0], (house + 1) % len(town))
                for at in range(len(told) - len(others) + 1):
                    self.assertEqual(sorted(told[at:at + len(others)]), others)

    def test_they_go_round(self):
        for town in towns():
            for house, clock in enumerate(town):
                others = [(house + step) % len(town) for step in range(1, len(town))]
                for at, turn in enumerate(ticking(clock, 60)):
                    self.assertEqual(target(town, house, turn), others[at % len(others)])

    def test_at_late_turns(self):
        for pace, start in CLOCKS:
            town = ((1, 0), (pace, start), (1, 0), (1, 0))
            for step in range(6):
                turn = start + pace * (3 * LATE + step)
                self.assertEqual(target(town, 1, turn), (2, 3, 0)[step % 3])


class Cycle(unittest.TestCase):
    def test_by_hand(self):
        self.assertEqual(cycle(((1, 0), (1, 0))), 2)
        self.assertEqual(cycle(((2, 0), (1, 0))), 4)
        self.assertEqual(cycle(((2, 1), (4, 0))), 8)
        self.assertEqual(cycle(((3, 0), (4, 0))), 24)
        self.assertEqual(cycle(((3, 0), (2, 0), (1, 0))), 36)
        self.assertEqual(cycle(((4, 0), (3, 0), (2, 0))), 72)
        self.assertEqual(cycle(((1, 0),) * 8), 56)

    def test_the_least_one_that_all_divide(self):
        for town in towns():
            parts = {pace * len(town) * (len(town) - 1) for pace, start in town}
            least = next(number for number in itertools.count(1) if all(number % part == 0 for part in parts))
            self.assertEqual(cycle(town), least, town)

    def test_starts_do_not_count(self):
        self.assertEqual(cycle(((4, 3), (2, 1))), cycle(((4, 0), (2, 0))))

    def test_clocks_and_targets_come_round(self):
        for town in towns():
            round_of = cycle(town)
            for house, clock in enumerate(town):
                for turn in range(4, 12):
                    self.assertEqual(ticks(town, house, turn), ticks(town, house, turn + round_of))
                    ahead, behind = ticks_by(town, house, turn), ticks_by(town, house, turn + round_of)
                    self.assertEqual((behind - ahead) % (len(town) * (len(town) - 1)), 0)


class All(unittest.TestCase):
    def test_arguments(self):
        names = {is_town: ["thing"], cycle: ["town"]}
        names.update({told: ["town", "house", "turn"] for told in (ticks, ticks_by, target)})
        for told, arguments in names.items():
            self.assertEqual(list(inspect.signature(told).parameters), arguments)

    def test_what_is_told(self):
        town = town_of(5)
        for told in (cycle(town), ticks(town, 0, 7), ticks_by(town, 0, 7), target(town, 0, town[0][1])):
            self.assertTrue(is_told(told))

    def test_nothing_handed_in_is_changed(self):
        for thing in ([[1, 0], [1, 0]], ([1, 0], [1, 0]), [(1, 0), (1, 0)], {"a": [1]}):
            kept = copy.deepcopy(thing)
            is_town(thing)
            self.assertEqual(thing, kept)

    def test_asked_again_the_same_is_told(self):
        town = town_of(6)
        for turn in range(12):
            self.assertEqual(ticks_by(town, 2, turn), ticks_by(town, 2, turn))
        self.assertEqual(cycle(town), cycle(town))


if __name__ == "__main__":
    unittest.main()
