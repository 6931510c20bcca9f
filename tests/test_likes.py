import copy
import inspect
import math
import random
import unittest

from hearsaybook.likes import like_of
from hearsaybook.rules import whole_rules
from hearsaybook.states import begun, is_state
from hearsaybook.towns import cycle
from hearsaybook.turns import stepped, walked
from hearsaybook.views import agrees, gone_wrongly, views
from tests.anything import is_told
from tests.reckoned import some_cases, some_doings, some_row, some_rules, some_town


def reckoned_like(town, state):
    """like_of, by other means."""
    length = math.lcm(*[pace for pace, start in town]) * len(town) * (len(town) - 1)
    turn, houses = state
    numbers = list(zip(*[[number for number, mark in house[1]] for house in houses]))
    books = [tuple((word[0] - min(column), word[1]) for word, column in zip(house[1], numbers)) for house in houses]
    return (turn % length, tuple((house[0], book) + house[2:] for house, book in zip(houses, books)))


def some_states(seed, many=200):
    """(rules, town, state) behind rows, and of any other kind, in towns of two to eight houses."""
    chance = random.Random(seed)
    for rules, town, state, doings in some_cases(seed, many):
        yield rules, town, state
        turn, houses = state
        lifted = [tuple((number + of * 5 + 3, mark) for of, (number, mark) in enumerate(house[1])) for house in houses]
        yield rules, town, (turn + cycle(town) * chance.randint(0, 3),
                            tuple((house[0], book) + house[2:] for house, book in zip(houses, lifted)))
    for _ in range(many // 4):
        rules, town = some_rules(chance), some_town(chance, chance.randint(2, 8))
        row = some_row(chance, rules, town, begun(rules, town), 30, 0.4, 0.1)
        yield rules, town, walked(rules, town, begun(rules, town), row)[0]


class LikeOf(unittest.TestCase):
    def test_by_hand(self):
        town = ((2, 1), (3, 0))
        one = (1, ((4, 0), (7, 2)), (0, 2), (0, 1))
        other = (0, ((6, 3), (5, 1)), (1, 0), (0, 0))
        for turn, rest in ((0, 0), (11, 11), (12, 0), (13, 1), (24, 0), (35, 11)):
            self.assertEqual(like_of(town, (turn, (one, other))),
                             (rest, ((1, ((0, 0), (2, 2)), (0, 2), (0, 1)), (0, ((2, 3), (0, 1)), (1, 0), (0, 0)))))

    def test_of_begun(self):
        chance = random.Random(111)
        for many in range(2, 9):
            rules, town = some_rules(chance), some_town(chance, many)
            self.assertEqual(like_of(town, begun(rules, town)), begun(rules, town))

    def test_held_against_a_second_reckoning(self):
        for rules, town, state in some_states(112):
            self.assertEqual(like_of(town, state), reckoned_like(town, state))

    def test_of_its_own_answer(self):
        for rules, town, state in some_states(113):
            like = like_of(town, state)
            self.assertEqual(like_of(town, like), like)
            self.assertTrue(is_state(rules, town, like))

    def test_books_of_houses_that_are_not_up_count(self):
        town = ((1, 0), (1, 0))
        up = (1, ((5, 0), (5, 0)), (0, 0), (0, 0))
        for number in (0, 3, 5, 9):
            down = (0, ((5, 0), (number, 0)), (0, 0), (0, 0))
            least = min(5, number)
            self.assertEqual(like_of(town, (0, (up, down))),
                             (0, ((1, ((0, 0), (5 - least, 0)), (0, 0), (0, 0)),
                                  (0, ((0, 0), (number - least, 0)), (0, 0), (0, 0)))))

    def test_what_is_told_of_likes_is_the_same(self):
        for rules, town, state in some_states(114):
            like = like_of(town, state)
            self.assertEqual((views(like), gone_wrongly(like), agrees(like)),
                             (views(state), gone_wrongly(state), agrees(state)))

    def test_likes_go_on_alike(self):
        chance = random.Random(115)
        for rules, town, state in some_states(116):
            like = like_of(town, state)
            for missed, moves in ((0, 0), (0.2, 0), (0.6, 0), (0.2, 0.2)):
                doings = some_doings(chance, state, missed, moves)
                behind, letters = stepped(rules, town, state, doings)
                other, others = stepped(rules, town, like, doings)
                self.assertEqual(letters, others)
                self.assertEqual(like_of(town, behind), like_of(town, other))

    def test_likes_go_on_alike_through_rows(self):
        chance = random.Random(117)
        for rules, town, state in some_states(118, 40):
            for missed in (0, 0.3):
                row = some_row(chance, rules, town, state, 25, missed, 0)
                behind, letters = walked(rules, town, state, row)
                other, others = walked(rules, town, like_of(town, state), row)
                self.assertEqual((like_of(town, behind), letters), (like_of(town, other), others))

    def test_turns_whose_rest_is_none(self):
        rules = whole_rules(1, 2, 2, 2)
        for town in (((1, 0), (1, 0)), ((4, 3), (3, 2), (2, 1)), ((4, 3),) * 8, ((3, 1), (1, 0))):
            turn, houses = begun(rules, town)
            for times in (1, 2, 5):
                later = (cycle(town) * times, houses)
                self.assertEqual(like_of(town, later), (0, houses))
                self.assertEqual(like_of(town, (cycle(town) * times - 1, houses)), (cycle(town) - 1, houses))
                for lost in ((), (0,), (0, 1, 2)):
                    one, letters = stepped(rules, town, later, (lost, (), (), ()))
                    other, others = stepped(rules, town, (0, houses), (lost, (), (), ()))
                    self.assertEqual((one[1], letters), (other[1], others))

    def test_arguments_what_is_told_and_that_nothing_is_changed(self):
        self.assertEqual(list(inspect.signature(like_of).parameters), ["town", "state"])
        for rules, town, state in some_states(119, 40):
            kept = copy.deepcopy((town, state))
            like = like_of(town, state)
            self.assertTrue(is_told(like))
            self.assertEqual(like_of(town, state), like)
            self.assertEqual((town, state), kept)


if __name__ == "__main__":
    unittest.main()
