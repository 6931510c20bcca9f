import copy
import inspect
import itertools
import random
import unittest

from hearsaybook.bounds import gone_by
from hearsaybook.doings import quiet
from hearsaybook.latest import fallen, latest, shows_latest
from hearsaybook.layerlooks import shows_layers
from hearsaybook.layers import layers
from hearsaybook.rules import whole_rules, without
from hearsaybook.states import begun, is_state
from hearsaybook.turns import walked
from hearsaybook.views import gone_everywhere
from tests.anything import Agreeing, Stubborn, anything, is_told, misplaced, nested, resized
from tests.layered import SMALL, lost_rows, marks_of, reckoned_row, some_layers, walked_layers
from tests.reckoned import CLAUSES, some_rules, some_town

THREE = ((1, 0),) * 3


def is_open(state, house):
    """Whether another one that is up doesn't tell the house gone or left."""
    return any(mark < 2 for mark in marks_of(state, house))


class Fallen(unittest.TestCase):
    def test_by_hand(self):
        rules, town = whole_rules(0, 2, 3, 1), ((1, 0), (4, 3))
        up = (1, ((0, 0), (0, 0)), (3, 3), (0, 0))
        down = (0, ((0, 0), (0, 0)), (3, 3), (0, 0))
        self.assertEqual(fallen(rules, town, 0), (0, (down, up)))
        self.assertEqual(fallen(rules, town, 1), (0, (up, down)))

    def test_each_house(self):
        chance = random.Random(101)
        for many in range(2, 9):
            rules, town = some_rules(chance), some_town(chance, many)
            turn, houses = begun(rules, town)
            for house in range(many):
                state = fallen(rules, town, house)
                self.assertEqual(state, (0, houses[:house] + ((0,) + houses[house][1:],) + houses[house + 1:]))
                self.assertTrue(is_state(rules, town, state))
                self.assertTrue(is_told(state))


class Latest(unittest.TestCase):
    def held_against_rows(self, rules, town, house, turns, lost):
        first = fallen(rules, town, house)
        paper = walked_layers(rules, town, first, turns, lost)
        number, row, told = latest(rules, town, house, turns, lost)
        self.assertEqual(told, paper)
        self.assertEqual(number, max(at for at, layer in enumerate(paper)
                                     if any(is_open(state, house) for spent, state in layer)))
        self.assertEqual(len(row), number)
        self.assertTrue(all(doings[1:] == ((), (), ()) for doings in row))
        self.assertLessEqual(reckoned_row(rules, town, first, row)[1], lost)
        self.assertFalse(gone_everywhere(walked(rules, town, first, row)[0], house))
        self.assertIs(shows_latest(rules, town, house, turns, lost, (number, row, told)), True)
        return number

    def test_by_hand(self):
        # House 0 asks 1, which fell, in turns 0, 1 and 2: suspect, once more, gone.
        rules, town = whole_rules(0, 2, 0, 0), ((1, 0), (4, 3))
        for lost in range(3):
            number, row, paper = latest(rules, town, 1, 4, lost)
            self.assertEqual((number, row), (2, (quiet(),) * 2))
            self.assertEqual(paper, layers(rules, town, fallen(rules, town, 1), 4, lost))
            self.assertEqual([len(layer) for layer in paper], [1] * 5)
        # House 1 asks 0 in turns 3, 7 and 11.
        self.assertEqual(latest(rules, town, 0, 8, 0)[0], 8)
        self.assertEqual(latest(rules, town, 0, 12, 0)[0], 11)

    def test_no_turns(self):
        for rules, town, state, turns, lost in some_layers(102, 24, SMALL):
            for house in range(len(town)):
                first = fallen(rules, town, house)
                self.assertEqual(latest(rules, town, house, 0, lost), (0, (), (((0, first),),)))
                self.assertIs(shows_latest(rules, town, house, 0, lost, (0, (), (((0, first),),))), True)

    def test_the_empty_row(self):
        # Without "wait" one that doesn't answer is gone at once.
        rules, town = without(whole_rules(1, 2, 1, 1), "wait"), ((1, 0), (1, 0))
        number, row, paper = latest(rules, town, 1, 3, 2)
        self.assertEqual((number, row), (0, ()))
        self.assertIs(shows_latest(rules, town, 1, 3, 2, (0, (), paper)), True)
        self.assertIs(shows_latest(rules, town, 1, 3, 2, (1, (quiet(),), paper)), False)

    def test_two_houses(self):
        for others, wait, turns, lost in itertools.product((0, 1), (1, 2), (1, 3), (0, 2, 3)):
            for clause in (None,) + CLAUSES:
                for house in range(2):
                    self.held_against_rows(without(whole_rules(others, wait, 1, 1), clause), ((1, 0), (2, 1)), house,
                                           turns, lost)

    def test_three_houses(self):
        for others, (turns, lost) in itertools.product((0, 1), ((2, 2), (4, 1))):
            for clause in (None,) + CLAUSES:
                for house in range(3):
                    self.held_against_rows(without(whole_rules(others, 1, 1, 1), clause), ((1, 0), (2, 1), (1, 0)), house,
                                           turns, lost)

    def test_many_kinds(self):
        for rules, town, state, turns, lost in some_layers(103, 60, SMALL):
            self.held_against_rows(rules, town, len(town) - 1, turns, lost)

    def test_where_nothing_is_lost_it_keeps_to_gone_by(self):
        chance, reached = random.Random(104), 0
        for _ in range(60):
            rules = whole_rules(chance.randint(0, 1), chance.randint(1, 3), chance.randint(0, 3), chance.randint(0, 2))
            town = some_town(chance, chance.randint(2, 3), pace=2)
            for house in range(len(town)):
                most = max(gone_by(rules, town, other) for other in range(len(town)) if other != house)
                number = latest(rules, town, house, 8, 0)[0]
                self.assertLess(number, most)
                reached += number == most - 1
        self.assertGreater(reached, 0)

    def test_lost_letters_may_make_it_later(self):
        rules, town = whole_rules(0, 1, 2, 1), ((2, 1), (1, 0), (2, 1))
        self.assertEqual([latest(rules, town, 2, 8, lost)[0] for lost in range(4)], [3, 4, 5, 5])

    def test_the_most_turns_and_letters(self):
        rules = whole_rules(1, 3, 2, 1)
        for house in range(3):
            told = latest(rules, THREE, house, 8, 6)
            self.assertEqual(len(told[2]), 9)
            self.assertIs(shows_latest(rules, THREE, house, 8, 6, told), True)

    def test_arguments(self):
        self.assertEqual(list(inspect.signature(fallen).parameters), ["rules", "town", "house"])
        self.assertEqual(list(inspect.signature(latest).parameters), ["rules", "town", "house", "turns", "lost"])
        self.assertEqual(list(inspect.signature(shows_latest).parameters),
                         ["rules", "town", "house", "turns", "lost", "thing"])

    def test_what_is_told_and_that_nothing_is_changed(self):
        for rules, town, state, turns, lost in some_layers(105, 24, SMALL):
            kept = copy.deepcopy((rules, town))
            told = latest(rules, town, 0, turns, lost)
            self.assertTrue(is_told(told))
            self.assertEqual(latest(rules, town, 0, turns, lost), told)
            handed = copy.deepcopy(told)
            self.assertIs(shows_latest(rules, town, 0, turns, lost, told), True)
            self.assertEqual((told, (rules, town)), (handed, kept))
            for layer in told[2]:
                self.assertEqual(list(layer), sorted(set(layer)))


class ShowsLatest(unittest.TestCase):
    # House 1 soon tells house 2 gone; house 0 hears it later where letters are lost.
    RULES = whole_rules(0, 1, 2, 1)
    TOWN = ((2, 1), (1, 0), (2, 1))
    HOUSE = 2
    TURNS = 6
    LOST = 2
    FIRST = fallen(RULES, TOWN, HOUSE)
    NUMBER, ROW, PAPER = latest(RULES, TOWN, HOUSE, TURNS, LOST)

    def shows(self, number=NUMBER, row=ROW, paper=PAPER, turns=TURNS, lost=LOST, house=HOUSE):
        return shows_latest(self.RULES, self.TOWN, house, turns, lost, (number, row, paper))

    def with_layer(self, at, layer):
        return self.PAPER[:at] + (tuple(layer),) + self.PAPER[at + 1:]

    def test_what_is_told(self):
        self.assertIs(self.shows(), True)
        self.assertTrue(0 < self.NUMBER < self.TURNS, self.NUMBER)

    def rows(self, seed, turns):
        """Rows of so many turns in which letters are lost."""
        chance = random.Random(seed)
        for _ in range(300):
            yield lost_rows([sorted(chance.sample(range(6), chance.choice((0, 0, 1, 1, 2)))) for _ in range(turns)])

    def test_any_row_that_is_such(self):
        found = {True: 0, False: 0}
        for row in self.rows(106, self.NUMBER):
            state, missed = reckoned_row(self.RULES, self.TOWN, self.FIRST, row)
            due = is_open(state, self.HOUSE) and missed <= self.LOST
            self.assertIs(self.shows(row=row), due)
            found[due] += 1
        self.assertGreater(min(found.values()), 0, found)

    def test_rows_of_other_lengths(self):
        for turns in range(self.TURNS + 2):
            if turns != self.NUMBER:
                for row in itertools.islice(self.rows(107, turns), 20):
                    self.assertIs(self.shows(row=row), False)
        self.assertIs(self.shows(row=self.ROW[1:]), False)
        self.assertIs(self.shows(row=self.ROW + (quiet(),)), False)

    def test_another_number(self):
        for number in (-1, 0, self.NUMBER - 1, self.NUMBER + 1, self.TURNS, self.TURNS + 1, 10 ** 30):
            self.assertIs(self.shows(number=number), False)
        # Such a row of fewer turns there is, but the house isn't gone everywhere in a later layer.
        for number in range(self.NUMBER):
            self.assertIs(self.shows(number=number, row=(quiet(),) * number), False)

    def test_a_number_beyond_the_turns(self):
        rules, town = whole_rules(0, 9, 1, 1), ((1, 0), (1, 0))
        for turns in range(4):
            told = latest(rules, town, 0, turns, 1)
            self.assertEqual(told[0], turns)
            self.assertIs(shows_latest(rules, town, 0, turns, 1, told), True)
            self.assertIs(shows_latest(rules, town, 0, turns, 1, (turns + 1, told[1] + (quiet(),), told[2])), False)

    def test_too_many_lost(self):
        rules, town = whole_rules(0, 9, 1, 1), ((1, 0),) * 3
        number, row, paper = latest(rules, town, 2, 2, 1)
        for rows, many in (([(), ()], 0), ([(0,), ()], 1), ([(), (0,)], 1), ([(0,), (0,)], 2), ([(0, 1), ()], 2),
                           ([(0, 2), (0,)], 2), ([(9, 10), (11,)], 0), ([(0, 9), (10,)], 1)):
            missed = reckoned_row(rules, town, fallen(rules, town, 2), lost_rows(rows))[1]
            self.assertEqual(missed, many, rows)
            due = missed <= 1
            self.assertIs(shows_latest(rules, town, 2, 2, 1, (2, lost_rows(rows), paper)), due)

    def test_falls_leaves_and_comes(self):
        rules, town = whole_rules(0, 9, 1, 1), ((1, 0),) * 3
        number, row, paper = latest(rules, town, 2, 2, 1)
        self.assertIs(shows_latest(rules, town, 2, 2, 1, (2, (quiet(), quiet()), paper)), True)
        for doings in (((), (1,), (), ()), ((), (), (1,), ()), ((), (), (), (2,)), ((), (2,), (), ()), ((), (), (), (1,))):
            for other in ((doings, quiet()), (quiet(), doings)):
                self.assertIs(shows_latest(rules, town, 2, 2, 1, (2, other, paper)), False)

    def test_another_house(self):
        for house in (0, 1):
            self.assertIs(self.shows(house=house), False)

    def test_another_paper_that_is_such(self):
        self.assertIs(self.shows(paper=tuple(layer[::-1] for layer in self.PAPER)), True)
        self.assertIs(self.shows(paper=tuple(layer + layer for layer in self.PAPER)), True)
        for spent, state in self.PAPER[-1]:
            self.assertIs(self.shows(paper=self.with_layer(self.TURNS, self.PAPER[-1] + ((0, state),))), True)

    def test_a_state_less_and_a_number_too_great(self):
        for at, layer in enumerate(self.PAPER):
            for place, (spent, state) in enumerate(layer):
                others = layer[:place] + layer[place + 1:]
                self.assertIs(self.shows(paper=self.with_layer(at, others)), False)
                self.assertIs(self.shows(paper=self.with_layer(at, others + ((spent + 1, state),))), False)

    def test_a_state_that_is_not_gone_everywhere(self):
        # In the last layer a state more may stand, if the house is gone everywhere in it.
        turn, houses = self.PAPER[-1][0][1]
        for mark, due in ((0, False), (1, False), (2, True), (3, True)):
            book = houses[0][1]
            other = (1, book[:2] + ((7, mark),), houses[0][2], (0, 0, 0))
            paper = self.with_layer(self.TURNS, self.PAPER[-1] + ((2, (turn, (other,) + houses[1:])),))
            self.assertIs(shows_layers(self.RULES, self.TOWN, self.FIRST, self.TURNS, self.LOST, paper), True)
            self.assertIs(self.shows(paper=paper), due)

    def test_such_a_state_more_in_the_layer_itself(self):
        # It may stand there, if all that comes of it stands behind it.
        rules, town = whole_rules(0, 1, 1, 1), ((1, 0), (1, 0))
        number, row, paper = latest(rules, town, 1, 2, 1)
        self.assertEqual(number, 1)
        other = (1, fallen(rules, town, 1)[1])
        more = layers(rules, town, other, 1, 0)
        longer = paper[:1] + (paper[1] + ((1, other),), paper[2] + tuple((1, state) for spent, state in more[1]))
        self.assertIs(shows_layers(rules, town, fallen(rules, town, 1), 2, 1, longer), True)
        self.assertIs(shows_latest(rules, town, 1, 2, 1, (1, row, longer)), False)
        self.assertIs(shows_latest(rules, town, 1, 2, 1, (2, (quiet(),) * 2, longer)), False)

    def test_from_another_state(self):
        for state in (begun(self.RULES, self.TOWN), fallen(self.RULES, self.TOWN, 0), (1, self.FIRST[1])):
            self.assertIs(self.shows(paper=layers(self.RULES, self.TOWN, state, self.TURNS, self.LOST)), False)

    def test_of_other_turns_and_lost(self):
        for turns, lost in ((5, 2), (7, 2), (6, 1), (6, 3), (0, 0)):
            self.assertIs(self.shows(turns=turns, lost=lost), False)

    def test_anything(self):
        for thing in anything():
            for whole in (thing, (thing,), (thing,) * 2, (thing,) * 3, (thing,) * 4):
                self.assertIs(shows_latest(self.RULES, self.TOWN, 2, 6, 2, whole), False)
            self.assertIs(self.shows(row=thing), False)
            self.assertIs(self.shows(paper=thing), False)
            self.assertIs(self.shows(row=self.ROW[1:] + (thing,)), False)
            self.assertIs(self.shows(paper=self.PAPER[1:] + (thing,)), False)
            self.assertIs(self.shows(number=thing, row=()), False)

    def test_another_kind_in_each_place(self):
        rules, town = whole_rules(0, 1, 1, 0), ((1, 0), (1, 0))
        told = latest(rules, town, 1, 2, 1)
        self.assertIs(shows_latest(rules, town, 1, 2, 1, told), True)
        for thing in misplaced(told) + resized(told):
            self.assertIs(shows_latest(rules, town, 1, 2, 1, thing), False)

    def test_truths_in_the_place_of_numbers(self):
        rules, town = whole_rules(0, 1, 1, 0), ((1, 0), (1, 0))
        number, row, paper = latest(rules, town, 1, 2, 1)
        self.assertEqual(number, 1)
        self.assertIs(shows_latest(rules, town, 1, 2, 1, (True, row, paper)), False)
        self.assertIs(shows_latest(rules, town, 1, 2, 1, (1, (((False,), (), (), ()),), paper)), False)
        self.assertIs(shows_latest(rules, town, 1, 0, 1, (0, (), paper[:1])), True)
        self.assertIs(shows_latest(rules, town, 1, 0, 1, (False, (), paper[:1])), False)

    def test_lists_in_the_place_of_tuples(self):
        self.assertIs(self.shows(row=list(self.ROW)), False)
        self.assertIs(self.shows(row=tuple(list(doings) for doings in self.ROW)), False)
        self.assertIs(self.shows(paper=list(self.PAPER)), False)
        self.assertIs(self.shows(paper=tuple(list(layer) for layer in self.PAPER)), False)
        self.assertIs(shows_latest(self.RULES, self.TOWN, 2, 6, 2, [self.NUMBER, self.ROW, self.PAPER]), False)

    def test_nested_thirty_deep(self):
        for kind, inmost in itertools.product((tuple, list), (self.ROW, 0, None, Stubborn(), Agreeing())):
            deep = nested(kind, inmost, 24)
            for other in (deep, (deep,) * self.NUMBER, ((deep, (), (), ()),) * self.NUMBER):
                self.assertIs(self.shows(row=other), False)
            for other in (deep, (deep,) * 7, self.PAPER[:-1] + (deep,), self.PAPER[:-1] + ((deep,),)):
                self.assertIs(self.shows(paper=other), False)
            self.assertIs(self.shows(number=deep), False)


if __name__ == "__main__":
    unittest.main()
