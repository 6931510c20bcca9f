import copy
import inspect
import itertools
import random
import unittest

from hearsaybook.bounds import safe_number
from hearsaybook.layerlooks import shows_layers
from hearsaybook.layers import layers
from hearsaybook.leastlost import least_lost, shows_least
from hearsaybook.rules import whole_rules, without
from hearsaybook.states import begun
from hearsaybook.turns import walked
from hearsaybook.views import gone_wrongly
from tests.anything import Agreeing, Stubborn, anything, instead_of, is_told, misplaced, nested, resized
from tests.layered import SMALL, is_wrong, lost_rows, reckoned_row, some_layers, walked_layers
from tests.reckoned import CLAUSES

# House 0 asks 1 in each turn, 1 asks in turn 3 alone: by one lost letter 1 is suspect, by a second one gone.
RULES = whole_rules(0, 1, 0, 0)
TOWN = ((1, 0), (4, 3))
ROW = lost_rows([(0,), (0,)])

THREE = ((1, 0),) * 3


class LeastLost(unittest.TestCase):
    def held_against_rows(self, rules, town, turns, lost):
        paper = walked_layers(rules, town, begun(rules, town), turns, lost)
        numbers = [number for layer in paper for number, state in layer if is_wrong(state)]
        told = least_lost(rules, town, turns, lost)
        if not numbers:
            self.assertEqual(told, ("none", paper))
            return
        word, number, row = told
        self.assertEqual((word, number), ("lost", min(numbers)))
        self.assertLessEqual(len(row), turns)
        self.assertTrue(all(doings[1:] == ((), (), ()) for doings in row))
        self.assertEqual(reckoned_row(rules, town, begun(rules, town), row)[1], number)
        self.assertTrue(gone_wrongly(walked(rules, town, begun(rules, town), row)[0]))

    def test_by_hand(self):
        told = least_lost(RULES, TOWN, 2, 2)
        self.assertEqual(told[:2], ("lost", 2))
        self.assertIn(told[2], [lost_rows(pair) for pair in itertools.product(([0], [1]), repeat=2)])
        for turns, lost in ((1, 2), (1, 6), (2, 1), (8, 1)):
            self.assertEqual(least_lost(RULES, TOWN, turns, lost),
                             ("none", layers(RULES, TOWN, begun(RULES, TOWN), turns, lost)))

    def test_no_turns_and_nothing_lost(self):
        state = begun(RULES, TOWN)
        self.assertEqual(least_lost(RULES, TOWN, 0, 6), ("none", (((0, state),),)))
        self.assertEqual(least_lost(RULES, TOWN, 0, 0), ("none", (((0, state),),)))
        for rules, town, state, turns, lost in some_layers(91, 24, SMALL):
            self.assertEqual(least_lost(rules, town, 0, lost), ("none", (((0, begun(rules, town)),),)))
            self.held_against_rows(rules, town, turns, 0)

    def test_two_houses(self):
        for others, wait, turns, lost in itertools.product((0, 1), (1, 2), (1, 2, 3), range(5)):
            for clause in (None,) + CLAUSES:
                self.held_against_rows(without(whole_rules(others, wait, 1, 1), clause), ((1, 0), (2, 1)), turns, lost)

    def test_three_houses(self):
        for others, wait, (turns, lost) in itertools.product((0, 1), (1, 2), ((1, 2), (2, 2), (3, 1))):
            for clause in (None,) + CLAUSES:
                self.held_against_rows(without(whole_rules(others, wait, 1, 1), clause), ((1, 0), (2, 1), (1, 0)),
                                       turns, lost)

    def test_many_kinds(self):
        for rules, town, state, turns, lost in some_layers(92, 80, SMALL):
            self.held_against_rows(rules, town, turns, lost)

    def test_no_number_below_the_safe_one(self):
        told = []
        for others, wait, town in itertools.product((0, 1), (1, 2), (TOWN, ((1, 0), (1, 0)), THREE, ((1, 0), (3, 1), (2, 0)))):
            rules = whole_rules(others, wait, 1, 1)
            for lost in range(5):
                found = least_lost(rules, town, 4, lost)
                if found[0] == "lost":
                    told.append(found[1] - safe_number(rules, town))
        self.assertGreaterEqual(min(told), 0)
        self.assertIn(0, told)

    def test_with_a_clause_left_out_fewer_may_do(self):
        whole = whole_rules(1, 2, 2, 1)
        self.assertEqual(least_lost(without(whole, "wait"), THREE, 1, 6)[1], 2)
        self.assertEqual(least_lost(without(whole, "others"), THREE, 3, 6)[1], 3)
        self.assertEqual(least_lost(whole, THREE, 3, 6)[1], 6)
        self.assertEqual(least_lost(whole, THREE, 3, 5)[0], "none")

    def test_the_most_turns_and_letters(self):
        for rules, town in ((whole_rules(1, 3, 2, 1), THREE), (whole_rules(0, 3, 2, 1), ((1, 0), (1, 0)))):
            told = least_lost(rules, town, 8, 6)
            self.assertIs(shows_least(rules, town, 8, 6, told), True)
            self.assertEqual(told[0], "none" if len(town) == 3 else "lost")

    def test_arguments(self):
        self.assertEqual(list(inspect.signature(least_lost).parameters), ["rules", "town", "turns", "lost"])
        self.assertEqual(list(inspect.signature(shows_least).parameters), ["rules", "town", "turns", "lost", "thing"])

    def test_what_is_told_and_that_nothing_is_changed(self):
        for rules, town, state, turns, lost in some_layers(93, 24, SMALL):
            kept = copy.deepcopy((rules, town))
            told = least_lost(rules, town, turns, lost)
            self.assertTrue(is_told(told))
            self.assertEqual(least_lost(rules, town, turns, lost), told)
            handed = copy.deepcopy(told)
            self.assertIs(shows_least(rules, town, turns, lost, told), True)
            self.assertEqual((told, (rules, town)), (handed, kept))
            if told[0] == "none":
                for layer in told[1]:
                    self.assertEqual(list(layer), sorted(set(layer)))


class ShowsARow(unittest.TestCase):
    def shows(self, number, row, turns=4, lost=4):
        return shows_least(RULES, TOWN, turns, lost, ("lost", number, row))

    def test_rows_that_are_such(self):
        for pair in itertools.product(((0,), (1,)), repeat=2):
            self.assertIs(self.shows(2, lost_rows(pair)), True)
        # It need not be the least number.
        self.assertIs(self.shows(2, lost_rows([(), (0,), (1,)])), True)
        self.assertIs(self.shows(3, lost_rows([(0,), (), (0,), (0,)])), True)

    def test_many_rows_held_against_a_second_reckoning(self):
        chance, found = random.Random(94), {True: 0, False: 0}
        for rules, town, state, turns, lost in some_layers(95, 60, [(2, 4, 6), (3, 4, 6)]):
            for _ in range(15):
                rows = [sorted(chance.sample(range(9), chance.randint(0, 3))) for _ in range(chance.randint(0, 5))]
                row = lost_rows(rows)
                behind, missed = reckoned_row(rules, town, begun(rules, town), row)
                due = is_wrong(behind) and len(row) <= turns and missed <= lost
                self.assertIs(shows_least(rules, town, turns, lost, ("lost", missed, row)), due)
                self.assertIs(shows_least(rules, town, turns, lost, ("lost", missed + 1, row)), False)
                self.assertIs(shows_least(rules, town, turns, lost, ("lost", missed - 1, row)), False)
                found[due] += 1
        self.assertGreater(min(found.values()), 50, found)

    def test_another_number(self):
        for number in (-1, 0, 1, 3, 4, 5, 10 ** 30, -2):
            self.assertIs(self.shows(number, ROW), False)

    def test_a_row_that_goes_on(self):
        # In a turn in which nothing is lost house 1 refutes; else it stays gone.
        self.assertIs(self.shows(2, ROW + lost_rows([()])), False)
        self.assertIs(self.shows(3, ROW + lost_rows([(0,)])), True)
        self.assertIs(self.shows(2, ROW + lost_rows([(0,)])), False)
        self.assertIs(self.shows(3, ROW + lost_rows([(1,)])), True)

    def test_a_row_that_ends_too_early(self):
        self.assertIs(self.shows(1, ROW[:1]), False)
        self.assertIs(self.shows(1, ROW[1:]), False)
        self.assertIs(self.shows(0, ()), False)

    def test_at_most_so_many_turns(self):
        self.assertIs(self.shows(2, ROW, turns=2), True)
        self.assertIs(self.shows(2, ROW, turns=1), False)
        self.assertIs(self.shows(2, ROW, turns=0), False)
        self.assertIs(self.shows(2, lost_rows([(), (), (0,), (0,)]), turns=4), True)
        self.assertIs(self.shows(2, lost_rows([(), (), (0,), (0,)]), turns=3), False)
        self.assertIs(self.shows(2, lost_rows([(), (0,), (0,)]), turns=3), True)
        self.assertIs(self.shows(2, lost_rows([(), (0,), (0,)]), turns=2), False)

    def test_at_most_so_many_lost(self):
        self.assertIs(self.shows(2, ROW, lost=2), True)
        self.assertIs(self.shows(2, ROW, lost=1), False)
        self.assertIs(self.shows(2, ROW, lost=0), False)
        self.assertIs(self.shows(3, ROW + lost_rows([(0,)]), lost=2), False)

    def test_numbers_of_no_letter(self):
        # When letter 0 is lost, there is none beside it.
        for row in ([(0, 1), (0,)], [(0, 7, 10 ** 30), (0, 1, 2)], [(1, 2), (1, 2)]):
            self.assertIs(self.shows(2, lost_rows(row)), True)
            self.assertIs(self.shows(sum(len(lost) for lost in row), lost_rows(row)), False)
        self.assertIs(self.shows(2, lost_rows([(0, 1), (0, 1)]), lost=2), True)
        self.assertIs(self.shows(2, lost_rows([(2,), (3,)])), False)
        self.assertIs(self.shows(0, lost_rows([(2,), (3,)])), False)

    def test_falls_leaves_and_comes(self):
        # House 2 isn't needed for 1 to be gone wrongly at 0.
        rules, town = whole_rules(0, 1, 0, 0), ((1, 0), (4, 3), (4, 3))
        row = lost_rows([(0,), (0, 2)])
        self.assertIs(shows_least(rules, town, 4, 6, ("lost", 3, row)), True)
        for other in ((((0,), (2,), (), ()), row[1]), (((2,), (), (2,), ()), row[1]), (row[0], ((0, 2), (2,), (), ())),
                      (row[0], ((3,), (), (2,), ())), (((0,), (2,), (), ()), ((2, 4), (), (), (2,)))):
            state, missed = reckoned_row(rules, town, begun(rules, town), other)
            self.assertTrue(is_wrong(state))
            self.assertIs(shows_least(rules, town, 4, 6, ("lost", missed, other)), False)

    def test_doings_that_are_none(self):
        for lost in ((1, 0), (0, 0), (-1, 0), (0, True), (False,), (0.0,), ("0",), (None,), ((0,),), [0], {0: 0}, "0", 0):
            for row in (((lost, (), (), ()), ROW[1]), (ROW[0], (lost, (), (), ()))):
                for number in (1, 2, 3):
                    self.assertIs(self.shows(number, row), False)
        for doings in (((0,),), ((0,), (), ()), ((0,), (), (), (), ()), ((0,), [], (), ()), ((0,), (), (), None),
                       ((0,), (9,), (), ()), ((0,), (), (), (1,)), [(0,), (), (), ()], (0,), (), None):
            for row in ((doings, ROW[1]), (ROW[0], doings)):
                self.assertIs(self.shows(2, row), False)


class ShowsAPaper(unittest.TestCase):
    RULES = whole_rules(0, 2, 1, 1)
    TOWN = ((1, 0), (1, 0))
    STATE = begun(RULES, TOWN)
    PAPER = layers(RULES, TOWN, STATE, 3, 2)

    def shows(self, paper, turns=3, lost=2):
        return shows_least(self.RULES, self.TOWN, turns, lost, ("none", paper))

    def with_layer(self, at, layer):
        return self.PAPER[:at] + (tuple(layer),) + self.PAPER[at + 1:]

    def test_the_paper_told(self):
        self.assertEqual(least_lost(self.RULES, self.TOWN, 3, 2), ("none", self.PAPER))
        self.assertIs(self.shows(self.PAPER), True)

    def test_other_papers_that_are_such(self):
        self.assertIs(self.shows(tuple(layer[::-1] for layer in self.PAPER)), True)
        self.assertIs(self.shows(tuple(layer + layer for layer in self.PAPER)), True)
        for number, state in self.PAPER[3]:
            for other in (0, 1, 2):
                self.assertIs(self.shows(self.with_layer(3, self.PAPER[3] + ((other, state),))), True)

    def test_a_state_less_and_a_number_too_great(self):
        for at, layer in enumerate(self.PAPER):
            for place, (number, state) in enumerate(layer):
                others = layer[:place] + layer[place + 1:]
                self.assertIs(self.shows(self.with_layer(at, others)), False)
                self.assertIs(self.shows(self.with_layer(at, others + ((number + 1, state),))), False)

    def test_a_state_in_which_a_house_is_gone_wrongly(self):
        turn, houses = self.STATE
        wrong = (3, (houses[0], (1, ((0, 2), (0, 0)), (1, 1), (0, 0))))
        left = (3, (houses[0], (1, ((0, 3), (0, 0)), (1, 1), (0, 0))))
        down = (3, (houses[0], (0, ((0, 2), (0, 0)), (1, 1), (0, 0))))
        for state, due in ((wrong, False), (left, False), (down, True)):
            paper = self.with_layer(3, self.PAPER[3] + ((2, state),))
            self.assertIs(shows_layers(self.RULES, self.TOWN, self.STATE, 3, 2, paper), True)
            self.assertIs(self.shows(paper), due)

    def test_where_a_house_may_be_gone_wrongly(self):
        paper = layers(RULES, TOWN, begun(RULES, TOWN), 2, 2)
        self.assertIs(shows_layers(RULES, TOWN, begun(RULES, TOWN), 2, 2, paper), True)
        self.assertIs(shows_least(RULES, TOWN, 2, 2, ("none", paper)), False)
        less = tuple(tuple(pair for pair in layer if not is_wrong(pair[1])) for layer in paper)
        self.assertIs(shows_least(RULES, TOWN, 2, 2, ("none", less)), False)

    def test_of_other_turns_and_lost(self):
        for turns, lost in ((2, 2), (4, 2), (3, 3), (3, 1), (0, 0)):
            self.assertIs(self.shows(self.PAPER, turns, lost), False)
        self.assertIs(self.shows(self.PAPER[:3], 2), True)
        self.assertIs(self.shows(self.PAPER[:1], 0), True)
        self.assertIs(self.shows(self.PAPER[:1], 0, 0), True)

    def test_from_another_state(self):
        state = self.PAPER[1][0][1]
        self.assertIs(self.shows(layers(self.RULES, self.TOWN, state, 3, 2)), False)


class OfAnything(unittest.TestCase):
    def shows(self, thing, turns=2, lost=2):
        return shows_least(RULES, TOWN, turns, lost, thing)

    def test_anything(self):
        paper = layers(RULES, TOWN, begun(RULES, TOWN), 1, 1)
        for thing in anything():
            for whole in (thing, (thing,), (thing, thing), (thing, thing, thing), ("none", thing), ("lost", 2, thing),
                          ("lost", thing, ROW[1:]), (thing, paper), (thing, 2, ROW), ("lost", 2, (ROW[0], thing)),
                          ("lost", 2, ((thing, (), (), ()), ROW[1], ROW[1])), ("lost", 2, (((0,), thing), ROW[1]))):
                self.assertIs(self.shows(whole, 1, 1), False)
                self.assertIs(self.shows(whole), False)

    def test_the_other_word(self):
        paper = layers(RULES, TOWN, begun(RULES, TOWN), 1, 1)
        self.assertIs(self.shows(("none", paper), 1, 1), True)
        self.assertIs(self.shows(("lost", 2, ROW)), True)
        for word in ("None", "none ", "", "lost", "LOST", b"none", "los", None, Agreeing(), Stubborn(), ("none",)):
            self.assertIs(self.shows((word, paper), 1, 1), False)
        for word in ("none", "", "Lost", " lost", b"lost", None, Agreeing(), Stubborn(), ["lost"], 0, True):
            self.assertIs(self.shows((word, 2, ROW)), False)
        for thing in (("none", 2, ROW), ("none", 0, paper), ("lost", ROW), ("lost", paper), ("none",), ("lost",),
                      ("lost", 2), "none", "lost", paper, ROW, ("none", ROW), ("lost", ROW, 2), ["lost", 2, ROW]):
            self.assertIs(self.shows(thing), False)
            self.assertIs(self.shows(thing, 1, 1), False)

    def test_another_kind_in_each_place(self):
        for thing in misplaced(("lost", 2, ROW)):
            self.assertIs(self.shows(thing), False)
        told = least_lost(RULES, TOWN, 1, 1)
        for thing in misplaced(told):
            self.assertIs(self.shows(thing, 1, 1), False)

    def test_truths_in_the_place_of_numbers(self):
        rules, town = without(whole_rules(0, 1, 0, 0), "wait"), TOWN
        self.assertIs(shows_least(rules, town, 1, 1, ("lost", 1, lost_rows([(0,)]))), True)
        self.assertIs(shows_least(rules, town, 1, 1, ("lost", True, lost_rows([(0,)]))), False)
        self.assertIs(shows_least(rules, town, 1, 1, ("lost", 1, lost_rows([(False,)]))), False)

    def test_tuples_too_short_and_too_long(self):
        for thing in resized(("lost", 2, ROW)) + resized(least_lost(RULES, TOWN, 1, 1)):
            self.assertIs(self.shows(thing), False)
            self.assertIs(self.shows(thing, 1, 1), False)

    def test_lists_in_the_place_of_tuples(self):
        for row in (list(ROW), [list(doings) for doings in ROW], tuple(list(doings) for doings in ROW)):
            self.assertIs(self.shows(("lost", 2, row)), False)
        word, paper = least_lost(RULES, TOWN, 1, 1)
        for other in (list(paper), tuple(list(layer) for layer in paper)):
            self.assertIs(self.shows((word, other), 1, 1), False)

    def test_nested_thirty_deep(self):
        for kind, inmost in itertools.product((tuple, list), (ROW, 0, None, Stubborn(), Agreeing())):
            deep = nested(kind, inmost, 26)
            for thing in (deep, ("none", deep), ("lost", 2, deep), ("lost", deep, ROW), ("lost", 2, (ROW[0], deep)),
                          ("none", (deep, deep)), ("lost", 2, ((deep, (), (), ()),))):
                self.assertIs(self.shows(thing), False)

    def test_each_other_thing_of_this_kind(self):
        for other in instead_of(("lost", 2, ROW)):
            self.assertIs(self.shows(other), False)


if __name__ == "__main__":
    unittest.main()
