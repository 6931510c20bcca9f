import copy
import inspect
import itertools
import random
import unittest

from hearsaybook.doings import quiet
from hearsaybook.layerlooks import shows_layers
from hearsaybook.layers import layers
from hearsaybook.rules import whole_rules, without
from hearsaybook.states import begun, is_state
from hearsaybook.turns import stepped, walked
from tests.anything import Agreeing, Stubborn, anything, instead_of, is_told, misplaced, nested, resized
from tests.layered import SMALL, some_layers, walked_layers

RULES = whole_rules(1, 2, 2, 1)
TOWN = ((1, 0), (2, 1), (1, 0))
PAIR = ((1, 0), (1, 0))


class Layers(unittest.TestCase):
    def test_by_hand(self):
        # House 0 asks 1: its letter or the answer is lost, and it suspects 1; nobody else asks.
        rules, town = whole_rules(0, 2, 0, 0), ((1, 0), (4, 3))
        first = begun(rules, town)
        suspects = (1, ((1, ((0, 0), (0, 1)), (0, 0), (0, 2)), first[1][1]))
        self.assertEqual(layers(rules, town, first, 1, 1), (((0, first),), ((0, (1, first[1])), (1, suspects))))
        # In the next turn 1 refutes, unless the letter is lost, or its answer, which 1 then refuted, too.
        refuted = (2, ((1, ((0, 0), (1, 0)), (0, 0), (0, 0)), (1, ((0, 0), (1, 0)), (0, 0), (0, 0))))
        again = (2, ((1, ((0, 0), (0, 1)), (0, 0), (0, 1)), first[1][1]))
        unheard = (2, ((1, ((0, 0), (0, 1)), (0, 0), (0, 1)), (1, ((0, 0), (1, 0)), (0, 0), (0, 0))))
        self.assertEqual(layers(rules, town, first, 2, 2)[2],
                         tuple(sorted([(0, (2, first[1])), (1, (2, suspects[1])), (1, refuted), (2, again),
                                       (2, unheard)])))

    def test_no_turns(self):
        for rules, town, state, turns, lost in some_layers(81, 24, SMALL):
            self.assertEqual(layers(rules, town, state, 0, lost), (((0, state),),))

    def test_nothing_lost(self):
        for rules, town, state, turns, lost in some_layers(82, 24, SMALL):
            expected = tuple(((0, walked(rules, town, state, (quiet(),) * turn)[0]),) for turn in range(9))
            self.assertEqual(layers(rules, town, state, 8, 0), expected)

    def test_held_against_all_rows(self):
        for rules, town, state, turns, lost in some_layers(83, 80, SMALL):
            self.assertEqual(layers(rules, town, state, turns, lost), walked_layers(rules, town, state, turns, lost))

    def test_each_number_of_turns_and_of_lost(self):
        for rules, town in ((RULES, PAIR), (whole_rules(0, 1, 1, 1), ((1, 0), (2, 1))), (RULES, ((2, 0), (1, 0), (2, 1)))):
            for turns, lost in itertools.product(range(3), range(4)):
                state = begun(rules, town)
                self.assertEqual(layers(rules, town, state, turns, lost),
                                 walked_layers(rules, town, state, turns, lost))

    def test_some_rows_of_many_turns_and_letters(self):
        chance = random.Random(84)
        for others, wait, town in ((1, 1, ((1, 0),) * 3), (1, 2, TOWN), (0, 2, ((1, 0),) * 3), (1, 1, PAIR)):
            rules = whole_rules(others, wait, 2, 1)
            found = layers(rules, town, begun(rules, town), 6, 5)
            for _ in range(60):
                state, spent = begun(rules, town), 0
                for turn in range(6):
                    lost = tuple(sorted(chance.sample(range(8), min(5 - spent, chance.randint(0, 2)))))
                    state, letters = stepped(rules, town, state, (lost, (), (), ()))
                    spent += len([1 for x, y, missed in letters if missed])
                    numbers = [number for number, each in found[turn + 1] if each == state]
                    self.assertEqual(len(numbers), 1)
                    self.assertLessEqual(numbers[0], spent)

    def test_the_greatest(self):
        rules, town = whole_rules(1, 2, 2, 1), ((1, 0),) * 3
        found = layers(rules, town, begun(rules, town), 8, 6)
        self.assertEqual([len(layer) for layer in found], [1, 25, 236, 571, 782, 843, 854, 903, 910])

    def test_houses_that_are_not_up(self):
        # Letters to a house that isn't up needn't be lost: so with one lost as much comes as with two.
        rules, town = whole_rules(1, 2, 2, 1), ((1, 0),) * 3
        state = walked(rules, town, begun(rules, town), (((), (2,), (), ()),))[0]
        self.assertEqual(layers(rules, town, state, 2, 2), walked_layers(rules, town, state, 2, 2))
        alone = walked(rules, town, begun(rules, town), (((), (1, 2), (), ()),))[0]
        self.assertEqual([len(layer) for layer in layers(rules, town, alone, 4, 6)], [1] * 5)

    def test_somewhat_beyond_the_bounds(self):
        rules, town = whole_rules(2, 1, 1, 1), ((1, 0), (2, 1), (2, 0), (4, 3))
        self.assertEqual(layers(rules, town, begun(rules, town), 2, 2),
                         walked_layers(rules, town, begun(rules, town), 2, 2))
        self.assertEqual(len(layers(RULES, PAIR, begun(RULES, PAIR), 12, 9)), 13)

    def test_rising_and_each_state_once(self):
        for rules, town, state, turns, lost in some_layers(85, 30, SMALL):
            for turn, layer in enumerate(layers(rules, town, state, turns, lost)):
                self.assertEqual(list(layer), sorted(set(layer)))
                self.assertEqual(len({each for number, each in layer}), len(layer))
                self.assertTrue(all(0 <= number <= lost for number, each in layer))
                self.assertTrue(all(each[0] == state[0] + turn for number, each in layer))


class ShowsLayers(unittest.TestCase):
    STATE = begun(RULES, TOWN)
    PAPER = layers(RULES, TOWN, STATE, 3, 3)

    def shows(self, thing, turns=3, lost=3, state=STATE):
        return shows_layers(RULES, TOWN, state, turns, lost, thing)

    def with_layer(self, at, layer):
        return self.PAPER[:at] + (tuple(layer),) + self.PAPER[at + 1:]

    def other_layers(self):
        """Each layer with its place, each pair of it, and all others of it."""
        for at, layer in enumerate(self.PAPER):
            for place, pair in enumerate(layer):
                yield at, pair, layer[:place] + layer[place + 1:]

    def test_what_layers_tells(self):
        self.assertIs(self.shows(self.PAPER), True)
        for rules, town, state, turns, lost in some_layers(86, 60, SMALL):
            paper = layers(rules, town, state, turns, lost)
            self.assertIs(shows_layers(rules, town, state, turns, lost, paper), True)

    def test_no_turns(self):
        self.assertIs(self.shows((((0, self.STATE),),), turns=0), True)
        self.assertIs(self.shows((((0, self.STATE),),), turns=0, lost=0), True)
        self.assertIs(self.shows((((0, self.STATE), (3, self.STATE)),), turns=0), True)
        for thing in ((), ((),), (((1, self.STATE),),), (((0, (1, self.STATE[1])),),), self.PAPER, self.PAPER[:2]):
            self.assertIs(self.shows(thing, turns=0), False)

    def test_nothing_lost(self):
        paper = layers(RULES, TOWN, self.STATE, 3, 0)
        self.assertIs(self.shows(paper, lost=0), True)
        # One lost letter alone changes nothing here, as the answer comes through another house; two do.
        self.assertIs(self.shows(paper, lost=1), True)
        self.assertIs(self.shows(paper, lost=2), False)
        self.assertIs(self.shows(self.PAPER, lost=0), False)

    def test_with_another_number_of_lost(self):
        self.assertIs(self.shows(self.PAPER, lost=4), False)
        # Here numbers of more than are lost stand in it.
        self.assertIs(self.shows(self.PAPER, lost=2), False)

    def test_another_order(self):
        chance = random.Random(87)
        self.assertIs(self.shows(tuple(layer[::-1] for layer in self.PAPER)), True)
        for _ in range(5):
            self.assertIs(self.shows(tuple(tuple(chance.sample(layer, len(layer))) for layer in self.PAPER)), True)

    def test_a_pair_twice(self):
        for at, pair, others in self.other_layers():
            self.assertIs(self.shows(self.with_layer(at, others + (pair, pair))), True)

    def test_a_pair_more_with_a_greater_number(self):
        for at, (number, state), others in self.other_layers():
            for greater in range(number + 1, 4):
                self.assertIs(self.shows(self.with_layer(at, self.PAPER[at] + ((greater, state),))), True)
                self.assertIs(self.shows(self.with_layer(at, ((greater, state),) + self.PAPER[at])), True)

    def test_a_state_is_missing(self):
        for at, pair, others in self.other_layers():
            self.assertIs(self.shows(self.with_layer(at, others)), False)

    def test_a_number_is_too_great(self):
        for at, (number, state), others in self.other_layers():
            for greater in range(number + 1, 5):
                self.assertIs(self.shows(self.with_layer(at, others + ((greater, state),))), False)

    def test_a_number_is_less_than_must_be_lost(self):
        # In the last layer nothing asks for more; ahead of it, whatever comes of that state would have to be there.
        for number, state in self.PAPER[3]:
            others = tuple(pair for pair in self.PAPER[3] if pair[1] != state)
            for less in range(number):
                self.assertIs(self.shows(self.with_layer(3, others + ((less, state),))), True)
        found = []
        for number, state in self.PAPER[1]:
            for less in range(number):
                found.append(self.shows(self.with_layer(1, self.PAPER[1] + ((less, state),))))
        self.assertEqual(set(found), {False})

    def test_a_number_beyond_lost(self):
        for at in range(4):
            number, state = self.PAPER[at][-1]
            for other in (4, 5, 10 ** 30, -1, -10 ** 30):
                self.assertIs(self.shows(self.with_layer(at, self.PAPER[at] + ((other, state),))), False)
                self.assertIs(self.shows(self.with_layer(at, ((other, state),) + self.PAPER[at])), False)

    def test_another_state_more(self):
        turn, houses = self.STATE
        for state in ((9, houses), (0, ((0,) + houses[0][1:],) + houses[1:]),
                      (3, ((1, ((5, 2), (0, 1), (0, 0)), (0, 1, 2), (0, 2, 0)),) + houses[1:])):
            # In the last layer it may stand; ahead of it so, too, if all that comes of it does.
            self.assertIs(self.shows(self.with_layer(3, self.PAPER[3] + ((2, state),))), True)
            for at in range(3):
                self.assertIs(self.shows(self.with_layer(at, self.PAPER[at] + ((2, state),))), False)
                more = layers(RULES, TOWN, state, 3 - at, 1)
                paper = self.PAPER[:at] + tuple(layer + tuple((number + 2, each) for number, each in extra)
                                                for layer, extra in zip(self.PAPER[at:], more))
                self.assertIs(self.shows(paper), True)

    def test_the_first_layer(self):
        turn, houses = self.STATE
        for first in ((), ((1, self.STATE),), ((0, (1, houses)),), ((0, (0, houses[:2] + ((0,) + houses[2][1:],))),),
                      ((1, self.STATE), (2, self.STATE))):
            self.assertIs(self.shows((first,) + self.PAPER[1:]), False)
        self.assertIs(self.shows((((3, self.STATE), (0, self.STATE)),) + self.PAPER[1:]), True)

    def test_from_another_state(self):
        for at in range(1, 4):
            for number, state in self.PAPER[at]:
                self.assertIs(self.shows(self.PAPER, state=state), False)

    def test_layers_too_few_and_too_many(self):
        for turns in (0, 1, 2, 4, 5, 8):
            self.assertIs(self.shows(self.PAPER, turns=turns), False)
        for thing in resized(self.PAPER) + [self.PAPER + ((),), ((),) + self.PAPER]:
            self.assertIs(self.shows(thing), False)
        self.assertIs(self.shows(self.PAPER[:3], turns=2), True)

    def test_layers_that_are_empty(self):
        for at in range(4):
            self.assertIs(self.shows(self.with_layer(at, ())), False)
        self.assertIs(self.shows(((),) * 4), False)

    def test_clauses_left_out(self):
        whole, town = whole_rules(1, 2, 2, 1), ((1, 0),) * 3
        papers = {clause: layers(without(whole, clause), town, begun(whole, town), 3, 3) for clause in ("wait", "others")}
        for clause, paper in papers.items():
            self.assertIs(shows_layers(without(whole, clause), town, begun(whole, town), 3, 3, paper), True)
            self.assertIs(shows_layers(whole, town, begun(whole, town), 3, 3, paper), False)

    def test_states_with_the_greatest_numbers(self):
        turn, houses = begun(RULES, PAIR)
        for number in (0, 10 ** 6 - 1, 10 ** 6):
            state = (turn, (houses[0], (1, ((0, 0), (number, 0)), (2, 2), (0, 0))))
            paper = layers(RULES, PAIR, state, 0, 1)
            self.assertIs(shows_layers(RULES, PAIR, state, 0, 1, paper), True)


class ShowsLayersOfAnything(unittest.TestCase):
    RULES = whole_rules(0, 1, 1, 0)
    STATE = begun(RULES, PAIR)
    PAPER = layers(RULES, PAIR, STATE, 1, 1)

    def shows(self, thing, turns=1):
        return shows_layers(self.RULES, PAIR, self.STATE, turns, 1, thing)

    def test_the_paper_itself(self):
        self.assertIs(self.shows(self.PAPER), True)

    def test_anything(self):
        for thing in anything() + instead_of(self.PAPER):
            self.assertIs(self.shows(thing), False)
            self.assertIs(self.shows((thing,) + self.PAPER[1:]), False)
            self.assertIs(self.shows(self.PAPER[:1] + (thing,)), False)
            self.assertIs(self.shows((self.PAPER[0] + (thing,),) + self.PAPER[1:]), False)
            self.assertIs(self.shows(self.PAPER[:1] + (self.PAPER[1] + (thing,),)), False)
            self.assertIs(self.shows(self.PAPER[:1] + (self.PAPER[1] + ((1, thing),),)), False)
            fits = type(thing) is int and 0 <= thing <= 1
            self.assertIs(self.shows(self.PAPER[:1] + (self.PAPER[1] + ((thing, self.STATE),),)), fits)
            for turns in (0, 1, 3):
                self.assertIs(self.shows(thing, turns), False)

    def test_other_kinds_within(self):
        for thing in misplaced(self.PAPER):
            self.assertIs(self.shows(thing), False)

    def test_truths_in_the_place_of_numbers(self):
        turn, houses = self.STATE
        for first in ((False, self.STATE), (0, (False, houses)), (0, (0, ((True,) + houses[0][1:],) + houses[1:]))):
            self.assertIs(self.shows(((first,),) + self.PAPER[1:]), False)

    def test_lists_in_the_place_of_tuples(self):
        self.assertIs(self.shows(list(self.PAPER)), False)
        self.assertIs(self.shows(tuple(list(layer) for layer in self.PAPER)), False)
        self.assertIs(self.shows(tuple(tuple(list(pair) for pair in layer) for layer in self.PAPER)), False)

    def test_tuples_too_short_and_too_long(self):
        for at, layer in enumerate(self.PAPER):
            for place, (number, state) in enumerate(layer):
                others = resized((number, state)) + [(number, other) for other in resized(state)]
                others += [(number, (state[0], other)) for other in resized(state[1])]
                for other in others:
                    changed = layer[:place] + (other,) + layer[place + 1:]
                    self.assertIs(self.shows(self.PAPER[:at] + (changed,) + self.PAPER[at + 1:]), False)
                    self.assertIs(self.shows(self.PAPER[:at] + (layer + (other,),) + self.PAPER[at + 1:]), False)

    def test_states_that_are_none(self):
        turn, houses = self.STATE
        up, book, told, timers = houses[1]
        for house in ((2, book, told, timers), (1, ((0, 0), (0, 4)), told, timers), (1, book, (0, 2), timers),
                      (1, book, told, (2, 0)), (1, book, told, (0, 1)), (0, book, told, (1, 0)),
                      (1, ((0, 0), (10 ** 6 + 1, 0)), told, timers), (1, ((0, 0), (-1, 0)), told, timers)):
            state = (1, houses[:1] + (house,))
            self.assertIs(is_state(self.RULES, PAIR, state), False)
            self.assertIs(self.shows(self.PAPER[:1] + (self.PAPER[1] + ((1, state),),)), False)
        self.assertIs(self.shows(self.PAPER[:1] + (self.PAPER[1] + ((1, (-1, houses)),),)), False)

    def test_nested_thirty_deep(self):
        for kind, inmost in itertools.product((tuple, list), (self.PAPER, self.STATE, 0, None, Stubborn(), Agreeing())):
            deep = nested(kind, inmost, 26)
            for thing in (deep, (deep, deep), (self.PAPER[0], deep), (self.PAPER[0], (deep,)),
                          (self.PAPER[0], self.PAPER[1] + ((0, deep),))):
                self.assertIs(self.shows(thing), False)


class All(unittest.TestCase):
    def test_arguments(self):
        self.assertEqual(list(inspect.signature(layers).parameters), ["rules", "town", "state", "turns", "lost"])
        self.assertEqual(list(inspect.signature(shows_layers).parameters),
                         ["rules", "town", "state", "turns", "lost", "thing"])

    def test_what_is_told_and_that_nothing_is_changed(self):
        for rules, town, state, turns, lost in some_layers(88, 24, SMALL):
            kept = copy.deepcopy((rules, town, state))
            paper = layers(rules, town, state, turns, lost)
            self.assertTrue(is_told(paper))
            self.assertEqual(len(paper), turns + 1)
            self.assertEqual(layers(rules, town, state, turns, lost), paper)
            handed = copy.deepcopy(paper)
            shows_layers(rules, town, state, turns, lost, paper)
            self.assertEqual((paper, (rules, town, state)), (handed, kept))
        for thing in ([[(0, 1)]], ([], {}), ((([0], [1]),),), {"a": []}):
            kept = copy.deepcopy(thing)
            shows_layers(RULES, PAIR, begun(RULES, PAIR), 1, 1, thing)
            self.assertEqual(thing, kept)


if __name__ == "__main__":
    unittest.main()
