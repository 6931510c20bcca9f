import copy
import inspect
import itertools
import random
import unittest

from hearsaybook.forever import forever, shows_forever
from hearsaybook.likes import like_of
from hearsaybook.rules import whole_rules, without
from hearsaybook.states import begun, is_state
from hearsaybook.towns import cycle
from hearsaybook.turns import walked
from hearsaybook.views import gone_wrongly
from tests.anything import Agreeing, Stubborn, anything, instead_of, is_told, misplaced, nested, resized
from tests.layered import is_wrong, reckoned_row, turn_by_turn
from tests.reckoned import clause_rows, some_town

RULES = whole_rules(0, 2, 1, 1)
PAIR = ((1, 0), (1, 0))
THREE = ((1, 0),) * 3


def gone_through(rules, town, each, most):
    """What forever tells, turn by turn: ("wrong", how many turns), ("safe", likes) or None."""
    known = {like_of(town, begun(rules, town))}
    last, turns = set(known), 0
    while last:
        turns += 1
        come = {like_of(town, state) for like in last for state in turn_by_turn(rules, town, like, each)}
        if any(is_wrong(like) for like in come):
            return ("wrong", turns)
        last = come - known
        known |= last
        if len(known) > most:
            return None
    return ("safe", tuple(sorted(known)))


def some_kinds(seed, many):
    """(rules, town, each, most) of many kinds."""
    chance = random.Random(seed)
    for number, clauses in zip(range(many), itertools.cycle(clause_rows())):
        rules = (chance.randint(0, 1), chance.choice((1, 2, 3)), chance.randint(0, 3), chance.randint(0, 2), clauses)
        houses = chance.randint(2, 3)
        each = chance.randint(0, 3) if houses == 2 else chance.choice((0, 1, 1, 2))
        yield rules, some_town(chance, houses, chance.choice((1, 2, 4))), each, chance.choice((1, 5, 20, 50, 90))


class Forever(unittest.TestCase):
    def held_against_turns(self, rules, town, each, most):
        due, told = gone_through(rules, town, each, most), forever(rules, town, each, most)
        if due is None or due[0] == "safe":
            self.assertEqual(told, due)
            return due
        word, row = told
        self.assertEqual((word, len(row)), due)
        self.assertTrue(all(doings[1:] == ((), (), ()) for doings in row))
        state, letters = walked(rules, town, begun(rules, town), row)
        self.assertTrue(gone_wrongly(state))
        self.assertTrue(all(len([1 for x, y, lost in turn if lost]) <= each for turn in letters))
        return due

    def test_by_hand(self):
        # House 0 asks 1 in each turn but 1 nobody yet: by a lost letter in each of two turns 1 is gone.
        rules, town = whole_rules(0, 1, 0, 0), ((1, 0), (4, 3))
        word, row = forever(rules, town, 1, 400)
        self.assertEqual((word, [len(doings[0]) for doings in row]), ("wrong", [1, 1]))
        state = begun(rules, town)
        self.assertEqual(forever(rules, town, 0, 400), ("safe", tuple((turn, state[1]) for turn in range(8))))
        self.assertIsNone(forever(rules, town, 0, 7))
        self.assertEqual(forever(rules, town, 0, 8)[0], "safe")

    def test_nothing_lost(self):
        # Where nothing is ever lost only the turn changes, if told has nothing to tell.
        for town in (PAIR, THREE, ((1, 0), (4, 3)), ((2, 1), (3, 2), (4, 0))):
            for clauses in clause_rows():
                rules = (1, 2, 3, 2, clauses)
                houses = begun(rules, town)[1]
                self.assertEqual(forever(rules, town, 0, 400),
                                 ("safe", tuple((turn, houses) for turn in range(cycle(town)))))

    def test_each_number_of_lost(self):
        found = {}
        for others, wait, town, each in itertools.product((0, 1), (1, 2), (PAIR, ((1, 0), (2, 1)), THREE), range(3)):
            due = self.held_against_turns(whole_rules(others, wait, 1, 1), town, each, 60)
            found[due and due[0]] = True
        self.assertEqual(set(found), {"safe", "wrong", None})

    def test_three_lost_in_each_turn(self):
        for others, wait, town in itertools.product((0, 1), (1, 2), (PAIR, ((1, 0), (2, 1)), ((1, 0), (4, 3)))):
            self.held_against_turns(whole_rules(others, wait, 1, 1), town, 3, 60)
        self.held_against_turns(whole_rules(1, 1, 1, 1), THREE, 3, 60)

    def test_many_kinds(self):
        found = {"safe": 0, "wrong": 0, None: 0}
        for rules, town, each, most in some_kinds(121, 120):
            due = self.held_against_turns(rules, town, each, most)
            found[due and due[0]] += 1
        self.assertGreater(min(found.values()), 5, found)

    def test_as_many_as_most_and_one_more(self):
        for rules, town, each in ((RULES, PAIR, 1), (RULES, THREE, 0), (whole_rules(1, 2, 1, 1), THREE, 1)):
            word, paper = forever(rules, town, each, 400)
            self.assertEqual(word, "safe")
            for most in range(max(1, len(paper) - 4), len(paper)):
                self.assertIsNone(forever(rules, town, each, most))
            for most in range(len(paper), min(400, len(paper) + 4)):
                self.assertEqual(forever(rules, town, each, most), ("safe", paper))

    def test_wrong_in_the_turn_in_which_there_are_more_than_most(self):
        # Ahead of the turn there are as many as most; by it more come, one of them wrong.
        rules, town = whole_rules(0, 1, 1, 1), THREE
        self.assertEqual(gone_through(rules, town, 1, 400), ("wrong", 2))
        come = {like_of(town, state) for state in turn_by_turn(rules, town, begun(rules, town), 1)}
        many = len(come | {begun(rules, town)})
        for most in range(1, many):
            self.assertIsNone(forever(rules, town, 1, most))
        for most in (many, many + 1, 400):
            word, row = forever(rules, town, 1, most)
            self.assertEqual((word, len(row)), ("wrong", 2))

    def test_wrong_in_the_first_turn(self):
        # One is wrong in the first turn, whatever most is.
        rules = without(whole_rules(0, 2, 1, 1), "wait")
        for most in (1, 2, 400):
            word, row = forever(rules, PAIR, 1, most)
            self.assertEqual((word, len(row)), ("wrong", 1))
            self.assertTrue(is_wrong(reckoned_row(rules, PAIR, begun(rules, PAIR), row)[0]))

    def test_safe_for_ever_indeed(self):
        rules, chance = whole_rules(0, 3, 2, 1), random.Random(122)
        word, paper = forever(rules, PAIR, 1, 400)
        self.assertEqual(word, "safe")
        for _ in range(20):
            state = begun(rules, PAIR)
            for _ in range(60):
                state = walked(rules, PAIR, state, (((chance.randrange(8),), (), (), ()),))[0]
                self.assertIn(like_of(PAIR, state), paper)
                self.assertFalse(gone_wrongly(state))

    def test_the_most(self):
        found = [forever(whole_rules(others, wait, 2, 1), THREE, each, 400)
                 for others, wait, each in itertools.product((0, 1), (2, 9), range(4))]
        self.assertEqual({told and told[0] for told in found}, {"safe", "wrong", None})

    def test_arguments(self):
        self.assertEqual(list(inspect.signature(forever).parameters), ["rules", "town", "each", "most"])
        self.assertEqual(list(inspect.signature(shows_forever).parameters), ["rules", "town", "each", "thing"])

    def test_what_is_told_and_that_nothing_is_changed(self):
        for rules, town, each, most in some_kinds(123, 48):
            kept = copy.deepcopy((rules, town))
            told = forever(rules, town, each, most)
            self.assertTrue(is_told(told))
            self.assertEqual(forever(rules, town, each, most), told)
            self.assertEqual((rules, town), kept)
            if told is not None and told[0] == "safe":
                paper = told[1]
                self.assertEqual(list(paper), sorted(set(paper)))
                handed = copy.deepcopy(paper)
                self.assertIs(shows_forever(rules, town, each, paper), True)
                self.assertEqual((paper, (rules, town)), (handed, kept))


class ShowsForever(unittest.TestCase):
    PAPER = forever(RULES, PAIR, 1, 400)[1]

    def shows(self, thing, each=1):
        return shows_forever(RULES, PAIR, each, thing)

    def down(self, turns):
        """States in which nobody is up, so that nothing but the turn changes."""
        house = (0, ((0, 0), (0, 0)), (1, 1), (0, 0))
        return tuple((turn, (house, house)) for turn in turns)

    def test_what_forever_tells(self):
        self.assertIs(self.shows(self.PAPER), True)
        held = 0
        for rules, town, each, most in some_kinds(124, 100):
            told = forever(rules, town, each, most)
            if told is not None and told[0] == "safe":
                self.assertIs(shows_forever(rules, town, each, told[1]), True)
                held += 1
        self.assertGreater(held, 10)

    def test_fewer_lost(self):
        # What holds with one lost in each turn holds with none; with two it doesn't.
        self.assertIs(self.shows(self.PAPER, 0), True)
        for each in (2, 3):
            self.assertIs(self.shows(self.PAPER, each), False)

    def test_a_state_less(self):
        for at in range(len(self.PAPER)):
            self.assertIs(self.shows(self.PAPER[:at] + self.PAPER[at + 1:]), False)
        self.assertIs(self.shows(()), False)

    def test_another_order_and_one_twice(self):
        chance = random.Random(125)
        self.assertIs(self.shows(self.PAPER[::-1]), True)
        self.assertIs(self.shows(self.PAPER + self.PAPER), True)
        for at in range(len(self.PAPER)):
            self.assertIs(self.shows(self.PAPER + self.PAPER[at:at + 1]), True)
            self.assertIs(self.shows(tuple(chance.sample(self.PAPER, len(self.PAPER)))), True)

    def test_a_state_more(self):
        length = cycle(PAIR)
        self.assertIs(self.shows(self.PAPER + self.down(range(length))), True)
        for turn in range(length):
            self.assertIs(self.shows(self.PAPER + self.down([turn])), False)
        # One that isn't its own like: by its turn, or by a number that stands in no book as 0.
        self.assertIs(self.shows(self.PAPER + self.down(range(length + 1))), False)
        self.assertIs(self.shows(self.PAPER + ((length, begun(RULES, PAIR)[1]),)), False)
        house = (0, ((1, 0), (0, 0)), (1, 1), (0, 0))
        self.assertIs(self.shows(self.PAPER + tuple((turn, (house, house)) for turn in range(length))), False)

    def test_states_that_are_not_their_own_likes(self):
        for at, (turn, houses) in enumerate(self.PAPER):
            lifted = tuple((up, tuple((number + 1, mark) for number, mark in book), told, timers)
                           for up, book, told, timers in houses)
            for other in ((turn + cycle(PAIR), houses), (turn, lifted)):
                self.assertIs(is_state(RULES, PAIR, other), True)
                self.assertEqual(like_of(PAIR, other), (turn, houses))
                self.assertIs(self.shows(self.PAPER[:at] + (other,) + self.PAPER[at + 1:]), False)
                self.assertIs(self.shows(self.PAPER + (other,)), False)

    def test_without_begun(self):
        length = cycle(PAIR)
        self.assertIs(self.shows(self.down(range(length))), False)
        # Closed in itself, but begun isn't among them: told is other there.
        houses = tuple((1, book, (0, 0), timers) for up, book, told, timers in begun(RULES, PAIR)[1])
        other = tuple((turn, houses) for turn in range(length))
        self.assertIs(self.shows(other, 0), False)
        self.assertIs(self.shows(other + forever(RULES, PAIR, 0, 400)[1], 0), True)

    def test_where_a_house_is_gone_wrongly(self):
        # Nobody answers: both are told gone, and nothing changes but the turn without "again".
        rules = without(whole_rules(0, 1, 0, 0), "again")
        paper = forever(rules, PAIR, 0, 400)[1]
        for mark, up, due in ((2, 1, False), (3, 1, False), (2, 0, True), (3, 0, True)):
            houses = ((1, ((0, 0), (0, mark)), (0, 0), (0, 0)), (up, ((0, mark), (0, 0)), (0, 0), (0, 0)))
            more = tuple((turn, houses) for turn in range(cycle(PAIR)))
            self.assertIs(shows_forever(rules, PAIR, 0, paper + more), due)
            self.assertIs(shows_forever(rules, PAIR, 3, more), False)

    def test_where_one_may_be_gone_wrongly(self):
        rules = whole_rules(0, 1, 1, 1)
        known, last = {begun(rules, PAIR)}, {begun(rules, PAIR)}
        while last:
            come = {like_of(PAIR, state) for like in last for state in turn_by_turn(rules, PAIR, like, 1)}
            last = {like for like in come - known if not is_wrong(like)}
            known |= last
        self.assertIs(shows_forever(rules, PAIR, 1, tuple(sorted(known))), False)

    def test_of_other_rules_and_towns(self):
        for rules in (whole_rules(0, 1, 1, 1), whole_rules(0, 2, 0, 1), without(RULES, "newer")):
            self.assertIs(shows_forever(rules, PAIR, 1, self.PAPER), False)
        for town in (((1, 0), (2, 0)), THREE):
            self.assertIs(shows_forever(RULES, town, 1, self.PAPER), False)

    def test_turns_whose_rest_is_none(self):
        # The last turn of the cycle leads to turn 0 again, not to one more.
        paper = forever(RULES, PAIR, 0, 400)[1]
        self.assertEqual([turn for turn, houses in paper], list(range(cycle(PAIR))))
        self.assertIs(self.shows(paper, 0), True)
        self.assertIs(self.shows(paper[:-1] + ((cycle(PAIR), paper[0][1]),), 0), False)

    def test_anything(self):
        for thing in anything():
            for whole in (thing, (thing,), (thing,) * 2, self.PAPER + (thing,), (thing,) + self.PAPER,
                          self.PAPER + ((0, thing),), self.PAPER + ((thing, thing),), self.PAPER + ((0, (thing,) * 2),)):
                self.assertIs(self.shows(whole), False)

    def test_another_kind_in_each_place(self):
        paper = forever(RULES, PAIR, 0, 400)[1]
        self.assertIs(self.shows(paper, 0), True)
        for thing in misplaced(paper):
            self.assertIs(self.shows(thing, 0), False)
        for thing in instead_of(paper):
            self.assertIs(self.shows(thing, 0), False)

    def test_tuples_too_short_and_too_long(self):
        for at, (turn, houses) in enumerate(self.PAPER):
            for other in resized((turn, houses)) + [(turn, other) for other in resized(houses)]:
                self.assertIs(self.shows(self.PAPER[:at] + (other,) + self.PAPER[at + 1:]), False)
            for place, house in enumerate(houses):
                for other in resized(house):
                    changed = (turn, houses[:place] + (other,) + houses[place + 1:])
                    self.assertIs(self.shows(self.PAPER[:at] + (changed,) + self.PAPER[at + 1:]), False)

    def test_states_that_are_none(self):
        turn, houses = self.PAPER[0]
        up, book, told, timers = houses[1]
        for house in ((2, book, told, timers), (1, ((0, 0), (0, 4)), told, timers), (1, book, (0, 2), timers),
                      (1, book, told, (3, 0)), (1, book, told, (0, 1)), (0, book, told, (1, 0)),
                      (1, ((0, 0), (10 ** 6 + 1, 0)), told, timers), (1, ((0, 0), (-1, 0)), told, timers)):
            self.assertIs(self.shows(self.PAPER + ((0, houses[:1] + (house,)),)), False)
        self.assertIs(self.shows(self.PAPER + ((-1, houses),)), False)

    def test_numbers_at_their_greatest(self):
        # House 1 hears a word of itself with the greatest number; what it then says has a greater one.
        one = (1, ((0, 0), (10 ** 6, 2)), (0, 0), (0, 0))
        other = (1, ((0, 0), (0, 0)), (0, 0), (0, 0))
        self.assertIs(self.shows(self.PAPER + ((0, (one, other)),)), False)

    def test_lists_in_the_place_of_tuples(self):
        self.assertIs(self.shows(list(self.PAPER)), False)
        self.assertIs(self.shows(tuple(list(state) for state in self.PAPER)), False)
        self.assertIs(self.shows({state: True for state in self.PAPER}), False)
        self.assertIs(self.shows(set(self.PAPER)), False)

    def test_nested_thirty_deep(self):
        for kind, inmost in itertools.product((tuple, list), (self.PAPER, 0, None, Stubborn(), Agreeing())):
            deep = nested(kind, inmost, 24)
            for thing in (deep, (deep,), self.PAPER + (deep,), self.PAPER + ((0, deep),), self.PAPER + ((deep, deep),)):
                self.assertIs(self.shows(thing), False)


if __name__ == "__main__":
    unittest.main()
