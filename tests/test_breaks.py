import copy
import inspect
import itertools
import math
import random
import unittest

from hearsaybook.bounds import safe_number
from hearsaybook.breaklooks import shows_break
from hearsaybook.breaks import breaks, example
from hearsaybook.doings import quiet
from hearsaybook.rules import is_rules, whole_rules, without
from hearsaybook.states import begun
from hearsaybook.towns import is_town
from hearsaybook.turns import walked
from hearsaybook.views import elder_in, gone_wrongly
from tests.anything import Agreeing, Stubborn, anything, instead_of, is_told, misplaced, nested, resized
from tests.layered import is_wrong, lost_rows
from tests.reckoned import CLAUSES, Reckoned, clause_rows, some_rules, some_town

KINDS = ("gone", "elder", "apart")
PAIR = ((1, 0), (1, 0))
THREE = ((1, 0),) * 3

# House 0 asks 1 in each turn, 1 asks in turn 3 alone.
SLOW = ((1, 0), (4, 3))


def falls(house, lost=()):
    return (tuple(lost), (house,), (), ())


def is_apart(rules, town, state):
    """Whether in quiet turns the books don't become one, once and for good, behind 500 turns at most."""
    reckoned, length = Reckoned(rules, town, state), math.lcm(*[pace for pace, start in town]) * len(town) * (len(town) - 1)
    changed, houses, turns = 0, state[1], 0
    while turns < changed + length:
        reckoned.turn_by(quiet())
        turns += 1
        if reckoned.state()[1] != houses:
            changed, houses = turns, reckoned.state()[1]
        if changed > 500:
            return True
    books = [house[1] for house in houses if house[0] == 1]
    return any(book != books[0] for book in books) or any(
        (book[at][1] != 0) if house[0] == 1 else book[at][1] < 2 for book in books for at, house in enumerate(houses))


def reckoned_kinds(rules, town, row):
    """Of which kinds a row of lost letters and one house of falls at most is a break."""
    reckoned, missed, fell = Reckoned(rules, town, begun(rules, town)), 0, False
    for doings in row:
        ahead = reckoned.state()
        missed += len([1 for x, y, lost in reckoned.turn_by(doings) if lost])
        fell = fell or doings[1] != ()
    state, found = reckoned.state(), []
    ways = 1 + min(rules[0], len(town) - 2)
    if not fell and missed < (rules[1] + 1) * ways and is_wrong(state):
        found.append("gone")
    if any(then[0] == now[0] == 1 and any(new < old for old, new in zip(then[1], now[1]))
           for then, now in zip(ahead[1], state[1])):
        found.append("elder")
    if is_apart(rules, town, state):
        found.append("apart")
    return found


def some_break_row(chance, town, turns, missed, fall):
    """A row of lost letters, in which one house may fall."""
    row = [(tuple(number for number in range(12) if chance.random() < missed), (), (), ()) for _ in range(turns)]
    if chance.random() < fall:
        at = chance.randrange(turns)
        row[at] = (row[at][0], (chance.randrange(len(town)),), (), ())
    return tuple(row)


class ShowsBreak(unittest.TestCase):
    def test_gone_by_hand(self):
        rules = without(whole_rules(0, 2, 0, 0), "wait")
        self.assertIs(shows_break(rules, SLOW, ("gone", lost_rows([(0,)]))), True)
        self.assertIs(shows_break(rules, SLOW, ("gone", lost_rows([(1,)]))), True)
        self.assertIs(shows_break(rules, SLOW, ("gone", lost_rows([()]))), False)
        self.assertIs(shows_break(rules, SLOW, ("gone", lost_rows([(), (), (0,)]))), True)
        # In a quiet turn it is told alive again.
        self.assertIs(shows_break(rules, SLOW, ("gone", lost_rows([(0,), ()]))), False)
        self.assertIs(shows_break(whole_rules(0, 2, 0, 0), SLOW, ("gone", lost_rows([(0,)]))), False)

    def test_gone_with_as_many_lost_as_the_safe_number(self):
        for wait in (1, 2, 3):
            rules = without(whole_rules(0, wait, 0, 0), "wait")
            self.assertEqual(safe_number(rules, SLOW), wait + 1)
            for many in range(1, wait + 4):
                row = lost_rows([(0,)] * many)
                self.assertTrue(gone_wrongly(walked(rules, SLOW, begun(rules, SLOW), row)[0]))
                self.assertIs(shows_break(rules, SLOW, ("gone", row)), many < wait + 1)
            whole = whole_rules(0, wait, 0, 0)
            row = lost_rows([(0,)] * (wait + 1))
            self.assertTrue(gone_wrongly(walked(whole, SLOW, begun(whole, SLOW), row)[0]))
            self.assertIs(shows_break(whole, SLOW, ("gone", row)), False)

    def test_letters_that_are_none_are_not_counted(self):
        rules = without(whole_rules(0, 1, 0, 0), "wait")
        self.assertIs(shows_break(rules, SLOW, ("gone", lost_rows([(0, 1, 2, 3)]))), True)
        self.assertIs(shows_break(rules, SLOW, ("gone", lost_rows([(5, 6, 7), (9,), (0, 10 ** 30)]))), True)
        self.assertIs(shows_break(rules, SLOW, ("gone", lost_rows([(0,), (0,)]))), False)
        self.assertIs(shows_break(rules, SLOW, ("gone", lost_rows([(5,)]))), False)

    def test_gone_where_one_falls(self):
        rules, town = without(whole_rules(1, 1, 0, 0), "wait"), ((1, 0), (4, 3), (4, 3))
        self.assertIs(shows_break(rules, town, ("gone", lost_rows([(0, 1)]))), True)
        for row in (((0, 1), 2), ((0,), 2), ((0, 1), 1)):
            self.assertIs(shows_break(rules, town, ("gone", (falls(row[1], row[0]),))), False)
        state = walked(rules, town, begun(rules, town), (falls(2, (0,)),))[0]
        self.assertTrue(gone_wrongly(state))
        self.assertIs(shows_break(rules, town, ("gone", lost_rows([(), (0, 2)]) + (falls(2),))), False)

    def test_elder_by_hand(self):
        # House 1 suspects 0, and hears in the next turn that it is alive.
        rules = without(whole_rules(0, 1, 0, 0), "newer")
        row = lost_rows([(2,), ()])
        self.assertIs(shows_break(rules, PAIR, ("elder", row)), True)
        self.assertIs(shows_break(rules, PAIR, ("elder", row[:1])), False)
        self.assertIs(shows_break(rules, PAIR, ("elder", row[1:])), False)
        # It must be in the last turn.
        self.assertIs(shows_break(rules, PAIR, ("elder", row + lost_rows([()]))), False)
        self.assertIs(shows_break(whole_rules(0, 1, 0, 0), PAIR, ("elder", row)), False)

    def test_elder_where_one_falls(self):
        rules = without(whole_rules(0, 1, 0, 0), "newer")
        row = lost_rows([(4,), ()])
        self.assertIs(shows_break(rules, THREE, ("elder", row)), True)
        found = [shows_break(rules, THREE, ("elder", (row[0], falls(house)))) for house in range(3)]
        due = ["elder" in reckoned_kinds(rules, THREE, (row[0], falls(house))) for house in range(3)]
        self.assertEqual(found, due)
        self.assertEqual(set(found), {True, False})

    def test_apart_by_hand(self):
        # Without "refute" a house that was suspected once stays so.
        rules = without(whole_rules(0, 1, 0, 0), "refute")
        self.assertIs(shows_break(rules, SLOW, ("apart", lost_rows([(0,)]))), True)
        self.assertIs(shows_break(rules, SLOW, ("apart", lost_rows([(), (1,), ()]))), True)
        self.assertIs(shows_break(rules, SLOW, ("apart", lost_rows([()]))), False)
        self.assertIs(shows_break(whole_rules(0, 1, 0, 0), SLOW, ("apart", lost_rows([(0,)]))), False)

    def test_apart_where_it_is_never_still(self):
        chance, found = random.Random(131), 0
        for _ in range(60):
            rules, town = without(some_rules(chance, wait=2), "newer"), some_town(chance, chance.randint(3, 4), 1)
            row = some_break_row(chance, town, 3, 0.2, 0.7)
            due = is_apart(rules, town, walked(rules, town, begun(rules, town), row)[0])
            self.assertIs(shows_break(rules, town, ("apart", row)), due)
            found += due
        self.assertGreater(found, 0)

    def test_many_kinds_held_against_a_second_reckoning(self):
        chance, found = random.Random(132), {kind: {True: 0, False: 0} for kind in KINDS}
        for number, clauses in zip(range(240), itertools.cycle(clause_rows())):
            rules = some_rules(chance, clauses, wait=chance.choice((1, 2)))
            town = some_town(chance, 2 + number % 7, chance.choice((1, 2)))
            row = some_break_row(chance, town, chance.randint(1, 5), chance.choice((0.05, 0.1, 0.3)), 0.3)
            kinds = reckoned_kinds(rules, town, row)
            for kind in KINDS:
                self.assertIs(shows_break(rules, town, (kind, row)), kind in kinds, (rules, town, row))
                found[kind][kind in kinds] += 1
        self.assertGreater(min(many for each in found.values() for many in each.values()), 3, found)

    def test_each_kind_in_towns_of_two_to_eight_houses(self):
        for many in range(2, 9):
            town = ((1, 0),) + ((4, 3),) * (many - 1)
            for clause, kind in (("wait", "gone"), ("refute", "apart"), ("own", "apart")):
                rules = without(whole_rules(0, 1, 0, 0), clause)
                row = lost_rows([(0,)])
                self.assertIs(shows_break(rules, town, (kind, row)), True)
                # Another what, a letter lost less.
                for other in KINDS:
                    self.assertIs(shows_break(rules, town, (other, row)), other in reckoned_kinds(rules, town, row))
                self.assertIs(shows_break(rules, town, (kind, lost_rows([()]))), False)
            rules, town = without(whole_rules(0, 1, 0, 0), "newer"), ((1, 0),) * many
            row = lost_rows([(2 * many - 2,), ()])
            self.assertEqual([shows_break(rules, town, ("elder", other)) for other in (row, row[:1], lost_rows([(), ()]))],
                             ["elder" in reckoned_kinds(rules, town, other) for other in (row, row[:1], lost_rows([(), ()]))])

    def test_whole_rules_have_none(self):
        chance = random.Random(133)
        for number in range(80):
            rules, town = some_rules(chance, wait=2), some_town(chance, 2 + number % 7, 2)
            row = some_break_row(chance, town, chance.randint(1, 5), 0.2, 0.5)
            for kind in KINDS:
                self.assertIs(shows_break(rules, town, (kind, row)), False)

    def test_rows_that_are_no_rows_of_a_break(self):
        # House 1 suspects 2, and that never ends, whatever the others do.
        rules, town, lost = without(whole_rules(0, 1, 0, 0), "refute"), ((1, 0),) * 4, lost_rows([(2,)])
        for row in (lost, lost + (falls(0),), lost + (falls(3), quiet()), (falls(3, (2,)),) + lost, (quiet(),) + lost):
            self.assertIs(shows_break(rules, town, ("apart", row)), True, row)
        for row in (lost + (((), (0, 3), (), ()),), lost + (falls(0), falls(3)), (falls(3, (2,)), quiet(), falls(0)),
                    lost + (((), (), (0,), ()),), lost + (((), (0,), (3,), ()),),
                    lost + (falls(0), ((), (), (), (0,))), lost + (((), (), (3,), ()), quiet())):
            self.assertTrue(is_apart(rules, town, walked(rules, town, begun(rules, town), row)[0]), row)
            self.assertIs(shows_break(rules, town, ("apart", row)), False, row)
        for row in ((), lost + (((), (), (), (0,)),), lost + (falls(4),), lost + (falls(0), falls(0)), lost + ((),)):
            for kind in KINDS:
                self.assertIs(shows_break(rules, town, (kind, row)), False, row)

    def test_the_last_turn_counts(self):
        rules = without(whole_rules(0, 1, 0, 0), "newer")
        found = {}
        chance = random.Random(134)
        for _ in range(60):
            row = some_break_row(chance, PAIR, 6, 0.15, 0)
            for turns in range(1, 7):
                ahead = walked(rules, PAIR, begun(rules, PAIR), row[:turns - 1])[0]
                behind = walked(rules, PAIR, begun(rules, PAIR), row[:turns])[0]
                due = elder_in(ahead, behind) is not None
                self.assertIs(shows_break(rules, PAIR, ("elder", row[:turns])), due)
                found[due] = True
        self.assertEqual(len(found), 2)

    def test_arguments(self):
        self.assertEqual(list(inspect.signature(shows_break).parameters), ["rules", "town", "thing"])
        self.assertEqual(list(inspect.signature(breaks).parameters), ["rules", "town", "turns", "lost"])
        self.assertEqual(list(inspect.signature(example).parameters), ["clause"])


class ShowsBreakOfAnything(unittest.TestCase):
    RULES = without(whole_rules(0, 1, 0, 0), "wait")
    ROW = lost_rows([(), (0,)])

    def shows(self, thing):
        return shows_break(self.RULES, SLOW, thing)

    def test_anything(self):
        self.assertIs(self.shows(("gone", self.ROW)), True)
        for thing in anything():
            for whole in (thing, (thing,), (thing, thing), ("gone", thing), (thing, self.ROW), ("gone", (thing,)),
                          ("elder", thing), ("apart", thing), ("gone", self.ROW + (thing,)), ("apart", (thing,)),
                          ("elder", (thing, thing)), ("gone", ((thing, (), (), ()), quiet())),
                          ("gone", (self.ROW[0], ((0,), thing, thing, thing), quiet()))):
                self.assertIs(self.shows(whole), False)

    def test_another_kind_in_each_place(self):
        for thing in misplaced(("gone", self.ROW)) + instead_of(("gone", self.ROW)):
            self.assertIs(self.shows(thing), False)

    def test_other_whats(self):
        for what in ("", "Gone", "gone ", "GONE", b"gone", "lost", "none", None, 0, True, ("gone",), ["gone"], Agreeing(),
                     Stubborn()):
            self.assertIs(self.shows((what, self.ROW)), False)
            rules = without(whole_rules(0, 1, 0, 0), "refute")
            self.assertIs(shows_break(rules, SLOW, ("apart", self.ROW)), True)
            self.assertIs(shows_break(rules, SLOW, (what, self.ROW)), False)

    def test_tuples_too_short_and_too_long(self):
        for thing in resized(("gone", self.ROW)):
            self.assertIs(self.shows(thing), False)
        for doings in resized(self.ROW[1]):
            self.assertIs(self.shows(("gone", (self.ROW[0], doings))), False)

    def test_lists_in_the_place_of_tuples(self):
        for thing in (["gone", self.ROW], ("gone", list(self.ROW)), ("gone", tuple(list(each) for each in self.ROW)),
                      ("gone", (self.ROW[0], ([0], (), (), ())))):
            self.assertIs(self.shows(thing), False)

    def test_doings_that_are_none(self):
        for doings in (((0, 0), (), (), ()), ((1, 0), (), (), ()), ((-1,), (), (), ()), ((False,), (), (), ()),
                       ((0,), (2,), (), ()), ((0,), (-1,), (), ()), ((0,), (True,), (), ()), ((0,), (), (), (1,)),
                       ((0.0,), (), (), ()), (("0",), (), (), ()), ((0,), (1, 1), (), ()), ((0,), None, (), ())):
            self.assertIs(self.shows(("gone", (self.ROW[0], doings))), False)
            self.assertIs(self.shows(("apart", (self.ROW[0], doings))), False)

    def test_nested_thirty_deep(self):
        for kind, inmost in itertools.product((tuple, list), (self.ROW, 0, None, Stubborn(), Agreeing())):
            deep = nested(kind, inmost, 26)
            for thing in (deep, ("gone", deep), (deep, self.ROW), ("apart", (deep,)), ("gone", ((deep, (), (), ()),)),
                          ("gone", (((0,), deep, (), ()),))):
                self.assertIs(self.shows(thing), False)

    def test_nothing_is_changed(self):
        for thing in (["gone", [[[0], [], [], []]]], ("gone", [((0,), (), (), ())]), {"gone": []}, ("gone", self.ROW)):
            kept = copy.deepcopy(thing)
            self.shows(thing)
            self.assertEqual(thing, kept)


class Example(unittest.TestCase):
    def test_each_clause(self):
        for clause in CLAUSES:
            rules, town, thing = example(clause)
            self.assertTrue(is_rules(rules) and is_town(town))
            self.assertEqual(rules, without(whole_rules(*rules[:4]), clause))
            self.assertEqual(len(rules[4]), 6)
            self.assertIs(shows_break(rules, town, thing), True)
            self.assertIn(thing[0], reckoned_kinds(rules, town, thing[1]))
            self.assertTrue(is_told((rules, town, thing)))
            self.assertEqual(example(clause), (rules, town, thing))

    def test_of_whole_rules_it_is_none(self):
        for clause in CLAUSES:
            rules, town, (what, row) = example(clause)
            for kind in KINDS:
                self.assertIs(shows_break(whole_rules(*rules[:4]), town, (kind, row)), False)


class Breaks(unittest.TestCase):
    def all_rows(self, rules, town, turns, lost):
        """All rows of at most so many turns and lost, one house falling at most, each with the state behind it."""
        last = [((), 0, begun(rules, town), False)]
        for _ in range(turns):
            come = []
            for row, spent, state, fell in last:
                for house in [None] + ([] if fell else list(range(len(town)))):
                    rest = [()]
                    while rest:
                        missed = rest.pop()
                        doings = (missed, () if house is None else (house,), (), ())
                        reckoned = Reckoned(rules, town, state)
                        letters = reckoned.turn_by(doings)
                        come.append((row + (doings,), spent + len(missed), reckoned.state(), fell or house is not None))
                        if spent + len(missed) < lost:
                            first = missed[-1] + 1 if missed else 0
                            rest += [missed + (number,) for number in range(first, len(letters))]
            yield from come
            last = come

    def has_break(self, rules, town, turns, lost):
        apart = {}
        safe = (rules[1] + 1) * (1 + min(rules[0], len(town) - 2))
        ahead = {(): begun(rules, town)}
        for row, spent, state, fell in self.all_rows(rules, town, turns, lost):
            ahead[row] = state
            if not fell and spent < safe and is_wrong(state):
                return True
            if any(then[0] == now[0] == 1 and any(new < old for old, new in zip(then[1], now[1]))
                   for then, now in zip(ahead[row[:-1]][1], state[1])):
                return True
            if state not in apart:
                apart[state] = is_apart(rules, town, state)
            if apart[state]:
                return True
        return False

    def held(self, rules, town, turns, lost):
        """What breaks tells, held by shows_break and within turns and lost."""
        told = breaks(rules, town, turns, lost)
        if told is not None:
            what, row = told
            self.assertIs(shows_break(rules, town, told), True)
            self.assertIn(what, reckoned_kinds(rules, town, row))
            self.assertTrue(1 <= len(row) <= turns)
            letters = walked(rules, town, begun(rules, town), row)[1]
            self.assertLessEqual(len([1 for turn in letters for x, y, lost in turn if lost]), lost)
            self.assertTrue(is_told(told))
        self.assertEqual(breaks(rules, town, turns, lost), told)
        return told

    def test_held_against_all_rows(self):
        found = {True: 0, False: 0}
        for clause, town, (turns, lost) in itertools.product((None,) + CLAUSES, (PAIR, ((2, 1), (1, 0))),
                                                             ((1, 0), (1, 1), (2, 1), (2, 2), (3, 1))):
            rules = without(whole_rules(1, 1, 1, 1), clause)
            told = self.held(rules, town, turns, lost)
            self.assertEqual(told is not None, self.has_break(rules, town, turns, lost), (rules, town, turns, lost))
            found[told is not None] += 1
        self.assertGreater(min(found.values()), 10, found)

    def test_three_houses_held_against_all_rows(self):
        found = {True: 0, False: 0}
        for clause, town, (turns, lost) in itertools.product((None,) + CLAUSES, (THREE, ((1, 0), (2, 0), (2, 1))),
                                                             ((1, 1), (2, 1), (3, 1))):
            rules = without(whole_rules(0, 1, 0, 0), clause)
            told = self.held(rules, town, turns, lost)
            self.assertEqual(told is not None, self.has_break(rules, town, turns, lost), (rules, town, turns, lost))
            found[told is not None] += 1
        self.assertGreater(min(found.values()), 10, found)

    def test_many_kinds(self):
        chance, kinds = random.Random(135), set()
        for number, clauses in zip(range(72), itertools.cycle(clause_rows())):
            rules = (chance.randint(0, 1), chance.randint(1, 2), chance.randint(0, 2), chance.randint(0, 2), clauses)
            town = some_town(chance, chance.randint(2, 3), 2)
            told = self.held(rules, town, chance.randint(1, 3), chance.randint(0, 2))
            kinds.add(told and told[0])
        self.assertEqual(kinds, set(KINDS) | {None})

    def test_whole_rules(self):
        for others, wait, town in itertools.product((0, 1), (1, 2), (PAIR, SLOW, ((2, 0), (3, 1)))):
            self.assertIsNone(breaks(whole_rules(others, wait, 1, 1), town, 4, 3))
        for others, town in itertools.product((0, 1), (THREE, ((1, 0), (2, 1), (3, 1)))):
            self.assertIsNone(breaks(whole_rules(others, 1, 1, 1), town, 3, 2))
        self.assertIsNone(breaks(whole_rules(1, 1, 1, 1), THREE, 4, 3))

    def test_where_a_break_is_found(self):
        for clause in CLAUSES:
            rules, town, (what, row) = example(clause)
            many = sum(len(doings[0]) for doings in row)
            if many <= 3:
                self.assertIsNotNone(self.held(rules, town, len(row), many), clause)
                self.assertIsNotNone(self.held(rules, town, 4, 3), clause)

    def test_a_letter_lost_in_the_turn_of_a_fall(self):
        # Letters through the house that falls don't come: so one lost letter does for a suspicion.
        rules, town = without(whole_rules(1, 2, 1, 1), "newer"), ((2, 1), (2, 0), (2, 1))
        what, row = self.held(rules, town, 2, 1)
        self.assertTrue(any(doings[0] and doings[1] for doings in row))
        self.assertIsNone(self.held(rules, town, 1, 1))
        self.assertIs(self.has_break(rules, town, 1, 1), False)

    def test_the_fewest_turns_and_letters(self):
        rules = without(whole_rules(1, 1, 0, 0), "others")
        self.assertIsNone(breaks(rules, ((1, 0), (4, 3), (4, 3)), 1, 3))
        self.assertIsNone(breaks(rules, ((1, 0), (4, 3), (4, 3)), 4, 1))
        self.assertIsNotNone(breaks(rules, ((1, 0), (4, 3), (4, 3)), 2, 2))
        # Two of four letters that must be lost.
        self.assertIsNone(breaks(without(whole_rules(0, 1, 0, 0), "again"), PAIR, 4, 3))

    def test_nothing_is_changed(self):
        for clause in CLAUSES:
            handed = (without(whole_rules(1, 1, 1, 1), clause), THREE)
            kept = copy.deepcopy(handed)
            breaks(handed[0], handed[1], 2, 1)
            self.assertEqual(handed, kept)


if __name__ == "__main__":
    unittest.main()
