import copy
import inspect
import itertools
import random
import unittest

from hearsaybook.doings import quiet
from hearsaybook.errors import BadDoings, HearsayError
from hearsaybook.rules import whole_rules, without
from hearsaybook.states import begun, is_state
from hearsaybook.turns import stepped, walked
from tests.anything import anything, instead_of, is_told, misplaced
from tests.reckoned import CLAUSES, Reckoned, clause_rows, some_cases, some_row, some_rules, some_state, some_town

# The clock of the first house alone ticks in turn 0, all others in turn 3 at the earliest.
SLOW = (4, 3)


def town_of(many, ticking=(0,)):
    """A town in which the told houses tick in each turn, the others not ahead of turn 3."""
    return tuple((1, 0) if at in ticking else SLOW for at in range(many))


def lost_of(*numbers):
    return (numbers, (), (), ())


def changed(state, at, up=None, words=(), told=(), timers=()):
    """The state with other things at one house: pairs of a place and what stands there."""
    turn, houses = state
    house = [houses[at][0] if up is None else up] + [list(row) for row in houses[at][1:]]
    for row, pairs in zip(house[1:], (words, told, timers)):
        for place, thing in pairs:
            row[place] = thing
    house = (house[0],) + tuple(tuple(row) for row in house[1:])
    return (turn, houses[:at] + (house,) + houses[at + 1:])


def path(letters):
    """From whom to whom letters went, in order."""
    return [(x, y) for x, y, lost in letters]


def number_of(letters):
    return [at for at, (x, y, lost) in enumerate(letters) if lost]


class Quiet(unittest.TestCase):
    def test_one_asks_and_is_answered(self):
        rules, town = whole_rules(1, 2, 3, 4), town_of(3)
        state, letters = stepped(rules, town, begun(rules, town), quiet())
        self.assertEqual(letters, ((0, 1, False), (1, 0, False)))
        self.assertEqual(state, (1, begun(rules, town)[1]))

    def test_targets_go_round(self):
        rules, town = whole_rules(1, 2, 3, 4), town_of(4)
        state = begun(rules, town)
        asked = []
        for turn in range(3):
            state, letters = stepped(rules, town, state, quiet())
            asked.append(path(letters)[0])
        self.assertEqual(asked, [(0, 1), (0, 2), (0, 3)])

    def test_all_that_tick_ask_by_rising_numbers(self):
        rules, town = whole_rules(1, 2, 3, 4), town_of(4, (0, 2, 3))
        letters = stepped(rules, town, begun(rules, town), quiet())[1]
        self.assertEqual(path(letters), [(0, 1), (1, 0), (2, 3), (3, 2), (3, 0), (0, 3)])

    def test_nobody_ticks(self):
        rules, town = whole_rules(1, 2, 3, 4), town_of(3, ())
        state = begun(rules, town)
        self.assertEqual(stepped(rules, town, state, quiet()), ((1, state[1]), ()))

    def test_each_pace(self):
        rules, town = whole_rules(0, 2, 3, 4), ((1, 0), (2, 1), (3, 2), (4, 0))
        state, askers = begun(rules, town), []
        for turn in range(8):
            state, letters = stepped(rules, town, state, quiet())
            askers.append([x for x, y in path(letters)[::2]])
        self.assertEqual(askers, [[0, 3], [0, 1], [0, 2], [0, 1], [0, 3], [0, 1, 2], [0], [0, 1]])

    def test_begun_stays_as_it_is(self):
        for many, pace in itertools.product(range(2, 9), range(1, 5)):
            rules, town = whole_rules(many % 4, pace, 2, 3), ((pace, pace - 1),) * many
            state, turns = walked(rules, town, begun(rules, town), (quiet(),) * 30)
            self.assertEqual(state, (30, begun(rules, town)[1]))
            self.assertEqual([len(letters) for letters in turns],
                             [2 * many if turn % pace == pace - 1 else 0 for turn in range(30)])


class Lost(unittest.TestCase):
    RULES = whole_rules(0, 2, 3, 4)
    TOWN = town_of(2)

    def test_the_letter_is_lost(self):
        state, letters = stepped(self.RULES, self.TOWN, begun(self.RULES, self.TOWN), lost_of(0))
        self.assertEqual(letters, ((0, 1, True),))
        self.assertEqual(state[1][0], (1, ((0, 0), (0, 1)), (3, 0), (0, 2)))
        self.assertEqual(state[1][1], begun(self.RULES, self.TOWN)[1][1])

    def test_the_answer_is_lost(self):
        state, letters = stepped(self.RULES, self.TOWN, begun(self.RULES, self.TOWN), lost_of(1))
        self.assertEqual(letters, ((0, 1, False), (1, 0, True)))
        self.assertEqual(state[1][0], (1, ((0, 0), (0, 1)), (3, 0), (0, 2)))

    def test_numbers_of_no_letter(self):
        state = begun(self.RULES, self.TOWN)
        for lost in ((2,), (2, 3), (100,), (10 ** 30,), (5, 10 ** 40)):
            self.assertEqual(stepped(self.RULES, self.TOWN, state, (lost, (), (), ())),
                             stepped(self.RULES, self.TOWN, state, quiet()))
        self.assertEqual(stepped(self.RULES, self.TOWN, state, lost_of(0, 1, 7)),
                         stepped(self.RULES, self.TOWN, state, lost_of(0)))

    def test_letters_are_counted_as_they_are_sent(self):
        # As letter 0 is lost there is no answer, so letter 1 is the next one's.
        rules, town = whole_rules(0, 2, 3, 4), town_of(3, (0, 1))
        state = begun(rules, town)
        self.assertEqual(stepped(rules, town, state, lost_of(0, 1))[1], ((0, 1, True), (1, 2, True)))
        self.assertEqual(stepped(rules, town, state, lost_of(0, 2))[1],
                         ((0, 1, True), (1, 2, False), (2, 1, True)))

    def test_a_lost_letter_is_written_all_the_same(self):
        # What was told on as news is counted, whether the letter comes or not.
        rules, town = without(whole_rules(0, 2, 3, 4), "about"), town_of(3)
        state = changed(begun(rules, town), 0, told=((2, 1),))
        for doings in (quiet(), lost_of(0), lost_of(1)):
            self.assertEqual(stepped(rules, town, state, doings)[0][1][0][2][2], 2)

    def test_all_lost(self):
        for many, others in itertools.product(range(2, 9), range(4)):
            rules, town = whole_rules(others, 1, 3, 4), town_of(many, range(many))
            state, letters = stepped(rules, town, begun(rules, town), (tuple(range(500)), (), (), ()))
            self.assertEqual(len(letters), many * (1 + min(others, many - 2)))
            self.assertTrue(all(lost is True for x, y, lost in letters))
            for at, house in enumerate(state[1]):
                self.assertEqual(house[1][(at + 1) % many], (0, 1))
            state, letters = stepped(rules, town, state, (tuple(range(500)), (), (), ()))
            for at, house in enumerate(state[1]):
                self.assertEqual(house[1][(at + 1) % many], (0, 2))

    def test_a_letter_to_a_house_that_is_not_up(self):
        state = changed(begun(self.RULES, self.TOWN), 1, up=0)
        behind, letters = stepped(self.RULES, self.TOWN, state, quiet())
        self.assertEqual(letters, ((0, 1, False),))
        self.assertEqual(behind[1][0][1:], (((0, 0), (0, 1)), (3, 0), (0, 2)))
        self.assertEqual(behind[1][1], state[1][1])
        self.assertEqual(stepped(self.RULES, self.TOWN, state, lost_of(0)), (behind, ((0, 1, True),)))


class FallsLeavesComes(unittest.TestCase):
    RULES = whole_rules(1, 2, 3, 4)

    def test_who_falls_is_no_longer_up(self):
        town = town_of(3, (0, 1))
        state = changed(begun(self.RULES, town), 0, timers=((1, 2), (2, 1)), told=((1, 1),))
        behind, letters = stepped(self.RULES, town, state, ((), (0,), (), ()))
        self.assertEqual(path(letters), [(1, 2), (2, 1)])
        self.assertEqual(behind[1][0], (0, ((0, 0),) * 3, (3, 1, 3), (0, 0, 0)))
        self.assertEqual(behind[1][1:], state[1][1:])

    def test_who_falls_takes_in_no_letter_of_this_turn(self):
        town = town_of(2)
        behind, letters = stepped(self.RULES, town, begun(self.RULES, town), ((), (1,), (), ()))
        self.assertEqual(letters, ((0, 1, False),))
        self.assertEqual(behind[1][0][1], ((0, 0), (0, 1)))

    def test_who_leaves_says_so_to_all(self):
        town = town_of(4, ())
        state = changed(begun(self.RULES, town), 2, words=((2, (5, 0)),), timers=((0, 2),))
        behind, letters = stepped(self.RULES, town, state, ((), (), (2,), ()))
        self.assertEqual(letters, ((2, 0, False), (2, 1, False), (2, 3, False)))
        self.assertEqual(behind[1][2], (0, ((0, 0), (0, 0), (5, 3), (0, 0)), (3, 3, 0, 3), (0,) * 4))
        for at in (0, 1, 3):
            self.assertEqual(behind[1][at], (1, ((0, 0), (0, 0), (5, 3), (0, 0)), (3, 3, 0, 3), (0,) * 4))

    def test_who_leaves_asks_nobody(self):
        town = town_of(3, (0, 1, 2))
        letters = stepped(self.RULES, town, begun(self.RULES, town), ((), (), (0,), ()))[1]
        self.assertEqual(path(letters)[:2], [(0, 1), (0, 2)])
        self.assertNotIn(0, [x for x, y in path(letters)[2:]])

    def test_who_leaves_answers_nobody(self):
        # House 1 asks 0 in turn 1; without 0's letter it doesn't know that it left.
        town = town_of(3, (1,))
        state = (1, begun(self.RULES, town)[1])
        behind, letters = stepped(self.RULES, town, state, ((0, 1), (), (0,), ()))
        self.assertEqual(path(letters), [(0, 1), (0, 2), (1, 0), (1, 2), (2, 0)])
        self.assertEqual(behind[1][1][1][0], (0, 1))

    def test_who_leaves_is_up_until_all_of_these_letters_are_sent(self):
        # Of two that leave each takes in the other's letter, and the letter of one that comes.
        town = town_of(3, ())
        state = changed(begun(self.RULES, town), 2, up=0)
        behind, letters = stepped(self.RULES, town, state, ((), (), (0, 1), (2,)))
        self.assertEqual(path(letters), [(0, 1), (0, 2), (1, 0), (1, 2), (2, 0), (2, 1)])
        for at in range(3):
            self.assertEqual(behind[1][at][0], int(at == 2))
            self.assertEqual(behind[1][at][1], ((0, 3), (0, 3), (1, 0)))

    def test_who_leaves_may_refute_until_then(self):
        # House 1 knows a newer word of 0 than 0 itself; as both leave, 0 hears it.
        town = town_of(2, ())
        state = changed(begun(self.RULES, town), 1, words=((0, (1, 1)),))
        behind, letters = stepped(self.RULES, town, state, ((), (), (0, 1), ()))
        self.assertEqual(behind[1][0], (0, ((2, 0), (0, 3)), (0, 0), (0, 0)))
        behind, letters = stepped(self.RULES, town, state, ((1,), (), (0, 1), ()))
        self.assertEqual(behind[1][0], (0, ((0, 3), (0, 0)), (0, 3), (0, 0)))

    def test_who_comes_says_so_to_all(self):
        town = town_of(4, ())
        state = changed(begun(self.RULES, town), 1, up=0, words=((1, (4, 3)), (2, (0, 2))), told=((0, 1),))
        state = changed(state, 3, up=0)
        behind, letters = stepped(self.RULES, town, state, ((), (), (), (1,)))
        self.assertEqual(letters, ((1, 0, False), (1, 2, False), (1, 3, False)))
        self.assertEqual(behind[1][1][:2], (1, ((0, 0), (5, 0), (0, 2), (0, 0))))
        self.assertEqual(behind[1][1][2][1], 0)
        self.assertEqual(behind[1][0][1][1], (5, 0))
        self.assertEqual(behind[1][2][1][1], (5, 0))
        self.assertEqual(behind[1][3], state[1][3])

    def test_who_comes_asks_in_this_turn(self):
        town = town_of(3, (0, 1))
        state = changed(begun(self.RULES, town), 1, up=0)
        letters = stepped(self.RULES, town, state, ((), (), (), (1,)))[1]
        self.assertEqual(path(letters), [(1, 0), (1, 2), (0, 1), (1, 0), (1, 2), (2, 1)])

    def test_leaves_then_comes_then_those_that_tick(self):
        town = town_of(5, range(5))
        state = changed(changed(begun(self.RULES, town), 0, up=0), 2, up=0)
        doings = ((), (), (1, 4), (0, 2))
        letters = stepped(self.RULES, town, state, doings)[1]
        self.assertEqual(path(letters)[:16], [(x, y) for x in (1, 4, 0, 2) for y in range(5) if y != x])
        self.assertEqual([x for x, y in path(letters)[16:] if x in (1, 4)], [])
        self.assertEqual([x for x, y in path(letters)[16::2]][0], 0)

    def test_falls_leaves_and_comes_in_one_turn(self):
        town = town_of(6, range(6))
        state = changed(changed(begun(self.RULES, town), 4, up=0), 5, up=0)
        behind, letters = stepped(self.RULES, town, state, ((), (0, 1), (2,), (5,)))
        self.assertEqual([house[0] for house in behind[1]], [0, 0, 0, 1, 0, 1])
        self.assertEqual(path(letters)[:10], [(2, y) for y in (0, 1, 3, 4, 5)] + [(5, y) for y in range(5)])
        self.assertEqual(behind[1][3][1][2], (0, 3))
        self.assertEqual(behind[1][3][1][5], (1, 0))
        self.assertEqual(behind[1][0], (0,) + state[1][0][1:])

    def test_letters_of_leaves_and_comes_may_be_lost(self):
        town = town_of(3, ())
        behind, letters = stepped(self.RULES, town, begun(self.RULES, town), ((1,), (), (0,), ()))
        self.assertEqual(letters, ((0, 1, False), (0, 2, True)))
        self.assertEqual(behind[1][1][1][0], (0, 3))
        self.assertEqual(behind[1][2][1][0], (0, 0))

    def test_no_house_up(self):
        for many in range(2, 9):
            town = town_of(many, range(many))
            state, letters = stepped(self.RULES, town, begun(self.RULES, town), ((), tuple(range(many)), (), ()))
            self.assertEqual(letters, ())
            self.assertEqual(stepped(self.RULES, town, state, quiet()), ((2, state[1]), ()))

    def test_all_leave_and_all_come(self):
        town = town_of(3, range(3))
        state, letters = stepped(self.RULES, town, begun(self.RULES, town), ((), (), (0, 1, 2), ()))
        self.assertEqual(len(letters), 6)
        self.assertEqual([house[:2] for house in state[1]], [(0, ((0, 3),) * 3)] * 3)
        state, letters = stepped(self.RULES, town, state, ((), (), (), (0, 1, 2)))
        self.assertEqual(len(letters), 12)
        self.assertEqual([house[:2] for house in state[1]], [(1, ((1, 0),) * 3)] * 3)


class WhomItAsks(unittest.TestCase):
    RULES = whole_rules(0, 3, 3, 4)

    def test_the_target_first_then_those_with_a_timer(self):
        town = town_of(6)
        state = changed(begun(self.RULES, town), 0, timers=((1, 2), (2, 1), (5, 3), (4, 1)))
        # In turn 3 the target is house 4.
        state = (3, state[1])
        town = ((1, 0),) + ((4, 0),) * 5
        letters = stepped(self.RULES, town, state, quiet())[1]
        self.assertEqual(path(letters), [(0, 4), (4, 0), (0, 1), (1, 0), (0, 2), (2, 0), (0, 5), (5, 0)])

    def test_the_target_is_asked_once_also_with_a_timer(self):
        town = town_of(3)
        state = changed(begun(self.RULES, town), 0, timers=((1, 2),))
        self.assertEqual(path(stepped(self.RULES, town, state, quiet())[1]), [(0, 1), (1, 0)])

    def test_a_target_that_is_gone_or_left(self):
        town = town_of(3)
        for mark in (2, 3):
            state = changed(begun(self.RULES, town), 0, words=((1, (0, mark)),), timers=((2, 1),))
            letters = stepped(self.RULES, town, state, quiet())[1]
            self.assertEqual(path(letters), [(0, 1), (1, 0), (0, 2), (2, 0)])
            letters = stepped(without(self.RULES, "again"), town, state, quiet())[1]
            self.assertEqual(path(letters), [(0, 2), (2, 0)])

    def test_a_target_that_is_alive_or_suspect_is_asked_without_again(self):
        town, rules = town_of(3), without(self.RULES, "again")
        for mark in (0, 1):
            state = changed(begun(rules, town), 0, words=((1, (0, mark)),))
            self.assertEqual(path(stepped(rules, town, state, quiet())[1]), [(0, 1), (1, 0)])

    def test_another_one_with_a_timer_is_asked_whatever_its_mark(self):
        town = town_of(3)
        for rules in (self.RULES, without(self.RULES, "again")):
            for mark in range(4):
                state = changed(begun(rules, town), 0, words=((2, (0, mark)),), timers=((2, 1),))
                self.assertEqual(path(stepped(rules, town, state, lost_of(2))[1])[2:], [(0, 2)])

    def test_a_gone_target_that_answers_refutes(self):
        town = town_of(2)
        state = changed(begun(self.RULES, town), 0, words=((1, (3, 2)),))
        behind = stepped(self.RULES, town, state, quiet())[0]
        self.assertEqual(behind[1][0][1], ((0, 0), (4, 0)))
        self.assertEqual(behind[1][1][1], ((0, 0), (4, 0)))

    def test_a_gone_target_that_does_not_answer_stays_gone(self):
        town, rules = town_of(3), whole_rules(1, 3, 3, 4)
        for mark in (2, 3):
            state = changed(begun(rules, town), 0, words=((1, (3, mark)),))
            behind, letters = stepped(rules, town, state, lost_of(0))
            self.assertEqual(letters, ((0, 1, True),))
            self.assertEqual(behind[1], state[1])

    def test_a_timer_that_is_0_by_then(self):
        # The target's answer tells a newer word of house 2, so that it needn't be asked.
        town = town_of(3)
        state = changed(begun(self.RULES, town), 0, words=((2, (0, 1)),), timers=((2, 2),))
        for word, asked in (((1, 0), False), ((0, 2), False), ((0, 3), False), ((1, 1), True), ((0, 1), True)):
            now = changed(state, 1, words=((2, word),), told=((2, 0),))
            behind, letters = stepped(self.RULES, town, now, quiet())
            self.assertEqual(path(letters)[2:], [(0, 2), (2, 0)] if asked else [], word)
            self.assertEqual(behind[1][0][3], (0, 0, 0), word)

    def test_a_timer_that_a_helper_ends(self):
        # Asked as a helper, house 2 tells a newer word of itself; so it isn't asked afterwards.
        rules, town = whole_rules(1, 3, 3, 4), town_of(3)
        state = changed(begun(rules, town), 0, words=((2, (0, 1)),), timers=((2, 2),))
        behind, letters = stepped(rules, town, state, lost_of(0))
        self.assertEqual(path(letters), [(0, 1), (0, 2), (2, 1), (1, 2), (2, 0)])
        self.assertEqual(behind[1][0][1], ((0, 0), (0, 0), (1, 0)))
        self.assertEqual(behind[1][0][3], (0, 0, 0))

    def test_a_timer_that_another_asker_ends(self):
        # House 0 asks 1, and so tells it a newer word of 2, ahead of 1's own asking.
        rules, town = without(self.RULES, "about"), town_of(4, (0, 1))
        state = changed(begun(rules, town), 0, words=((3, (2, 0)),), told=((3, 0),))
        state = changed(state, 1, words=((3, (1, 1)),), timers=((3, 2),))
        self.assertEqual(path(stepped(rules, town, state, quiet())[1]), [(0, 1), (1, 0), (1, 2), (2, 1)])
        self.assertEqual(path(stepped(rules, town, state, lost_of(0))[1])[1:], [(1, 2), (2, 1), (1, 3), (3, 1)])


class Helpers(unittest.TestCase):
    def asked(self, others, marks, ups=None, doings=lost_of(0), clauses=CLAUSES):
        """From whom to whom letters go when house 0 asks 1 and its letter is lost."""
        rules, town = (others, 3, 3, 4, clauses), town_of(len(marks))
        state = changed(begun(rules, town), 0, words=[(at, (0, mark)) for at, mark in enumerate(marks)])
        for at, up in enumerate(ups or ()):
            state = changed(state, at, up=up)
        return path(stepped(rules, town, state, doings)[1])

    def test_none(self):
        self.assertEqual(self.asked(0, (0, 0, 0, 0)), [(0, 1)])
        self.assertEqual(self.asked(1, (0, 0)), [(0, 1)])
        self.assertEqual(self.asked(3, (0, 0, 2, 3)), [(0, 1)])

    def test_through_one(self):
        self.assertEqual(self.asked(1, (0, 0, 0)), [(0, 1), (0, 2), (2, 1), (1, 2), (2, 0)])

    def test_without_the_clause(self):
        clauses = tuple(clause for clause in CLAUSES if clause != "others")
        self.assertEqual(self.asked(3, (0, 0, 0, 0), clauses=clauses), [(0, 1)])

    def test_the_first_who_brings_the_answer_is_the_last(self):
        self.assertEqual(self.asked(3, (0, 0, 0, 0, 0)), [(0, 1), (0, 2), (2, 1), (1, 2), (2, 0)])
        self.assertEqual(self.asked(3, (0, 0, 0, 0, 0), doings=lost_of(0, 1)),
                         [(0, 1), (0, 2), (0, 3), (3, 1), (1, 3), (3, 0)])

    def test_also_when_the_answer_alone_is_lost(self):
        self.assertEqual(self.asked(1, (0, 0, 0), doings=lost_of(1)), [(0, 1), (1, 0), (0, 2), (2, 1), (1, 2), (2, 0)])

    def test_each_of_the_four_letters_lost(self):
        whole = [(0, 2), (2, 1), (1, 2), (2, 0)]
        for number in range(1, 5):
            self.assertEqual(self.asked(1, (0, 0, 0), doings=lost_of(0, number)), [(0, 1)] + whole[:number])
            self.assertEqual(self.asked(2, (0, 0, 0, 0), doings=lost_of(0, number)),
                             [(0, 1)] + whole[:number] + [(0, 3), (3, 1), (1, 3), (3, 0)])

    def test_answered_through_another_one_ends_the_timer(self):
        rules, town = whole_rules(1, 3, 3, 4), town_of(3)
        state = changed(begun(rules, town), 0, timers=((1, 2),))
        for doings, timer in ((lost_of(0), 0), (lost_of(1), 0), (lost_of(0, 1), 1), (lost_of(0, 2), 1),
                              (lost_of(0, 3), 1), (lost_of(0, 4), 1), (lost_of(0, 5), 0)):
            self.assertEqual(stepped(rules, town, state, doings)[0][1][0][3], (0, timer, 0), doings)

    def test_round_from_the_next_one_to_ahead_of_the_asker(self):
        rules, town = whole_rules(3, 3, 3, 4), town_of(6, (3,))
        for turn, b, helpers in ((0, 4, [5, 0, 1]), (1, 5, [4, 0, 1]), (2, 0, [4, 5, 1])):
            state = (turn, begun(rules, town)[1])
            letters = stepped(rules, town, state, lost_of(0, 1, 2, 3))[1]
            self.assertEqual(path(letters), [(3, b)] + [(3, h) for h in helpers])

    def test_fewer_than_others(self):
        self.assertEqual(self.asked(3, (0, 0, 2, 0, 3), doings=lost_of(0, 1)), [(0, 1), (0, 3)])
        self.assertEqual(self.asked(3, (0, 0, 0), doings=lost_of(0, 1)), [(0, 1), (0, 2)])
        self.assertEqual(self.asked(9, (0, 0, 0, 0), doings=lost_of(0, 1, 2)), [(0, 1), (0, 2), (0, 3)])

    def test_who_is_suspect_helps_who_is_gone_or_left_does_not(self):
        self.assertEqual(self.asked(1, (0, 0, 1, 0))[1:3], [(0, 2), (2, 1)])
        for mark in (2, 3):
            self.assertEqual(self.asked(1, (0, 0, mark, 0))[1:3], [(0, 3), (3, 1)])
            self.assertEqual(self.asked(2, (0, 0, mark, 0, 1), doings=lost_of(0, 1)),
                             [(0, 1), (0, 3), (0, 4), (4, 1), (1, 4), (4, 0)])

    def test_one_that_is_not_up(self):
        self.assertEqual(self.asked(1, (0, 0, 0, 0), ups=(1, 1, 0, 1)), [(0, 1), (0, 2)])
        self.assertEqual(self.asked(2, (0, 0, 0, 0), ups=(1, 1, 0, 1)),
                         [(0, 1), (0, 2), (0, 3), (3, 1), (1, 3), (3, 0)])

    def test_who_is_asked_is_not_up(self):
        self.assertEqual(self.asked(2, (0, 0, 0, 0), ups=(1, 0, 1, 1), doings=quiet()),
                         [(0, 1), (0, 2), (2, 1), (0, 3), (3, 1)])

    def test_who_is_told_gone_is_not_asked_through_others(self):
        for mark in (2, 3):
            self.assertEqual(self.asked(2, (0, mark, 0, 0)), [(0, 1)])
        self.assertEqual(self.asked(2, (0, 1, 0, 0))[1], (0, 2))

    def test_what_a_helper_knows_does_not_come_without_its_last_letter(self):
        # House 2 knows that 1 left, but as 1 doesn't answer it writes nothing to 0.
        rules, town = without(whole_rules(2, 2, 3, 4), "about"), town_of(4)
        state = changed(changed(begun(rules, town), 1, up=0), 2, words=((1, (0, 3)),))
        behind, letters = stepped(rules, town, state, quiet())
        self.assertEqual(path(letters), [(0, 1), (0, 2), (2, 1), (0, 3), (3, 1)])
        self.assertEqual(behind[1][0][1][1], (0, 1))

    def test_what_helpers_hear_on_the_way(self):
        # House 0 tells 2 that 1 is suspect, and 2 tells it to 1, whose newer word goes the way back.
        rules, town = whole_rules(1, 3, 3, 4), town_of(3)
        state = changed(begun(rules, town), 0, words=((1, (0, 1)),), told=((1, 0),))
        for doings, words in ((lost_of(0), [(1, 0)] * 3), (lost_of(0, 4), [(0, 1), (1, 0), (1, 0)]),
                              (lost_of(0, 3), [(0, 1), (1, 0), (0, 1)]), (lost_of(0, 2), [(0, 1), (0, 0), (0, 1)]),
                              (lost_of(0, 1), [(0, 1), (0, 0), (0, 0)])):
            behind = stepped(rules, town, state, doings)[0]
            self.assertEqual([house[1][1] for house in behind[1]], words)


class WhileItIsAsked(unittest.TestCase):
    def test_a_suspicion_is_refuted_by_the_answer(self):
        rules, town = whole_rules(1, 3, 3, 4), town_of(3)
        state = changed(begun(rules, town), 0, words=((1, (0, 1)),), timers=((1, 1),))
        behind = stepped(rules, town, state, quiet())[0]
        self.assertEqual(behind[1][0][1:], (((0, 0), (1, 0), (0, 0)), (3, 0, 3), (0, 0, 0)))
        self.assertEqual(behind[1][1][1], ((0, 0), (1, 0), (0, 0)))

    def test_it_is_refuted_but_the_answer_comes_through_another_one(self):
        rules, town = whole_rules(1, 3, 3, 4), town_of(3)
        state = changed(begun(rules, town), 0, words=((1, (0, 1)),), timers=((1, 1),))
        behind, letters = stepped(rules, town, state, lost_of(1))
        self.assertEqual(path(letters), [(0, 1), (1, 0), (0, 2), (2, 1), (1, 2), (2, 0)])
        self.assertEqual(behind[1][0][1:3], (((0, 0), (1, 0), (0, 0)), (3, 0, 3)))
        self.assertEqual(behind[1][0][3], (0, 0, 0))

    def test_it_is_refuted_and_not_answered(self):
        # House 1 answers by a newer word that doesn't come; house 0 goes on by the word it has.
        rules, town = whole_rules(0, 3, 3, 4), town_of(2)
        state = changed(begun(rules, town), 0, words=((1, (0, 1)),), timers=((1, 1),))
        behind = stepped(rules, town, state, lost_of(1))[0]
        self.assertEqual(behind[1][0][1:], (((0, 0), (0, 2)), (3, 0), (0, 0)))
        self.assertEqual(behind[1][1][1][1], (1, 0))

    def test_told_gone_by_the_answer_of_another_asking(self):
        # House 0 asks 1 (the target) first: its letter tells that 2 is gone, so 2 isn't asked.
        rules, town = whole_rules(1, 3, 3, 4), town_of(3)
        state = changed(begun(rules, town), 0, words=((2, (0, 1)),), timers=((2, 1),))
        state = changed(state, 1, words=((2, (0, 2)),), told=((2, 0),))
        behind, letters = stepped(rules, town, state, quiet())
        self.assertEqual(path(letters), [(0, 1), (1, 0)])
        self.assertEqual(behind[1][0][1][2], (0, 2))

    def test_told_gone_while_it_is_asked_straight(self):
        # Without "refute" house 1 tells of itself what others told: it is gone, and not asked through others.
        rules, town = without(whole_rules(1, 3, 3, 4), "refute"), town_of(3)
        state = changed(begun(rules, town), 1, words=((1, (0, 2)),))
        behind, letters = stepped(rules, town, state, quiet())
        self.assertEqual(path(letters), [(0, 1), (1, 0)])
        self.assertEqual(behind[1][0][1:], (((0, 0), (0, 2), (0, 0)), (3, 0, 3), (0, 0, 0)))

    def test_told_gone_or_left_by_the_helper_that_brings_the_answer(self):
        rules, town = without(whole_rules(1, 2, 3, 4), "refute"), town_of(3)
        for mark in (2, 3):
            state = changed(begun(rules, town), 0, words=((1, (0, 1)),), timers=((1, 2),))
            state = changed(state, 2, words=((1, (0, mark)),), told=((1, 0),))
            behind, letters = stepped(rules, town, state, lost_of(0))
            self.assertEqual(path(letters), [(0, 1), (0, 2), (2, 1), (1, 2), (2, 0)])
            self.assertEqual(behind[1][0][1:], (((0, 0), (0, mark), (0, 0)), (3, 0, 3), (0, 0, 0)))

    def test_told_gone_by_the_letter_of_an_earlier_asker(self):
        # House 0 asks 1 ahead of 1's own asking of 2, and tells it that 2 is gone; 2 is 1's target.
        town = town_of(3, (0, 1))
        for rules, asked in ((whole_rules(1, 2, 3, 4), [(1, 2)]), (without(whole_rules(1, 2, 3, 4), "again"), [])):
            state = changed(changed(begun(rules, town), 0, words=((2, (0, 2)),), told=((2, 0),)), 2, up=0)
            behind, letters = stepped(rules, town, state, quiet())
            self.assertEqual(path(letters), [(0, 1), (1, 0)] + asked)
            self.assertEqual(behind[1][1][1][2], (0, 2))


class BehindEachAsking(unittest.TestCase):
    TOWN = town_of(3)

    def behind(self, word, timer, doings=lost_of(0), clauses=CLAUSES):
        """House 0's word of 1, its told and its timer behind an asking of which letter 0 is lost."""
        rules = (0, 4, 3, 4, clauses)
        state = changed(begun(rules, self.TOWN), 0, words=((1, word),), told=((1, 2),), timers=((1, timer),))
        up, book, told, timers = stepped(rules, self.TOWN, state, doings)[0][1][0]
        self.assertEqual((book[0], book[2], told[0], told[2], timers[0], timers[2]), ((0, 0), (0, 0), 3, 3, 0, 0))
        return (book[1], told[1], timers[1])

    def test_timer_0(self):
        self.assertEqual(self.behind((5, 0), 0), ((5, 1), 0, 4))

    def test_timer_0_and_a_word_that_is_already_suspect(self):
        self.assertEqual(self.behind((5, 1), 0), ((5, 1), 2, 4))

    def test_timer_1(self):
        for mark in (0, 1):
            self.assertEqual(self.behind((5, mark), 1), ((5, 2), 0, 0))

    def test_timer_of_more(self):
        for mark, timer in itertools.product((0, 1), (2, 3, 4)):
            self.assertEqual(self.behind((5, mark), timer), ((5, mark), 2, timer - 1))

    def test_without_wait(self):
        clauses = tuple(clause for clause in CLAUSES if clause != "wait")
        for mark, timer in itertools.product((0, 1), range(5)):
            self.assertEqual(self.behind((5, mark), timer, clauses=clauses), ((5, 2), 0, 0))

    def test_gone_or_left(self):
        clauses = tuple(clause for clause in CLAUSES if clause != "wait")
        for mark, timer, some in itertools.product((2, 3), range(5), (CLAUSES, clauses)):
            self.assertEqual(self.behind((5, mark), timer, clauses=some), ((5, mark), 2, timer))

    def test_answered(self):
        clauses = tuple(clause for clause in CLAUSES if clause != "refute")
        for mark, timer in itertools.product(range(4), range(5)):
            self.assertEqual(self.behind((5, mark), timer, quiet(), clauses), ((5, mark), 2, 0))

    def test_the_last_line_is_of_the_word_as_it_is_behind_the_letters(self):
        rules = without(whole_rules(0, 4, 3, 4), "refute")
        state = changed(begun(rules, self.TOWN), 0, timers=((1, 1),))
        state = changed(state, 1, words=((1, (2, 1)),))
        # The answer comes: timer 0, and the word that came stays.
        self.assertEqual(stepped(rules, self.TOWN, state, quiet())[0][1][0][1:], (((0, 0), (2, 1), (0, 0)), (3, 0, 3),
                                                                                (0, 0, 0)))

    def test_wait_turns_pass_until_it_is_gone(self):
        for wait in range(1, 10):
            rules, town = whole_rules(1, wait, 3, 4), town_of(2)
            state = changed(begun(rules, town), 1, up=0)
            marks = []
            for turn in range(wait + 2):
                state = stepped(rules, town, state, quiet())[0]
                marks.append(state[1][0][1][1][1])
            self.assertEqual(marks, [1] * wait + [2, 2])


class AllTurns(unittest.TestCase):
    def test_held_against_a_second_reckoning(self):
        for rules, town, state, doings in some_cases(7, 1200):
            reckoned = Reckoned(rules, town, state)
            letters = reckoned.turn_by(doings)
            self.assertEqual(stepped(rules, town, state, doings), (reckoned.state(), letters))

    def test_rows_held_against_a_second_reckoning(self):
        chance = random.Random(8)
        for clauses in clause_rows() * 3:
            rules, town = some_rules(chance, clauses), some_town(chance, chance.randint(2, 8))
            for state in (begun(rules, town), some_state(chance, rules, town)):
                row = some_row(chance, rules, town, state, 12, chance.choice((0, 0.2, 1)))
                reckoned = Reckoned(rules, town, state)
                turns = tuple(reckoned.turn_by(doings) for doings in row)
                self.assertEqual(walked(rules, town, state, row), (reckoned.state(), turns))

    def test_what_is_told(self):
        for rules, town, state, doings in some_cases(9):
            kept = copy.deepcopy((rules, town, state, doings))
            told = stepped(rules, town, state, doings)
            self.assertTrue(is_told(told))
            self.assertTrue(is_state(rules, town, told[0]))
            self.assertEqual(told[0][0], state[0] + 1)
            self.assertTrue(all(type(lost) is bool for x, y, lost in told[1]))
            self.assertEqual(number_of(told[1]), [number for number in doings[0] if number < len(told[1])])
            self.assertEqual((rules, town, state, doings), kept)
            self.assertEqual(stepped(rules, town, state, doings), told)

    def test_arguments(self):
        self.assertEqual(list(inspect.signature(stepped).parameters), ["rules", "town", "state", "doings"])
        self.assertEqual(list(inspect.signature(walked).parameters), ["rules", "town", "state", "row"])


class Walked(unittest.TestCase):
    RULES = whole_rules(1, 2, 3, 4)
    TOWN = ((1, 0), (2, 1), (1, 0))

    def test_the_empty_row(self):
        for rules, town, state, doings in some_cases(10, 60):
            self.assertEqual(walked(rules, town, state, ()), (state, ()))

    def test_one_behind_the_other(self):
        state = first = begun(self.RULES, self.TOWN)
        row = (lost_of(0, 1), ((), (1,), (), ()), quiet(), ((2,), (), (0,), (1,)), ((0,), (), (), (0,)))
        turns = []
        for doings in row:
            state, letters = stepped(self.RULES, self.TOWN, state, doings)
            turns.append(letters)
        self.assertEqual(walked(self.RULES, self.TOWN, first, row), (state, tuple(turns)))
        self.assertTrue(is_told(walked(self.RULES, self.TOWN, first, row)))

    def test_four_hundred_turns(self):
        state, turns = walked(self.RULES, self.TOWN, begun(self.RULES, self.TOWN), (quiet(),) * 400)
        self.assertEqual((state[0], len(turns)), (400, 400))

    def refused(self, state, row):
        with self.assertRaises(BadDoings) as caught:
            walked(self.RULES, self.TOWN, state, row)
        self.assertIsInstance(caught.exception, HearsayError)
        self.assertIs(type(caught.exception.turn), int)
        return caught.exception.turn

    def test_the_first_of_a_row_that_are_no_doings(self):
        state = begun(self.RULES, self.TOWN)
        for bad in (((), (), (), (0,)), ((), (3,), (), ()), ((1, 0), (), (), ()), None, True, "", "0/-/-/-", [],
                    [(), (), (), ()], ((), (), ()), ((), (), (), (), ()), ((), [], (), ()), ((), (0,), (0,), ())):
            for at in range(5):
                self.assertEqual(self.refused(state, (quiet(),) * at + (bad,) + (quiet(),) * (4 - at)), at)
            self.assertEqual(self.refused(state, (quiet(), bad, bad)), 1)
            self.assertEqual(self.refused(state, (bad,)), 0)
            self.assertEqual(self.refused(state, (quiet(),) * 399 + (bad,)), 399)

    def test_it_is_counted_by_the_row_not_by_the_state(self):
        state = (17, begun(self.RULES, self.TOWN)[1])
        self.assertEqual(self.refused(state, (quiet(), quiet(), None)), 2)

    def test_doings_are_held_against_the_state_there(self):
        state, fall, come = begun(self.RULES, self.TOWN), ((), (1,), (), ()), ((), (), (), (1,))
        leave = ((), (), (1,), ())
        self.assertEqual(self.refused(state, (fall, fall)), 1)
        self.assertEqual(self.refused(state, (fall, leave)), 1)
        self.assertEqual(self.refused(state, (come, fall)), 0)
        self.assertEqual(self.refused(state, (leave, quiet(), leave)), 2)
        self.assertEqual(self.refused(state, (fall, come, come)), 2)
        self.assertEqual(self.refused(state, (leave, come, quiet(), fall, come, leave, fall)), 6)
        walked(self.RULES, self.TOWN, state, (fall, come, leave, come, fall, come))

    def test_other_kinds_in_the_place_of_doings(self):
        state = begun(self.RULES, self.TOWN)
        for thing in anything() + instead_of(quiet()) + misplaced(((0, 3), (0,), (2,), ())):
            self.assertEqual(self.refused(state, (quiet(), thing, quiet())), 1)

    def test_nothing_handed_in_is_changed(self):
        state = begun(self.RULES, self.TOWN)
        bad = [[], [0], {}, set()]
        row = (quiet(), bad)
        self.refused(state, row)
        self.assertEqual((bad, state), ([[], [0], {}, set()], begun(self.RULES, self.TOWN)))


if __name__ == "__main__":
    unittest.main()
