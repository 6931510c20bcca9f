"""The whole: what holds along rows of turns, where no clause of the rules is left out."""

import itertools
import random
import unittest

from hearsaybook.bounds import gone_by, letters_most, safe_number
from hearsaybook.breaklooks import shows_break
from hearsaybook.breaks import breaks, example
from hearsaybook.desk import Desk
from hearsaybook.doings import quiet
from hearsaybook.forever import forever, shows_forever
from hearsaybook.latest import latest, shows_latest
from hearsaybook.leastlost import least_lost, shows_least
from hearsaybook.rules import CLAUSES, whole_rules, without
from hearsaybook.states import begun
from hearsaybook.stillness import shows_still, still_behind
from hearsaybook.stories import counted
from hearsaybook.texts import read_row, read_rules, read_town, show_row, show_rules, show_town, show_views
from hearsaybook.turns import stepped, walked
from hearsaybook.views import agrees, elder_in, gone_wrongly, views
from tests.reckoned import Reckoned, clause_rows, some_cases, some_row, some_rules, some_town


def some_walks(seed, many, turns):
    """(rules, town, row) of whole rules from begun on, some with many letters lost and many that stop and come."""
    chance = random.Random(seed)
    for _ in range(many):
        rules = some_rules(chance, wait=chance.choice((1, 2, 9)))
        town = some_town(chance, chance.randint(2, 8))
        missed, moves = chance.choice((0, 0.1, 0.3, 0.6, 1)), chance.choice((0, 0.02, 0.1, 0.3))
        yield rules, town, some_row(chance, rules, town, begun(rules, town), turns, missed, moves)


class NoElderWord(unittest.TestCase):
    """(a)"""

    def test_no_word_gives_way_to_an_elder_one(self):
        for rules, town, row in some_walks(31, 60, 30):
            state = begun(rules, town)
            for doings in row:
                behind = stepped(rules, town, state, doings)[0]
                self.assertIsNone(elder_in(state, behind))
                state = behind

    def test_nor_from_other_states(self):
        for rules, town, state, doings in some_cases(32, 400):
            whole = whole_rules(*rules[:4])
            self.assertIsNone(elder_in(state, stepped(whole, town, state, doings)[0]))

    def test_nor_at_those_that_fall_leave_and_come(self):
        for rules, town, row in some_walks(33, 30, 30):
            state = begun(rules, town)
            for doings in row:
                behind = stepped(rules, town, state, doings)[0]
                for then, now in zip(state[1], behind[1]):
                    self.assertTrue(all(old <= new for old, new in zip(then[1], now[1])))
                state = behind

    def test_without_newer_one_may(self):
        rules, found = without(whole_rules(1, 1, 3, 4), "newer"), False
        chance = random.Random(34)
        town = ((1, 0),) * 3
        for _ in range(50):
            state = begun(rules, town)
            for doings in some_row(chance, rules, town, state, 12, 0.3, 0):
                behind = stepped(rules, town, state, doings)[0]
                found = found or elder_in(state, behind) is not None
                state = behind
        self.assertTrue(found)


class NoneGoneWrongly(unittest.TestCase):
    """(b)"""

    def spend(self, chance, rules, town, turns, most, aimed):
        """The state behind a row in which at most so many letters are lost, mostly such as would harm one house."""
        state, spent = begun(rules, town), 0
        for _ in range(turns):
            lost = []
            number, letters = 0, stepped(rules, town, state, quiet())[1]
            while number < len(letters):
                if spent < most and (chance.random() < 0.05 or aimed in letters[number] and chance.random() < 0.8):
                    lost.append(number)
                    spent += 1
                    letters = stepped(rules, town, state, (tuple(lost), (), (), ()))[1]
                number += 1
            state = stepped(rules, town, state, (tuple(lost), (), (), ()))[0]
            if gone_wrongly(state):
                return True
        return False

    def test_none_where_fewer_are_lost_than_the_safe_number(self):
        chance = random.Random(41)
        for _ in range(150):
            rules = some_rules(chance, wait=chance.choice((1, 2, 3)))
            town = some_town(chance, chance.randint(2, 8))
            most = safe_number(rules, town) - 1
            self.assertFalse(self.spend(chance, rules, town, 25, most, chance.randrange(len(town))))

    def test_one_where_just_so_many_are_lost(self):
        # House 0's letters to 1, and to all through whom it asks 1, are lost each time; the others ask nobody yet.
        for others, wait, many in itertools.product(range(4), (1, 2), range(2, 7)):
            rules, town = whole_rules(others, wait, 3, 4), ((1, 0),) + ((4, 3),) * (many - 1)
            ways, row = 1 + min(others, many - 2), []
            for turn in range(wait + 1):
                first = 0 if turn % (many - 1) == 0 else 2
                row.append((tuple(range(first, first + ways)), (), (), ()))
            self.assertEqual(sum(lost for sent, lost in counted(rules, town, tuple(row))), safe_number(rules, town))
            self.assertTrue(gone_wrongly(walked(rules, town, begun(rules, town), tuple(row))[0]))
            self.assertFalse(gone_wrongly(walked(rules, town, begun(rules, town), tuple(row[:-1]))[0]))


    def test_the_least_number_is_told_and_shown(self):
        told = {}
        for others, wait, town in itertools.product((0, 1), (1, 2), (((1, 0), (2, 1)), ((1, 0),) * 3)):
            rules = whole_rules(others, wait, 1, 1)
            for turns, lost in itertools.product((2, 4), range(safe_number(rules, town) + 1)):
                found = least_lost(rules, town, turns, lost)
                self.assertIs(shows_least(rules, town, turns, lost, found), True)
                told[found[0]] = True
                if lost < safe_number(rules, town):
                    self.assertEqual(found[0], "none")
        self.assertEqual(set(told), {"lost", "none"})

    def test_none_however_long_it_goes_on(self):
        chance = random.Random(42)
        for rules, town, each in ((whole_rules(0, 2, 1, 1), ((1, 0), (1, 0)), 1),
                                  (whole_rules(1, 2, 2, 1), ((1, 0),) * 3, 1), (whole_rules(0, 1, 0, 0), ((1, 0),) * 3, 0)):
            word, paper = forever(rules, town, each, 400)
            self.assertEqual(word, "safe")
            self.assertIs(shows_forever(rules, town, each, paper), True)
            state = begun(rules, town)
            for _ in range(400):
                lost = tuple(sorted(chance.sample(range(6), each)))
                state = stepped(rules, town, state, (lost, (), (), ()))[0]
                self.assertFalse(gone_wrongly(state))


class ToldGone(unittest.TestCase):
    """(c)"""

    def held_against(self, rules, town, row):
        """How often a house that stays up had to tell one gone by then, and how often it didn't."""
        reckoned = Reckoned(rules, town, begun(rules, town))
        stopped, up_since, due, late = {}, [0] * len(town), 0, 0
        for turn, (lost, falls, leaves, comes) in enumerate(row):
            reckoned.turn_by((lost, falls, leaves, comes))
            stopped.update({house: turn for house in falls + leaves})
            for house in comes:
                del stopped[house]
                up_since[house] = turn
            for house, teller in itertools.product(stopped, range(len(town))):
                if teller == house or not reckoned.up[teller] or up_since[teller] > stopped[house]:
                    continue
                turns = gone_by(rules, town, teller)
                came = [then for then, y, of, word in reckoned.heard
                        if (y, of) == (teller, house) and then >= stopped[house]]
                if turn + 1 - stopped[house] >= turns and all(turn - then >= turns for then in came):
                    due += 1
                    late += reckoned.book[teller][house][1] < 2
        return due, late

    def test_told_within_the_turns(self):
        held = 0
        for rules, town, row in some_walks(51, 60, 40):
            due, late = self.held_against(rules, town, row)
            self.assertEqual(late, 0, (rules, town))
            held += due
        self.assertGreater(held, 1000)

    def test_just_so_many_turns_may_pass(self):
        # House 0 has just asked 1 when that falls: it asks all others ahead of it, and then waits.
        for many, wait in itertools.product(range(2, 7), (1, 2, 5)):
            rules, town = whole_rules(0, wait, 3, 4), ((1, 0),) * many
            turns = gone_by(rules, town, 0)
            # The others fell, too: so house 0 alone tells of them.
            row = (quiet(), ((), tuple(range(1, many)), (), ())) + (quiet(),) * (turns - 1)
            behind, ahead = [walked(rules, town, begun(rules, town), some)[0] for some in (row, row[:-1])]
            self.assertEqual((ahead[1][0][1][1], behind[1][0][1][1]), ((0, 1), (0, 2)))

    def test_who_leaves_too(self):
        # All letters are lost, so that nobody hears that it left.
        rules, town = whole_rules(1, 2, 3, 4), ((1, 0), (2, 0), (3, 1))
        for house in range(3):
            row = ((tuple(range(40)), (), (house,), ()),) + ((tuple(range(40)), (), (), ()),) * 11
            for teller in {0, 1, 2} - {house}:
                turns = gone_by(rules, town, teller)
                state = walked(rules, town, begun(rules, town), row[:turns])[0]
                self.assertGreaterEqual(state[1][teller][1][house][1], 2)


    def test_the_most_turns_are_told_and_shown(self):
        for others, wait, town in itertools.product((0, 1), (1, 2), (((1, 0), (2, 1)), ((2, 1), (1, 0), (2, 0)))):
            rules = whole_rules(others, wait, 1, 1)
            for house, lost in itertools.product(range(len(town)), range(3)):
                told = latest(rules, town, house, 6, lost)
                self.assertIs(shows_latest(rules, town, house, 6, lost, told), True)
                # No newer word of a house that fell at the start comes but suspect and gone: so the turns hold here, too.
                most = max(gone_by(rules, town, other) for other in range(len(town)) if other != house)
                self.assertLess(told[0], most)


class FewLetters(unittest.TestCase):
    """(d)"""

    def test_no_more_letters_than_told(self):
        reached = 0
        for rules, town, row in some_walks(61, 60, 30):
            state = begun(rules, town)
            for doings in row:
                most = letters_most(rules, town, state, doings)
                state, letters = stepped(rules, town, state, doings)
                self.assertLessEqual(len(letters), most)
                reached += len(letters) == most
        self.assertGreater(reached, 0)

    def test_nor_from_other_states_nor_with_clauses_left_out(self):
        for rules, town, state, doings in some_cases(62, 1200):
            letters = stepped(rules, town, state, doings)[1]
            self.assertLessEqual(len(letters), letters_most(rules, town, state, doings))

    def test_nor_where_all_ways_fail_at_their_last_letter(self):
        for clauses, others, many in itertools.product(clause_rows(), range(4), range(2, 6)):
            rules, town = (others, 2, 3, 4, clauses), ((1, 0),) * many
            lost = tuple(sorted({1} | {1 + 4 * way for way in range(1, 30)}))
            state, letters = begun(rules, town), ()
            for _ in range(4):
                most = letters_most(rules, town, state, (lost, (), (), ()))
                state, letters = stepped(rules, town, state, (lost, (), (), ()))
                self.assertLessEqual(len(letters), most)


class OneBook(unittest.TestCase):
    """(e)"""

    def test_the_books_become_one(self):
        for rules, town, row in some_walks(71, 50, 25):
            state = walked(rules, town, begun(rules, town), row)[0]
            told = still_behind(rules, town, state)
            self.assertIsNotNone(told)
            number, behind = told
            self.assertTrue(agrees(behind))
            self.assertTrue(shows_still(rules, town, state, told))
            self.assertEqual([house[0] for house in behind[1]], [house[0] for house in state[1]])

    def test_once_and_for_good(self):
        for rules, town, row in some_walks(72, 15, 20):
            state = walked(rules, town, begun(rules, town), row)[0]
            number, behind = still_behind(rules, town, state)
            later = walked(rules, town, behind, (quiet(),) * 60)[0]
            self.assertEqual(later[1], behind[1])
            self.assertTrue(agrees(later))

    def test_who_is_up_is_told_alive_who_is_not_gone_or_left(self):
        # House 3 falls, 4 leaves; all letters of six turns are lost, so that all are told gone, wrongly or not.
        for others, told, carry in itertools.product((0, 3), (0, 3), (0, 8)):
            rules, town = whole_rules(others, 1, told, carry), ((1, 0), (2, 1), (3, 0), (1, 0), (1, 0))
            row = (((), (3,), (4,), ()),) + ((tuple(range(90)), (), (), ()),) * 12
            state = walked(rules, town, begun(rules, town), row)[0]
            self.assertTrue(gone_wrongly(state))
            number, behind = still_behind(rules, town, state)
            self.assertEqual(views(behind), tuple((house, (0, 0, 0, 2, 3)) for house in range(3)))

    def test_without_some_clauses_they_need_not(self):
        chance, found = random.Random(73), {}
        for clause in ("about", "again", "own", "refute"):
            for _ in range(60):
                rules = without(whole_rules(1, 1, 1, 1), clause)
                town = some_town(chance, 3)
                row = some_row(chance, rules, town, begun(rules, town), 15, 0.4, 0.05)
                told = still_behind(rules, town, walked(rules, town, begun(rules, town), row)[0])
                found[clause] = found.get(clause, False) or told is None or not agrees(told[1])
        self.assertEqual(set(found.values()), {True}, found)


class BrokenPromises(unittest.TestCase):
    """(f)"""

    def test_with_one_clause_left_out_one_of_these_breaks(self):
        for clause in CLAUSES:
            rules, town, (what, row) = example(clause)
            self.assertEqual(rules, without(whole_rules(*rules[:4]), clause))
            self.assertIs(shows_break(rules, town, (what, row)), True)
            self.assertIs(shows_break(whole_rules(*rules[:4]), town, (what, row)), False)

    def test_what_breaks_is_one_of_these(self):
        for clause in CLAUSES:
            rules, town, (what, row) = example(clause)
            ahead, behind = [walked(rules, town, begun(rules, town), some)[0] for some in (row[:-1], row)]
            lost = sum(missed for sent, missed in counted(rules, town, row))
            if what == "elder":
                self.assertIsNotNone(elder_in(ahead, behind))
            elif what == "gone":
                self.assertTrue(gone_wrongly(behind))
                self.assertLess(lost, safe_number(rules, town))
            else:
                told = still_behind(rules, town, behind)
                self.assertTrue(told is None or not agrees(told[1]))

    def test_of_whole_rules_there_is_no_break(self):
        for others, town in itertools.product((0, 1), (((1, 0), (1, 0)), ((1, 0), (2, 1)), ((1, 0), (2, 1), (2, 0)))):
            self.assertIsNone(breaks(whole_rules(others, 1, 1, 1), town, 3, 2))
        for rules, town, row in some_walks(81, 40, 6):
            lost = tuple((doings[0], (), (), ()) for doings in row)
            for what in ("gone", "elder", "apart"):
                self.assertIs(shows_break(rules, town, (what, lost)), False)


class WrittenAndRead(unittest.TestCase):
    """(g)"""

    def test_what_is_written_is_read_as_it_was(self):
        for rules, town, row in some_walks(91, 60, 12):
            self.assertEqual(read_rules(show_rules(rules)), rules)
            self.assertEqual(read_town(show_town(town)), town)
            self.assertEqual(read_row(show_row(row)), row)

    def test_a_desk_answers_as_all_these_do(self):
        for rules, town, row in some_walks(92, 20, 10):
            desk, state = Desk(show_rules(rules) + "\n" + show_town(town)), begun(rules, town)
            for doings in row:
                state, letters = stepped(rules, town, state, doings)
                self.assertEqual(desk.say("turn " + show_row((doings,))).count(">"), len(letters))
                self.assertEqual(desk.say("views"), show_views(state))
            number, still = still_behind(rules, town, state)
            self.assertEqual(desk.say("still"), f"{number} {show_views(still)}")
            self.assertEqual(desk.say("bounds").split(" ")[0], str(safe_number(rules, town)))


if __name__ == "__main__":
    unittest.main()
