import copy
import inspect
import random
import unittest

from hearsaybook.doings import quiet
from hearsaybook.errors import BadDoings
from hearsaybook.rules import whole_rules
from hearsaybook.states import begun
from hearsaybook.stories import counted, tellings
from hearsaybook.turns import stepped, walked
from tests.anything import anything, instead_of, is_told, misplaced
from tests.reckoned import clause_rows, some_row, some_rules, some_town

RULES = whole_rules(0, 2, 3, 4)
TOWN = ((1, 0), (4, 3), (4, 3))


def some_rows():
    """(rules, town, row) of many kinds from begun on."""
    chance = random.Random(14)
    for clauses in clause_rows() * 4:
        rules, town = some_rules(chance, clauses, wait=3), some_town(chance, chance.randint(2, 8))
        yield rules, town, some_row(chance, rules, town, begun(rules, town), 15, chance.choice((0, 0.2, 1)), 0.1)


class Counted(unittest.TestCase):
    def test_the_empty_row(self):
        for many in range(2, 9):
            self.assertEqual(counted(RULES, ((1, 0),) * many, ()), ((0, 0),) * many)

    def test_quiet_turns(self):
        # House 0 asks 1, 2, 1; the others answer.
        self.assertEqual(counted(RULES, TOWN, (quiet(),) * 3), ((3, 0), (2, 0), (1, 0)))

    def test_lost_letters_are_those_of_the_sender(self):
        self.assertEqual(counted(RULES, TOWN, (((0,), (), (), ()),)), ((1, 1), (0, 0), (0, 0)))
        self.assertEqual(counted(RULES, TOWN, (((1,), (), (), ()),)), ((1, 0), (1, 1), (0, 0)))

    def test_numbers_of_no_letter_are_not_counted(self):
        self.assertEqual(counted(RULES, TOWN, (((0, 1, 2, 77), (), (), ()),)), ((1, 1), (0, 0), (0, 0)))
        self.assertEqual(counted(RULES, TOWN, (((2, 77), (), (), ()),)), ((1, 0), (1, 0), (0, 0)))

    def test_letters_to_one_that_is_not_up_are_sent_and_not_lost(self):
        row = (((), (1,), (), ()), ((), (), (), (1,)))
        # In turn 0 house 0 asks 1, which fell; in turn 1 house 1 comes, writes to 0, and answers it.
        town = ((1, 0), (4, 3))
        self.assertEqual(counted(RULES, town, row[:1]), ((1, 0), (0, 0)))
        self.assertEqual(counted(RULES, town, row), ((2, 0), (2, 0)))

    def test_letters_of_those_that_leave_and_come(self):
        row = (((1,), (), (2,), ()), ((0,), (), (), (2,)))
        self.assertEqual(counted(RULES, ((4, 3),) * 3, row), ((0, 0), (0, 0), (4, 2)))

    def test_held_against_the_letters(self):
        for rules, town, row in some_rows():
            letters = [letter for turn in walked(rules, town, begun(rules, town), row)[1] for letter in turn]
            expected = tuple((len([1 for x, y, lost in letters if x == house]),
                              len([1 for x, y, lost in letters if x == house and lost])) for house in range(len(town)))
            self.assertEqual(counted(rules, town, row), expected)


class Tellings(unittest.TestCase):
    def test_the_empty_row(self):
        for house in range(3):
            self.assertEqual(tellings(RULES, TOWN, (), house), ())

    def test_quiet_turns(self):
        for house in range(3):
            self.assertEqual(tellings(RULES, TOWN, (quiet(),) * 30, house), ())

    def test_suspected_refuted_and_told(self):
        # In turn 0 house 0's letter to 1 is lost; in turn 1 it asks 2, then 1, which refutes.
        row = (((0,), (), (), ()), quiet())
        self.assertEqual(tellings(RULES, TOWN, row, 1),
                         ((0, 0, (0, 1)), (1, 0, (1, 0)), (1, 1, (1, 0)), (1, 2, (0, 1))))
        self.assertEqual(tellings(RULES, TOWN, row, 0), ())
        self.assertEqual(tellings(RULES, TOWN, row, 2), ())

    def test_one_that_falls(self):
        town = ((1, 0), (4, 3))
        row = (((), (1,), (), ()),) + (quiet(),) * 5
        self.assertEqual(tellings(RULES, town, row, 1), ((0, 0, (0, 1)), (2, 0, (0, 2))))

    def test_one_that_leaves_tells_nothing_itself(self):
        row = (((), (), (1,), ()),)
        self.assertEqual(tellings(RULES, ((4, 3),) * 3, row, 1), ((0, 0, (0, 3)), (0, 2, (0, 3))))

    def test_one_that_comes_tells_so_itself(self):
        row = (((), (1,), (), ()), ((1,), (), (), (1,)))
        self.assertEqual(tellings(RULES, ((4, 3),) * 3, row, 1), ((1, 0, (1, 0)), (1, 1, (1, 0))))

    def test_a_word_that_changes_and_is_told_once_a_turn(self):
        # House 2 hears of the suspicion, and in the same turn of the word that refutes it: one telling.
        town = ((1, 0), (4, 3), (1, 0))
        row = (((0,), (), (), ()), quiet())
        told = tellings(RULES, town, row, 1)
        self.assertEqual(len([1 for turn, teller, word in told if (turn, teller) == (1, 2)]), 1)

    def test_held_against_the_states(self):
        for rules, town, row in some_rows():
            state, expected = begun(rules, town), []
            for turn, doings in enumerate(row):
                behind = stepped(rules, town, state, doings)[0]
                for teller in range(len(town)):
                    for house in range(len(town)):
                        if behind[1][teller][0] == 1 and behind[1][teller][1][house] != state[1][teller][1][house]:
                            expected.append((house, (turn, teller, behind[1][teller][1][house])))
                state = behind
            for house in range(len(town)):
                self.assertEqual(tellings(rules, town, row, house),
                                 tuple(telling for about, telling in expected if about == house))


class Refused(unittest.TestCase):
    def refused(self, row):
        """The turn that both refuse the row with."""
        turns = []
        for ask in (lambda: counted(RULES, TOWN, row), lambda: tellings(RULES, TOWN, row, 1)):
            with self.assertRaises(BadDoings) as caught:
                ask()
            turns.append(caught.exception.turn)
        self.assertEqual(turns[0], turns[1])
        self.assertIs(type(turns[0]), int)
        return turns[0]

    def test_at_the_beginning_within_and_at_the_end(self):
        for bad in (True, "", None, [], [(), (), (), ()], ((), (), ()), ((1, 0), (), (), ()), ((0, 0), (), (), ()),
                    ((), (2, 1), (), ()), ((), (), (), (0,)), ((), (3,), (), ()), ((), (1,), (1,), ())):
            for at in range(5):
                self.assertEqual(self.refused((quiet(),) * at + (bad,) + (quiet(),) * (4 - at)), at)
            self.assertEqual(self.refused((bad, bad)), 0)

    def test_held_against_the_state_there(self):
        fall, come = ((), (1,), (), ()), ((), (), (), (1,))
        self.assertEqual(self.refused((fall, quiet(), fall)), 2)
        self.assertEqual(self.refused((fall, come, quiet(), come)), 3)
        self.assertEqual(self.refused((come,)), 0)

    def test_anything(self):
        for thing in anything() + instead_of(quiet()) + misplaced(((0, 3), (0,), (2,), ())):
            self.assertEqual(self.refused((quiet(), thing)), 1)


class All(unittest.TestCase):
    def test_arguments(self):
        self.assertEqual(list(inspect.signature(counted).parameters), ["rules", "town", "row"])
        self.assertEqual(list(inspect.signature(tellings).parameters), ["rules", "town", "row", "house"])

    def test_what_is_told_and_that_nothing_is_changed(self):
        for rules, town, row in some_rows():
            kept = copy.deepcopy((rules, town, row))
            self.assertTrue(is_told(counted(rules, town, row)))
            self.assertTrue(is_told(tellings(rules, town, row, 0)))
            self.assertEqual(tellings(rules, town, row, 0), tellings(rules, town, row, 0))
            self.assertEqual((rules, town, row), kept)


if __name__ == "__main__":
    unittest.main()
