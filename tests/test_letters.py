import copy
import inspect
import itertools
import random
import unittest

from hearsaybook.letters import notes_of, taken
from hearsaybook.rules import is_rules, whole_rules, without
from hearsaybook.states import begun, is_state
from hearsaybook.words import heard
from tests.anything import is_told

CLAUSES = ("about", "again", "newer", "others", "own", "refute", "wait")
TOWN = ((1, 0), (2, 1), (1, 0), (1, 0), (3, 2))
BOOK = ((4, 0), (3, 1), (2, 2), (1, 3), (0, 0))


def rules_of(told=3, carry=8, clauses=CLAUSES):
    return (1, 2, told, carry, tuple(sorted(clauses)))


def state_of(turn, told, book=BOOK, x=0):
    """A state in which house x has this book and told, and all else is as begun."""
    houses = begun(rules_of(), ((1, 0),) * len(book))[1]
    house = (1, book, told, (0,) * len(book))
    return (turn, houses[:x] + (house,) + houses[x + 1:])


def houses_in(notes):
    return [house for house, word in notes]


def some_states():
    """Rules, towns and states of many kinds, always the same ones."""
    chance = random.Random(20)
    for _ in range(400):
        many = chance.randint(2, 8)
        clauses = [clause for clause in CLAUSES if chance.random() < 0.7]
        rules = (chance.randint(0, 3), chance.randint(1, 9), chance.randint(0, 4), chance.randint(0, 8), tuple(clauses))
        town = tuple((pace, chance.randrange(pace)) for pace in (chance.randint(1, 4) for _ in range(many)))
        houses = []
        for at in range(many):
            book = tuple((chance.randint(0, 3), chance.randint(0, 3)) for _ in range(many))
            told = tuple(chance.randint(0, rules[2]) for _ in range(many))
            timers = tuple(0 if of == at else chance.randint(0, rules[1]) for of in range(many))
            houses.append((1, book, told, timers))
        yield rules, town, (chance.randint(0, 30), tuple(houses))


def told_by_the_document(rules, town, state, x, y):
    """notes_of, gone through word by word."""
    most, carry, clauses = rules[2:]
    turn, houses = state
    book, told, many = houses[x][1], list(houses[x][2]), len(town)
    carried = {y}
    if "own" in clauses:
        carried.add(x)
    tick_count = len([t for t in range(turn + 1) if t >= town[x][1] and (t - town[x][1]) % town[x][0] == 0])
    if "about" in clauses and tick_count % many != x:
        carried.add(tick_count % many)
    left = carry
    for times in range(most):
        for house in range(many):
            if left > 0 and house != x and house not in carried and houses[x][2][house] == times:
                carried.add(house)
                told[house] += 1
                left -= 1
    return tuple((house, book[house]) for house in sorted(carried)), tuple(told)


class NotesOf(unittest.TestCase):
    def test_by_hand(self):
        # House 0 has had three ticks by turn 2, so its letter is about house 3, too.
        state = state_of(2, (0, 0, 1, 2, 0))
        self.assertEqual(notes_of(rules_of(carry=1), TOWN, state, 0, 1),
                         (((0, (4, 0)), (1, (3, 1)), (3, (1, 3)), (4, (0, 0))), (0, 0, 1, 2, 1)))

    def test_no_news_and_no_clauses_is_of_the_receiver_alone(self):
        for y in range(1, 5):
            told = notes_of(rules_of(carry=0, clauses=()), TOWN, state_of(3, (0,) * 5), 0, y)
            self.assertEqual(told, (((y, BOOK[y]),), (0,) * 5))

    def test_own(self):
        for y in range(1, 5):
            told = notes_of(rules_of(carry=0, clauses=("own",)), TOWN, state_of(3, (1,) * 5), 0, y)
            self.assertEqual(told, (((0, BOOK[0]), (y, BOOK[y])), (1,) * 5))

    def test_about_goes_round_by_ticks(self):
        rules = rules_of(carry=0, clauses=("about",))
        for turn in range(12):
            notes, told = notes_of(rules, TOWN, state_of(turn, (0,) * 5), 0, 1)
            self.assertEqual(houses_in(notes), sorted({1, (turn + 1) % 5} - {0}), turn)
            self.assertEqual(told, (0,) * 5)

    def test_about_counts_ticks_of_the_sender_alone(self):
        rules = rules_of(carry=0, clauses=("about",))
        for turn, about in enumerate((0, 0, 1, 1, 1, 2, 2, 2, 3, 3, 3, 4, 4)):
            notes, told = notes_of(rules, TOWN, state_of(turn, (0,) * 5, x=4), 4, 0)
            self.assertEqual(houses_in(notes), sorted({0, about} - {4}), turn)

    def test_about_ahead_of_the_first_tick_is_of_house_0(self):
        rules = rules_of(carry=0, clauses=("about",))
        notes, told = notes_of(rules, TOWN, state_of(0, (0,) * 5, x=1), 1, 2)
        self.assertEqual(houses_in(notes), [0, 2])

    def test_about_being_the_sender_itself_carries_nothing(self):
        for clauses, expected in ((("about",), [1]), (("about", "own"), [0, 1])):
            notes, told = notes_of(rules_of(carry=0, clauses=clauses), TOWN, state_of(4, (0,) * 5), 0, 1)
            self.assertEqual(houses_in(notes), expected)

    def test_about_being_the_receiver_is_carried_once(self):
        notes, told = notes_of(rules_of(carry=0), TOWN, state_of(1, (0,) * 5), 0, 2)
        self.assertEqual(notes, ((0, BOOK[0]), (2, BOOK[2])))

    def test_news_by_told_and_then_by_house(self):
        rules = rules_of(told=3, clauses=())
        for told, order in (((0, 0, 2, 1, 0), [4, 3, 2]), ((0, 0, 1, 1, 1), [2, 3, 4]), ((0, 0, 2, 2, 1), [4, 2, 3])):
            for carry in range(9):
                notes, behind = notes_of(rules[:3] + (carry, ()), TOWN, state_of(0, told), 0, 1)
                news = order[:carry]
                self.assertEqual(houses_in(notes), sorted([1] + news))
                self.assertEqual(behind, tuple(many + (house in news) for house, many in enumerate(told)))

    def test_news_at_the_rules_told_is_told_no_more(self):
        rules = rules_of(told=2, clauses=())
        notes, told = notes_of(rules, TOWN, state_of(0, (0, 0, 2, 1, 2)), 0, 1)
        self.assertEqual((houses_in(notes), told), ([1, 3], (0, 0, 2, 2, 2)))
        notes, told = notes_of(rules, TOWN, state_of(0, told), 0, 1)
        self.assertEqual((houses_in(notes), told), ([1], (0, 0, 2, 2, 2)))

    def test_told_0_has_no_news(self):
        for carry in range(9):
            notes, told = notes_of(rules_of(told=0, carry=carry, clauses=()), TOWN, state_of(0, (0,) * 5), 0, 1)
            self.assertEqual((houses_in(notes), told), ([1], (0,) * 5))

    def test_carry_0_has_no_news(self):
        notes, told = notes_of(rules_of(told=9, carry=0, clauses=()), TOWN, state_of(0, (0,) * 5), 0, 1)
        self.assertEqual((houses_in(notes), told), ([1], (0,) * 5))

    def test_the_own_word_is_never_news(self):
        for clauses in itertools.product(("about", ""), ("own", "")):
            rules = rules_of(clauses=[clause for clause in clauses if clause])
            for x, y in itertools.permutations(range(5), 2):
                notes, told = notes_of(rules, TOWN, state_of(3, (0,) * 5, x=x), x, y)
                self.assertEqual(x in houses_in(notes), "own" in clauses)
                self.assertEqual(told[x], 0)

    def test_what_is_carried_anyhow_is_no_news(self):
        notes, told = notes_of(rules_of(carry=8), TOWN, state_of(2, (0,) * 5), 0, 1)
        self.assertEqual(houses_in(notes), [0, 1, 2, 3, 4])
        self.assertEqual(told, (0, 0, 1, 0, 1))

    def test_what_is_carried_anyhow_takes_no_place_of_news(self):
        notes, told = notes_of(rules_of(carry=2), TOWN, state_of(2, (0, 0, 2, 0, 2)), 0, 1)
        self.assertEqual(houses_in(notes), [0, 1, 2, 3, 4])
        self.assertEqual(told, (0, 0, 3, 0, 3))

    def test_words_are_those_of_the_sender(self):
        state = state_of(2, (0,) * 5, x=3)
        notes, told = notes_of(rules_of(), TOWN, state, 3, 0)
        self.assertEqual(notes, tuple(enumerate(BOOK)))

    def test_of_two_houses(self):
        rules, town = rules_of(), ((1, 0), (4, 3))
        state = (0, ((1, ((1, 0), (2, 1)), (0, 0), (0, 1)), (1, ((0, 0), (2, 2)), (1, 0), (0, 0))))
        self.assertEqual(notes_of(rules, town, state, 0, 1), (((0, (1, 0)), (1, (2, 1))), (0, 0)))
        self.assertEqual(notes_of(rules, town, state, 1, 0), (((0, (0, 0)), (1, (2, 2))), (1, 0)))
        self.assertEqual(notes_of(without(rules, "own"), town, state, 1, 0), (((0, (0, 0)),), (1, 0)))

    def test_between_each_two_houses_with_each_clause_left_out(self):
        for clause in ("",) + CLAUSES:
            rules = without(rules_of(carry=1), clause)
            for turn, (x, y) in itertools.product(range(8), itertools.permutations(range(5), 2)):
                state = state_of(turn, (1, 0, 2, 0, 3), x=x)
                expected = told_by_the_document(rules, TOWN, state, x, y)
                self.assertEqual(notes_of(rules, TOWN, state, x, y), expected, (clause, turn, x, y))

    def test_many_states(self):
        for rules, town, state in some_states():
            self.assertTrue(is_rules(rules) and is_state(rules, town, state))
            for x, y in itertools.permutations(range(len(town)), 2):
                told = notes_of(rules, town, state, x, y)
                self.assertEqual(told, told_by_the_document(rules, town, state, x, y))
                self.assertTrue(is_told(told))

    def test_late_turns(self):
        rules = rules_of(carry=0, clauses=("about",))
        for late in (5 * 10 ** 30, 5 * 10 ** 30 + 3):
            notes, told = notes_of(rules, TOWN, state_of(late, (0,) * 5), 0, 4)
            self.assertEqual(houses_in(notes), [late % 5 + 1, 4] if late % 5 + 1 < 4 else [4])


class TakenOfItself(unittest.TestCase):
    HOUSE = (1, ((2, 1), (3, 0), (0, 2)), (1, 2, 3), (2, 0, 1))

    def test_a_newer_word_is_refuted(self):
        for word in ((3, 1), (3, 2), (3, 3), (4, 0), (9, 1), (10 ** 30, 2)):
            up, book, told, timers = taken(rules_of(), self.HOUSE, 1, ((1, word),))
            self.assertEqual(book, ((2, 1), (word[0] + 1, 0), (0, 2)))
            self.assertEqual((up, told, timers), (1, (1, 0, 3), (2, 0, 1)))

    def test_a_word_alike_or_elder_changes_nothing(self):
        for word in ((3, 0), (2, 3), (0, 0), (0, 3)):
            self.assertEqual(taken(rules_of(), self.HOUSE, 1, ((1, word),)), self.HOUSE)

    def test_without_refute_nothing_changes(self):
        for clauses in (("refute",), ("refute", "newer")):
            rules = rules_of()
            for clause in clauses:
                rules = without(rules, clause)
            for word in ((3, 1), (3, 0), (2, 1), (9, 0), (9, 2)):
                self.assertEqual(taken(rules, self.HOUSE, 1, ((1, word),)), self.HOUSE)

    def test_without_newer_elder_words_of_itself_change_nothing(self):
        for word in ((3, 0), (2, 3), (0, 0)):
            self.assertEqual(taken(without(rules_of(), "newer"), self.HOUSE, 1, ((1, word),)), self.HOUSE)
        behind = taken(without(rules_of(), "newer"), self.HOUSE, 1, ((1, (3, 1)),))
        self.assertEqual(behind[1][1], (4, 0))

    def test_a_house_that_is_not_up_refutes_nothing(self):
        house = (0,) + self.HOUSE[1:3] + ((0, 0, 0),)
        self.assertEqual(taken(rules_of(), house, 1, ((1, (5, 1)),)), house)

    def test_its_own_word_may_have_any_mark(self):
        house = (1, ((2, 1), (3, 3), (0, 2)), (1, 2, 3), (2, 0, 1))
        self.assertEqual(taken(rules_of(), house, 1, ((1, (3, 2)),)), house)
        self.assertEqual(taken(rules_of(), house, 1, ((1, (4, 0)),))[1][1], (5, 0))

    def test_one_behind_the_other(self):
        house = taken(rules_of(), self.HOUSE, 1, ((1, (3, 1)), (1, (3, 2)), (1, (4, 1)), (1, (4, 1))))
        self.assertEqual(house[1][1], (5, 0))
        # What was refuted by the first note is what the second one is held against.
        house = taken(rules_of(), self.HOUSE, 1, ((1, (3, 1)), (1, (4, 0))))
        self.assertEqual(house[1][1], (4, 0))


class TakenOfAnother(unittest.TestCase):
    HOUSE = (1, ((2, 1), (3, 0), (0, 2)), (1, 2, 3), (2, 0, 1))

    def test_a_newer_word_stands_from_now_on(self):
        for word in ((2, 2), (2, 3), (3, 0), (9, 2)):
            behind = taken(rules_of(), self.HOUSE, 1, ((0, word),))
            self.assertEqual(behind, (1, (word, (3, 0), (0, 2)), (0, 2, 3), (0, 0, 1)))

    def test_a_newer_suspect_word_keeps_the_timer(self):
        for word in ((3, 1), (4, 1), (10 ** 30, 1)):
            behind = taken(rules_of(), self.HOUSE, 1, ((0, word),))
            self.assertEqual(behind, (1, (word, (3, 0), (0, 2)), (0, 2, 3), (2, 0, 1)))

    def test_each_mark_and_the_timer(self):
        for mark in range(4):
            behind = taken(rules_of(), self.HOUSE, 1, ((2, (1, mark)),))
            self.assertEqual(behind[3], (2, 0, 1 if mark == 1 else 0))

    def test_a_suspect_word_sets_no_timer(self):
        house = (1, ((2, 0), (3, 0), (0, 2)), (1, 2, 3), (0, 0, 0))
        self.assertEqual(taken(rules_of(), house, 1, ((0, (2, 1)),))[3], (0, 0, 0))

    def test_one_alike_or_elder_keeps_all(self):
        for word in ((2, 1), (2, 0), (1, 3), (0, 0)):
            self.assertEqual(taken(rules_of(), self.HOUSE, 1, ((0, word),)), self.HOUSE, word)

    def test_without_newer_each_other_word_stands(self):
        rules = without(rules_of(), "newer")
        for word in ((2, 0), (1, 3), (0, 0), (2, 2), (9, 0)):
            behind = taken(rules, self.HOUSE, 1, ((0, word),))
            self.assertEqual(behind, (1, (word, (3, 0), (0, 2)), (0, 2, 3), (0, 0, 1)))
        behind = taken(rules, self.HOUSE, 1, ((0, (0, 1)),))
        self.assertEqual(behind, (1, ((0, 1), (3, 0), (0, 2)), (0, 2, 3), (2, 0, 1)))

    def test_without_newer_one_alike_keeps_all(self):
        self.assertEqual(taken(without(rules_of(), "newer"), self.HOUSE, 1, ((0, (2, 1)), (2, (0, 2)))), self.HOUSE)

    def test_without_refute_words_of_others_stand_all_the_same(self):
        behind = taken(without(rules_of(), "refute"), self.HOUSE, 1, ((0, (5, 0)),))
        self.assertEqual(behind, (1, ((5, 0), (3, 0), (0, 2)), (0, 2, 3), (0, 0, 1)))


class Taken(unittest.TestCase):
    HOUSE = (1, ((2, 1), (3, 0), (0, 2), (0, 0)), (1, 2, 3, 0), (2, 0, 1, 0))

    def test_no_notes(self):
        for rules, town, (turn, houses) in some_states():
            for y, house in enumerate(houses):
                self.assertEqual(taken(rules, house, y, ()), house)

    def test_many_notes(self):
        notes = ((0, (2, 1)), (1, (3, 1)), (2, (1, 0)), (3, (0, 1)), (2, (1, 0)), (0, (2, 0)))
        self.assertEqual(taken(rules_of(), self.HOUSE, 1, notes),
                         (1, ((2, 1), (4, 0), (1, 0), (0, 1)), (1, 0, 0, 0), (2, 0, 0, 0)))

    def test_one_by_one(self):
        notes = ((0, (2, 2)), (0, (2, 3)), (1, (3, 3)), (3, (1, 1)), (3, (1, 2)), (1, (4, 1)))
        for rules in [rules_of()] + [without(rules_of(), clause) for clause in CLAUSES]:
            house = self.HOUSE
            for note in notes:
                house = taken(rules, house, 1, (note,))
            self.assertEqual(taken(rules, self.HOUSE, 1, notes), house)

    def test_told_twice(self):
        notes = ((0, (2, 2)), (1, (3, 2)), (2, (0, 2)), (3, (7, 1)))
        once = taken(rules_of(), self.HOUSE, 1, notes)
        self.assertEqual(taken(rules_of(), self.HOUSE, 1, notes + notes), once)
        self.assertEqual(taken(rules_of(), once, 1, notes), once)

    def test_a_word_that_does_not_give_way_keeps_what_was_told(self):
        house = taken(rules_of(), self.HOUSE, 1, ((3, (1, 1)),))
        up, book, told, timers = house
        later = (up, book, (1, 2, 3, 2), (2, 0, 1, 2))
        self.assertEqual(taken(rules_of(), later, 1, ((3, (1, 1)), (3, (1, 0)))), later)

    def test_books_are_the_same_in_whatever_order(self):
        notes = ((0, (2, 0)), (0, (2, 3)), (2, (1, 1)), (2, (1, 0)), (3, (0, 2)))
        expected = heard(self.HOUSE[1], notes)
        self.assertEqual(expected, ((2, 3), (3, 0), (1, 1), (0, 2)))
        for order in itertools.permutations(notes):
            self.assertEqual(taken(rules_of(), self.HOUSE, 1, order)[1], expected)
            self.assertEqual(taken(rules_of(), self.HOUSE, 1, order + order[:2])[1], expected)

    def test_suspicions_of_itself_in_whatever_order(self):
        notes = ((1, (3, 1)), (1, (4, 1)), (1, (3, 2)), (1, (1, 2)))
        for order in itertools.permutations(notes):
            self.assertEqual(taken(rules_of(), self.HOUSE, 1, order)[1][1], (5, 0))

    def test_without_newer_the_order_counts(self):
        rules = without(rules_of(), "newer")
        self.assertEqual(taken(rules, self.HOUSE, 1, ((0, (5, 0)), (0, (1, 0))))[1][0], (1, 0))
        self.assertEqual(taken(rules, self.HOUSE, 1, ((0, (1, 0)), (0, (5, 0))))[1][0], (5, 0))

    def test_no_word_gives_way_to_an_elder_one(self):
        for rules, town, state in some_states():
            whole = whole_rules(*rules[:4])
            for x, y in itertools.permutations(range(len(town)), 2):
                house = state[1][y]
                behind = taken(whole, house, y, notes_of(whole, town, state, x, y)[0])
                self.assertTrue(all(now >= then for now, then in zip(behind[1], house[1])))

    def test_what_one_writes_the_other_takes_in(self):
        for rules, town, state in some_states():
            for x, y in itertools.permutations(range(len(town)), 2):
                notes, told = notes_of(rules, town, state, x, y)
                self.assertEqual(taken(rules, state[1][y], y, notes), self.word_by_word(rules, state[1][y], y, notes))

    def test_what_is_told_is_a_house_of_a_state(self):
        for rules, town, state in some_states():
            turn, houses = state
            for x, y in itertools.permutations(range(len(town)), 2):
                notes, told = notes_of(rules, town, state, x, y)
                behind = taken(rules, houses[y], y, notes)
                self.assertTrue(is_told(behind))
                self.assertTrue(is_state(rules, town, (turn, houses[:y] + (behind,) + houses[y + 1:])))
                sender = houses[x][:2] + (told,) + houses[x][3:]
                self.assertTrue(is_state(rules, town, (turn, houses[:x] + (sender,) + houses[x + 1:])))

    def word_by_word(self, rules, house, y, notes):
        """taken, by lists."""
        clauses = rules[4]
        up, book, told, timers = house[0], list(house[1]), list(house[2]), list(house[3])
        for of, (number, mark) in notes:
            is_newer = number > book[of][0] or number == book[of][0] and mark > book[of][1]
            if of == y:
                if is_newer and "refute" in clauses:
                    book[y], told[y] = (number + 1, 0), 0
            elif is_newer or "newer" not in clauses and (number, mark) != book[of]:
                book[of], told[of] = (number, mark), 0
                timers[of] = timers[of] if mark == 1 else 0
        return up, tuple(book), tuple(told), tuple(timers)


class All(unittest.TestCase):
    def test_arguments(self):
        self.assertEqual(list(inspect.signature(notes_of).parameters), ["rules", "town", "state", "x", "y"])
        self.assertEqual(list(inspect.signature(taken).parameters), ["rules", "house", "y", "notes"])

    def test_nothing_handed_in_is_changed_and_the_same_is_told_again(self):
        rules, state = rules_of(), state_of(2, (0, 1, 2, 3, 0))
        kept = copy.deepcopy((rules, TOWN, state))
        self.assertEqual(notes_of(rules, TOWN, state, 0, 1), notes_of(rules, TOWN, state, 0, 1))
        notes, told = notes_of(rules, TOWN, state, 0, 1)
        house = state[1][1]
        self.assertEqual(taken(rules, house, 1, notes), taken(rules, house, 1, notes))
        self.assertEqual((rules, TOWN, state), kept)


if __name__ == "__main__":
    unittest.main()
