import copy
import inspect
import itertools
import unittest

from hearsaybook.rules import is_rules, whole_rules, without
from tests.anything import Agreeing, Stubborn, anything, is_told, misplaced, nested, resized

ALL = ("about", "again", "newer", "others", "own", "refute", "wait")
BOUNDS = ((0, 3), (1, 9), (0, 9), (0, 8))


def with_number(place, number):
    return (1, 2, 3, 4, ALL)[:place] + (number,) + (1, 2, 3, 4, ALL)[place + 1:]


class IsRules(unittest.TestCase):
    def test_each_number_within_its_bounds(self):
        for place, (low, high) in enumerate(BOUNDS):
            for number in range(low, high + 1):
                self.assertIs(is_rules(with_number(place, number)), True, (place, number))

    def test_each_number_beyond_its_bounds(self):
        for place, (low, high) in enumerate(BOUNDS):
            for number in (low - 1, high + 1, low - 10, high + 10, -10 ** 40, 10 ** 40):
                self.assertIs(is_rules(with_number(place, number)), False, (place, number))

    def test_all_numbers_at_their_bounds(self):
        for numbers in itertools.product(*BOUNDS):
            self.assertIs(is_rules(numbers + (ALL,)), True, numbers)

    def test_some_of_the_clauses(self):
        for many in range(8):
            for clauses in itertools.combinations(ALL, many):
                self.assertIs(is_rules((1, 2, 3, 4, clauses)), True, clauses)

    def test_clauses_out_of_order(self):
        for clauses in itertools.permutations(ALL, 3):
            self.assertIs(is_rules((1, 2, 3, 4, clauses)), list(clauses) == sorted(clauses), clauses)
        self.assertIs(is_rules((1, 2, 3, 4, ALL[::-1])), False)

    def test_clauses_twice(self):
        for clause in ALL:
            self.assertIs(is_rules((1, 2, 3, 4, (clause, clause))), False, clause)
            self.assertIs(is_rules((1, 2, 3, 4, tuple(sorted(ALL + (clause,))))), False, clause)

    def test_other_words_as_clauses(self):
        for word in ("", "a", "About", "about ", "abou", "zone", "owns", "number", "waits", "WAIT", "\n"):
            self.assertIs(is_rules((1, 2, 3, 4, (word,))), False, word)
            self.assertIs(is_rules((1, 2, 3, 4, tuple(sorted(ALL + (word,))))), False, word)

    def test_clauses_of_other_kinds(self):
        for clauses in ("about", "", list(ALL), None, 0, {"own"}, {"own": True}, frozenset(["own"]), iter(ALL), [],
                        Agreeing(), Stubborn(), (Agreeing(),), (Stubborn(),), ("own", None), ("own", 0), (None,),
                        (b"own",), (("own",),), ([],), ({},), ("about", Agreeing()), (True,), nested(tuple, "own")):
            self.assertIs(is_rules((1, 2, 3, 4, clauses)), False)

    def test_truths_are_no_numbers(self):
        for place, truth in itertools.product(range(4), (True, False)):
            self.assertIs(is_rules(with_number(place, truth)), False, (place, truth))

    def test_tuples_too_short_and_too_long(self):
        for thing in resized((1, 2, 3, 4, ALL)):
            self.assertIs(is_rules(thing), False, thing)

    def test_anything(self):
        for thing in anything():
            self.assertIs(is_rules(thing), False)
            for place in range(5):
                may_stand = type(thing) is int if place < 4 else type(thing) is tuple and not thing
                if not may_stand:
                    self.assertIs(is_rules(with_number(place, thing)), False)

    def test_other_kinds_within(self):
        for rules in ((1, 1, 1, 1, ALL), (0, 9, 0, 8, ("own",)), (3, 1, 9, 0, ())):
            for thing in misplaced(rules):
                self.assertIs(is_rules(thing), False)


class WholeRules(unittest.TestCase):
    def test_all_seven_clauses(self):
        self.assertEqual(whole_rules(1, 2, 3, 4), (1, 2, 3, 4, ALL))
        self.assertEqual(whole_rules(0, 1, 0, 0), (0, 1, 0, 0, ALL))

    def test_within_the_bounds_they_are_rules(self):
        for numbers in itertools.product(range(4), range(1, 10), range(10), range(9)):
            told = whole_rules(*numbers)
            self.assertEqual(told[:4], numbers)
            self.assertIs(is_rules(told), True)

    def test_beyond_the_bounds_nothing_is_refused(self):
        self.assertEqual(whole_rules(4, 10, 10, 9), (4, 10, 10, 9, ALL))

    def test_what_is_told(self):
        self.assertTrue(is_told(whole_rules(3, 9, 9, 8)))


class Without(unittest.TestCase):
    def test_each_clause(self):
        for at, clause in enumerate(ALL):
            told = without(whole_rules(1, 2, 3, 4), clause)
            self.assertEqual(told, (1, 2, 3, 4, ALL[:at] + ALL[at + 1:]))
            self.assertIs(is_rules(told), True)
            self.assertTrue(is_told(told))

    def test_rules_that_lack_it_stay_as_they_are(self):
        for clause in ALL:
            once = without(whole_rules(0, 9, 0, 8), clause)
            self.assertEqual(without(once, clause), once)
        self.assertEqual(without((0, 1, 0, 0, ()), "own"), (0, 1, 0, 0, ()))

    def test_all_left_out_in_whatever_order(self):
        for order in (ALL, ALL[::-1], ALL[3:] + ALL[:3]):
            rules = whole_rules(3, 9, 9, 8)
            for clause in order:
                rules = without(rules, clause)
            self.assertEqual(rules, (3, 9, 9, 8, ()))
            self.assertIs(is_rules(rules), True)


class All(unittest.TestCase):
    def test_arguments(self):
        names = {is_rules: ["thing"], whole_rules: ["others", "wait", "told", "carry"], without: ["rules", "clause"]}
        for told, arguments in names.items():
            self.assertEqual(list(inspect.signature(told).parameters), arguments)

    def test_nothing_handed_in_is_changed(self):
        for thing in ([1, 2, 3, 4, list(ALL)], (1, 2, 3, 4, list(ALL)), {"a": [0]}, (1, 2, 3, 4, {"own": [1]})):
            kept = copy.deepcopy(thing)
            is_rules(thing)
            self.assertEqual(thing, kept)
        rules = whole_rules(1, 2, 3, 4)
        without(rules, "own")
        self.assertEqual(rules, (1, 2, 3, 4, ALL))
        self.assertEqual(whole_rules(1, 2, 3, 4), rules)

    def test_asked_again_the_same_is_told(self):
        rules = whole_rules(1, 2, 3, 4)
        self.assertEqual(without(rules, "wait"), without(rules, "wait"))


if __name__ == "__main__":
    unittest.main()
