import copy
import inspect
import itertools
import random
import unittest

from hearsaybook.doings import quiet
from hearsaybook.errors import NoText
from hearsaybook.rules import CLAUSES, whole_rules
from hearsaybook.states import begun
from hearsaybook.texts import read_row, read_rules, read_town, show_row, show_rules, show_town, show_views
from hearsaybook.turns import walked
from tests.anything import anything, is_told, nested
from tests.reckoned import clause_rows, some_cases, some_row, some_rules, some_town

READERS = ((read_rules, show_rules), (read_town, show_town), (read_row, show_row))
SIGNS = "\n" + "".join(chr(number) for number in range(32, 127))
WHOLE = "rules 1 2 3 4 about again newer others own refute wait"


def some_texts(seed, many):
    """(reader, shower, text) of texts as they are written."""
    chance = random.Random(seed)
    for _ in range(many):
        rules, town = some_rules(chance, chance.choice(clause_rows())), some_town(chance, chance.randint(2, 8))
        row = some_row(chance, rules, town, begun(rules, town), chance.randint(0, 4), 0.1, 0.3)
        yield read_rules, show_rules, show_rules(rules)
        yield read_town, show_town, show_town(town)
        yield read_row, show_row, show_row(row)


def changed(chance, text):
    """The text with a sign more, less or otherwise, or with two parts changed for one another."""
    at = chance.randint(0, len(text))
    kind = chance.randrange(5)
    sign = chance.choice(chance.choice((SIGNS, "0123456789-/. ")))
    if kind == 0:
        return text[:at] + sign + text[at:]
    if kind == 1:
        return text[:at] + text[at + 1:]
    if kind == 2:
        return text[:at] + sign + text[at + 1:]
    between = chance.choice(" /.")
    parts = text.split(between)
    one, other = chance.randrange(len(parts)), chance.randrange(len(parts))
    if kind == 3:
        parts[one], parts[other] = parts[other], parts[one]
    else:
        parts.insert(one, parts[other])
    return between.join(parts)


class Held(unittest.TestCase):
    def refused(self, reader, *texts):
        for text in texts:
            with self.assertRaises(NoText, msg=(reader, text)):
                reader(text)


class Rules(Held):
    def test_by_hand(self):
        for rules, text in (((0, 1, 0, 0, ()), "rules 0 1 0 0"), (whole_rules(1, 2, 3, 4), WHOLE),
                            ((3, 9, 9, 8, ("own",)), "rules 3 9 9 8 own"),
                            ((2, 5, 0, 7, ("again", "newer", "wait")), "rules 2 5 0 7 again newer wait")):
            self.assertEqual(show_rules(rules), text)
            self.assertEqual(read_rules(text), rules)

    def test_read_as_written(self):
        chance = random.Random(141)
        for clauses in itertools.chain.from_iterable(itertools.combinations(CLAUSES, many) for many in range(8)):
            rules = some_rules(chance, clauses)
            self.assertEqual(read_rules(show_rules(rules)), rules)
        for others, wait, told, carry in itertools.product(range(4), (1, 9), (0, 9), (0, 8)):
            rules = whole_rules(others, wait, told, carry)
            self.assertEqual(read_rules(show_rules(rules)), rules)

    def test_numbers_beyond_their_bounds(self):
        self.refused(read_rules, "rules 4 1 0 0", "rules 0 0 0 0", "rules 0 10 0 0", "rules 0 1 10 0", "rules 0 1 0 9",
                     "rules -1 1 0 0", "rules 0 1 0 999999999", "rules 1000000000 1 0 0")

    def test_numbers_otherwise_written(self):
        self.refused(read_rules, "rules 00 1 0 0", "rules 0 01 0 0", "rules 0 1 00 0", "rules +0 1 0 0", "rules 0 1 0 -0",
                     "rules 0x0 1 0 0", "rules 0 1. 0 0", "rules 0 1_0 0 0", "rules 0 one 0 0", "rules 0 1 0 0.0",
                     "rules 0 1 0 0000000000")

    def test_too_few_and_too_many(self):
        self.refused(read_rules, "rules", "rules ", "rules 0", "rules 0 1", "rules 0 1 0", "rules 0 1 0 own", "rules own",
                     "rules 0 1 0 0 0", "rules 0 1 0 0 0 own", "", " ", "0 1 0 0", "rules 0 1 0 0 own 1")

    def test_clauses_out_of_order_twice_and_unknown(self):
        self.refused(read_rules, "rules 0 1 0 0 wait own", "rules 0 1 0 0 own own", "rules 0 1 0 0 again about",
                     "rules 0 1 0 0 Own", "rules 0 1 0 0 ow", "rules 0 1 0 0 owns", "rules 0 1 0 0 other",
                     "rules 0 1 0 0 about again newer others own refute wait wait", "rules 0 1 0 0 zebra", "rules 0 1 0 0 -")

    def test_blanks_and_line_feeds(self):
        for text in ("rules 0 1 0 0", WHOLE):
            self.refused(read_rules, " " + text, text + " ", text.replace(" ", "  ", 1), text + "\n", "\n" + text,
                         text.replace(" ", "\n", 1), text.replace(" ", "\t", 1), text + " \n", text.replace(" ", "  "))

    def test_another_first_word(self):
        self.refused(read_rules, "town 0 1 0 0", "Rules 0 1 0 0", "rule 0 1 0 0", "rules0 1 0 0", "rulesrules 0 1 0 0",
                     " 0 1 0 0", "rules rules 0 1 0 0", "town 1/0 1/0")


class Towns(Held):
    def test_by_hand(self):
        for town, text in ((((1, 0), (1, 0)), "town 1/0 1/0"), (((4, 3), (2, 0), (3, 2)), "town 4/3 2/0 3/2"),
                           (((2, 1),) * 8, "town 2/1 2/1 2/1 2/1 2/1 2/1 2/1 2/1")):
            self.assertEqual(show_town(town), text)
            self.assertEqual(read_town(text), town)

    def test_read_as_written(self):
        chance = random.Random(142)
        for many in range(2, 9):
            for _ in range(10):
                town = some_town(chance, many)
                self.assertEqual(read_town(show_town(town)), town)

    def test_each_clock(self):
        for pace, start in itertools.product(range(7), range(7)):
            text = f"town 1/0 {pace}/{start}"
            if 1 <= pace <= 4 and start < pace:
                self.assertEqual(read_town(text), ((1, 0), (pace, start)))
            else:
                self.refused(read_town, text)

    def test_one_house_and_nine_houses(self):
        self.refused(read_town, "town", "town ", "town 1/0", "town" + " 1/0" * 9, "town" + " 1/0" * 10)
        self.assertEqual(read_town("town" + " 1/0" * 8), ((1, 0),) * 8)

    def test_otherwise_written(self):
        self.refused(read_town, "town 1/0 1", "town 1/0 1/", "town 1/0 /0", "town 1/0 1/0/0", "town 1/0 1.0", "town 1/0 1/00",
                     "town 1/0 01/0", "town 1/0 -1/0", "town 1/0 1/-0", "town 1/0 /", "town 1/0 1//0", "town 1/0 -",
                     "town 1/0 0000000002/0", "town 1/0 2/0000000001", "town 1/0 (1, 0)")

    def test_blanks_and_line_feeds(self):
        text = "town 1/0 4/3"
        self.refused(read_town, " " + text, text + " ", "town  1/0 4/3", "town 1/0  4/3", text + "\n", "\n" + text,
                     "town\n1/0 4/3", "town 1/0\n4/3", "town 1 /0 4/3", "town 1/ 0 4/3")

    def test_another_first_word(self):
        self.refused(read_town, "rules 1/0 4/3", "Town 1/0 4/3", "towns 1/0 4/3", "1/0 4/3", "", " ", "town1/0 4/3",
                     "town town 1/0 4/3", WHOLE)


class Rows(Held):
    def test_by_hand(self):
        for row, text in (((), ""), ((quiet(),), "-/-/-/-"), ((((0, 3), (), (1,), ()),), "0.3/-/1/-"),
                          ((quiet(), ((0, 1, 20), (2, 3), (0,), (1, 7))), "-/-/-/- 0.1.20/2.3/0/1.7")):
            self.assertEqual(show_row(row), text)
            self.assertEqual(read_row(text), row)

    def test_read_as_written(self):
        chance = random.Random(143)
        for many in range(2, 9):
            rules, town = some_rules(chance), some_town(chance, many)
            for turns in (0, 1, 2, 9, 40):
                row = some_row(chance, rules, town, begun(rules, town), turns, 0.2, 0.2)
                self.assertEqual(read_row(show_row(row)), row)

    def test_as_many_turns_as_a_row_has(self):
        row = (((0,), (), (), ()), quiet()) * 200
        self.assertEqual(read_row(show_row(row)), row)

    def test_numbers_of_nine_figures_and_of_ten(self):
        for number in (0, 1, 9, 10, 100, 999999999, 100000000, 123456789):
            row = (((number,), (), (), ()), ((), (), (), (number,)))
            self.assertEqual(read_row(show_row(row)), row)
        self.refused(read_row, "1000000000/-/-/-", "0.1000000000/-/-/-", "-/-/-/1234567890", "9999999999/-/-/-",
                     "00000000001/-/-/-")

    def test_0_ahead_of_other_figures(self):
        self.refused(read_row, "00/-/-/-", "01/-/-/-", "0.01/-/-/-", "-/00/-/-", "-/-/007/-", "000000000/-/-/-")

    def test_a_house_in_two_of_the_last_three(self):
        for one, other in itertools.permutations((1, 2, 3), 2):
            parts = ["-"] * 4
            parts[one], parts[other] = "2", "0.2.5"
            self.refused(read_row, "/".join(parts))
            parts[other] = "0.5"
            self.assertEqual(show_row(read_row("/".join(parts))), "/".join(parts))
        # A lost letter may have the number of a house.
        self.assertEqual(read_row("2/2/-/-"), (((2,), (2,), (), ()),))

    def test_numbers_that_do_not_rise(self):
        for at in range(4):
            for numbers in ("1.0", "0.0", "1.2.2", "3.1.2", "10.9"):
                parts = ["-"] * 4
                parts[at] = numbers
                self.refused(read_row, "/".join(parts))
            parts[at] = "9.10.100"
            self.assertEqual(read_row("/".join(parts))[0][at], (9, 10, 100))

    def test_whether_they_fit_a_state_is_not_asked(self):
        self.assertEqual(read_row("-/1/-/- -/1/-/-"), (((), (1,), (), ()),) * 2)
        self.assertEqual(read_row("-/77/88/99"), (((), (77,), (88,), (99,)),))

    def test_otherwise_written(self):
        self.refused(read_row, "-", "-/-/-", "-/-/-/-/-", "/-/-/-", "///", "0./-/-/-", ".0/-/-/-", "0..1/-/-/-", "--/-/-/-",
                     "0,1/-/-/-", "-.0/-/-/-", "0.-/-/-/-", "-0/-/-/-", "+1/-/-/-", "a/-/-/-", "None", "()", "./-/-/-",
                     "0x1/-/-/-", "1_0/-/-/-", "-/-/-/ ", "-1/-/-/-", "0-1/-/-/-", "1e3/-/-/-")

    def test_blanks_and_line_feeds(self):
        self.refused(read_row, " ", "  ", "\n", " -/-/-/-", "-/-/-/- ", "-/-/-/-  -/-/-/-", "-/-/-/-\n", "\n-/-/-/-",
                     "-/-/-/-\n-/-/-/-", "-/-/-/-\t-/-/-/-", "- /-/-/-", "0 /-/-/-", "0. 1/-/-/-", "-/-/-/- \n")


class Views(unittest.TestCase):
    def test_by_hand(self):
        rules, town = whole_rules(0, 1, 0, 0), ((1, 0), (4, 3))
        self.assertEqual(show_views(begun(rules, town)), "0:00 1:00")
        lost = ((0,), (), (), ())
        self.assertEqual(show_views(walked(rules, town, begun(rules, town), (lost,))[0]), "0:01 1:00")
        self.assertEqual(show_views(walked(rules, town, begun(rules, town), (lost, lost))[0]), "0:02 1:00")
        self.assertEqual(show_views(walked(rules, town, begun(rules, town), (((), (0,), (), ()),))[0]), "1:00")
        self.assertEqual(show_views(walked(rules, town, begun(rules, town), (((), (), (1,), ()),))[0]), "0:03")
        self.assertEqual(show_views(walked(rules, town, begun(rules, town), (((), (0, 1), (), ()),))[0]), "-")

    def test_eight_houses(self):
        rules, town = whole_rules(0, 1, 0, 0), ((1, 0),) * 8
        self.assertEqual(show_views(begun(rules, town)), " ".join(f"{house}:00000000" for house in range(8)))

    def test_held_against_the_states(self):
        for rules, town, state, doings in some_cases(144, 200):
            told = []
            for at, (up, book, old, timers) in enumerate(state[1]):
                if up == 1:
                    told.append(str(at) + ":" + "".join(str(mark) for number, mark in book))
            self.assertEqual(show_views(state), " ".join(told) or "-")


class OfAnything(Held):
    def test_anything(self):
        for thing in anything() + [[""], ("",), b"-/-/-/-", WHOLE.encode(), [WHOLE], (WHOLE,), {WHOLE: 1}, nested(list, WHOLE)]:
            for reader in (read_rules, read_town, read_row):
                if reader is read_row and thing.__class__ is str and thing == "":
                    self.assertEqual(reader(thing), ())
                else:
                    self.refused(reader, thing)

    def test_texts_of_any_signs(self):
        chance = random.Random(145)
        for _ in range(3000):
            text = "".join(chance.choice(chance.choice((SIGNS, "0123456789-/. "))) for _ in range(chance.randint(0, 14)))
            for reader, shower in READERS:
                self.reads_just_so(reader, shower, text)
            self.refused(read_rules, text)
            self.refused(read_town, text)

    def reads_just_so(self, reader, shower, text):
        """Whether it is read; what is read is written so."""
        try:
            thing = reader(text)
        except NoText:
            return False
        self.assertEqual(shower(thing), text)
        return True

    def test_changed_texts(self):
        chance, found = random.Random(146), {True: 0, False: 0}
        for reader, shower, text in some_texts(147, 300):
            for _ in range(10):
                found[self.reads_just_so(reader, shower, changed(chance, text))] += 1
        self.assertGreater(min(found.values()), 500, found)

    def test_the_texts_of_others(self):
        for reader, shower, text in some_texts(148, 30):
            for other, rest in READERS:
                if other is not reader and text != "":
                    self.refused(other, text)


class All(unittest.TestCase):
    def test_arguments(self):
        for function, name in ((show_rules, "rules"), (show_town, "town"), (show_row, "row"), (show_views, "state"),
                               (read_rules, "text"), (read_town, "text"), (read_row, "text")):
            self.assertEqual(list(inspect.signature(function).parameters), [name])

    def test_what_is_told_and_that_nothing_is_changed(self):
        for reader, shower, text in some_texts(149, 40):
            thing = reader(text)
            self.assertTrue(is_told(thing))
            kept = copy.deepcopy(thing)
            self.assertIs(shower(thing).__class__, str)
            self.assertEqual(thing, kept)
            self.assertEqual(reader(text), thing)
        for rules, town, state, doings in some_cases(150, 40):
            kept = copy.deepcopy(state)
            self.assertIs(show_views(state).__class__, str)
            self.assertEqual(state, kept)


if __name__ == "__main__":
    unittest.main()
