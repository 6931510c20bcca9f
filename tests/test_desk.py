import inspect
import itertools
import random
import unittest

from hearsaybook.bounds import gone_by, safe_number
from hearsaybook.breaklooks import shows_break
from hearsaybook.breaks import breaks
from hearsaybook.desk import Desk
from hearsaybook.doings import is_doings, quiet
from hearsaybook.errors import NoLine, NoText
from hearsaybook.forever import forever
from hearsaybook.latest import latest
from hearsaybook.leastlost import least_lost
from hearsaybook.rules import whole_rules, without
from hearsaybook.states import begun
from hearsaybook.stillness import still_behind
from hearsaybook.texts import read_row, read_rules, read_town, show_row, show_rules, show_town, show_views
from hearsaybook.turns import stepped, walked
from tests.anything import anything, nested
from tests.reckoned import CLAUSES, some_doings, some_rules, some_town

RULES = "rules 0 1 0 0 about again newer others own refute wait"
SLOW = "town 1/0 4/3"
PAIR = "town 1/0 1/0"
SIGNS = "\n" + "".join(chr(number) for number in range(32, 127))


def desk_of(rules, town):
    return Desk(show_rules(rules) + "\n" + show_town(town))


class Model:
    """A desk by the functions themselves."""

    def __init__(self, rules, town):
        self.rules, self.town, self.states = rules, town, [begun(rules, town)]

    def say(self, line):
        word, *rest = line.split(" ")
        state = self.states[-1]
        if word == "turn":
            doings = read_row(rest[0])[0]
            if not is_doings(state, doings):
                return "no doings"
            behind, letters = stepped(self.rules, self.town, state, doings)
            self.states.append(behind)
            return " ".join(str(x) + ">" + str(y) + "!" * lost for x, y, lost in letters) or "-"
        if word == "go":
            behind, letters = walked(self.rules, self.town, state, (quiet(),) * int(rest[0]))
            self.states.append(behind)
            return str(sum(map(len, letters)))
        if word == "back":
            if len(self.states) == 1:
                return "nothing"
            self.states.pop()
            return "ok"
        if word == "without":
            self.rules = without(self.rules, rest[0])
            return "ok"
        return self.asked(word, [int(number) for number in rest], state)

    def asked(self, word, numbers, state):
        if word == "views":
            return show_views(state)
        if word == "book":
            return " ".join(f"{number}.{mark}" for number, mark in state[1][numbers[0]][1])
        if word == "round":
            return str(state[0])
        if word == "still":
            told = still_behind(self.rules, self.town, state)
            return "-" if told is None else str(told[0]) + " " + show_views(told[1])
        if word == "bounds":
            turns = [gone_by(self.rules, self.town, house) for house in range(len(self.town))]
            return " ".join(map(str, [safe_number(self.rules, self.town)] + turns))
        if len(self.town) > 3 or self.rules[0] > 1:
            return "too great"
        return self.searched(word, numbers)

    def searched(self, word, numbers):
        if word == "ever":
            told = forever(self.rules, self.town, *numbers)
            if told is None:
                return "open"
            return f"safe {len(told[1])}" if told[0] == "safe" else "wrong " + show_row(told[1])
        if word == "least":
            told = least_lost(self.rules, self.town, *numbers)
            return "none" if told[0] == "none" else f"{told[1]} {show_row(told[2])}"
        if word == "latest":
            number, row, paper = latest(self.rules, self.town, *numbers)
            return f"{number} {show_row(row)}".rstrip()
        told = breaks(self.rules, self.town, *numbers)
        return "none" if told is None else f"{told[0]} {show_row(told[1])}"


class Held(unittest.TestCase):
    def says(self, desk, *pairs):
        for line, answer in pairs:
            self.assertEqual(desk.say(line), answer, line)

    def refused(self, desk, *lines):
        """Each line is refused, and nothing is changed by it."""
        before = self.told_of(desk)
        for line in lines:
            with self.assertRaises(NoLine, msg=line):
                desk.say(line)
            self.assertEqual(self.told_of(desk), before, line)

    def told_of(self, desk):
        return [desk.say(line) for line in ("views", "round", "bounds", "still", "book 0", "book 1")]


class Made(Held):
    def test_made_of_two_lines(self):
        desk = Desk(RULES + "\n" + SLOW)
        self.says(desk, ("views", "0:00 1:00"), ("round", "0"), ("book 0", "0.0 0.0"), ("back", "nothing"))
        chance = random.Random(151)
        for many in range(2, 9):
            rules, town = some_rules(chance), some_town(chance, many)
            desk = desk_of(rules, town)
            self.says(desk, ("round", "0"), ("views", show_views(begun(rules, town))),
                      ("bounds", Model(rules, town).say("bounds")))

    def test_refused(self):
        for text in ("", "\n", RULES, SLOW, RULES + "\n", "\n" + SLOW, RULES + "\n" + SLOW + "\n", "\n" + RULES + "\n" + SLOW,
                     RULES + "\n\n" + SLOW, SLOW + "\n" + RULES, RULES + " " + SLOW, RULES + "\n" + RULES, SLOW + "\n" + SLOW,
                     RULES + " \n" + SLOW, RULES + "\n " + SLOW, RULES + "\n" + SLOW + " ", " " + RULES + "\n" + SLOW,
                     RULES + "\r\n" + SLOW, RULES.replace("wait", "weight") + "\n" + SLOW, RULES + "\ntown 1/0",
                     RULES + "\ntown 1/1 1/0", RULES + "\ntown 1/0 5/0", RULES + "\ntown 1/0 0/0", "rules 0 0 0 0\n" + SLOW,
                     RULES.replace("0 1", "00 1") + "\n" + SLOW, RULES + "\ntown" + " 1/0" * 9):
            with self.assertRaises(NoText, msg=text):
                Desk(text)

    def test_of_anything(self):
        whole = RULES + "\n" + SLOW
        for thing in anything() + [whole.encode(), [RULES, SLOW], (RULES, SLOW), [whole], (whole,), {whole: whole},
                                   nested(list, whole), nested(tuple, whole)]:
            with self.assertRaises(NoText):
                Desk(thing)
        chance = random.Random(152)
        for _ in range(1000):
            text = "".join(chance.choice(SIGNS) for _ in range(chance.randint(0, 30)))
            with self.assertRaises(NoText):
                Desk(text)

    def test_arguments(self):
        self.assertEqual(list(inspect.signature(Desk).parameters), ["text"])
        self.assertEqual(list(inspect.signature(Desk.say).parameters), ["self", "line"])


class Turns(Held):
    def test_turn(self):
        self.says(Desk(RULES + "\n" + SLOW), ("turn -/-/-/-", "0>1 1>0"), ("round", "1"), ("turn 0/-/-/-", "0>1!"),
                  ("views", "0:01 1:00"), ("turn 1/-/-/-", "0>1 1>0!"), ("views", "0:02 1:00"), ("book 0", "0.0 0.2"),
                  ("book 1", "0.0 1.0"), ("turn 7/-/-/-", "0>1 1>0 1>0 0>1"), ("book 0", "0.0 1.0"), ("round", "4"))

    def test_turn_with_falls_leaves_and_comes(self):
        self.says(Desk(RULES + "\n" + SLOW), ("turn -/1/-/-", "0>1"), ("views", "0:01"), ("turn -/-/0/-", "0>1"),
                  ("views", "-"), ("turn -/-/-/-", "-"), ("turn 0/-/-/0.1", "0>1! 1>0 0>1 1>0 1>0 0>1"),
                  ("views", "0:00 1:00"), ("book 0", "1.0 1.0"))

    def test_doings_that_are_none_there(self):
        desk = Desk(RULES + "\n" + SLOW)
        for line in ("turn -/2/-/-", "turn -/-/-/0", "turn -/-/9/-", "turn -/-/-/999999999"):
            self.says(desk, (line, "no doings"), ("round", "0"), ("back", "nothing"))
        self.says(desk, ("turn -/1/-/-", "0>1"), ("turn -/1/-/-", "no doings"), ("turn -/-/1/-", "no doings"),
                  ("turn -/-/-/0", "no doings"), ("round", "1"), ("back", "ok"), ("back", "nothing"), ("turn -/-/-/1", "no doings"),
                  ("turn -/0/-/-", "-"))

    def test_turn_refused(self):
        desk = Desk(RULES + "\n" + SLOW)
        desk.say("turn 0/-/-/-")
        self.refused(desk, "turn", "turn ", "turn  -/-/-/-", "turn -/-/-/- ", "turn -/-/-/- -/-/-/-", " turn -/-/-/-",
                     "turn -", "turn -/-/-", "turn -/-/-/-/-", "turn 1.0/-/-/-", "turn -/0/0/-", "turn -/0.1/1/-",
                     "turn -/1/-/1", "turn 00/-/-/-", "turn 1000000000/-/-/-", "turn -/-/-/-\n", "turn\n-/-/-/-",
                     "Turn -/-/-/-", "turn-/-/-/-", "turn 0", "turn a/-/-/-", "turn -/-/-/0,1")

    def test_go(self):
        self.says(Desk(RULES + "\n" + SLOW), ("go 0", "0"), ("round", "0"), ("go 1", "2"), ("round", "1"), ("go 3", "8"),
                  ("round", "4"), ("go 500", "1250"), ("round", "504"), ("views", "0:00 1:00"))

    def test_go_refused(self):
        desk = Desk(RULES + "\n" + SLOW)
        self.refused(desk, "go", "go ", "go 501", "go 999999999", "go 1000000000", "go -1", "go 00", "go 01", "go +1", "go 1.0",
                     "go  1", "go 1 ", "go 1 1", " go 1", "go one", "go 1\n", "go\n1", "GO 1", "go0")

    def test_back(self):
        desk = Desk(RULES + "\n" + SLOW)
        self.says(desk, ("back", "nothing"), ("turn 0/-/-/-", "0>1!"), ("views", "0:01 1:00"), ("back", "ok"),
                  ("views", "0:00 1:00"), ("round", "0"), ("back", "nothing"))
        self.says(desk, ("go 7", "16"), ("go 0", "0"), ("turn -/1/-/-", "0>1"), ("back", "ok"), ("round", "7"), ("back", "ok"),
                  ("round", "7"), ("back", "ok"), ("round", "0"), ("back", "nothing"))

    def test_back_of_many(self):
        rules, town = whole_rules(1, 2, 2, 1), ((1, 0), (2, 1), (3, 0))
        desk, chance, seen = desk_of(rules, town), random.Random(153), []
        for _ in range(60):
            seen.append(self.told_of(desk))
            desk.say(chance.choice(("go 0", "go 2", "turn 0/-/-/-", "turn 1.2.4/-/-/-")))
        for told in reversed(seen):
            self.assertEqual(desk.say("back"), "ok")
            self.assertEqual(self.told_of(desk), told)
        self.assertEqual(desk.say("back"), "nothing")

    def test_back_undoes_no_without(self):
        desk = Desk(RULES + "\n" + SLOW)
        # Without "wait" one that doesn't answer is gone at once.
        self.says(desk, ("turn -/-/-/-", "0>1 1>0"), ("without wait", "ok"), ("turn 0/-/-/-", "0>1!"), ("views", "0:02 1:00"),
                  ("back", "ok"), ("views", "0:00 1:00"), ("turn 0/-/-/-", "0>1!"), ("views", "0:02 1:00"), ("back", "ok"),
                  ("back", "ok"), ("back", "nothing"), ("turn 0/-/-/-", "0>1!"), ("views", "0:02 1:00"))
        self.refused(desk, "without wait")

    def test_back_refused(self):
        desk = Desk(RULES + "\n" + SLOW)
        desk.say("go 3")
        self.refused(desk, "back ", " back", "back 1", "back\n", "Back", "backs", "back back")
        self.says(desk, ("back", "ok"), ("back", "nothing"))


class Asked(Held):
    def test_views_book_and_round_refused(self):
        desk = Desk(RULES + "\n" + SLOW)
        desk.say("turn 0/-/-/-")
        self.refused(desk, "views ", " views", "views 0", "views\n", "Views", "view", "book", "book ", "book 2", "book 8",
                     "book -1", "book 00", "book 01", "book 0 1", "book 0 ", "book  0", "book a", "book 0\n", "book 999999999",
                     "book 1000000000", "round ", "round 0", "round\n", "Round", "still ", "still 0", "still\n", "bounds ",
                     "bounds 0", "bounds\n", "bound", "", " ", "  ", "\n", "\nviews", "views\nviews", "views views")

    def test_book_of_each_house(self):
        rules, town = whole_rules(1, 1, 1, 1), ((1, 0),) * 8
        desk, model = desk_of(rules, town), Model(rules, town)
        for line in ("turn 0.3.5.9/1/2/-", "go 2", "turn 1/0/-/1"):
            self.says(desk, (line, model.say(line)))
            for house in range(8):
                self.says(desk, (f"book {house}", model.say(f"book {house}")))
        self.refused(desk, "book 8", "book 9", "book 10")

    def test_still(self):
        desk = Desk(RULES + "\n" + PAIR)
        self.says(desk, ("still", "0 0:00 1:00"), ("turn 2/-/-/-", "0>1 1>0 1>0!"), ("views", "0:00 1:10"),
                  ("still", "1 0:00 1:00"), ("turn -/0/-/-", "1>0"), ("still", "0 1:20"), ("turn -/1/-/-", "-"),
                  ("still", "0 -"))

    def test_still_where_there_is_none(self):
        # Without "newer" words of a house that fell may go round for ever.
        rules, town = without(whole_rules(1, 1, 2, 1), "newer"), ((1, 0),) * 3
        desk, model = desk_of(rules, town), Model(rules, town)
        for line in ("turn -/1/-/-", "still"):
            self.says(desk, (line, model.say(line)))
        self.says(desk, ("still", "-"))

    def test_bounds(self):
        self.says(Desk(RULES + "\n" + SLOW), ("bounds", "2 2 8"))
        self.says(Desk("rules 3 9 0 0\ntown 1/0 2/0 3/0 4/0 1/0"), ("bounds", "40 13 26 39 52 13"))

    def test_without(self):
        for order in itertools.islice(itertools.permutations(CLAUSES), 0, 5040, 700):
            desk = Desk(RULES + "\n" + SLOW)
            for at, clause in enumerate(order):
                self.says(desk, (f"without {clause}", "ok"))
                self.refused(desk, *[f"without {other}" for other in order[:at + 1]])
        desk = Desk("rules 0 1 0 0 own\n" + SLOW)
        self.refused(desk, "without wait", "without", "without ", "without own ", "without  own", "without own own",
                     "without Own", "without own\n", " without own", "without ow", "without owns", "without about", "without 0")
        self.says(desk, ("without own", "ok"))
        self.refused(desk, "without own")

    def test_without_counts_from_now_on(self):
        rules, town = whole_rules(0, 1, 1, 1), ((1, 0), (1, 0))
        desk = desk_of(rules, town)
        self.says(desk, ("breaks 1 1", "none"), ("least 1 6", "none"), ("without wait", "ok"))
        rules = without(rules, "wait")
        what, row = desk.say("breaks 1 1").split(" ", 1)
        self.assertIs(shows_break(rules, town, (what, read_row(row))), True)
        self.assertEqual(desk.say("least 1 6").split(" ")[0], "1")


class Searched(Held):
    def test_ever(self):
        desk = Desk("rules 0 2 1 1 about again newer others own refute wait\n" + PAIR)
        self.says(desk, ("ever 0 400", "safe 2"), ("ever 1 400", "safe 24"), ("ever 1 24", "safe 24"), ("ever 1 23", "open"),
                  ("ever 0 1", "open"), ("ever 0 2", "safe 2"))
        word, row = desk.say("ever 3 400").split(" ", 1)
        self.assertEqual((word, len(read_row(row))), ("wrong", 3))
        self.refused(desk, "ever", "ever 1", "ever 1 ", "ever 4 400", "ever 1 401", "ever 1 0", "ever 1 00", "ever 01 1",
                     "ever -1 4", "ever 1 4 4", "ever  1 4", "ever 1 4 ", "ever 1 4\n", "ever a 1", "ever 1 1000000000")

    def test_least(self):
        desk = Desk(RULES + "\n" + SLOW)
        self.says(desk, ("least 0 0", "none"), ("least 0 6", "none"), ("least 8 0", "none"), ("least 1 6", "none"),
                  ("least 8 1", "none"))
        number, row = desk.say("least 2 2").split(" ", 1)
        self.assertEqual((number, len(read_row(row))), ("2", 2))
        self.assertEqual(desk.say("least 8 6").split(" ")[0], "2")
        self.refused(desk, "least", "least 1", "least 9 6", "least 8 7", "least 1 1 1", "least  1 1", "least 1 1 ", "least 01 1",
                     "least 1 01", "least -1 1", "least 1 1\n", "least 10 10", "least a b", "Least 1 1")

    def test_latest(self):
        desk = Desk(RULES + "\n" + SLOW)
        self.says(desk, ("latest 1 0 0", "0"), ("latest 1 8 0", "1 -/-/-/-"), ("latest 1 8 6", "1 -/-/-/-"),
                  ("latest 0 8 0", "7" + " -/-/-/-" * 7), ("latest 0 2 0", "2 -/-/-/- -/-/-/-"))
        self.refused(desk, "latest", "latest 1", "latest 1 1", "latest 2 1 1", "latest 0 9 1", "latest 0 1 7", "latest 1 1 1 1",
                     "latest  1 1 1", "latest 1 1 1 ", "latest 00 1 1", "latest -1 1 1", "latest 1 1 1\n", "latest a 1 1")

    def test_an_empty_row(self):
        # Nothing stands behind the number.
        desk = Desk("rules 0 1 0 0\n" + PAIR)
        self.says(desk, ("latest 0 3 2", "0"), ("latest 1 0 0", "0"))

    def test_breaks(self):
        desk = Desk(RULES + "\n" + SLOW)
        self.says(desk, ("breaks 1 0", "none"), ("breaks 4 3", "none"), ("without refute", "ok"), ("breaks 4 0", "none"))
        what, row = desk.say("breaks 1 1").split(" ", 1)
        rules, town = without(whole_rules(0, 1, 0, 0), "refute"), ((1, 0), (4, 3))
        self.assertEqual(what, "apart")
        self.assertIs(shows_break(rules, town, (what, read_row(row))), True)
        self.refused(desk, "breaks", "breaks 1", "breaks 0 1", "breaks 5 1", "breaks 1 4", "breaks 0 0", "breaks 1 1 1",
                     "breaks  1 1", "breaks 1 1 ", "breaks 01 1", "breaks 1 01", "breaks -1 1", "breaks 1 1\n", "breaks a 1")

    def test_too_great(self):
        great = ("rules 2 1 0 0 own\n" + SLOW, "rules 3 1 0 0 own\ntown 1/0 1/0 1/0", "rules 0 1 0 0 own\ntown 1/0 1/0 1/0 1/0",
                 "rules 1 1 0 0 own\ntown" + " 1/0" * 8)
        for text in great:
            desk = Desk(text)
            for line in ("ever 0 1", "ever 3 400", "least 0 0", "least 8 6", "latest 0 0 0", "latest 1 8 6", "breaks 1 0",
                         "breaks 4 3"):
                self.says(desk, (line, "too great"))
            # Numbers that aren't as told are refused there, too.
            self.refused(desk, "ever 4 1", "ever 0 0", "ever 0 401", "least 9 0", "least 0 7", "latest 8 0 0", "latest 0 9 0",
                         "latest 0 0 7", "breaks 0 0", "breaks 5 0", "breaks 1 4", "ever 0", "least 0", "latest 0 0", "breaks 1")
            self.says(desk, ("go 1", Model(*self.read(text)).say("go 1")))
        houses = Desk("rules 0 1 0 0 own\ntown 1/0 1/0 1/0 1/0")
        self.says(houses, ("latest 3 0 0", "too great"))
        self.refused(houses, "latest 4 0 0")

    def read(self, text):
        first, second = text.split("\n")
        return read_rules(first), read_town(second)

    def test_just_not_too_great(self):
        desk = Desk("rules 1 1 0 0 about again newer others own refute wait\ntown 1/0 1/0 1/0")
        self.says(desk, ("ever 1 400", "safe 6"), ("least 1 6", "none"), ("latest 2 0 0", "0"), ("breaks 1 1", "none"))

    def test_from_begun_on(self):
        # Whatever state the desk is in, these tell of begun.
        for lines in (("turn 0/-/-/-",), ("turn -/1/-/-", "go 9"), ("go 5",)):
            desk, fresh = Desk(RULES + "\n" + SLOW), Desk(RULES + "\n" + SLOW)
            for line in lines:
                desk.say(line)
            before = self.told_of(desk)
            for line in ("ever 1 100", "least 3 3", "latest 0 5 2", "breaks 2 2"):
                self.assertEqual(desk.say(line), fresh.say(line))
            self.assertEqual(self.told_of(desk), before)
            self.says(fresh, ("back", "nothing"))


class Whole(Held):
    def some_line(self, chance, model):
        state, houses = model.states[-1], len(model.town)
        kind = chance.randrange(20)
        if kind < 6:
            doings = some_doings(chance, state, chance.choice((0, 0.2)), chance.choice((0, 0.3)))
            if chance.random() < 0.1:
                doings = (doings[0], (chance.randrange(9),), (), ())
            return "turn " + show_row((doings,))
        if kind == 6 and model.rules[4] and chance.random() < 0.3:
            return "without " + chance.choice(model.rules[4])
        return chance.choice((f"go {chance.randint(0, 5)}", "back", "views", f"book {chance.randrange(houses)}", "round", "still",
                              "bounds", f"ever {chance.randint(0, 2)} {chance.randint(1, 60)}",
                              f"least {chance.randint(0, 3)} {chance.randint(0, 3)}",
                              f"latest {chance.randrange(houses)} {chance.randint(0, 3)} {chance.randint(0, 3)}",
                              f"breaks {chance.randint(1, 2)} {chance.randint(0, 2)}"))

    def test_held_against_the_functions(self):
        chance = random.Random(154)
        for number in range(40):
            rules = some_rules(chance, wait=2)
            if number % 4:
                rules = (rules[0] % 2,) + rules[1:]
            town = some_town(chance, 2 + number % 2 if number % 4 else chance.randint(2, 8), 2)
            desk, model = desk_of(rules, town), Model(rules, town)
            for _ in range(60):
                line = self.some_line(chance, model)
                self.assertEqual(desk.say(line), model.say(line), line)

    def test_two_desks_side_by_side(self):
        chance = random.Random(155)
        pairs = []
        for many in (2, 3):
            rules, town = whole_rules(1, 1, 1, 1), ((1, 0),) * many
            pairs += [(desk_of(rules, town), Model(rules, town)) for _ in range(2)]
        for _ in range(300):
            desk, model = chance.choice(pairs)
            line = self.some_line(chance, model)
            self.assertEqual(desk.say(line), model.say(line), line)

    def test_what_is_answered_is_a_text(self):
        desk = Desk(RULES + "\n" + SLOW)
        for line in ("turn 0/-/-/-", "turn -/7/-/-", "go 2", "views", "book 1", "round", "still", "bounds", "ever 1 3", "least 2 2",
                     "latest 0 2 2", "breaks 1 1", "without own", "back", "back", "back"):
            self.assertIs(desk.say(line).__class__, str)

    def test_asked_again_the_same_is_told(self):
        desk = Desk(RULES + "\n" + SLOW)
        desk.say("turn 0/-/-/-")
        for line in ("views", "book 1", "round", "still", "bounds", "ever 1 30", "least 2 2", "latest 0 2 2", "breaks 1 1"):
            self.assertEqual(desk.say(line), desk.say(line))


class OfAnything(Held):
    def test_anything(self):
        desk = Desk(RULES + "\n" + SLOW)
        desk.say("turn 0/-/-/-")
        before = self.told_of(desk)
        for thing in anything() + [b"views", ["views"], ("views",), {"views": 1}, ["go", 1], nested(list, "views"),
                                   nested(tuple, "views"), RULES, RULES + "\n" + SLOW, True, 7]:
            with self.assertRaises(NoLine):
                desk.say(thing)
        self.assertEqual(self.told_of(desk), before)
        self.says(desk, ("back", "ok"), ("back", "nothing"))

    def test_texts_of_any_signs(self):
        chance, desk = random.Random(156), Desk(RULES + "\n" + SLOW)
        before = self.told_of(desk)
        for _ in range(3000):
            text = "".join(chance.choice(SIGNS) for _ in range(chance.randint(0, 20)))
            with self.assertRaises(NoLine, msg=text):
                desk.say(text)
        self.assertEqual(self.told_of(desk), before)

    def test_lines_with_a_sign_otherwise(self):
        chance = random.Random(157)
        lines = ["turn 0.1/-/-/-", "go 12", "back", "views", "book 1", "round", "still", "bounds", "without own", "ever 1 30",
                 "least 2 2", "latest 1 2 1", "breaks 1 1"]
        refused = 0
        for _ in range(1500):
            line = chance.choice(lines)
            at = chance.randint(0, len(line))
            line = line[:at] + chance.choice(SIGNS + "0123456789" * 3) + line[at + chance.randint(0, 1):]
            desk = Desk(RULES + "\n" + SLOW)
            try:
                self.assertEqual(desk.say(line), Model(whole_rules(0, 1, 0, 0), ((1, 0), (4, 3))).say(line), line)
            except NoLine:
                refused += 1
                self.says(desk, ("round", "0"), ("back", "nothing"))
        self.assertGreater(refused, 500)


if __name__ == "__main__":
    unittest.main()
