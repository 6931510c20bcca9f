"""A desk: rules, a town and its state, led and asked by lines."""

from hearsaybook.bounds import gone_by, safe_number
from hearsaybook.breaks import breaks
from hearsaybook.doings import is_doings, quiet
from hearsaybook.errors import NoLine, NoText
from hearsaybook.forever import forever
from hearsaybook.latest import latest
from hearsaybook.leastlost import least_lost
from hearsaybook.rules import without
from hearsaybook.states import begun
from hearsaybook.stillness import still_behind
from hearsaybook.texts import NONE, is_number, or_none, read_row, read_rules, read_town, show_row, show_views
from hearsaybook.turns import stepped, walked

MOST_GO = 500
MOST_TURNS = 8
MOST_LOST = 6
MOST_EACH = 3
MOST_LIKES = 400
MOST_BREAK_TURNS = 4
MOST_BREAK_LOST = 3

# All that may come is told of towns of so many houses, asked through so many others, alone.
MOST_SEARCHED_HOUSES = 3
MOST_SEARCHED_OTHERS = 1


# Each line has a def, which is handed the desk and the words behind the first one, as many as WORDS tells.


def do_turn(desk, words):
    """One turn; its letters."""
    doings = doings_in(words[0])
    if not is_doings(desk.state, doings):
        return "no doings"
    state, letters = stepped(desk.rules, desk.town, desk.state, doings)
    go_on(desk, state)
    return or_none(" ".join([show_letter(x, y, lost) for x, y, lost in letters]))


def show_letter(x, y, lost):
    """The text of a letter."""
    return f"{x}>{y}!" if lost else f"{x}>{y}"


def do_go(desk, words):
    """Quiet turns; how many letters were sent."""
    many = number_in(words[0], 0, MOST_GO)
    state, sent = walked(desk.rules, desk.town, desk.state, (quiet(),) * many)
    go_on(desk, state)
    count = sum([len(letters) for letters in sent])
    return f"{count}"


def go_on(desk, state):
    """Let this be the desk's state, from which one may go back."""
    desk.past.append(desk.state)
    desk.state = state


def do_back(desk, words):
    """Undo the last turn or go."""
    if not desk.past:
        return "nothing"
    desk.state = desk.past.pop()
    return "ok"


def do_views(desk, words):
    """What each house that is up tells of all."""
    return show_views(desk.state)


def do_book(desk, words):
    """The words of a house's book."""
    house = house_in(desk, words[0])
    up, book, told, timers = desk.state[1][house]
    return " ".join([f"{number}.{mark}" for number, mark in book])


def do_round(desk, words):
    """The next turn."""
    return f"{desk.state[0]}"


def do_still(desk, words):
    """Behind how many quiet turns it is still, and the views there."""
    told = still_behind(desk.rules, desk.town, desk.state)
    if told is None:
        return NONE
    number, state = told
    return f"{number} {show_views(state)}"


def do_bounds(desk, words):
    """The told numbers."""
    turns = [gone_by(desk.rules, desk.town, house) for house in range(len(desk.town))]
    return " ".join([f"{number}" for number in [safe_number(desk.rules, desk.town)] + turns])


def do_without(desk, words):
    """Leave out a clause."""
    clause = words[0]
    if clause not in desk.rules[4]:
        raise NoLine("the rules have no such clause")
    desk.rules = without(desk.rules, clause)
    return "ok"


def do_ever(desk, words):
    """Whether one is ever told gone wrongly, with so many letters lost in each turn."""
    each, most = number_in(words[0], 0, MOST_EACH), number_in(words[1], 1, MOST_LIKES)
    if is_too_great(desk):
        return "too great"
    told = forever(desk.rules, desk.town, each, most)
    if told is None:
        return "open"
    what, found = told
    return f"safe {len(found)}" if what == "safe" else with_row("wrong", found)


def do_least(desk, words):
    """The least number of letters that must be lost until one is told gone wrongly."""
    turns, lost = number_in(words[0], 0, MOST_TURNS), number_in(words[1], 0, MOST_LOST)
    if is_too_great(desk):
        return "too great"
    told = least_lost(desk.rules, desk.town, turns, lost)
    if told[0] == "none":
        return "none"
    what, number, row = told
    return with_row(f"{number}", row)


def do_latest(desk, words):
    """The latest turn until which a house that stopped isn't told gone everywhere."""
    house = house_in(desk, words[0])
    turns, lost = number_in(words[1], 0, MOST_TURNS), number_in(words[2], 0, MOST_LOST)
    if is_too_great(desk):
        return "too great"
    number, row, paper = latest(desk.rules, desk.town, house, turns, lost)
    return with_row(f"{number}", row)


def do_breaks(desk, words):
    """A row by which a promise breaks."""
    turns, lost = number_in(words[0], 1, MOST_BREAK_TURNS), number_in(words[1], 0, MOST_BREAK_LOST)
    if is_too_great(desk):
        return "too great"
    told = breaks(desk.rules, desk.town, turns, lost)
    if told is None:
        return "none"
    what, row = told
    return with_row(what, row)


def is_too_great(desk):
    """Whether the town or the rules are too great for all that may come to be told."""
    return len(desk.town) > MOST_SEARCHED_HOUSES or desk.rules[0] > MOST_SEARCHED_OTHERS


def with_row(text, row):
    """The text and the row behind it, if it isn't empty."""
    return " ".join([text, show_row(row)]) if row else text


def doings_in(word):
    """The doings that are written; refused with NoLine else."""
    try:
        row = read_row(word)
    except NoText:
        raise NoLine("these are no doings") from None
    if len(row) != 1:
        raise NoLine("a turn has one doings")
    return row[0]


def house_in(desk, word):
    """The house of the town that is written; refused with NoLine else."""
    return number_in(word, 0, len(desk.town) - 1)


def number_in(word, low, high):
    """The number from low to high that is written; refused with NoLine else."""
    if not (is_number(word) and low <= int(word) <= high):
        raise NoLine(f"there must be a number from {low} to {high}")
    return int(word)


def two_lines(text):
    """The two lines of a text; refused with NoText else; of anything."""
    if not isinstance(text, str):
        raise NoText("a desk is made of a text")
    lines = text.split("\n")
    if len(lines) != 2:
        raise NoText("a desk is made of two lines")
    return lines


DEEDS = {
    "turn": do_turn, "go": do_go, "back": do_back, "views": do_views, "book": do_book, "round": do_round,
    "still": do_still, "bounds": do_bounds, "without": do_without, "ever": do_ever, "least": do_least,
    "latest": do_latest, "breaks": do_breaks,
}

WORDS = {
    "turn": 1, "go": 1, "back": 0, "views": 0, "book": 1, "round": 0, "still": 0, "bounds": 0, "without": 1, "ever": 2,
    "least": 2, "latest": 3, "breaks": 2,
}


class Desk:
    """Rules, a town and a state of it, at first begun."""

    def __init__(self, text):
        first, second = two_lines(text)
        self.rules = read_rules(first)
        self.town = read_town(second)
        self.state = begun(self.rules, self.town)
        # The states to which one may go back, the last one last.
        self.past = []

    def say(self, line):
        """The answer to a line; refused with NoLine where it is none; of anything."""
        if not isinstance(line, str):
            raise NoLine("a line is a text")
        words = line.split(" ")
        first = words[0]
        if first not in DEEDS or len(words) != WORDS[first] + 1:
            raise NoLine("there is no such line")
        deed = DEEDS[first]
        return deed(self, words[1:])
