"""Texts: how rules, towns and rows are written and read, and views written."""

from hearsaybook.doings import are_apart, are_rising
from hearsaybook.errors import NoText
from hearsaybook.rules import is_rules
from hearsaybook.towns import is_town
from hearsaybook.views import views

FIGURES = "0123456789"
MOST_FIGURES = 9

NONE = "-"


def show_rules(rules):
    """The text of rules."""
    others, wait, told, carry, clauses = rules
    return " ".join(["rules", f"{others}", f"{wait}", f"{told}", f"{carry}"] + list(clauses))


def show_town(town):
    """The text of a town."""
    return " ".join(["town"] + [f"{pace}/{start}" for pace, start in town])


def show_row(row):
    """The text of a row of doings."""
    return " ".join([show_doings(doings) for doings in row])


def show_doings(doings):
    """The text of one turn's doings."""
    return "/".join([show_numbers(numbers) for numbers in doings])


def show_numbers(numbers):
    """The text of numbers, parted by points."""
    return or_none(".".join([f"{number}" for number in numbers]))


def or_none(text):
    """The text, or what is written for none where it is empty."""
    return NONE if text == "" else text


def show_views(state):
    """The text of what each house that is up tells of all."""
    return or_none(" ".join([f"{house}:{show_marks(marks)}" for house, marks in views(state)]))


def show_marks(marks):
    """The figures of marks, one beside the other."""
    return "".join([f"{mark}" for mark in marks])


def read_rules(text):
    """The rules that are written; refused with NoText else; of anything."""
    words = words_behind("rules", text)
    rules = tuple([read_number(word) for word in words[:4]]) + (tuple(words[4:]),)
    if not is_rules(rules):
        raise NoText("these are no rules")
    return rules


def read_town(text):
    """The town that is written; refused with NoText else; of anything."""
    town = tuple([read_numbers(word, "/") for word in words_behind("town", text)])
    if not is_town(town):
        raise NoText("this is no town")
    return town


def read_row(text):
    """The row of doings that is written; refused with NoText else; of anything."""
    if not isinstance(text, str):
        raise NoText("a row is written as a text")
    if text == "":
        return ()
    return tuple([read_doings(word) for word in text.split(" ")])


def read_doings(word):
    """The doings that are written, whatever state they may fit; refused with NoText else."""
    parts = word.split("/")
    if len(parts) != 4:
        raise NoText("doings are four tuples")
    doings = tuple([() if part == NONE else read_numbers(part, ".") for part in parts])
    lost, falls, leaves, comes = doings
    if not all([are_rising(numbers) for numbers in doings]):
        raise NoText("the numbers of doings must rise")
    if not (are_apart(falls, leaves) and are_apart(falls + leaves, comes)):
        raise NoText("a house falls, leaves or comes, not two of these")
    return doings


def words_behind(first, text):
    """The words behind the first one, which must be this; refused with NoText else; of anything as text."""
    if not isinstance(text, str):
        raise NoText(f"{first} are written as a text")
    words = text.split(" ")
    if words[0] != first:
        raise NoText(f"the first word must be {first}")
    return words[1:]


def read_numbers(text, between):
    """The tuple of the numbers that are written, with this text between; refused with NoText else."""
    return tuple([read_number(part) for part in text.split(between)])


def read_number(text):
    """The number that is written; refused with NoText else."""
    if not is_number(text):
        raise NoText("this is no number")
    return int(text)


def is_number(text):
    """Whether a number is written so: by figures, no 0 ahead."""
    if not (1 <= len(text) <= MOST_FIGURES and all([sign in FIGURES for sign in text])):
        return False
    return text == "0" or text[0] != "0"
