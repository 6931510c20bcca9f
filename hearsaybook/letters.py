"""Letters: the notes (house, word) that they carry, and how a house takes these in."""

from hearsaybook.plain import put
from hearsaybook.towns import ticks_by
from hearsaybook.words import ALIVE, SUSPECT, newer


def notes_of(rules, town, state, x, y):
    """The notes of a letter from x to y, in the order of the houses, and x's told behind it."""
    turn, houses = state
    up, book, told, timers = houses[x]
    due = due_houses(rules, town, turn, x, y)
    news = news_houses(rules, told, x, due)
    notes = tuple([(house, word) for house, word in enumerate(book) if house in due or house in news])
    for house in news:
        told = put(told, house, told[house] + 1)
    return (notes, told)


def due_houses(rules, town, turn, x, y):
    """The houses of which a letter from x to y carries a note, whether it is news or not."""
    clauses = rules[4]
    due = [y]
    if "own" in clauses:
        due.append(x)
    about = ticks_by(town, x, turn) % len(town)
    if "about" in clauses and about != x:
        due.append(about)
    return due


def news_houses(rules, told, x, due):
    """The houses of which x's letter carries news, beside those that are due."""
    others, wait, most, carry, clauses = rules
    fresh = [(many, house) for house, many in enumerate(told) if many < most and house != x and house not in due]
    return [house for many, house in sorted(fresh)[:carry]]


def taken(rules, house, y, notes):
    """House y, (up, book, told, timers), when it has taken in the notes, one behind the other."""
    for about, word in notes:
        if about == y:
            house = refuted(rules, house, y, word)
        else:
            house = noted(rules, house, about, word)
    return house


def refuted(rules, house, y, word):
    """House y when it has taken in a word of itself."""
    up, book, told, timers = house
    if up == 1 and "refute" in rules[4] and newer(word, book[y]):
        number, mark = word
        return (up, put(book, y, (number + 1, ALIVE)), put(told, y, 0), timers)
    return house


def noted(rules, house, about, word):
    """The house when it has taken in a word of another one."""
    up, book, told, timers = house
    if not gives_way(rules, book[about], word):
        return house
    number, mark = word
    if mark != SUSPECT:
        timers = put(timers, about, 0)
    return (up, put(book, about, word), put(told, about, 0), timers)


def gives_way(rules, old, word):
    """Whether the old word of another house gives way to this one."""
    if "newer" in rules[4]:
        return newer(word, old)
    return word != old
