"""States: (turn, houses), each house (up, book, told, timers)."""

from hearsaybook.plain import is_between, is_count, is_tuple_of
from hearsaybook.words import ALIVE, is_word

MOST_NUMBER = 1000000


def begun(rules, town):
    """The state at the beginning: all are up, and told alive."""
    others, wait, told, carry, clauses = rules
    many = len(town)
    house = (1, ((0, ALIVE),) * many, (told,) * many, (0,) * many)
    return (0, (house,) * many)


def is_state(rules, town, thing):
    """Whether it is a state of these rules and this town; of anything as thing."""
    if not is_tuple_of(thing, 2):
        return False
    turn, houses = thing
    if not (is_count(turn) and is_tuple_of(houses, len(town))):
        return False
    return all([is_house(rules, len(houses), at, house) for at, house in enumerate(houses)])


def is_house(rules, many, at, thing):
    """Whether it is the (up, book, told, timers) of the house at this place, of so many."""
    if not is_tuple_of(thing, 4):
        return False
    up, book, told, timers = thing
    if not (is_between(up, 0, 1) and is_state_book(book, many) and are_between(told, many, rules[2])):
        return False
    return are_timers(rules, many, at, up, timers)


def is_state_book(thing, many):
    """Whether it is a book of so many words, no number too great for a state."""
    if not is_tuple_of(thing, many):
        return False
    return all([is_word(word) and word[0] <= MOST_NUMBER for word in thing])


def are_between(thing, many, high):
    """Whether it is a tuple of so many whole numbers from 0 to high."""
    return is_tuple_of(thing, many) and all([is_between(each, 0, high) for each in thing])


def are_timers(rules, many, at, up, thing):
    """Whether it is the timers of the house at this place: none for itself, none at all if it isn't up."""
    if not are_between(thing, many, rules[1]):
        return False
    return thing[at] == 0 and (up == 1 or not any(thing))
