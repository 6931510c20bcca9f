"""Doings of a turn: (lost, falls, leaves, comes)."""

from hearsaybook.plain import is_count, is_tuple_of, rises


def quiet():
    """The doings of a turn in which nothing is lost and nobody falls, leaves or comes."""
    return ((), (), (), ())


def is_doings(state, thing):
    """Whether it is doings that may be done in this state; of anything as thing."""
    if not (is_tuple_of(thing, 4) and all([are_rising(each) for each in thing])):
        return False
    lost, falls, leaves, comes = thing
    if not are_apart(falls, leaves):
        return False
    # Nobody is both up and not, so none of comes is among the others.
    return are_houses(state, falls, 1) and are_houses(state, leaves, 1) and are_houses(state, comes, 0)


def are_rising(thing):
    """Whether it is a rising tuple of whole numbers from 0; of anything."""
    return isinstance(thing, tuple) and all([is_count(each) for each in thing]) and rises(thing)


def are_apart(some, others):
    """Whether nothing is in both tuples."""
    return all([each not in others for each in some])


def are_houses(state, numbers, up):
    """Whether all are houses of the state, and each is up, or isn't, as asked."""
    turn, houses = state
    return all([number < len(houses) and houses[number][0] == up for number in numbers])


def is_row_of_lost(thing):
    """Whether it is a tuple of doings with lost alone; of anything."""
    return isinstance(thing, tuple) and all([has_lost_alone(doings) for doings in thing])


def has_lost_alone(thing):
    """Whether it is doings in which nobody falls, leaves or comes; of anything."""
    return is_tuple_of(thing, 4) and are_rising(thing[0]) and all([is_tuple_of(each, 0) for each in thing[1:]])
