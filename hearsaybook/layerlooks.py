"""A look at layers, whoever wrote them."""

from hearsaybook.outcomes import keep_least, outcomes
from hearsaybook.plain import is_between, is_tuple_of
from hearsaybook.states import is_state


def shows_layers(rules, town, state, turns, lost, thing):
    """Whether in these layers each state that may come stands, with a number no greater than must be lost.

    Of anything as thing.
    """
    if not is_tuple_of(thing, turns + 1):
        return False
    if not all([is_layer(rules, town, lost, layer) for layer in thing]):
        return False
    found = [least_spent(layer) for layer in thing]
    if state not in found[0] or found[0][state][0] != 0:
        return False
    return all([leads_on(rules, town, lost, one, other) for one, other in zip(found, found[1:])])


def is_layer(rules, town, lost, thing):
    """Whether it is a tuple of pairs of a number from 0 to lost and a state; of anything as thing."""
    return isinstance(thing, tuple) and all([is_spent(rules, town, lost, pair) for pair in thing])


def is_spent(rules, town, lost, thing):
    """Whether it is a pair of a number from 0 to lost and a state; of anything as thing."""
    return is_tuple_of(thing, 2) and is_between(thing[0], 0, lost) and is_state(rules, town, thing[1])


def least_spent(layer):
    """Each state of the layer with the least number it has there, as outcomes takes it."""
    found = {}
    for spent, state in layer:
        keep_least(found, state, (spent, ()))
    return found


def leads_on(rules, town, lost, layer, following):
    """Whether whatever comes of the one layer by a turn stands in the other one, with a number no greater."""
    due = outcomes(rules, town, layer, lost)
    return all([state in following and following[state][0] <= spent for state, (spent, row) in due.items()])
