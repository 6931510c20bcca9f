"""The least number of letters that must be lost until a house that is up is told gone."""

from hearsaybook.doings import is_row_of_lost
from hearsaybook.layerlooks import shows_layers
from hearsaybook.layers import in_order, spread
from hearsaybook.plain import is_between, is_text, is_tuple_of
from hearsaybook.states import begun
from hearsaybook.turns import lost_in, walked
from hearsaybook.views import gone_wrongly


def least_lost(rules, town, turns, lost):
    """("lost", number, row) with the least number, if it is at most lost; else ("none", paper)."""
    found = []
    # The layers grow fast with the letters that may be lost: so the fewest are tried first.
    for most in range(lost + 1):
        found = spread(rules, town, begun(rules, town), turns, most)
        wrong = [row for layer in found for state, (spent, row) in layer.items() if gone_wrongly(state)]
        if wrong:
            return ("lost", most, min(wrong))
    return ("none", in_order(found))


def shows_least(rules, town, turns, lost, thing):
    """Whether it shows that a house may be gone wrongly, or that none is; of anything as thing."""
    if is_tuple_of(thing, 2) and is_text(thing[0], "none"):
        return shows_none(rules, town, turns, lost, thing[1])
    if is_tuple_of(thing, 3) and is_text(thing[0], "lost"):
        return shows_lost(rules, town, turns, lost, thing[1], thing[2])
    return False


def shows_none(rules, town, turns, lost, paper):
    """Whether by these layers no house is gone wrongly; of anything as paper."""
    if not shows_layers(rules, town, begun(rules, town), turns, lost, paper):
        return False
    return not any([gone_wrongly(state) for layer in paper for spent, state in layer])


def shows_lost(rules, town, turns, lost, number, row):
    """Whether behind the row, by which so many are lost, a house is gone wrongly; of anything as number and row."""
    if not (is_between(number, 0, lost) and is_row_of_lost(row) and len(row) <= turns):
        return False
    state, sent = walked(rules, town, begun(rules, town), row)
    return lost_in(sent) == number and gone_wrongly(state)
