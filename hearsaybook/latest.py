"""The latest turn until which a house that stopped isn't told gone everywhere."""

from hearsaybook.doings import is_row_of_lost
from hearsaybook.layerlooks import shows_layers
from hearsaybook.layers import in_order, spread
from hearsaybook.plain import is_between, is_tuple_of
from hearsaybook.states import begun
from hearsaybook.turns import done, lost_in, walked
from hearsaybook.views import gone_everywhere


def fallen(rules, town, house):
    """The state at the beginning, but that this house isn't up."""
    turn, houses = begun(rules, town)
    return (turn, done(houses, ((), (house,), (), ())))


def latest(rules, town, house, turns, lost):
    """(number, row, paper): the last layer with a state in which the house isn't gone everywhere, a row to it, all."""
    found = spread(rules, town, fallen(rules, town, house), turns, lost)
    open_in = [[told for state, told in layer.items() if not gone_everywhere(state, house)] for layer in found]
    number = max([at for at, left in enumerate(open_in) if left])
    spent, row = min(open_in[number])
    return (number, row, in_order(found))


def shows_latest(rules, town, house, turns, lost, thing):
    """Whether the house may be told gone so late, and no later; of anything as thing."""
    if not is_tuple_of(thing, 3):
        return False
    number, row, paper = thing
    if not (is_between(number, 0, turns) and leads_there(rules, town, house, number, lost, row)):
        return False
    if not shows_layers(rules, town, fallen(rules, town, house), turns, lost, paper):
        return False
    return all([gone_everywhere(state, house) for layer in paper[number + 1:] for spent, state in layer])


def leads_there(rules, town, house, number, lost, row):
    """Whether it is a row of so many turns behind which the house isn't gone everywhere; of anything as row."""
    if not (is_row_of_lost(row) and len(row) == number):
        return False
    state, sent = walked(rules, town, fallen(rules, town, house), row)
    return lost_in(sent) <= lost and not gone_everywhere(state, house)
