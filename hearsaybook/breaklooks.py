"""A look at broken promises, whoever tells them."""

from hearsaybook.bounds import safe_number
from hearsaybook.doings import is_doings
from hearsaybook.plain import is_text, is_tuple_of
from hearsaybook.states import begun
from hearsaybook.stillness import still_behind
from hearsaybook.turns import lost_in, trail
from hearsaybook.views import agrees, elder_in, gone_wrongly


def shows_break(rules, town, thing):
    """Whether it is a break (what, row) of these rules in this town; of anything as thing."""
    if not (is_tuple_of(thing, 2) and is_break_row(rules, town, thing[1])):
        return False
    what, row = thing
    first = begun(rules, town)
    steps = trail(rules, town, first, row)
    states = [first] + [state for state, letters in steps]
    if is_text(what, "gone"):
        return is_gone_too_soon(rules, town, states[-1], lost_in([letters for state, letters in steps]))
    if is_text(what, "elder"):
        return elder_in(states[-2], states[-1]) is not None
    return is_text(what, "apart") and stays_apart(rules, town, states[-1])


def is_break_row(rules, town, thing):
    """Whether it is one doings or more, with lost and, at most once, one house of falls alone; of anything as thing."""
    if not (isinstance(thing, tuple) and len(thing) > 0):
        return False
    # From begun on, where one house falls at most, what may be done there may be done in each turn.
    first = begun(rules, town)
    if not all([is_doings(first, doings) and doings[2] == () for doings in thing]):
        return False
    return len([house for doings in thing for house in doings[1]]) <= 1


def is_gone_too_soon(rules, town, behind, lost):
    """Whether all are up, and one is told gone with fewer letters lost than must be, in a state from begun on."""
    all_up = all([up == 1 for up, book, told, timers in behind[1]])
    return all_up and lost < safe_number(rules, town) and gone_wrongly(behind)


def stays_apart(rules, town, behind):
    """Whether the books don't become one, once and for good, when nothing is done any more."""
    told = still_behind(rules, town, behind)
    if told is None:
        return True
    number, state = told
    return not agrees(state)
