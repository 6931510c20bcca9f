"""When a state is still: in quiet turns nothing changes of it but turn."""

from hearsaybook.doings import quiet
from hearsaybook.plain import is_same
from hearsaybook.towns import cycle
from hearsaybook.turns import stepped

MOST_QUIET = 500


def still_behind(rules, town, state):
    """The least number of quiet turns behind which it is still, and the state there; None if there is none to 500."""
    length = cycle(town)
    number = 0
    since = 0
    still = state
    while since < length:
        state, letters = stepped(rules, town, state, quiet())
        since += 1
        if state[1] != still[1]:
            number += since
            since = 0
            still = state
        if number > MOST_QUIET:
            return None
    return (number, still)


def shows_still(rules, town, state, thing):
    """Whether it is what still_behind tells; of anything as thing."""
    return is_same(still_behind(rules, town, state), thing)
