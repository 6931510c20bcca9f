"""Rules: (others, wait, told, carry, clauses)."""

from hearsaybook.plain import is_between, is_tuple_of, rises

CLAUSES = ("about", "again", "newer", "others", "own", "refute", "wait")

MOST_OTHERS = 3
MOST_WAIT = 9
MOST_TOLD = 9
MOST_CARRY = 8


def is_rules(thing):
    """Whether it is rules; of anything."""
    if not is_tuple_of(thing, 5):
        return False
    others, wait, told, carry, clauses = thing
    if not (is_between(others, 0, MOST_OTHERS) and is_between(wait, 1, MOST_WAIT)):
        return False
    if not (is_between(told, 0, MOST_TOLD) and is_between(carry, 0, MOST_CARRY)):
        return False
    return are_clauses(clauses)


def are_clauses(thing):
    """Whether it is a rising tuple of some of the clauses; of anything."""
    if not isinstance(thing, tuple):
        return False
    return all([is_clause(each) for each in thing]) and rises(thing)


def is_clause(thing):
    """Whether it is the text of a clause; of anything."""
    # Asked by `in` alone, an object that calls itself equal to all would pass.
    return isinstance(thing, str) and thing in CLAUSES


def whole_rules(others, wait, told, carry):
    """The rules with all clauses."""
    return (others, wait, told, carry, CLAUSES)


def without(rules, clause):
    """The rules with this clause left out."""
    others, wait, told, carry, clauses = rules
    kept = tuple([each for each in clauses if each != clause])
    return (others, wait, told, carry, kept)
