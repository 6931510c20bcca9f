"""What all other modules share: kinds of things, asked of anything, and tuples."""


def is_whole(thing):
    """Whether it is a whole number."""
    # To Python True is an int; here a truth is no number.
    return isinstance(thing, int) and not isinstance(thing, bool)


def is_count(thing):
    """Whether it is a whole number from 0."""
    return is_whole(thing) and thing >= 0


def is_between(thing, low, high):
    """Whether it is a whole number from low to high."""
    return is_whole(thing) and low <= thing <= high


def is_text(thing, text):
    """Whether it is this text."""
    # Asked by == alone, an object that calls itself equal to all would pass.
    return isinstance(thing, str) and thing == text


def is_tuple_of(thing, length):
    """Whether it is a tuple of so many things."""
    return isinstance(thing, tuple) and len(thing) == length


def rises(things):
    """Whether each thing of a tuple is less than the next one."""
    return all([one < other for one, other in zip(things, things[1:])])


def put(things, place, thing):
    """The tuple with another thing at this place."""
    return things[:place] + (thing,) + things[place + 1:]


def is_same(told, thing):
    """Whether it is just what was told, of tuples, whole numbers and None; of anything as thing."""
    if isinstance(told, tuple):
        return is_tuple_of(thing, len(told)) and all([is_same(one, other) for one, other in zip(told, thing)])
    if told is None:
        return thing is None
    return is_whole(thing) and thing == told
