"""Likes: of states that go on alike the one with the least turn and the least numbers."""

from hearsaybook.towns import cycle


def like_of(town, state):
    """The state with turn as its rest by cycle, and each house's numbers less the least one that it has anywhere."""
    turn, houses = state
    least = [min([book[at][0] for up, book, told, timers in houses]) for at in range(len(houses))]
    return (turn % cycle(town), tuple([lowered(house, least) for house in houses]))


def lowered(house, least):
    """The house, (up, book, told, timers), with each number in its book less the least one of that place."""
    up, book, told, timers = house
    return (up, tuple([(number - low, mark) for (number, mark), low in zip(book, least)]), told, timers)
