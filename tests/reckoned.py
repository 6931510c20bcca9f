"""A second reckoning of turns, by other means than the program's, and many cases to hold both against."""

import random

CLAUSES = ("about", "again", "newer", "others", "own", "refute", "wait")


class Reckoned:
    """A state that is changed in place, letter by letter."""

    def __init__(self, rules, town, state):
        self.others, self.wait, self.most, self.carry, self.clauses = rules
        self.town, self.many = town, len(town)
        self.turn = state[0]
        self.up = [house[0] == 1 for house in state[1]]
        self.book = [dict(enumerate(house[1])) for house in state[1]]
        self.told = [dict(enumerate(house[2])) for house in state[1]]
        self.timers = [dict(enumerate(house[3])) for house in state[1]]
        self.heard = []  # the turns, houses and words of others that came by letters
        self.wrote = []  # (from, to, notes, whether they were taken in) of all letters

    def state(self):
        rows = [(int(self.up[at]), tuple(self.book[at].values()), tuple(self.told[at].values()),
                 tuple(self.timers[at].values())) for at in range(self.many)]
        return (self.turn, tuple(rows))

    def ticks(self, x):
        """The turns up to now in which the clock of x ticked."""
        pace, start = self.town[x]
        return list(range(start, self.turn + 1, pace))

    def write(self, x, y):
        """A letter from x to y; whether it is taken in."""
        about = len(self.ticks(x)) % self.many
        carried = {y} | ({x} if "own" in self.clauses else set()) | ({about} - {x} if "about" in self.clauses else set())
        news = [of for of in range(self.many) if of != x and of not in carried and self.told[x][of] < self.most]
        for of in sorted(news, key=self.told[x].get)[:self.carry]:
            carried.add(of)
            self.told[x][of] += 1
        notes = [(of, self.book[x][of]) for of in sorted(carried)]
        missed = len(self.letters) in self.lost
        self.letters.append((x, y, missed))
        arrives = self.up[y] and not missed
        self.wrote.append((x, y, tuple(notes), arrives))
        if arrives:
            for of, word in notes:
                self.read(y, of, word)
        return arrives

    def read(self, y, of, word):
        old = self.book[y][of]
        if of == y:
            if word > old and "refute" in self.clauses:
                self.book[y][y], self.told[y][y] = (word[0] + 1, 0), 0
        elif word > old or word != old and "newer" not in self.clauses:
            self.book[y][of], self.told[y][of] = word, 0
            self.heard.append((self.turn, y, of, word))
            if word[1] in (0, 2, 3):
                self.timers[y][of] = 0

    def own_word(self, x, word):
        self.book[x][x], self.told[x][x] = word, 0

    def turn_by(self, doings):
        """One turn; its letters."""
        self.lost, falls, leaves, comes = doings
        self.letters = []
        for x in falls + leaves:
            self.timers[x] = {of: 0 for of in range(self.many)}
        for x in falls:
            self.up[x] = False
        for x in comes:
            self.up[x] = True
            self.own_word(x, (self.book[x][x][0] + 1, 0))
        for x in leaves:
            self.own_word(x, (self.book[x][x][0], 3))
        for x in leaves + comes:
            for y in range(self.many):
                if y != x:
                    self.write(x, y)
        for x in leaves:
            self.up[x] = False
        for a in range(self.many):
            if self.up[a] and self.turn in self.ticks(a):
                self.ask_all(a)
        self.turn += 1
        return tuple(self.letters)

    def ask_all(self, a):
        rest = [(a + step) % self.many for step in range(1, self.many)]
        first = rest[(len(self.ticks(a)) - 1) % (self.many - 1)]
        if self.book[a][first][1] in (0, 1) or "again" in self.clauses:
            self.ask(a, first)
        for b in sorted(rest):
            if b != first and self.timers[a][b]:
                self.ask(a, b)

    def ask(self, a, b):
        answered = self.write(a, b) and self.write(b, a)
        if not answered and "others" in self.clauses and self.book[a][b][1] in (0, 1):
            asked = [(a + step) % self.many for step in range(1, self.many)]
            asked = [h for h in asked if h != b and self.book[a][h][1] in (0, 1)]
            for h in asked[:self.others]:
                path = [(a, h), (h, b), (b, h), (h, a)]
                while path and self.write(*path[0]):
                    path.pop(0)
                if not path:
                    answered = True
                    break
        number, mark = self.book[a][b]
        if answered:
            self.timers[a][b] = 0
        elif mark in (0, 1):
            left = self.timers[a][b]
            if "wait" not in self.clauses or left == 1:
                self.book[a][b], self.told[a][b], self.timers[a][b] = (number, 2), 0, 0
            elif left == 0:
                if mark == 0:
                    self.book[a][b], self.told[a][b] = (number, 1), 0
                self.timers[a][b] = self.wait
            else:
                self.timers[a][b] = left - 1


def some_town(chance, many, pace=4):
    paces = [chance.randint(1, pace) for _ in range(many)]
    return tuple((each, chance.randrange(each)) for each in paces)


def some_rules(chance, clauses=CLAUSES, wait=9):
    return (chance.randint(0, 3), chance.randint(1, wait), chance.randint(0, 5), chance.randint(0, 8), tuple(clauses))


def clause_rows():
    """All clauses, each one left out, none, and some."""
    rows = [CLAUSES] + [tuple(each for each in CLAUSES if each != clause) for clause in CLAUSES]
    return rows + [(), ("newer",), ("again", "wait"), ("about", "others", "own")]


def some_state(chance, rules, town):
    """A state of these rules and this town that need not come of begun."""
    many, houses = len(town), []
    for at in range(many):
        up = int(chance.random() < 0.8)
        book = tuple((chance.choice((0, 0, 1, 2)), chance.choice((0, 0, 0, 1, 1, 2, 3))) for _ in range(many))
        told = tuple(chance.randint(0, rules[2]) for _ in range(many))
        timers = tuple(chance.choice((0, 0, 1, rules[1])) if up and of != at else 0 for of in range(many))
        houses.append((up, book, told, timers))
    return (chance.randint(0, 30), tuple(houses))


def some_doings(chance, state, missed, moves):
    """Doings of this state: each letter is missed, and each house falls, leaves or comes, as often as told."""
    lost = tuple(number for number in range(60) if chance.random() < missed)
    rows = ([], [], [])
    for at, house in enumerate(state[1]):
        if chance.random() < moves:
            rows[chance.randrange(2) if house[0] == 1 else 2].append(at)
    return (lost,) + tuple(tuple(row) for row in rows)


def some_cases(seed, many=300):
    """(rules, town, state, doings) of many kinds, always the same ones."""
    chance = random.Random(seed)
    for clauses in clause_rows():
        for _ in range(many // len(clause_rows()) + 1):
            rules = some_rules(chance, clauses)
            town = some_town(chance, chance.randint(2, 8))
            state = some_state(chance, rules, town)
            yield rules, town, state, some_doings(chance, state, chance.choice((0, 0.1, 0.5, 1)),
                                                  chance.choice((0, 0.2, 0.5)))


def some_row(chance, rules, town, state, turns, missed=0.2, moves=0.05):
    """A row of doings from this state on."""
    row, reckoned = [], Reckoned(rules, town, state)
    for _ in range(turns):
        row.append(some_doings(chance, reckoned.state(), missed, moves))
        reckoned.turn_by(row[-1])
    return tuple(row)
