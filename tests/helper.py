"""What the tests share: calls written short, and a plain model to compare the program with.

The model follows the document word by word, keeps no snapshot and no sorted
index, and reckons every world from tick 0 on.
"""

import random

from lateinputs.ticks import answers

MODULUS = 1000003


def begin(window=4, ahead=4, most=2, held=2, every=2, seed=0):
    return [0, window, ahead, most, held, every, seed]


def join(player):
    return [1, player]


def leave(player):
    return [2, player]


def told(player, stay, number, tick, *says):
    return [3, player, stay, number, tick, len(says)] + list(says)


def tick(many=1):
    return [4, many]


def lock(many):
    return [5, many]


def resize(window):
    return [6, window]


def world(behind):
    return [7, behind]


def counts(number):
    return [8, number]


def deeds(number):
    return [9, number]


def fate(player, stay, number):
    return [10, player, stay, number]


def snaps():
    return [11]


def now():
    return [12]


def stays():
    return [13]


def ready():
    return [14]


def plain(behind):
    return [15, behind]


def row(player, stay, number, for_tick, *says, guess=0):
    """An input as a row."""
    return [player, stay, number, for_tick, guess, len(says)] + list(says)


def guessed(player, stay, number, for_tick, *says):
    return row(player, stay, number, for_tick, *says, guess=1)


def line_of(calls):
    return [number for call in calls for number in call]


def split(given):
    found = []
    at = 0
    while at < len(given):
        found.append(given[at + 1:at + 1 + given[at]])
        at += 1 + given[at]
    return found


def run(*calls):
    """The answer to each call of one line."""
    line = line_of(calls)
    if len(calls) > 200 or len(line) > 4000:
        raise ValueError("a test hands in a longer line than may be")
    return split(answers(line))


def last(*calls):
    return run(*calls)[-1]


def mixed(cells, number):
    """What the end of a tick makes of the cells."""
    return [(cells[i] + cells[(i + 1) % 6] + number) % MODULUS for i in range(6)]


def idle_world(seed, number):
    """The cells behind a tick when nothing was ever done."""
    cells = [(seed + i) % MODULUS for i in range(6)]
    for step in range(1, number + 1):
        cells = mixed(cells, step)
    return cells


LIMITS = {
    0: [(1, 16), (0, 16), (1, 5), (0, 5), (1, 8), (0, 1000000)],
    1: [(0, 3)],
    2: [(0, 3)],
    3: [(0, 3), (1, 40), (1, 100000), (1, 1000)],
    4: [(1, 50)],
    5: [(1, 50)],
    6: [(1, 16)],
    7: [(0, 400)],
    8: [(1, 1000)],
    9: [(1, 1000)],
    10: [(0, 3), (1, 40), (1, 100000)],
    11: [],
    12: [],
    13: [],
    14: [],
    15: [(0, 400)],
}

# The calls that only ask.
ASKING = range(7, 16)


class Model:
    """The document, done the long way."""

    def __init__(self):
        self.is_open = False

    def answer(self, call):
        name, numbers = call[0], call[1:]
        says = []
        if name == 3:
            numbers, says = call[1:5], call[6:]
        due = list(self.refusals(name, numbers, says))
        if due:
            return [max(due)]
        return [0] + getattr(self, "call_%d" % name)(*numbers, *([says] if name == 3 else []))

    def refusals(self, name, numbers, says):
        if any(not low <= x <= high for (low, high), x in zip(LIMITS[name], numbers)):
            yield -1
        if len(says) > 4 or any(not -1000000 <= x <= 1000000 for x in says):
            yield -1
        if name == 0:
            if self.is_open:
                yield -5
        elif not self.is_open:
            yield -2
        else:
            yield from self.refusals_within(name, numbers)

    def refusals_within(self, name, numbers):
        if name == 1 and self.present(numbers[0]) or name == 2 and not self.present(numbers[0]):
            yield -3
        if name == 1 and len(self.stays) >= 40:
            yield -7
        if name == 3 and (len(self.kept) >= 100 or len(self.late) >= 100):
            yield -7
        if name in (4, 5) and self.made + numbers[0] > 400:
            yield -7
        if name == 7 and (numbers[0] > self.made or numbers[0] < self.snapshot_at(self.settled)):
            yield -4
        if name == 15 and numbers[0] > self.made:
            yield -4

    def snapshot_at(self, number):
        return number - number % self.every

    def present(self, player):
        return [stay for stay in self.stays if stay["player"] == player and stay["last"] == -1]

    def is_in(self, player, number):
        return any(stay["player"] == player and stay["behind"] < number
                   and (stay["last"] == -1 or number <= stay["last"]) for stay in self.stays)

    def may_count(self, one):
        return not any(other[:3] == one[:3] and other < one for other in self.kept)

    def counted(self, number, player):
        able = [one for one in self.kept if one[3] == number and one[0] == player and self.may_count(one)]
        return sorted(able)[:self.most]

    def deeds(self, number):
        found = []
        for player in range(4):
            row = self.counted(number, player)
            found += [(0, one) for one in row]
            if not row and self.is_in(player, number):
                near = [t for t in range(max(1, number - self.held), number) if self.counted(t, player)]
                found += [(1, self.counted(t, player)[-1]) for t in near[-1:]]
        return found

    def cells(self, behind):
        cells = [(self.seed + i) % MODULUS for i in range(6)]
        for number in range(1, behind + 1):
            for guess, one in self.deeds(number):
                self.do(cells, guess, one)
            cells = mixed(cells, number)
        return cells

    def do(self, cells, guess, one):
        says = one[4]
        if guess:
            cells[one[0]] = (cells[one[0]] + 1) % MODULUS
            return
        place = [0 if x < 0 else x % 6 for x in says]
        if len(says) == 3 and says[0] == 0:
            cells[place[1]] = says[2] % MODULUS
        if len(says) == 3 and says[0] == 1:
            cells[place[1]] = (cells[place[1]] + says[2]) % MODULUS
        if len(says) == 3 and says[0] == 2:
            cells[place[1]], cells[place[2]] = cells[place[2]], cells[place[1]]
        if len(says) == 3 and says[0] == 3:
            cells[place[1]] = (cells[place[1]] * says[2]) % MODULUS
        if len(says) == 4 and says[0] == 4 and cells[place[1]] < cells[place[3]]:
            cells[place[2]] = (cells[place[2]] + cells[place[1]]) % MODULUS

    def call_0(self, window, ahead, most, held, every, seed):
        self.is_open = True
        self.window, self.ahead, self.most = window, ahead, most
        self.held, self.every, self.seed = held, every, seed
        self.stays, self.kept, self.late = [], [], set()
        self.made = self.settled = 0
        return []

    def call_1(self, player):
        number = 1 + sum(stay["player"] == player for stay in self.stays)
        self.stays.append({"player": player, "number": number, "behind": self.made, "last": -1})
        return [number]

    def call_2(self, player):
        self.present(player)[0]["last"] = self.made
        return []

    def call_3(self, player, stay, number, for_tick, says):
        one = (player, stay, number, for_tick, tuple(says))
        if stay not in [there["number"] for there in self.present(player)]:
            return [4, 0]
        if for_tick <= self.settled:
            self.late.add(one[:3])
            return [2, 0]
        if for_tick - self.made > self.ahead:
            return [3, 0]
        if one in self.kept:
            return [0, 0]
        window = range(self.settled + 1, self.made + 1)
        before = [self.deeds(t) for t in window]
        self.kept.append(one)
        other = [t for t, was in zip(window, before) if self.deeds(t) != was]
        again = self.made - self.snapshot_at(other[0] - 1) if other else 0
        return [1 if one in self.counted(for_tick, player) else 5, again]

    def call_4(self, many):
        self.made += many
        return self.settle()

    def call_5(self, many):
        for step in range(many):
            if self.is_ready():
                self.made += 1
        return self.settle()

    def is_ready(self):
        coming = self.made + 1
        return all(self.counted(coming, p) for p in range(4) if self.is_in(p, coming))

    def call_6(self, window):
        self.window = window
        return self.settle()[1:]

    def settle(self):
        self.settled = max(self.settled, self.made - self.window)
        return [self.made, self.settled]

    def call_7(self, behind):
        return self.cells(behind)

    def call_8(self, number):
        return [x for one in sorted(self.kept) if one in self.counted(number, one[0])
                for x in row(*one[:4], *one[4])]

    def call_9(self, number):
        return [x for guess, one in self.deeds(number) for x in row(*one[:4], *one[4], guess=guess)]

    def call_10(self, player, stay, number):
        name = (player, stay, number)
        ways = sorted(one for one in self.kept if one[:3] == name)
        if not ways:
            return [2 if name in self.late else 0, 0]
        return [1 if ways[0] in self.counted(ways[0][3], player) else 3, ways[0][3]]

    def call_11(self):
        return [t for t in range(self.snapshot_at(self.settled), self.made + 1) if t % self.every == 0]

    def call_12(self):
        return [self.made, self.settled, len(self.kept), len(self.late)] + self.cells(self.made)

    def call_13(self):
        return [stay[part] for stay in self.stays for part in ("player", "number", "behind", "last")]

    def call_14(self):
        return [int(self.is_ready())]

    def call_15(self, behind):
        return self.cells(behind)


def model_run(calls):
    model = Model()
    return [model.answer(call) for call in calls]


class Chance:
    """Lines of calls drawn from a fixed seed, close to the edges where much happens."""

    def __init__(self, seed):
        self.draw = random.Random(seed)
        self.stay = [0, 0, 0, 0]
        self.made = 0
        self.sent = []

    def says(self):
        pick = self.draw.choice
        number = pick([0, 1, 2, 3, 5, 7, -1, -4, 1000000, -1000000, 12])
        return pick([
            [], [number], [pick([0, 1, 2, 3, 4, 5, -1]), pick(range(-2, 8)), number],
            [0, pick(range(6)), number], [1, pick(range(6)), number], [2, pick(range(6)), pick(range(-2, 9))],
            [3, pick(range(6)), number], [4, pick(range(-1, 8)), pick(range(6)), pick(range(6))],
            [0, 1, 2, number]])

    def told(self):
        player = self.draw.randrange(4)
        stay = max(1, self.stay[player] - self.draw.choice([0, 0, 0, 0, 0, 1]))
        for_tick = max(1, self.made + self.draw.randint(-5, 4))
        self.sent.append(told(player, stay, self.draw.randint(1, 8), for_tick, *self.says()))
        return self.sent[-1 if self.draw.randrange(8) else -self.draw.randint(1, min(9, len(self.sent)))]

    def wrong(self):
        pick = self.draw.choice
        return pick([
            begin(), begin(window=17), join(4), leave(-1), told(0, 41, 1, 1), told(0, 1, 0, 1), told(0, 1, 1, 1001),
            told(0, 1, 1, 1, 0, 0, 0, 0, 0), told(0, 1, 1, 1, 1000001), tick(0), tick(51), lock(0), lock(51),
            resize(0), resize(17), world(-1), world(401), counts(0), counts(1001), deeds(0), deeds(1001),
            fate(4, 1, 1), fate(0, 0, 1), fate(0, 41, 1), fate(0, 1, 0), fate(0, 1, 100001), plain(-1), plain(401)])

    def asking(self):
        pick = self.draw.choice
        near = max(1, self.made + self.draw.randint(-8, 8))
        player = self.draw.randrange(4)
        return pick([
            counts(near), deeds(near), deeds(near), fate(player, max(1, self.stay[player]), self.draw.randint(1, 9)),
            fate(player, 1, self.draw.randint(1, 9)), snaps(), now(), stays(), ready(),
            plain(self.draw.randint(0, self.made + 1)), plain(self.made)])

    def call(self):
        if not self.draw.randrange(3):
            return self.asking()
        roll = self.draw.randrange(100)
        if roll < 50:
            return self.told()
        if roll < 62:
            return join(self.draw.randrange(4))
        if roll < 64:
            return leave(self.draw.randrange(4))
        if roll < 74:
            return tick(self.draw.choice([1, 1, 1, 2, 3]))
        if roll < 80:
            return lock(self.draw.randint(1, 4))
        if roll < 84:
            return resize(self.draw.randint(1, 16))
        if roll < 95:
            return world(max(0, self.made - self.draw.randint(-1, 12)))
        return self.wrong()

    def line(self, length):
        pick = self.draw.randint
        calls = [begin(pick(1, 8), pick(0, 6), pick(1, 3), pick(0, 4), pick(1, 8), pick(0, 1000000))]
        model = Model()
        model.answer(calls[0])
        while len(calls) < length:
            call = self.call()
            calls.append(call)
            given = model.answer(call)
            if call[0] == 1 and given[0] == 0:
                self.stay[call[1]] = given[1]
            self.made = model.made
        return calls
