"""A session: the stays, the inputs kept, the ticks made, and the snapshots to reckon again from."""

from lateinputs.inputs import PLAYER, PLAYERS, STAY, TICK, counting, counting_of, deeds_of, name_of
from lateinputs.stays import Stay, is_there, next_number, present_stay
from lateinputs.world import cells_behind, first_cells

THERE_ALREADY = 0
COUNTS = 1
TOO_LATE = 2
TOO_EARLY = 3
NOT_PRESENT = 4
COUNTS_NOT = 5

# What is known of a number of a player and stay; these are not fates.
NEVER_CAME = 0
FIRST_COUNTS = 1
ONLY_LATE = 2
FIRST_COUNTS_NOT = 3


class Session:
    """What is open. Its methods take it that the call has not been refused."""

    def __init__(self, window, ahead, most, held, every, seed):
        self.window = window
        self.ahead = ahead
        self.most = most
        self.held = held
        self.every = every
        self.stays = []
        self.kept = {}
        self.late = {}
        self.counts = {}
        self.made = 0
        self.settled = 0
        self.beginning = first_cells(seed)
        self.cells = self.beginning
        self.snapshots = {0: self.cells}

    def begin_stay(self, player):
        stay = Stay(player, next_number(self.stays, player), self.made)
        self.stays.append(stay)
        return stay.number

    def end_stay(self, player):
        stay = present_stay(self.stays, player)
        stay.last = self.made

    def take(self, one):
        """The fate of an input that comes, and how many ticks were reckoned again."""
        reason = self.reason_not_to_keep(one)
        if reason is not None:
            if reason == TOO_LATE:
                self.late[name_of(one)] = True
            return [reason, 0]
        again = self.keep(one)
        return [COUNTS if self.does_count(one) else COUNTS_NOT, again]

    def reason_not_to_keep(self, one):
        """The fate of an input that is not kept, or None if it is to be kept."""
        stay = present_stay(self.stays, one[PLAYER])
        if stay is None or stay.number != one[STAY]:
            return NOT_PRESENT
        if one[TICK] <= self.settled:
            return TOO_LATE
        if one[TICK] > self.made + self.ahead:
            return TOO_EARLY
        if one in self.kept:
            return THERE_ALREADY
        return None

    def keep(self, one):
        """Keep an input; how many ticks were reckoned again for it."""
        before = self.deeds_not_settled()
        self.kept[one] = True
        self.counts = counting(self.kept, self.most)
        after = self.deeds_not_settled()
        for place in range(len(after)):
            if before[place] != after[place]:
                return self.reckon_again(self.settled + 1 + place)
        return 0

    def does_count(self, one):
        return one in counting_of(self.counts, one[TICK], one[PLAYER])

    def known_of(self, name):
        """What is known of a number of a player and stay, and the tick of its first input that is kept."""
        first = min([one for one in self.kept if name_of(one) == name], default=None)
        if first is not None:
            return [FIRST_COUNTS if self.does_count(first) else FIRST_COUNTS_NOT, first[TICK]]
        return [ONLY_LATE if name in self.late else NEVER_CAME, 0]

    def deeds(self, tick):
        return deeds_of(self.counts, self.stays, self.held, tick)

    def deeds_not_settled(self):
        """What is done in each tick that is made and not settled."""
        return [self.deeds(tick) for tick in range(self.settled + 1, self.made + 1)]

    def reckon_again(self, first):
        """Reckon again from the latest snapshot before the first tick that is other than before; how many ticks."""
        start = self.latest_snapshot(first - 1)
        self.cells = self.snapshots[start]
        for tick in range(start + 1, self.made + 1):
            self.reckon(tick)
        return self.made - start

    def reckon(self, tick):
        """Go on from the world behind the tick before."""
        self.cells = cells_behind(self.cells, tick, self.deeds(tick))
        if tick % self.every == 0:
            self.snapshots[tick] = self.cells

    def make_tick(self):
        self.made += 1
        self.reckon(self.made)
        self.settle()

    def make_ready_ticks(self, many):
        for step in range(many):
            if not self.is_ready():
                return
            self.make_tick()

    def is_ready(self):
        coming = self.made + 1
        for player in range(PLAYERS):
            if is_there(self.stays, player, coming) and not counting_of(self.counts, coming, player):
                return False
        return True

    def resize(self, window):
        self.window = window
        self.settle()

    def settle(self):
        # A window made longer must not bring back what was settled.
        self.settled = max(self.settled, self.made - self.window)
        first = self.latest_snapshot(self.settled)
        self.snapshots = dict([(tick, cells) for tick, cells in self.snapshots.items() if tick >= first])

    def first_snapshot(self):
        return min(list(self.snapshots))

    def latest_snapshot(self, tick):
        """The tick of the latest snapshot that is not behind a tick."""
        return max([kept for kept in self.snapshots if kept <= tick])

    def world_behind(self, tick):
        start = self.latest_snapshot(tick)
        return self.cells_from(self.snapshots[start], start, tick)

    def plain_behind(self, tick):
        """The cells behind a tick with no snapshot's help, so that it can be held against what snapshots give."""
        return self.cells_from(self.beginning, 0, tick)

    def cells_from(self, cells, start, tick):
        """The cells behind a tick, reckoned from those behind the tick start."""
        for step in range(start + 1, tick + 1):
            cells = cells_behind(cells, step, self.deeds(step))
        return cells
