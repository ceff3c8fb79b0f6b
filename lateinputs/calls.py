"""The calls: the ranges of their numbers, what is refused, and what is answered.

The numbers of a call are its whole numbers, then those of its row if it has one.
"""

from lateinputs.inputs import counting_for, rows_of
from lateinputs.session import Session
from lateinputs.stays import present_stay, row_of

OUT_OF_RANGE = -1
NOTHING_OPEN = -2
WRONG_PRESENCE = -3
NOT_TO_BE_HAD = -4
OPEN_ALREADY = -5
TOO_MANY = -7

MOST_STAYS = 40
MOST_KEPT = 100
MOST_LATE = 100
LAST_TICK = 400

OPEN = 0

# The least and the greatest of each whole number, for each call.
RANGES = {
    0: ((1, 16), (0, 16), (1, 5), (0, 5), (1, 8), (0, 1000000)),
    1: ((0, 3),),
    2: ((0, 3),),
    3: ((0, 3), (1, 40), (1, 100000), (1, 1000)),
    4: ((1, 50),),
    5: ((1, 50),),
    6: ((1, 16),),
    7: ((0, 400),),
    8: ((1, 1000),),
    9: ((1, 1000),),
    10: ((0, 3), (1, 40), (1, 100000)),
    11: (),
    12: (),
    13: (),
    14: (),
    15: ((0, 400),),
}

# For each call with a row: how long it may be, the least and the greatest of its numbers.
ROWS = {3: (4, -1000000, 1000000)}


class Line:
    """What a line of calls is about: nothing is open at its beginning."""

    def __init__(self):
        self.session = None


def row_fits(call, row):
    if call not in ROWS:
        return True
    limits = ROWS[call]
    return len(row) <= limits[0] and all([limits[1] <= number <= limits[2] for number in row])


def numbers_fit(call, numbers):
    """Whether each number is within its range, and the row has a length that is told."""
    ranges = RANGES[call]
    for limits, number in zip(ranges, numbers):
        if not limits[0] <= number <= limits[1]:
            return False
    return row_fits(call, numbers[len(ranges):])


def begin_session(line, numbers):
    if line.session is not None:
        return [OPEN_ALREADY]
    line.session = Session(numbers[0], numbers[1], numbers[2], numbers[3], numbers[4], numbers[5])
    return [0]


def join_player(session, numbers):
    if present_stay(session.stays, numbers[0]) is not None:
        return [WRONG_PRESENCE]
    if len(session.stays) >= MOST_STAYS:
        return [TOO_MANY]
    return [0, session.begin_stay(numbers[0])]


def leave_player(session, numbers):
    if present_stay(session.stays, numbers[0]) is None:
        return [WRONG_PRESENCE]
    session.end_stay(numbers[0])
    return [0]


def take_one(session, numbers):
    if len(session.kept) >= MOST_KEPT or len(session.late) >= MOST_LATE:
        return [TOO_MANY]
    one = (numbers[0], numbers[1], numbers[2], numbers[3], tuple(numbers[4:]))
    return [0] + session.take(one)


def make_ticks(session, numbers):
    if session.made + numbers[0] > LAST_TICK:
        return [TOO_MANY]
    for step in range(numbers[0]):
        session.make_tick()
    return [0, session.made, session.settled]


def lock_ticks(session, numbers):
    if session.made + numbers[0] > LAST_TICK:
        return [TOO_MANY]
    session.make_ready_ticks(numbers[0])
    return [0, session.made, session.settled]


def resize_window(session, numbers):
    session.resize(numbers[0])
    return [0, session.settled]


def tell_world(session, numbers):
    if numbers[0] > session.made or numbers[0] < session.first_snapshot():
        return [NOT_TO_BE_HAD]
    return [0] + session.world_behind(numbers[0])


def tell_counts(session, numbers):
    return [0] + rows_of([(one, 0) for one in counting_for(session.counts, numbers[0])])


def tell_deeds(session, numbers):
    return [0] + rows_of(session.deeds(numbers[0]))


def tell_fate(session, numbers):
    return [0] + session.known_of(tuple(numbers))


def tell_snapshots(session, numbers):
    return [0] + sorted(session.snapshots)


def tell_now(session, numbers):
    return [0, session.made, session.settled, len(session.kept), len(session.late)] + session.cells


def tell_stays(session, numbers):
    told = [0]
    for stay in session.stays:
        told.extend(row_of(stay))
    return told


def tell_ready(session, numbers):
    return [0, 1 if session.is_ready() else 0]


def tell_plain(session, numbers):
    if numbers[0] > session.made:
        return [NOT_TO_BE_HAD]
    return [0] + session.plain_behind(numbers[0])


# What answers each call but the first, once it is known that something is open.
DOERS = {
    1: join_player,
    2: leave_player,
    3: take_one,
    4: make_ticks,
    5: lock_ticks,
    6: resize_window,
    7: tell_world,
    8: tell_counts,
    9: tell_deeds,
    10: tell_fate,
    11: tell_snapshots,
    12: tell_now,
    13: tell_stays,
    14: tell_ready,
    15: tell_plain,
}


def answer(line, call, numbers):
    """The answer to one call. Refusals are looked for in turn, the ones nearest to 0 first."""
    if not numbers_fit(call, numbers):
        return [OUT_OF_RANGE]
    if call == OPEN:
        return begin_session(line, numbers)
    if line.session is None:
        return [NOTHING_OPEN]
    doer = DOERS[call]
    return doer(line.session, numbers)
