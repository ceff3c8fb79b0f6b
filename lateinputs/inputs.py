"""Inputs: which of them count for a tick, and what is done in it.

An input is a tuple: its player, stay, number, tick, and what it says (a tuple
too). Python compares such tuples just as the order of inputs asks.

A deed is a tuple: an input, and 1 if it is done as a guess, else 0.
"""

from lateinputs.stays import is_there

PLAYERS = 4
PLAYER = 0
STAY = 1
TICK = 3
SAYS = 4


def name_of(one):
    """Player, stay and number: inputs alike in these are one input told several ways."""
    return one[:TICK]


def counting(kept, most):
    """The inputs that count, in order, for each tick and player that has some."""
    found = {}
    last_name = None
    for one in sorted(kept):
        # In the order of inputs those of one name stand together, the one that may count first.
        if name_of(one) == last_name:
            continue
        last_name = name_of(one)
        row = found.setdefault((one[TICK], one[PLAYER]), [])
        if len(row) < most:
            row.append(one)
    return found


def counting_of(counts, tick, player):
    return counts.get((tick, player), [])


def counting_for(counts, tick):
    """The inputs of all players that count for a tick, in order."""
    found = []
    for player in range(PLAYERS):
        found.extend(counting_of(counts, tick, player))
    return found


def guess_for(counts, held, tick, player):
    """What is guessed for a player who is there and has nothing that counts: one deed or none."""
    for earlier in range(tick - 1, max(tick - held, 1) - 1, -1):
        row = counting_of(counts, earlier, player)
        if row:
            return [(row[-1], 1)]
    return []


def deeds_of(counts, stays, held, tick):
    """What is done in a tick, player by player."""
    found = []
    for player in range(PLAYERS):
        row = counting_of(counts, tick, player)
        if row:
            found.extend([(one, 0) for one in row])
        elif is_there(stays, player, tick):
            found.extend(guess_for(counts, held, tick, player))
    return found


def rows_of(deeds):
    """The inputs of deeds as rows, one behind another. A guess is told as the input that it is taken from."""
    found = []
    for deed in deeds:
        one = deed[0]
        found.extend(one[:SAYS])
        found.extend([deed[1], len(one[SAYS])])
        found.extend(one[SAYS])
    return found
