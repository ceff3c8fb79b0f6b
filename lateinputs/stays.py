"""Stays: from when to when a player is there. A list of them is in the order in which they began."""

STILL_THERE = -1


class Stay:
    """One stay of a player: from behind one tick up to another, which is None while the player is there."""

    def __init__(self, player, number, behind):
        self.player = player
        self.number = number
        self.behind = behind
        self.last = None


def takes_in(stay, tick):
    return stay.behind < tick and (stay.last is None or tick <= stay.last)


def is_there(stays, player, tick):
    """Whether the player has a stay that the tick is in."""
    return any([stay.player == player and takes_in(stay, tick) for stay in stays])


def present_stay(stays, player):
    """The stay that goes on, or None if the player is not there."""
    for stay in stays:
        if stay.player == player and stay.last is None:
            return stay
    return None


def next_number(stays, player):
    return 1 + len([stay for stay in stays if stay.player == player])


def row_of(stay):
    """A stay as it is told: its player, its number, the tick that it is behind, its last tick."""
    return [stay.player, stay.number, stay.behind, STILL_THERE if stay.last is None else stay.last]
