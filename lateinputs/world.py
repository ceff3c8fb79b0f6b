"""The world to try it with: six cells, and what a tick makes of them."""

from lateinputs.inputs import PLAYER, SAYS

CELLS = 6
MODULUS = 1000003


def first_cells(seed):
    return [(seed + place) % MODULUS for place in range(CELLS)]


def place_of(number):
    """The place of the cell that a number tells."""
    return max(number, 0) % CELLS


def put(cells, place, number):
    cells[place] = number % MODULUS


def exchange(cells, place, other):
    kept = cells[place]
    cells[place] = cells[other]
    cells[other] = kept


def add_if_less(cells, place, other, bound):
    if cells[place] < cells[bound]:
        put(cells, other, cells[other] + cells[place])


def do_three_numbers(cells, says):
    place = place_of(says[1])
    number = says[2]
    if says[0] == 0:
        put(cells, place, number)
    elif says[0] == 1:
        put(cells, place, cells[place] + number)
    elif says[0] == 2:
        exchange(cells, place, place_of(number))
    elif says[0] == 3:
        put(cells, place, cells[place] * number)


def do_says(cells, says):
    if len(says) == 3:
        do_three_numbers(cells, says)
    elif len(says) == 4 and says[0] == 4:
        add_if_less(cells, place_of(says[1]), place_of(says[2]), place_of(says[3]))


def do_deed(cells, deed):
    one = deed[0]
    if deed[1] == 1:
        put(cells, one[PLAYER], cells[one[PLAYER]] + 1)
    else:
        do_says(cells, one[SAYS])


def cells_behind(cells, tick, deeds):
    """The cells behind a tick, from those before it, which stay as they are: a snapshot may hold them."""
    done = list(cells)
    for deed in deeds:
        do_deed(done, deed)
    return [(done[place] + done[(place + 1) % CELLS] + tick) % MODULUS for place in range(CELLS)]
