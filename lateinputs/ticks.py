"""A line of calls: handed in as one list of numbers, and answered by one."""

from lateinputs.calls import RANGES, ROWS, Line, answer


def row_place(calls, start):
    """Where the length of a call's row stands, or would stand if it had one."""
    return start + 1 + len(RANGES[calls[start]])


def call_end(calls, start):
    place = row_place(calls, start)
    if calls[start] in ROWS:
        return place + 1 + calls[place]
    return place


def call_numbers(calls, start):
    """The numbers of the call that begins at start: its whole numbers, then its row without the length."""
    place = row_place(calls, start)
    return calls[start + 1:place] + calls[place + 1:call_end(calls, start)]


def answers(calls):
    """For each call: how many numbers are answered, and these."""
    line = Line()
    given = []
    start = 0
    while start < len(calls):
        told = answer(line, calls[start], call_numbers(calls, start))
        given.append(len(told))
        given.extend(told)
        start = call_end(calls, start)
    return given
