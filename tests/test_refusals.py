"""Refusals: every range at its ends, which refusal is answered, and that nothing has changed behind one."""

import unittest

from helper import (LIMITS, begin, counts, deeds, fate, join, last, leave, lock, now, plain, ready, resize, run, snaps,
                    stays, tick, told, world)

FAR = 1000000000000000000

# A call of each kind that is within its ranges.
WITHIN = {0: begin(), 1: join(0), 2: leave(0), 3: told(0, 1, 1, 1, 7), 4: tick(), 5: lock(1), 6: resize(1), 7: world(0),
          8: counts(1), 9: deeds(1), 10: fate(0, 1, 1), 11: snaps(), 12: now(), 13: stays(), 14: ready(), 15: plain(0)}

# Everything that can be asked behind a call, to see that it is as it was.
ASKED = [now(), stays(), snaps(), ready(), *[counts(t) for t in range(1, 9)], *[deeds(t) for t in range(1, 12)],
         *[fate(p, k, n) for p in (0, 1) for k in (1, 2) for n in (1, 2, 3, 9)], *[plain(t) for t in range(8)]]

# What changes the number at each place of each call: out of its range.
OUTSIDE = [(name, place, number) for name, limits in LIMITS.items() for place, (low, high) in enumerate(limits)
           for number in (low - 1, high + 1, -FAR, FAR)]

# The ends of each range.
ENDS = [(name, place, number) for name, limits in LIMITS.items() for place, ends in enumerate(limits)
        for number in ends]


def with_number(name, place, number):
    call = list(WITHIN[name])
    call[1 + place] = number
    return call


class Ranges(unittest.TestCase):
    def test_just_outside(self):
        for case in OUTSIDE:
            call = with_number(*case)
            self.assertEqual(last(call), [-1], call)
            self.assertEqual(last(begin(), call), [-1], call)
            self.assertEqual(last(begin(), join(0), tick(3), call), [-1], call)

    def test_first_and_last_number_of_each_range(self):
        for case in ENDS:
            call = with_number(*case)
            self.assertNotEqual(last(call), [-1], call)
            self.assertNotEqual(last(begin(), join(0), tick(3), call), [-1], call)

    def test_the_ends_are_taken(self):
        for place, number in [(place, number) for name, place, number in ENDS if name == 0]:
            self.assertEqual(last(with_number(0, place, number)), [0])
        self.assertEqual(run(begin(), join(0), join(3), leave(3), leave(0))[1:], [[0, 1], [0, 1], [0], [0]])
        self.assertEqual(run(begin(), tick(1), tick(50), lock(1), lock(50))[1:],
                         [[0, 1, 0], [0, 51, 47], [0, 52, 48], [0, 102, 98]])
        self.assertEqual(run(begin(), tick(20), resize(16), resize(1))[2:], [[0, 16], [0, 19]])
        given = run(begin(), join(0), told(0, 1, 1, 1), told(0, 1, 100000, 1), told(0, 40, 1, 1), told(0, 1, 1, 1000))
        self.assertEqual(given[2:], [[0, 1, 0], [0, 1, 0], [0, 4, 0], [0, 3, 0]])

    def test_the_ends_are_taken_by_the_calls_that_ask(self):
        given = run(begin(), counts(1), counts(1000), deeds(1), deeds(1000), fate(0, 1, 1), fate(3, 40, 100000), plain(0))
        self.assertEqual(given[1:], [[0], [0], [0], [0], [0, 0, 0], [0, 0, 0], [0, 0, 1, 2, 3, 4, 5]])
        self.assertEqual(last(begin(), *([tick(50)] * 8), plain(400))[0], 0)


class WhatAnInputSays(unittest.TestCase):
    def test_up_to_four_numbers(self):
        for length in range(5):
            self.assertEqual(last(begin(), join(0), told(0, 1, 1, 1, *[0] * length)), [0, 1, 0])

    def test_five_to_ten_numbers(self):
        for length in range(5, 11):
            given = run(begin(), join(0), told(0, 1, 1, 1, *range(length)), told(0, 1, 1, 1), tick())
            self.assertEqual(given[2:], [[-1], [0, 1, 0], [0, 1, 0]], length)

    def test_each_number_at_its_ends(self):
        for length in range(1, 5):
            for place in range(length):
                for number, expected in ((-1000000, [0, 1, 0]), (1000000, [0, 1, 0]), (-1000001, [-1]),
                                         (1000001, [-1]), (-FAR, [-1]), (FAR, [-1])):
                    says = [0] * length
                    says[place] = number
                    self.assertEqual(last(begin(), join(0), told(0, 1, 1, 1, *says)), expected, says)


class Refused(unittest.TestCase):
    def test_nothing_is_open(self):
        for name in range(1, 16):
            self.assertEqual(last(WITHIN[name]), [-2], name)
        self.assertEqual(run(join(0), tick(), begin(), join(0), tick()), [[-2], [-2], [0], [0, 1], [0, 1, 0]])

    def test_a_refused_beginning_opens_nothing(self):
        self.assertEqual(run(begin(window=0), tick(), begin(), tick()), [[-1], [-2], [0], [0, 1, 0]])

    def test_something_is_open_already(self):
        self.assertEqual(run(begin(), begin(), tick(), begin(1, 0, 1, 0, 1, 5))[1:], [[-5], [0, 1, 0], [-5]])

    def test_the_player_is_there_or_not(self):
        self.assertEqual(run(begin(), leave(0), join(0), join(0))[1:], [[-3], [0, 1], [-3]])

    def test_the_tick_is_not_to_be_had(self):
        given = run(begin(window=1, every=1), world(1), tick(3), world(1), world(2), world(4))
        self.assertEqual([answer[0] for answer in given[1:]], [-4, 0, -4, 0, -4])
        given = run(begin(window=1, every=1), plain(1), tick(3), plain(0), plain(1), plain(3), plain(4), plain(400))
        self.assertEqual([answer[0] for answer in given[1:]], [-4, 0, 0, 0, 0, -4, -4])

    def test_too_many(self):
        self.assertEqual(last(begin(), *([join(1), leave(1)] * 40), join(1)), [-7])
        self.assertEqual(last(begin(), *([tick(50)] * 8), tick(1)), [-7])
        self.assertEqual(last(begin(), *([tick(50)] * 8), lock(1)), [-7])


class TheOneNearestToZero(unittest.TestCase):
    def test_range_before_nothing_open(self):
        for name, place, number in OUTSIDE:
            self.assertEqual(last(with_number(name, place, number)), [-1])
        self.assertEqual(last(told(0, 1, 1, 1, 1, 2, 3, 4, 5)), [-1])
        self.assertEqual(last(told(0, 1, 1, 1, 1000001)), [-1])

    def test_range_before_open_already(self):
        for place, number in [(place, number) for name, place, number in OUTSIDE if name == 0]:
            self.assertEqual(last(begin(), with_number(0, place, number)), [-1])

    def test_range_before_too_many(self):
        full = [begin()] + [join(1), leave(1)] * 40
        self.assertEqual(last(*full, join(4)), [-1])
        made = [begin()] + [tick(50)] * 8
        self.assertEqual(last(*made, tick(51)), [-1])
        self.assertEqual(last(*made, lock(51)), [-1])

    def test_range_before_a_tick_not_made(self):
        self.assertEqual(last(begin(), world(401)), [-1])
        self.assertEqual(last(begin(), world(400)), [-4])
        self.assertEqual(last(begin(), plain(401)), [-1])
        self.assertEqual(last(begin(), plain(400)), [-4])

    def test_nothing_open_before_a_tick_not_made(self):
        self.assertEqual(last(world(1)), [-2])
        self.assertEqual(last(plain(1)), [-2])

    def test_the_player_is_there_before_too_many_stays(self):
        full = [begin()] + [join(1), leave(1)] * 39 + [join(2)]
        self.assertEqual(last(*full, join(2)), [-3])
        self.assertEqual(last(*full, join(1)), [-7])


class NothingChanges(unittest.TestCase):
    """Promise 4: a line in which calls are refused goes on as if they had not been there."""

    def setUp(self):
        self.steps = [
            begin(3, 3, 2, 2, 3, 99), join(0), join(1), told(0, 1, 2, 1, 1, 0, 5), tick(2), told(1, 1, 1, 1, 3, 1, 4),
            leave(1), told(0, 1, 1, 2, 0, 2, 8), lock(1), join(1), tick(2), told(1, 2, 1, 4, 2, 0, 1), world(3),
            resize(2), told(0, 1, 3, 3, 1, 1, 1), told(0, 1, 3, 4, 1, 1, 1), tick(), world(4), world(6), resize(5),
            tick(), world(6)]
        self.refused = [with_number(*case) for case in OUTSIDE] + [
            begin(), begin(16, 16, 5, 5, 8, 1), join(0), leave(2), world(400), plain(400),
            told(0, 1, 1, 1, 1, 0, 5, 0, 0), told(0, 1, 9, 3, 1, 0, 1000001), told(0, 1, 9, 5, *range(10))]

    def test_behind_each_refusal(self):
        expected = run(*self.steps)
        for at in range(2, len(self.steps) + 1):
            for call in self.refused:
                given = run(*self.steps[:at], call, *self.steps[at:])
                self.assertLess(given[at][0], 0)
                self.assertEqual(len(given[at]), 1)
                self.assertEqual(given[:at] + given[at + 1:], expected, (at, call))

    def test_nothing_that_can_be_asked_has_changed(self):
        for at in range(2, len(self.steps) + 1, 3):
            expected = run(*self.steps[:at], *ASKED)[at:]
            for call in self.refused:
                self.assertEqual(run(*self.steps[:at], call, *ASKED)[at + 1:], expected, (at, call))

    def test_behind_a_tick_before_the_first_snapshot(self):
        calls = [begin(window=1, every=1), join(0), tick(5)]
        rest = [world(4), told(0, 1, 1, 5, 1, 0, 9), world(5), tick(), world(5), world(6)]
        self.assertEqual(run(*calls, world(3), *rest)[4:], run(*calls, *rest)[3:])

    def test_behind_the_limits(self):
        full = [begin()] + [join(1), leave(1)] * 39 + [join(0)]
        rest = [join(0), leave(0), join(0), told(1, 39, 1, 1), told(0, 1, 1, 1), tick(2), world(2)]
        rest += [stays(), now()]
        self.assertEqual(run(*full, join(1), *rest)[len(full) + 1:], run(*full, *rest)[len(full):])
        made = [begin(every=1), join(0), told(0, 1, 1, 1)] + [tick(50)] * 7 + [tick(45)]
        rest = [world(395), told(0, 1, 2, 395, 0, 0, 1), told(0, 1, 2, 391), tick(4), world(399), tick(1), world(400)]
        for call in (tick(6), tick(50), lock(6)):
            given = run(*made, call, *rest)
            self.assertEqual(given[len(made)], [-7])
            self.assertEqual(given[len(made) + 1:], run(*made, *rest)[len(made):])

    def test_behind_an_input_too_many(self):
        kept = [begin(most=1, window=16), join(0), tick(3)] + [told(0, 1, n, 3, 1, 0, n) for n in range(2, 102)]
        rest = [world(3), *ASKED, tick(), world(4), lock(3)]
        given = run(*kept, told(0, 1, 1, 1, 0, 0, 9), *rest)
        self.assertEqual(given[len(kept)], [-7])
        self.assertEqual(given[len(kept) + 1:], run(*kept, *rest)[len(kept):])


if __name__ == "__main__":
    unittest.main()
