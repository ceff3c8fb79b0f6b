"""The call deeds: what is done in a tick, guesses among it, as rows."""

import unittest

from helper import begin, counts, deeds, guessed, join, last, leave, resize, row, run, tick, told


class WhatIsDone(unittest.TestCase):
    def test_nothing(self):
        self.assertEqual(run(begin(), deeds(1), deeds(400), deeds(1000), join(0), deeds(1), tick(2), deeds(2))[1:],
                         [[0], [0], [0], [0, 1], [0], [0, 2, 0], [0]])

    def test_number_by_number(self):
        given = run(begin(held=1), join(2), told(2, 1, 77, 3, 5, -6), deeds(3), deeds(4), deeds(5))
        self.assertEqual(given[3:], [[0, 2, 1, 77, 3, 0, 2, 5, -6], [0, 2, 1, 77, 3, 1, 2, 5, -6], [0]])

    def test_player_by_player_with_guesses_between(self):
        calls = [told(3, 1, 1, 2, 30), told(1, 1, 2, 2, 12), told(1, 1, 1, 2, 11), told(0, 1, 1, 1, 1),
                 told(2, 1, 1, 1)]
        given = last(begin(most=2, held=2), *[join(p) for p in range(4)], *calls, deeds(2))
        self.assertEqual(given, [0] + guessed(0, 1, 1, 1, 1) + row(1, 1, 1, 2, 11) + row(1, 1, 2, 2, 12)
                         + guessed(2, 1, 1, 1) + row(3, 1, 1, 2, 30))

    def test_no_more_than_may_count(self):
        given = last(begin(most=2), join(0), *[told(0, 1, n, 1) for n in (4, 3, 2, 1)], deeds(1))
        self.assertEqual(given, [0] + row(0, 1, 1, 1) + row(0, 1, 2, 1))

    def test_inputs_that_count_are_done_whether_the_player_is_there_or_not(self):
        given = run(begin(), join(0), told(0, 1, 1, 2), leave(0), deeds(2), tick(3), deeds(2), deeds(3))
        self.assertEqual([given[i] for i in (4, 6, 7)], [[0] + row(0, 1, 1, 2), [0] + row(0, 1, 1, 2), [0]])

    def test_where_something_counts_it_is_what_counts(self):
        calls = [told(p, 1, n, t, n) for p, n, t in ((0, 1, 1), (0, 2, 1), (1, 1, 1), (0, 3, 2), (1, 2, 2))]
        given = run(begin(held=5), join(0), join(1), *calls, deeds(1), counts(1), deeds(2), counts(2))
        self.assertEqual(given[-4], given[-3])
        self.assertEqual(given[-2], given[-1])
        self.assertEqual(len(given[-1]), 1 + 2 * 7)


class GuessedFrom(unittest.TestCase):
    """Which input a guess is taken from."""

    def test_the_last_of_its_tick_that_counts(self):
        calls = [told(0, 1, n, 1, n) for n in (2, 4, 1, 3)]
        for most in range(1, 5):
            given = last(begin(most=most, held=1), join(0), *calls, deeds(2))
            self.assertEqual(given, [0] + guessed(0, 1, most, 1, most))

    def test_the_nearest_tick(self):
        given = run(begin(held=5, ahead=9), join(0), told(0, 1, 1, 4), told(0, 1, 2, 2), told(0, 1, 3, 1),
                    *[deeds(t) for t in range(1, 11)])
        sources = {2: row(0, 1, 2, 2), 3: guessed(0, 1, 2, 2), 4: row(0, 1, 1, 4), 1: row(0, 1, 3, 1)}
        expected = [sources.get(t, guessed(0, 1, 1, 4) if t <= 9 else []) for t in range(1, 11)]
        self.assertEqual(given[-10:], [[0] + deed for deed in expected])

    def test_held_ticks(self):
        for held in range(6):
            given = run(begin(held=held, ahead=16), join(0), told(0, 1, 1, 3, 8), *[deeds(t) for t in range(1, 12)])
            expected = [[0]] * 2 + [[0] + row(0, 1, 1, 3, 8)] + [[0] + guessed(0, 1, 1, 3, 8)] * held
            self.assertEqual(given[3:], expected + [[0]] * (8 - held), held)

    def test_from_tick_one_on(self):
        given = run(begin(held=5), join(0), told(0, 1, 1, 1), *[deeds(t) for t in range(1, 8)])
        self.assertEqual(given[3:], [[0] + row(0, 1, 1, 1)] + [[0] + guessed(0, 1, 1, 1)] * 5 + [[0]])
        self.assertEqual(last(begin(held=5), join(0), told(0, 1, 1, 2), deeds(1)), [0])

    def test_of_whatever_stay(self):
        given = run(begin(held=5, most=3), join(0), told(0, 1, 9, 1), leave(0), join(0), told(0, 2, 1, 1), tick(),
                    leave(0), join(0), tick(), deeds(2))
        self.assertEqual(given[-1], [0] + guessed(0, 2, 1, 1))
        given = run(begin(held=5), join(0), told(0, 1, 9, 1), tick(2), leave(0), tick(), join(0), tick(), deeds(2),
                    deeds(3), deeds(4))
        self.assertEqual(given[-3:], [[0] + guessed(0, 1, 9, 1), [0], [0] + guessed(0, 1, 9, 1)])

    def test_of_a_stay_that_did_not_take_in_the_tick(self):
        given = run(begin(held=2), join(0), told(0, 1, 1, 2, 6), leave(0), tick(2), join(0), deeds(2), deeds(3))
        self.assertEqual(given[-2:], [[0] + row(0, 1, 1, 2, 6), [0] + guessed(0, 1, 1, 2, 6)])

    def test_not_of_another_player(self):
        self.assertEqual(last(begin(held=5), join(0), join(1), told(1, 1, 1, 1), deeds(2)), [0] + guessed(1, 1, 1, 1))

    def test_not_from_one_that_is_kept_and_does_not_count(self):
        given = run(begin(held=1), join(0), told(0, 1, 1, 1), told(0, 1, 1, 3), deeds(2), deeds(3), deeds(4))
        self.assertEqual(given[-3:], [[0] + guessed(0, 1, 1, 1), [0], [0]])

    def test_another_input_may_take_its_place(self):
        given = run(begin(held=3, most=1), join(0), told(0, 1, 5, 1, 5), tick(3), deeds(3), told(0, 1, 4, 1, 4),
                    deeds(3), told(0, 1, 6, 2, 6), deeds(3), told(0, 1, 7, 3, 7), deeds(3), deeds(4))
        self.assertEqual([given[i] for i in (4, 6, 8, 10, 11)],
                         [[0] + guessed(0, 1, 5, 1, 5), [0] + guessed(0, 1, 4, 1, 4), [0] + guessed(0, 1, 6, 2, 6),
                          [0] + row(0, 1, 7, 3, 7), [0] + guessed(0, 1, 7, 3, 7)])

    def test_lost_when_its_input_moves_to_an_earlier_tick(self):
        given = run(begin(held=1), join(0), told(0, 1, 1, 3), deeds(4), told(0, 1, 1, 1), deeds(4), deeds(2))
        self.assertEqual([given[i] for i in (3, 5, 6)], [[0] + guessed(0, 1, 1, 3), [0], [0] + guessed(0, 1, 1, 1)])


class WhoIsThere(unittest.TestCase):
    def test_ticks_of_a_stay_that_goes_on(self):
        given = run(begin(held=5), join(0), told(0, 1, 1, 1), leave(0), tick(2), join(0),
                    *[deeds(t) for t in range(2, 7)])
        self.assertEqual(given[-5:], [[0]] + [[0] + guessed(0, 1, 1, 1)] * 4)

    def test_ticks_of_a_stay_that_ended(self):
        given = run(begin(held=5), join(0), told(0, 1, 1, 1), tick(3), deeds(4), leave(0),
                    *[deeds(t) for t in range(2, 6)])
        self.assertEqual(given[4], [0] + guessed(0, 1, 1, 1))
        self.assertEqual(given[-4:], [[0] + guessed(0, 1, 1, 1)] * 2 + [[0]] * 2)

    def test_came_and_went_between_the_same_two_ticks(self):
        given = run(begin(held=5), join(0), told(0, 1, 1, 1), leave(0), tick(2), join(0), leave(0), tick(2),
                    *[deeds(t) for t in range(1, 7)])
        self.assertEqual(given[-6:], [[0] + row(0, 1, 1, 1)] + [[0]] * 5)

    def test_a_tick_still_to_be_made_by_what_is_known_now(self):
        given = run(begin(held=2, ahead=8), join(0), told(0, 1, 1, 6), deeds(8), leave(0), deeds(8), deeds(6), join(0),
                    deeds(8))
        self.assertEqual([given[i] for i in (3, 5, 6, 8)],
                         [[0] + guessed(0, 1, 1, 6), [0], [0] + row(0, 1, 1, 6), [0] + guessed(0, 1, 1, 6)])

    def test_the_last_ticks(self):
        given = run(begin(held=5, ahead=16), join(0), *([tick(50)] * 8), told(0, 1, 1, 399), told(0, 1, 2, 416),
                    deeds(399), deeds(400), deeds(404), deeds(405), deeds(416), deeds(421), deeds(422), deeds(1000))
        self.assertEqual(given[-8:], [[0] + row(0, 1, 1, 399), [0] + guessed(0, 1, 1, 399), [0] + guessed(0, 1, 1, 399),
                                      [0], [0] + row(0, 1, 2, 416), [0] + guessed(0, 1, 2, 416), [0], [0]])


class SettledTicks(unittest.TestCase):
    """Promise 3, seen through deeds."""

    def setUp(self):
        self.calls = [begin(window=2, held=2, most=2, ahead=6), join(0), join(1), told(0, 1, 2, 1, 5),
                      told(0, 1, 3, 1, 6), told(1, 1, 1, 2, 7), told(1, 1, 4, 4, 8), told(0, 1, 9, 5, 9), leave(1), tick(6)]
        self.asked = [deeds(t) for t in range(1, 5)]
        self.expected = [[0] + row(0, 1, 2, 1, 5) + row(0, 1, 3, 1, 6),
                         [0] + guessed(0, 1, 3, 1, 6) + row(1, 1, 1, 2, 7),
                         [0] + guessed(0, 1, 3, 1, 6),
                         [0] + row(1, 1, 4, 4, 8)]

    def test_as_it_is(self):
        self.assertEqual(run(*self.calls, *self.asked)[-4:], self.expected)

    def test_behind_inputs_for_settled_ticks(self):
        tries = [told(0, 1, 1, t, 0) for t in range(1, 5)] + [told(0, 1, 2, t) for t in range(1, 5)]
        given = run(*self.calls, *tries, *self.asked)
        self.assertEqual(given[10:18], [[0, 2, 0]] * 8)
        self.assertEqual(given[-4:], self.expected)

    def test_behind_the_same_numbers_told_for_later_ticks(self):
        tries = [told(0, 1, n, t, -9) for n in (1, 2, 3, 9) for t in (5, 6, 7)]
        self.assertEqual(run(*self.calls, *tries, *self.asked)[-4:], self.expected)

    def test_behind_everything_else(self):
        more = [leave(0), join(1), join(0), join(2), told(1, 2, 1, 6), told(0, 2, 1, 5, 3), resize(16), tick(50),
                told(1, 2, 1, 1), told(0, 2, 7, 7), resize(1), tick(5), leave(1), told(2, 1, 1, 61), tick(2)]
        calls = list(self.calls)
        for call in more:
            calls.append(call)
            self.assertEqual(run(*calls, *self.asked)[-4:], self.expected, call)


if __name__ == "__main__":
    unittest.main()
