"""The call counts: the inputs that count for a tick, as rows."""

import unittest

from helper import begin, counts, join, last, leave, resize, row, run, tick, told


class Rows(unittest.TestCase):
    def test_nothing_counts(self):
        self.assertEqual(run(begin(), counts(1), counts(1000), join(0), counts(1), tick(50), counts(1), counts(50))[1:],
                         [[0], [0], [0, 1], [0], [0, 50, 46], [0], [0]])

    def test_one_row_number_by_number(self):
        self.assertEqual(last(begin(), join(2), told(2, 1, 77, 3, 5, -6), counts(3)), [0, 2, 1, 77, 3, 0, 2, 5, -6])

    def test_what_is_said_has_its_own_length(self):
        for says in ((), (0,), (-1000000, 1000000), (1, 2, 3), (4, 0, 0, 4)):
            self.assertEqual(last(begin(), join(0), told(0, 1, 1, 1, *says), counts(1)),
                             [0, 0, 1, 1, 1, 0, len(says)] + list(says))

    def test_only_those_for_the_tick(self):
        given = run(begin(), join(0), told(0, 1, 1, 1), told(0, 1, 2, 2), told(0, 1, 3, 4),
                    *[counts(t) for t in range(1, 6)])
        self.assertEqual(given[-5:], [[0] + row(0, 1, 1, 1), [0] + row(0, 1, 2, 2), [0], [0] + row(0, 1, 3, 4), [0]])

    def test_several_players_stays_and_numbers(self):
        given = last(begin(most=5), join(3), join(0), told(3, 1, 1, 1, 8), told(0, 1, 7, 1), told(0, 1, 3, 1, -1, 2),
                     leave(0), join(0), told(0, 2, 1, 1, 9, 9, 9, 9), told(0, 2, 2, 2), join(1), told(1, 1, 50, 1),
                     counts(1))
        self.assertEqual(given, [0] + row(0, 1, 3, 1, -1, 2) + row(0, 1, 7, 1) + row(0, 2, 1, 1, 9, 9, 9, 9)
                         + row(1, 1, 50, 1) + row(3, 1, 1, 1, 8))

    def test_stays_and_numbers_are_ordered_as_numbers(self):
        calls = [call for stay in range(1, 11)
                 for call in (join(1), *([told(1, stay, 1, 1)] if stay in (2, 10) else []), leave(1))]
        given = last(begin(most=5), *calls, join(0), told(0, 1, 100000, 1), told(0, 1, 10, 1), told(0, 1, 9, 1),
                     counts(1))
        self.assertEqual(given, [0] + row(0, 1, 9, 1) + row(0, 1, 10, 1) + row(0, 1, 100000, 1) + row(1, 2, 1, 1)
                         + row(1, 10, 1, 1))

    def test_the_stay_may_take_in_the_tick_or_not(self):
        given = run(begin(), join(0), told(0, 1, 1, 3), leave(0), tick(2), join(0), told(0, 2, 1, 1), told(0, 2, 2, 3),
                    counts(1), counts(3), tick(3), counts(3))
        self.assertEqual(given[8:10], [[0] + row(0, 2, 1, 1), [0] + row(0, 1, 1, 3) + row(0, 2, 2, 3)])
        self.assertEqual(given[11], given[9])

    def test_a_guess_does_not_count(self):
        self.assertEqual(last(begin(held=5), join(0), told(0, 1, 1, 1), tick(4), counts(2)), [0])

    def test_ticks_made_settled_and_still_to_be_made(self):
        calls = [told(0, 1, t, t, t) for t in (1, 2, 3, 4, 5)]
        given = run(begin(window=2, ahead=5), join(0), *calls, tick(4), *[counts(t) for t in range(1, 6)])
        self.assertEqual(given[-5:], [[0] + row(0, 1, t, t, t) for t in range(1, 6)])

    def test_the_latest_tick_that_can_have_one(self):
        given = run(begin(ahead=16), join(0), *([tick(50)] * 8), told(0, 1, 1, 416), told(0, 1, 2, 417), counts(400),
                    counts(416), counts(417), counts(1000))
        self.assertEqual(given[-4:], [[0], [0] + row(0, 1, 1, 416), [0], [0]])


class WhatIsNotKept(unittest.TestCase):
    def test_too_late_too_early_and_not_of_a_present_stay(self):
        given = run(begin(window=1, ahead=1), join(0), tick(2), told(0, 1, 1, 1), told(0, 1, 2, 4), told(0, 2, 3, 2),
                    told(1, 1, 4, 2), *[counts(t) for t in range(1, 5)])
        self.assertEqual([answer[1] for answer in given[3:7]], [2, 3, 4, 4])
        self.assertEqual(given[7:], [[0]] * 4)

    def test_doubles(self):
        one = told(0, 1, 1, 1, 5)
        self.assertEqual(last(begin(most=5), join(0), one, one, one, counts(1)), [0] + row(0, 1, 1, 1, 5))

    def test_refused(self):
        given = run(begin(), join(0), told(0, 1, 1, 1, 1, 2, 3, 4, 5), told(0, 1, 0, 1), counts(1))
        self.assertEqual(given[2:], [[-1], [-1], [0]])


class ToldSeveralWays(unittest.TestCase):
    def test_the_earliest_tick_alone(self):
        given = run(begin(), join(0), told(0, 1, 1, 3), counts(3), told(0, 1, 1, 2), counts(2), counts(3),
                    told(0, 1, 1, 4), counts(2), counts(4))
        self.assertEqual([given[i] for i in (3, 5, 6, 8, 9)],
                         [[0] + row(0, 1, 1, 3), [0] + row(0, 1, 1, 2), [0], [0] + row(0, 1, 1, 2), [0]])

    def test_of_one_tick_the_first_by_what_it_says(self):
        ways = [(5, 1), (5,), (4, 9, 9), (4, 9), (-3, 0, 0, 0)]
        calls = [call for says in ways for call in (told(0, 1, 1, 1, *says), counts(1))]
        given = run(begin(most=5), join(0), *calls)
        self.assertEqual(given[3::2], [[0] + row(0, 1, 1, 1, *says) for says in ways])
        given = run(begin(most=5), join(0), *[told(0, 1, 1, 1, *says) for says in ways[::-1]], counts(1))
        self.assertEqual(given[-1], [0] + row(0, 1, 1, 1, -3, 0, 0, 0))

    def test_saying_nothing_goes_first(self):
        self.assertEqual(last(begin(), join(0), told(0, 1, 1, 1, -1000000), told(0, 1, 1, 1), counts(1)),
                         [0] + row(0, 1, 1, 1))

    def test_the_same_number_of_another_player_or_stay_is_another_input(self):
        given = last(begin(), join(0), join(1), told(0, 1, 1, 2), told(1, 1, 1, 2), leave(0), join(0), told(0, 2, 1, 2),
                     told(0, 2, 1, 1), counts(2))
        self.assertEqual(given, [0] + row(0, 1, 1, 2) + row(1, 1, 1, 2))

    def test_one_that_may_not_count_takes_no_place_and_leaves_its_own(self):
        # Number 1 moves to tick 1; so number 3 gets its place in tick 2.
        given = run(begin(most=2), join(0), told(0, 1, 1, 2), told(0, 1, 2, 2), told(0, 1, 3, 2), counts(2),
                    told(0, 1, 1, 1), counts(1), counts(2))
        self.assertEqual([given[i] for i in (5, 7, 8)],
                         [[0] + row(0, 1, 1, 2) + row(0, 1, 2, 2), [0] + row(0, 1, 1, 1),
                          [0] + row(0, 1, 2, 2) + row(0, 1, 3, 2)])

    def test_the_first_of_them_does_not_count_and_no_other_does(self):
        given = run(begin(most=1), join(0), told(0, 1, 1, 1), told(0, 1, 2, 2), told(0, 1, 2, 1), counts(1), counts(2))
        self.assertEqual(given[-2:], [[0] + row(0, 1, 1, 1), [0]])


class MoreThanMayCount(unittest.TestCase):
    def test_the_first_so_many(self):
        inputs = [told(0, 1, number, 1, number) for number in (6, 2, 4, 1, 5, 3)]
        for most in range(1, 6):
            expected = [x for number in range(1, most + 1) for x in row(0, 1, number, 1, number)]
            self.assertEqual(last(begin(most=most), join(0), *inputs, counts(1)), [0] + expected)

    def test_so_many_of_each_player(self):
        inputs = [told(p, 1, n, 1) for n in (3, 2, 1) for p in (3, 1, 0, 2)]
        expected = [x for p in range(4) for n in (1, 2) for x in row(p, 1, n, 1)]
        self.assertEqual(last(begin(most=2), *[join(p) for p in range(4)], *inputs, counts(1)), [0] + expected)

    def test_an_earlier_stay_goes_first(self):
        given = last(begin(most=2), join(0), told(0, 1, 8, 1), told(0, 1, 9, 1), leave(0), join(0), told(0, 2, 1, 1),
                     counts(1))
        self.assertEqual(given, [0] + row(0, 1, 8, 1) + row(0, 1, 9, 1))

    def test_five_of_a_hundred(self):
        inputs = [told(0, 1, number, 1) for number in range(100, 0, -1)]
        expected = [x for number in range(1, 6) for x in row(0, 1, number, 1)]
        self.assertEqual(last(begin(most=5), join(0), *inputs, counts(1)), [0] + expected)

    def test_another_window_leaves_what_counts(self):
        calls = [begin(most=1, window=8), join(0), tick(6), told(0, 1, 2, 2), told(0, 1, 1, 3)]
        asked = [counts(t) for t in range(1, 8)]
        self.assertEqual(run(*calls, resize(1), *asked)[6:], run(*calls, *asked)[5:])


if __name__ == "__main__":
    unittest.main()
