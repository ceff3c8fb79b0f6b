"""The calls now, stays and ready: how it stands."""

import unittest

from helper import (begin, idle_world, join, last, leave, lock, mixed, now, plain, ready, resize, run, stays, tick, told,
                    world)


class Now(unittest.TestCase):
    def test_at_first(self):
        self.assertEqual(last(begin(seed=7), now()), [0, 0, 0, 0, 0, 7, 8, 9, 10, 11, 12])

    def test_ticks_made_and_settled(self):
        given = run(begin(window=3), tick(3), now(), tick(), now(), lock(50), now(), resize(1), now(), resize(16), now())
        self.assertEqual([answer[1:3] for answer in given[2::2]], [[3, 0], [4, 1], [54, 51], [54, 53], [54, 53]])
        self.assertEqual(given[2][5:], idle_world(0, 3))
        self.assertEqual([answer[5:] for answer in given[6::2]], [idle_world(0, 54)] * 3)

    def test_tick_400(self):
        self.assertEqual(last(begin(window=16), *([tick(50)] * 8), now()), [0, 400, 384, 0, 0] + idle_world(0, 400))

    def test_how_many_are_kept(self):
        calls = [told(0, 1, 1, 2), told(0, 1, 1, 2), told(0, 1, 1, 3), told(0, 1, 2, 2), told(0, 1, 1, 1000),
                 told(0, 2, 1, 2), told(1, 1, 1, 2), told(0, 1, 1, 2, 5, 5, 5, 5, 5)]
        given = run(begin(most=1), join(0), *[part for call in calls for part in (call, now())])
        self.assertEqual([answer[3] for answer in given[3::2]], [1, 1, 2, 3, 3, 3, 3, 3])
        self.assertEqual([answer[4] for answer in given[3::2]], [0] * 8)

    def test_they_stay_kept(self):
        given = run(begin(window=1), join(0), told(0, 1, 1, 1), told(0, 1, 2, 4), leave(0), tick(50), resize(16), now())
        self.assertEqual(given[-1][:5], [0, 50, 49, 2, 0])

    def test_how_many_numbers_have_come_too_late(self):
        calls = [told(0, 1, 1, 1), told(0, 1, 1, 2), told(0, 1, 1, 1, 9), told(0, 1, 2, 1), told(1, 1, 1, 1),
                 told(0, 2, 3, 1), told(2, 1, 1, 1), told(0, 1, 1, 3)]
        given = run(begin(window=1), join(0), join(1), tick(3), *[part for call in calls for part in (call, now())])
        self.assertEqual([answer[4] for answer in given[5::2]], [1, 1, 1, 2, 3, 3, 3, 3])
        self.assertEqual([answer[3] for answer in given[5::2]], [0] * 7 + [1])

    def test_numbers_too_late_of_each_stay(self):
        given = run(begin(window=1), join(0), tick(3), told(0, 1, 1, 1), leave(0), join(0), told(0, 2, 1, 1), now())
        self.assertEqual(given[-1][3:5], [0, 2])

    def test_a_hundred_of_each(self):
        kept = [told(0, 1, number, 1) for number in range(1, 101)]
        self.assertEqual(last(begin(), join(0), *kept, told(0, 1, 101, 1), now())[:5], [0, 0, 0, 100, 0])
        given = last(begin(window=1), join(0), tick(2), *kept, told(0, 1, 101, 1), now())
        self.assertEqual(given[:5], [0, 2, 1, 0, 100])

    def test_the_cells_behind_the_last_tick_reckoned_again(self):
        given = run(begin(window=8, every=3, held=0), join(0), tick(2), now(), told(0, 1, 1, 1, 0, 0, 500), now(), world(2),
                    plain(2), tick(), now(), world(3), plain(3))
        self.assertEqual(given[3][5:], idle_world(0, 2))
        self.assertEqual(given[5][5:], mixed(mixed([500, 1, 2, 3, 4, 5], 1), 2))
        self.assertEqual(given[5][5:], given[6][1:])
        self.assertEqual(given[6], given[7])
        self.assertEqual(given[9], [0, 3, 0, 1, 0] + mixed(given[5][5:], 3))
        self.assertEqual([given[10], given[11]], [[0] + given[9][5:]] * 2)


class Stays(unittest.TestCase):
    def test_nobody_was_there(self):
        self.assertEqual(run(begin(), stays(), tick(5), stays())[1:], [[0], [0, 5, 1], [0]])

    def test_one_that_goes_on_and_then_ended(self):
        given = run(begin(), tick(2), join(3), stays(), tick(3), stays(), leave(3), stays(), tick(9), stays())
        self.assertEqual(given[3::2], [[0, 3, 1, 2, -1]] * 2 + [[0, 3, 1, 2, 5]] * 2)

    def test_in_the_order_in_which_they_began(self):
        given = last(begin(), join(2), tick(), join(0), tick(), leave(2), join(1), tick(), join(2), leave(0), tick(),
                     join(0), stays())
        self.assertEqual(given, [0, 2, 1, 0, 2, 0, 1, 1, 3, 1, 1, 2, -1, 2, 2, 3, -1, 0, 2, 4, -1])

    def test_came_and_went_between_the_same_two_ticks(self):
        given = run(begin(), join(0), leave(0), stays(), tick(4), join(0), leave(0), join(0), stays())
        self.assertEqual(given[3], [0, 0, 1, 0, 0])
        self.assertEqual(given[-1], [0, 0, 1, 0, 0, 0, 2, 4, 4, 0, 3, 4, -1])

    def test_forty(self):
        given = last(begin(), *([join(1), leave(1)] * 39), join(1), join(0), stays())
        self.assertEqual(given[:-4], [0] + [x for number in range(1, 40) for x in (1, number, 0, 0)])
        self.assertEqual(given[-4:], [1, 40, 0, -1])

    def test_up_to_tick_400(self):
        given = last(begin(), join(0), *([tick(50)] * 8), join(1), leave(0), stays())
        self.assertEqual(given, [0, 0, 1, 0, 400, 1, 1, 400, -1])

    def test_refused_joins_and_leaves_begin_and_end_none(self):
        given = last(begin(), join(0), join(0), leave(1), join(4), tick(), leave(0), tick(), leave(0), stays())
        self.assertEqual(given, [0, 0, 1, 0, 1])

    def test_another_window_leaves_them(self):
        given = run(begin(), join(0), tick(9), leave(0), join(1), stays(), resize(1), stays())
        self.assertEqual(given[-1], given[5])


class Ready(unittest.TestCase):
    def test_nobody_there(self):
        self.assertEqual(run(begin(), ready(), tick(5), ready())[1:], [[0, 1], [0, 5, 1], [0, 1]])

    def test_every_player_there_is_waited_for(self):
        joins = [join(p) for p in range(4)]
        for order in ((0, 1, 2, 3), (3, 1, 0, 2), (2, 3, 1, 0)):
            calls = [part for p in order for part in (ready(), told(p, 1, 1, 1))]
            given = run(begin(), *joins, *calls, ready())
            self.assertEqual(given[5::2], [[0, 0]] * 4 + [[0, 1]])

    def test_only_the_next_tick_is_looked_at(self):
        given = run(begin(), join(0), told(0, 1, 1, 2), ready(), tick(), ready(), tick(), ready())
        self.assertEqual(given[3::2], [[0, 0], [0, 1], [0, 0]])

    def test_a_player_who_comes_or_goes(self):
        given = run(begin(), join(0), ready(), leave(0), ready(), join(0), ready(), told(0, 2, 1, 1), ready(), join(1),
                    ready(), leave(1), ready())
        self.assertEqual(given[2::2], [[0, 0], [0, 1], [0, 0], [0, 1], [0, 0], [0, 1]])

    def test_a_guess_is_not_enough(self):
        self.assertEqual(last(begin(held=5), join(0), told(0, 1, 1, 1), tick(), ready()), [0, 0])

    def test_one_that_does_not_count_is_not_enough(self):
        self.assertEqual(run(begin(), join(0), told(0, 1, 1, 1), told(0, 1, 1, 2), tick(), ready())[-1], [0, 0])

    def test_one_of_another_stay_is_enough(self):
        given = last(begin(), join(0), told(0, 1, 1, 1), leave(0), join(0), ready())
        self.assertEqual(given, [0, 1])

    def test_one_of_a_player_not_there_is_not_asked_for_and_stands_in_for_nobody(self):
        given = run(begin(), join(0), told(0, 1, 1, 1), leave(0), ready(), join(1), ready())
        self.assertEqual([given[4], given[6]], [[0, 1], [0, 0]])

    def test_behind_tick_400(self):
        given = run(begin(), *([tick(50)] * 8), ready(), join(0), ready(), told(0, 1, 1, 401), ready(), lock(1))
        self.assertEqual(given[9:], [[0, 1], [0, 1], [0, 0], [0, 1, 0], [0, 1], [-7]])

    def test_a_lock_goes_on_just_as_long(self):
        given = run(begin(), join(0), told(0, 1, 1, 1), told(0, 1, 2, 2), ready(), lock(1), ready(), lock(9), ready(),
                    lock(9))
        self.assertEqual(given[4:], [[0, 1], [0, 1, 0], [0, 1], [0, 2, 0], [0, 0], [0, 2, 0]])


if __name__ == "__main__":
    unittest.main()
