"""The calls tick, lock and resize: ticks made, settled, and reckoned again."""

import unittest

from helper import begin, idle_world, join, last, leave, lock, mixed, resize, run, tick, told, world


class MakingTicks(unittest.TestCase):
    def test_ticks_made_and_settled(self):
        given = run(begin(window=3), tick(), tick(2), tick(), tick(5), tick(50))
        self.assertEqual(given[1:], [[0, 1, 0], [0, 3, 0], [0, 4, 1], [0, 9, 6], [0, 59, 56]])

    def test_windows_at_their_ends(self):
        self.assertEqual(run(begin(window=1), tick(1), tick(1))[1:], [[0, 1, 0], [0, 2, 1]])
        self.assertEqual(run(begin(window=16), tick(16), tick(1))[1:], [[0, 16, 0], [0, 17, 1]])

    def test_many_at_once_are_as_one_by_one(self):
        calls = [begin(window=2, held=3, every=3), join(0), join(2), told(0, 1, 1, 1, 1, 4, 9), told(2, 1, 1, 3, 2, 0, 3)]
        once = run(*calls, tick(5), world(5), world(3), world(4))
        single = run(*calls, *([tick()] * 5), world(5), world(3), world(4))
        self.assertEqual(once[-4:], single[-4:])

    def test_no_tick_beyond_400(self):
        given = run(begin(), *([tick(50)] * 7), tick(49), tick(2), tick(50), tick(1), tick(1), tick(50))
        self.assertEqual(given[8:], [[0, 399, 395], [-7], [-7], [0, 400, 396], [-7], [-7]])

    def test_fifty_up_to_400(self):
        self.assertEqual(last(begin(), *([tick(50)] * 8)), [0, 400, 396])
        self.assertEqual(last(begin(), tick(1), *([tick(50)] * 8)), [-7])


class Locking(unittest.TestCase):
    def test_as_many_as_told_when_nobody_is_there(self):
        self.assertEqual(run(begin(window=3), lock(1), lock(4), lock(50))[1:], [[0, 1, 0], [0, 5, 2], [0, 55, 52]])

    def test_as_long_as_it_is_ready(self):
        given = run(begin(window=1), join(0), lock(5), told(0, 1, 1, 1), told(0, 1, 2, 2), told(0, 1, 3, 4), lock(5),
                    told(0, 1, 4, 3), lock(1), lock(5))
        self.assertEqual([given[i] for i in (2, 6, 8, 9)], [[0, 0, 0], [0, 2, 1], [0, 3, 2], [0, 4, 3]])

    def test_every_player_there_is_waited_for(self):
        for missing in range(4):
            inputs = [told(p, 1, 1, 1) for p in range(4) if p != missing]
            joins = [join(p) for p in range(4)]
            self.assertEqual(last(begin(), *joins, *inputs, lock(1)), [0, 0, 0])
            self.assertEqual(last(begin(), *joins, *inputs, told(missing, 1, 1, 1), lock(1)), [0, 1, 0])
            self.assertEqual(last(begin(), *joins, *inputs, leave(missing), lock(1)), [0, 1, 0])

    def test_a_guess_does_not_make_it_ready(self):
        self.assertEqual(last(begin(held=5), join(0), told(0, 1, 1, 1), lock(2)), [0, 1, 0])

    def test_one_that_is_kept_and_does_not_count_does_not_make_it_ready(self):
        self.assertEqual(last(begin(), join(0), told(0, 1, 1, 1), told(0, 1, 1, 2), lock(2)), [0, 1, 0])

    def test_one_of_an_earlier_stay_makes_it_ready(self):
        self.assertEqual(last(begin(), join(0), told(0, 1, 1, 1), leave(0), join(0), lock(2)), [0, 1, 0])

    def test_locked_ticks_do_what_ticks_do(self):
        calls = [begin(every=3, held=2, window=2), join(0), told(0, 1, 1, 1, 1, 0, 8), told(0, 1, 2, 2, 3, 1, 9),
                 told(0, 1, 3, 3, 2, 1, 2), told(0, 1, 4, 4, 0, 1, 2)]
        probes = [world(t) for t in range(5)] + [told(0, 1, 5, 3, 1, 1, 1), tick(2), world(6)]
        self.assertEqual(run(*calls, lock(4), *probes), run(*calls, tick(4), *probes))

    def test_refused_by_how_many_whether_ready_or_not(self):
        given = run(begin(), *([tick(50)] * 7), tick(1), lock(50), join(0), lock(50), lock(49), leave(0), lock(49),
                    lock(1))
        self.assertEqual(given[9:], [[-7], [0, 1], [-7], [0, 351, 347], [0], [0, 400, 396], [-7]])


class Resizing(unittest.TestCase):
    def test_shorter_settles_more(self):
        given = run(begin(window=5), tick(8), resize(4), resize(2), resize(1), tick())
        self.assertEqual(given[1:], [[0, 8, 3], [0, 4], [0, 6], [0, 7], [0, 9, 8]])

    def test_longer_unsettles_nothing(self):
        given = run(begin(window=2), tick(8), resize(4), tick(), tick(2), resize(16), tick(5), resize(3))
        self.assertEqual(given[1:], [[0, 8, 6], [0, 6], [0, 9, 6], [0, 11, 7], [0, 7], [0, 16, 7], [0, 13]])

    def test_the_same_length_changes_nothing(self):
        self.assertEqual(run(begin(window=2), resize(2), tick(5), resize(2), tick(1))[1:],
                         [[0, 0], [0, 5, 3], [0, 3], [0, 6, 4]])

    def test_nothing_settled_below_zero(self):
        self.assertEqual(run(begin(window=1), resize(16), tick(3), resize(16))[1:], [[0, 0], [0, 3, 0], [0, 0]])

    def test_inputs_come_too_late_for_what_a_shorter_window_settled(self):
        given = run(begin(window=5, every=1), join(0), tick(5), told(0, 1, 1, 1), resize(2), told(0, 1, 2, 3),
                    told(0, 1, 2, 4))
        self.assertEqual([given[i] for i in (3, 5, 6)], [[0, 1, 5], [0, 2, 0], [0, 1, 2]])

    def test_inputs_stay_too_late_when_the_window_is_made_longer(self):
        given = run(begin(window=2, every=1), join(0), tick(5), resize(16), told(0, 1, 1, 3), told(0, 1, 1, 4), tick(14),
                    told(0, 1, 2, 3), told(0, 1, 2, 4))
        self.assertEqual([given[i] for i in (4, 5, 7, 8)], [[0, 2, 0], [0, 1, 2], [0, 2, 0], [0, 1, 16]])


class ReckonedAgain(unittest.TestCase):
    def again(self, every, made, for_tick, window=16):
        given = last(begin(window=window, every=every), join(0), tick(made), told(0, 1, 1, for_tick, 1, 0, 1))
        return given

    def test_from_the_latest_snapshot_before_the_tick(self):
        for every in range(1, 9):
            for for_tick in range(1, 11):
                start = (for_tick - 1) // every * every
                self.assertEqual(self.again(every, 10, for_tick), [0, 1, 10 - start], (every, for_tick))

    def test_from_the_snapshot_kept_for_what_is_settled(self):
        # Settled is up to 7; the snapshot behind tick 5 is kept for the sake of tick 8.
        self.assertEqual(self.again(5, 9, 8, window=2), [0, 1, 4])
        self.assertEqual(self.again(8, 9, 8, window=2), [0, 1, 9])

    def test_none_for_a_tick_not_made(self):
        self.assertEqual(self.again(1, 3, 4), [0, 1, 0])
        self.assertEqual(self.again(1, 3, 3), [0, 1, 1])

    def test_none_when_it_does_not_count(self):
        given = run(begin(most=1, every=1), join(0), told(0, 1, 1, 1, 5), tick(2), told(0, 1, 2, 1), told(0, 1, 1, 1, 6),
                    told(0, 1, 1, 2))
        self.assertEqual(given[-3:], [[0, 5, 0], [0, 5, 0], [0, 5, 0]])

    def test_none_when_it_is_there_already(self):
        given = run(begin(every=1), join(0), tick(2), told(0, 1, 1, 1, 5), told(0, 1, 1, 1, 5))
        self.assertEqual(given[-2:], [[0, 1, 2], [0, 0, 0]])

    def test_when_it_does_what_was_done_before(self):
        # Another input is done, though the cells come out alike.
        given = run(begin(every=1, held=1), join(0), told(0, 1, 2, 1, 9), tick(3), world(3), told(0, 1, 1, 1, 9), world(3))
        self.assertEqual(given[5], [0, 1, 3])
        self.assertEqual(given[4], given[6])

    def test_one_that_takes_a_place_from_a_made_tick(self):
        # Number 2 is told for tick 2 too, where number 1 has the only place: so only tick 3 is other than before.
        given = run(begin(most=1, every=1, held=0), join(0), told(0, 1, 1, 2), told(0, 1, 2, 3, 0, 0, 50), tick(4),
                    told(0, 1, 2, 2), world(2), world(3))
        self.assertEqual(given[5], [0, 5, 2])
        self.assertEqual(given[-1], [0] + mixed(given[-2][1:], 3))

    def test_from_the_first_tick_that_is_other_than_before(self):
        given = run(begin(every=1, held=0), join(0), told(0, 1, 1, 4, 0, 0, 50), tick(5), told(0, 1, 1, 2, 0, 0, 60),
                    *[world(t) for t in range(6)])
        self.assertEqual(given[4], [0, 1, 4])
        cells = idle_world(0, 1)
        self.assertEqual(given[7][1:], mixed([60] + cells[1:], 2))
        self.assertEqual(given[9][1:], mixed(given[8][1:], 4))

    def test_guesses_behind_the_tick_are_reckoned_again(self):
        given = run(begin(every=4, held=2), join(0), tick(4), told(0, 1, 1, 1, 9), *[world(t) for t in range(5)])
        self.assertEqual(given[3], [0, 1, 4])
        worlds = [answer[1:] for answer in given[4:]]
        for t, guess in ((1, 0), (2, 1), (3, 1), (4, 0)):
            self.assertEqual(worlds[t], mixed([worlds[t - 1][0] + guess] + worlds[t - 1][1:], t))

    def test_snapshots_are_reckoned_again_too(self):
        calls = [begin(window=8, every=2, held=1), join(0), tick(6), told(0, 1, 1, 1, 0, 0, 500)]
        late = run(*calls, told(0, 1, 2, 5, 1, 3, 7), tick(), *[world(t) for t in range(8)])
        early = run(begin(window=8, ahead=8, every=2, held=1), join(0), told(0, 1, 1, 1, 0, 0, 500),
                    told(0, 1, 2, 5, 1, 3, 7), tick(7), *[world(t) for t in range(8)])
        self.assertEqual(late[3:5], [[0, 1, 6], [0, 1, 2]])
        self.assertEqual(late[-8:], early[-8:])

    def test_the_next_tick_goes_on_from_the_world_reckoned_again(self):
        given = run(begin(every=8, held=0), join(0), tick(2), told(0, 1, 1, 1, 0, 0, 500), tick(), world(2), world(3))
        self.assertEqual(given[-1], [0] + mixed(given[-2][1:], 3))
        cells = mixed(mixed([500, 1, 2, 3, 4, 5], 1), 2)
        self.assertEqual(given[-2], [0] + cells)


if __name__ == "__main__":
    unittest.main()
