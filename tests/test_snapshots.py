"""The calls snaps and plain: the snapshots that are kept, and worlds reckoned without them."""

import unittest

from helper import begin, idle_world, join, last, leave, lock, mixed, now, plain, resize, run, snaps, tick, told, world


class Snapshots(unittest.TestCase):
    def test_at_first(self):
        for every in range(1, 9):
            self.assertEqual(last(begin(every=every), snaps()), [0, 0])

    def test_at_multiples_before_and_behind_what_is_settled(self):
        for every in range(1, 9):
            for window in (1, 2, 5, 16):
                given = run(begin(window=window, every=every), snaps(), *([tick(), snaps()] * 40))
                for made in range(41):
                    first = max(0, made - window) // every * every
                    expected = [0] + list(range(first, made + 1, every))
                    self.assertEqual(given[1 + 2 * made], expected, (every, window, made))

    def test_by_hand(self):
        given = run(begin(window=3, every=2), tick(1), snaps(), tick(1), snaps(), tick(2), snaps(), tick(1), snaps(),
                    tick(2), snaps())
        self.assertEqual(given[2::2], [[0, 0], [0, 0, 2], [0, 0, 2, 4], [0, 2, 4], [0, 4, 6]])

    def test_many_at_once(self):
        self.assertEqual(last(begin(window=16, every=8), tick(50), snaps()), [0, 32, 40, 48])
        self.assertEqual(last(begin(window=16, every=8), lock(50), snaps()), [0, 32, 40, 48])

    def test_tick_400(self):
        calls = [tick(50)] * 8
        self.assertEqual(last(begin(window=16, every=8), *calls, snaps()), [0, 384, 392, 400])
        self.assertEqual(last(begin(window=1, every=1), *calls, snaps()), [0, 399, 400])
        self.assertEqual(last(begin(window=16, every=1), *calls, snaps()), [0] + list(range(384, 401)))
        self.assertEqual(last(begin(window=1, every=7), *calls, snaps()), [0, 399])

    def test_a_shorter_window_drops_some(self):
        given = run(begin(window=9, every=2), tick(9), snaps(), resize(7), snaps(), resize(6), snaps(), resize(1), snaps())
        self.assertEqual(given[2::2], [[0, 0, 2, 4, 6, 8], [0, 2, 4, 6, 8], [0, 2, 4, 6, 8], [0, 8]])

    def test_a_longer_window_brings_none_back(self):
        given = run(begin(window=1, every=1), tick(9), resize(16), snaps(), tick(2), snaps())
        self.assertEqual(given[3::2], [[0, 8, 9], [0, 8, 9, 10, 11]])

    def test_reckoned_again_they_are_the_same_ticks(self):
        given = run(begin(window=4, every=2), join(0), tick(7), snaps(), told(0, 1, 1, 4, 1, 0, 5), snaps(),
                    told(0, 1, 2, 7, 1, 0, 5), snaps())
        self.assertEqual(given[3::2], [[0, 2, 4, 6]] * 3)
        self.assertEqual(given[4:7:2], [[0, 1, 5], [0, 1, 1]])

    def test_they_are_where_it_is_reckoned_again_from(self):
        for every in range(1, 9):
            for for_tick in range(6, 13):
                given = run(begin(window=8, every=every), join(0), tick(13), snaps(), told(0, 1, 1, for_tick, 9))
                start = max(t for t in given[3][1:] if t < for_tick)
                self.assertEqual(given[4], [0, 1, 13 - start], (every, for_tick))


class Plain(unittest.TestCase):
    def test_at_first(self):
        self.assertEqual(run(begin(seed=1000000), plain(0), plain(1))[1:], [[0, 1000000, 1000001, 1000002, 0, 1, 2], [-4]])

    def test_a_tick_not_made(self):
        self.assertEqual(run(begin(), tick(3), plain(3), plain(4), plain(400))[2:], [[0] + idle_world(0, 3), [-4], [-4]])

    def test_before_the_first_snapshot(self):
        given = run(begin(window=1, every=1, seed=4), tick(20), snaps(), world(18), *[plain(t) for t in range(21)])
        self.assertEqual(given[2:4], [[0, 19, 20], [-4]])
        self.assertEqual(given[4:], [[0] + idle_world(4, t) for t in range(21)])

    def test_tick_400(self):
        given = run(begin(), *([tick(50)] * 8), plain(400), plain(399), plain(0))
        self.assertEqual(given[-3:], [[0] + idle_world(0, 400), [0] + idle_world(0, 399), [0] + idle_world(0, 0)])

    def test_with_what_is_done_in_each_tick(self):
        given = run(begin(held=1), join(1), told(1, 1, 1, 1, 0, 0, 500), told(1, 1, 2, 4, 2, 0, 1), tick(4),
                    *[plain(t) for t in range(5)])
        cells = [0, 1, 2, 3, 4, 5]
        expected = [cells]
        cells = mixed([500] + cells[1:], 1)
        expected.append(cells)
        cells = mixed([cells[0], cells[1] + 1] + cells[2:], 2)
        expected.append(cells)
        cells = mixed(cells, 3)
        expected.append(cells)
        cells = mixed([cells[1], cells[0]] + cells[2:], 4)
        expected.append(cells)
        self.assertEqual(given[-5:], [[0] + cells for cells in expected])

    def test_as_world_and_now_after_worlds_were_reckoned_again(self):
        late = [told(0, 1, 1, 8, 0, 0, 500), told(1, 1, 1, 6, 3, 1, 7), told(0, 1, 1, 7, 2, 0, 3), told(0, 1, 2, 9),
                told(1, 1, 2, 10, 4, 0, 1, 2), told(0, 1, 3, 12, 1, 1, 1)]
        for every in range(1, 9):
            for at in range(len(late) + 1):
                calls = [begin(window=6, every=every, held=2, seed=9), join(0), join(1), tick(11), *late[:at]]
                self.check(calls, 11)
                self.check(calls + [leave(1), tick(2), resize(3)], 13)

    def check(self, calls, made):
        worlds = run(*calls, *[world(t) for t in range(made + 1)])[len(calls):]
        plains = run(*calls, *[plain(t) for t in range(made + 1)])[len(calls):]
        first = run(*calls, snaps())[-1][1]
        self.assertEqual(worlds[:first], [[-4]] * first)
        self.assertEqual(worlds[first:], plains[first:])
        self.assertEqual(run(*calls, now())[-1][5:], plains[-1][1:])

    def test_settled_ticks_far_back(self):
        given = run(begin(window=2, held=0), join(0), told(0, 1, 1, 1, 0, 3, 77), tick(50), told(0, 1, 2, 1, 0, 3, 9),
                    plain(1), plain(0))
        self.assertEqual(given[-2:], [[0] + mixed([0, 1, 2, 77, 4, 5], 1), [0, 0, 1, 2, 3, 4, 5]])


if __name__ == "__main__":
    unittest.main()
