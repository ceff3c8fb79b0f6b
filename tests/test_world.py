"""The world to try it with, seen through the call world; and which worlds can be told."""

import unittest

from helper import begin, idle_world, join, last, mixed, resize, run, tick, told, world


def cells_after(says, seed=10):
    """The cells behind tick 1, in which one input was done."""
    given = run(begin(seed=seed), join(0), told(0, 1, 1, 1, *says), tick(), world(1))
    return given[-1]


class FirstWorld(unittest.TestCase):
    def test_cells_at_first(self):
        self.assertEqual(last(begin(seed=0), world(0)), [0, 0, 1, 2, 3, 4, 5])
        self.assertEqual(last(begin(seed=7), world(0)), [0, 7, 8, 9, 10, 11, 12])

    def test_greatest_seed_goes_round(self):
        expected = [0, 1000000, 1000001, 1000002, 0, 1, 2]
        self.assertEqual(last(begin(seed=1000000), world(0)), expected)

    def test_end_of_a_tick(self):
        self.assertEqual(last(begin(), tick(), world(1)), [0, 2, 4, 6, 8, 10, 6])
        self.assertEqual(last(begin(), tick(2), world(2)), [0, 8, 12, 16, 20, 18, 10])

    def test_end_of_a_tick_goes_round(self):
        self.assertEqual(last(begin(seed=1000000), tick(), world(1)), [0, 999999, 1000001, 0, 2, 4, 0])


class WhatInputsDo(unittest.TestCase):
    def check(self, says, cells, seed=10):
        self.assertEqual(cells_after(says, seed), [0] + mixed(cells, 1), says)

    def test_put(self):
        self.check([0, 2, 500], [10, 11, 500, 13, 14, 15])
        self.check([0, 2, -1], [10, 11, 1000002, 13, 14, 15])
        self.check([0, 0, -1000000], [3, 11, 12, 13, 14, 15])
        self.check([0, 5, 1000000], [10, 11, 12, 13, 14, 1000000])

    def test_add(self):
        self.check([1, 3, 5], [10, 11, 12, 18, 14, 15])
        self.check([1, 3, -14], [10, 11, 12, 1000002, 14, 15])
        self.check([1, 3, 1000000], [10, 11, 12, 10, 14, 15])

    def test_exchange(self):
        self.check([2, 1, 4], [10, 14, 12, 13, 11, 15])
        self.check([2, 3, 3], [10, 11, 12, 13, 14, 15])

    def test_multiply(self):
        self.check([3, 0, 7], [70, 11, 12, 13, 14, 15])
        self.check([3, 0, 0], [0, 11, 12, 13, 14, 15])
        self.check([3, 4, -1], [10, 11, 12, 13, 1000003 - 14, 15])
        self.check([3, 1, 1000000], [10, 1000003 - 33, 12, 13, 14, 15])

    def test_add_if_less(self):
        self.check([4, 0, 5, 1], [10, 11, 12, 13, 14, 25])
        self.check([4, 1, 5, 0], [10, 11, 12, 13, 14, 15])
        self.check([4, 2, 5, 2], [10, 11, 12, 13, 14, 15])
        self.check([4, 0, 0, 1], [20, 11, 12, 13, 14, 15])
        self.check([4, 0, 1, 1], [10, 21, 12, 13, 14, 15])

    def test_add_if_less_goes_round(self):
        given = run(begin(most=3), join(0), told(0, 1, 1, 1, 0, 0, 1000000), told(0, 1, 2, 1, 0, 1, 1000000),
                    told(0, 1, 3, 1, 4, 2, 1, 0), told(0, 1, 4, 1), tick(), world(1))
        self.assertEqual(given[-1], [0] + mixed([1000000, 1000002, 2, 3, 4, 5], 1))
        given = run(begin(most=3), join(0), told(0, 1, 1, 1, 0, 0, 1000000), told(0, 1, 2, 1, 0, 1, 1000000),
                    told(0, 1, 3, 1, 4, 3, 1, 0), tick(), world(1))
        self.assertEqual(given[-1], [0] + mixed([1000000, 0, 2, 3, 4, 5], 1))

    def test_cell_is_told_modulo_six(self):
        self.check([0, 6, 500], [500, 11, 12, 13, 14, 15])
        self.check([0, 1000000, 500], [10, 11, 12, 13, 500, 15])
        self.check([2, 7, 10], [10, 14, 12, 13, 11, 15])
        self.check([4, 6, 11, 13], [10, 11, 12, 13, 14, 25])

    def test_cell_told_below_zero_is_cell_zero(self):
        self.check([0, -1, 500], [500, 11, 12, 13, 14, 15])
        self.check([0, -5, 500], [500, 11, 12, 13, 14, 15])
        self.check([1, -1000000, 5], [15, 11, 12, 13, 14, 15])
        self.check([2, -2, 5], [15, 11, 12, 13, 14, 10])
        self.check([2, 5, -2], [15, 11, 12, 13, 14, 10])
        self.check([3, -4, 3], [30, 11, 12, 13, 14, 15])
        self.check([4, -1, 5, 1], [10, 11, 12, 13, 14, 25])
        self.check([4, 1, -1, 5], [21, 11, 12, 13, 14, 15])
        self.check([4, 1, 5, -1], [10, 11, 12, 13, 14, 15])

    def test_anything_else_does_nothing(self):
        for says in ([], [0], [0, 1], [0, 1, 2, 3], [1, 1, 2, 3], [2, 1, 2, 3], [3, 1, 2, 3], [4, 0, 1], [4],
                     [4, 0], [5, 1, 2], [5, 0, 5, 1], [-1, 1, 2], [-4, 0, 5, 1], [1000000, 1, 2]):
            self.check(says, [10, 11, 12, 13, 14, 15])

    def test_done_one_after_another(self):
        given = run(begin(most=3, seed=10), join(1), join(0), told(1, 1, 1, 1, 3, 0, 2), told(0, 1, 2, 1, 1, 0, 1),
                    told(0, 1, 1, 1, 3, 0, 5), tick(), world(1))
        self.assertEqual(given[-1], [0] + mixed([102, 11, 12, 13, 14, 15], 1))

    def test_guess_adds_one_to_the_cell_of_the_player(self):
        for player in range(4):
            given = run(begin(held=1), join(player), told(player, 1, 1, 1, 0, 5, 0), tick(2), world(2))
            cells = mixed([0, 1, 2, 3, 4, 0], 1)
            cells[player] += 1
            self.assertEqual(given[-1], [0] + mixed(cells, 2))

    def test_guess_goes_round(self):
        # Behind tick 1 cell 0 holds 1000002, so that the guess in tick 2 brings it to 0.
        given = run(begin(held=1, most=2), join(0), told(0, 1, 1, 1, 0, 0, 1000000), told(0, 1, 2, 1, 0, 1, 1),
                    tick(), world(1), tick(), world(2))
        self.assertEqual(given[-3][1], 1000002)
        cells = given[-3][1:]
        self.assertEqual(given[-1], [0] + mixed([0] + cells[1:], 2))


class WhichWorlds(unittest.TestCase):
    def test_every_world_from_the_first_snapshot_on(self):
        for every in range(1, 9):
            for window in (1, 2, 5, 16):
                self.check_worlds(every, window, 21)

    def check_worlds(self, every, window, made):
        given = run(begin(window=window, every=every, seed=3), tick(made), *[world(t) for t in range(made + 2)])
        settled = max(0, made - window)
        first = settled - settled % every
        for t in range(made + 2):
            expected = [0] + idle_world(3, t) if first <= t <= made else [-4]
            self.assertEqual(given[2 + t], expected, (every, window, t))

    def test_a_tick_not_made(self):
        self.assertEqual(run(begin(), world(1), tick(), world(1), world(2), world(400))[1:],
                         [[-4], [0, 1, 0], [0, 2, 4, 6, 8, 10, 6], [-4], [-4]])

    def test_tick_400(self):
        given = run(begin(every=8, window=16), *([tick(50)] * 8), world(400), world(384), world(383), world(399))
        self.assertEqual(given[-4:], [[0] + idle_world(0, 400), [0] + idle_world(0, 384), [-4],
                                      [0] + idle_world(0, 399)])

    def test_snapshots_dropped_by_a_shorter_window(self):
        given = run(begin(window=8, every=3), tick(8), world(0), resize(3), world(2), world(3),
                    resize(2), world(5), world(6), resize(1), world(5), world(6))
        behind = {t: [0] + idle_world(0, t) for t in range(9)}
        self.assertEqual(given[2:], [behind[0], [0, 5], [-4], behind[3], [0, 6], [-4], behind[6],
                                     [0, 7], [-4], behind[6]])

    def test_snapshots_stay_dropped_by_a_longer_window(self):
        given = run(begin(window=1, every=1), tick(5), resize(16), world(3), world(4), tick(), world(3), world(4))
        self.assertEqual(given[2:], [[0, 4], [-4], [0] + idle_world(0, 4), [0, 6, 4], [-4],
                                     [0] + idle_world(0, 4)])


if __name__ == "__main__":
    unittest.main()
