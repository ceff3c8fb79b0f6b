"""The call input: what becomes of an input that comes."""

import unittest

from helper import begin, join, last, leave, run, tick, told, world


class Fates(unittest.TestCase):
    def test_kept_and_counts(self):
        self.assertEqual(last(begin(), join(0), told(0, 1, 1, 1)), [0, 1, 0])
        self.assertEqual(last(begin(), join(3), told(3, 1, 100000, 4, 1, 2, 3, 4)), [0, 1, 0])

    def test_player_is_not_there(self):
        self.assertEqual(last(begin(), told(0, 1, 1, 1)), [0, 4, 0])
        self.assertEqual(last(begin(), join(1), told(0, 1, 1, 1)), [0, 4, 0])
        self.assertEqual(last(begin(), join(0), leave(0), told(0, 1, 1, 1)), [0, 4, 0])

    def test_another_stay_than_the_present_one(self):
        given = run(begin(), join(0), told(0, 2, 1, 1), leave(0), join(0), told(0, 1, 1, 1), told(0, 2, 1, 1),
                    told(0, 3, 1, 1), told(0, 40, 1, 1))
        self.assertEqual([given[i] for i in (2, 5, 6, 7, 8)],
                         [[0, 4, 0], [0, 4, 0], [0, 1, 0], [0, 4, 0], [0, 4, 0]])

    def test_too_late(self):
        given = run(begin(window=2, every=1), join(0), tick(5), told(0, 1, 1, 3), told(0, 1, 1, 4), told(0, 1, 2, 1))
        self.assertEqual(given[-3:], [[0, 2, 0], [0, 1, 2], [0, 2, 0]])

    def test_no_tick_is_settled_at_first(self):
        self.assertEqual(last(begin(window=16, every=1), join(0), tick(16), told(0, 1, 1, 1)), [0, 1, 16])
        self.assertEqual(last(begin(window=16, every=1), join(0), tick(17), told(0, 1, 1, 1)), [0, 2, 0])

    def test_too_early(self):
        given = run(begin(ahead=2), join(0), told(0, 1, 1, 2), told(0, 1, 1, 3), tick(3), told(0, 1, 2, 5),
                    told(0, 1, 2, 6), told(0, 1, 2, 1000))
        self.assertEqual([given[i] for i in (2, 3, 5, 6, 7)],
                         [[0, 1, 0], [0, 3, 0], [0, 1, 0], [0, 3, 0], [0, 3, 0]])

    def test_nothing_ahead(self):
        given = run(begin(ahead=0, every=1), join(0), told(0, 1, 1, 1), tick(), told(0, 1, 1, 1), told(0, 1, 2, 2))
        self.assertEqual([given[i] for i in (2, 4, 5)], [[0, 3, 0], [0, 1, 1], [0, 3, 0]])

    def test_sixteen_ahead(self):
        self.assertEqual(run(begin(ahead=16), join(0), told(0, 1, 1, 16), told(0, 1, 2, 17))[2:],
                         [[0, 1, 0], [0, 3, 0]])

    def test_there_already(self):
        given = run(begin(), join(0), join(1), told(0, 1, 1, 1, 5), told(0, 1, 1, 1, 5), told(1, 1, 1, 1, 5),
                    told(0, 1, 1, 1, 5, 0), told(0, 1, 1, 1, 5), told(0, 1, 1, 1, 5, 0))
        self.assertEqual(given[3:], [[0, 1, 0], [0, 0, 0], [0, 1, 0], [0, 5, 0], [0, 0, 0], [0, 0, 0]])

    def test_every_part_makes_an_input_another(self):
        first = told(1, 1, 5, 2, 7, 8)
        for other in (told(2, 1, 5, 2, 7, 8), told(1, 1, 6, 2, 7, 8), told(1, 1, 5, 3, 7, 8), told(1, 1, 5, 2, 7, 9),
                      told(1, 1, 5, 2, 7), told(1, 1, 5, 2, 7, 8, 0)):
            self.assertIn(last(begin(), join(1), join(2), first, other)[1], (1, 5))
        given = last(begin(), join(1), first, leave(1), join(1), told(1, 2, 5, 2, 7, 8))
        self.assertEqual(given, [0, 1, 0])

    def test_one_that_does_not_count_is_kept_all_the_same(self):
        given = run(begin(most=1), join(0), told(0, 1, 1, 1), told(0, 1, 2, 1), told(0, 1, 2, 1))
        self.assertEqual(given[2:], [[0, 1, 0], [0, 5, 0], [0, 0, 0]])

    def test_one_not_kept_is_not_there_afterwards(self):
        given = run(begin(ahead=1), join(0), told(0, 1, 1, 2, 0, 0, 9), tick(), told(0, 1, 1, 2, 0, 0, 9))
        self.assertEqual([given[2], given[4]], [[0, 3, 0], [0, 1, 0]])

    def test_another_stay_comes_before_too_late(self):
        # Were they taken as too late, a hundred numbers would be late and the last one refused.
        late = [told(0, 2, number, 1) for number in range(1, 101)]
        given = run(begin(window=1), join(0), tick(2), *late, told(0, 1, 1, 3))
        self.assertEqual(given[3:-1], [[0, 4, 0]] * 100)
        self.assertEqual(given[-1], [0, 1, 0])

    def test_another_stay_comes_before_too_early(self):
        self.assertEqual(last(begin(ahead=0), told(0, 1, 1, 1000)), [0, 4, 0])

    def test_too_late_comes_before_there_already(self):
        given = run(begin(window=1), join(0), told(0, 1, 1, 1), tick(2), told(0, 1, 1, 1))
        self.assertEqual(given[-1], [0, 2, 0])

    def test_not_there_any_more_comes_before_there_already(self):
        self.assertEqual(last(begin(), join(0), told(0, 1, 1, 1), leave(0), told(0, 1, 1, 1)), [0, 4, 0])

    def test_inputs_not_kept_do_nothing(self):
        put = (0, 0, 999)
        given = run(begin(window=1, ahead=1, every=1), tick(2), told(0, 1, 1, 2, *put), join(0), told(0, 2, 1, 2, *put),
                    told(0, 1, 1, 1, *put), told(0, 1, 1, 4, *put), world(2), tick(2), world(4))
        idle = run(begin(window=1, every=1), tick(2), world(2), tick(2), world(4))
        self.assertEqual([answer[1] for answer in (given[2], given[4], given[5], given[6])], [4, 4, 2, 3])
        self.assertEqual([given[7], given[9]], [idle[2], idle[4]])


class Limits(unittest.TestCase):
    def test_a_hundred_inputs_are_kept(self):
        kept = [told(0, 1, number, 1) for number in range(1, 101)]
        given = run(begin(most=5), join(0), *kept, told(0, 1, 101, 1))
        self.assertEqual(given[2:], [[0, 1, 0]] * 5 + [[0, 5, 0]] * 95 + [[-7]])

    def test_at_a_hundred_kept_whatever_comes_is_refused(self):
        kept = [told(0, 1, number, 1) for number in range(1, 101)]
        for other in (told(0, 1, 1, 1), told(1, 1, 1, 1), told(0, 1, 1, 1000), told(0, 2, 1, 1), told(0, 1, 1, 1, 5)):
            self.assertEqual(last(begin(), join(0), *kept, other), [-7])
        self.assertEqual(last(begin(window=1), join(0), *kept, tick(2), told(0, 1, 1, 1)), [-7])
        self.assertEqual(last(begin(), join(0), *kept, told(0, 1, 0, 1)), [-1])

    def test_what_is_not_kept_does_not_fill_the_hundred(self):
        kept = [told(0, 1, number, 2) for number in range(1, 100)]
        unkept = [told(0, 1, 1, 2), told(0, 1, 1, 1000), told(1, 1, 1, 2), told(0, 1, 1, 1)]
        given = run(begin(window=1), join(0), tick(2), *kept, *unkept, told(0, 1, 100, 2), told(0, 1, 101, 2))
        self.assertEqual([answer[-2] for answer in given[-6:-2]], [0, 3, 4, 2])
        self.assertEqual(given[-2:], [[0, 5, 0], [-7]])

    def test_inputs_told_several_ways_each_fill_the_hundred(self):
        kept = [told(0, 1, 1, 1, word) for word in range(100)]
        given = run(begin(), join(0), *kept, told(0, 1, 1, 1, 100))
        self.assertEqual(given[2:], [[0, 1, 0]] + [[0, 5, 0]] * 99 + [[-7]])

    def test_a_hundred_numbers_have_come_too_late(self):
        late = [told(0, 1, number, 1) for number in range(1, 101)]
        given = run(begin(window=1), join(0), tick(2), *late, told(0, 1, 101, 1))
        self.assertEqual(given[3:], [[0, 2, 0]] * 100 + [[-7]])

    def test_at_a_hundred_late_whatever_comes_is_refused(self):
        late = [told(0, 1, number, 1) for number in range(1, 101)]
        for other in (told(0, 1, 1, 1), told(0, 1, 101, 3), told(1, 1, 1, 1), told(0, 1, 1, 1000), told(0, 2, 1, 1)):
            self.assertEqual(last(begin(window=1), join(0), tick(2), *late, other), [-7])
        self.assertEqual(last(begin(window=1), join(0), tick(2), *late, told(0, 1, 1, 0)), [-1])

    def test_one_number_late_several_times_is_one(self):
        late = [told(0, 1, number, 1) for number in range(1, 100)]
        again = [told(0, 1, 1, 2), told(0, 1, 1, 1, 7), told(0, 1, 99, 1)]
        given = run(begin(window=1), join(0), tick(3), *late, *again, told(0, 1, 100, 1), told(0, 1, 100, 1))
        self.assertEqual(given[-5:], [[0, 2, 0]] * 4 + [[-7]])

    def test_the_same_number_of_another_player_or_stay_is_another(self):
        def late(player, stay):
            return [told(player, stay, number, 1) for number in range(1, 26)]
        given = run(begin(window=1), join(0), join(1), tick(2), *late(0, 1), leave(0), join(0), *late(0, 2),
                    *late(1, 1), leave(1), join(1), *late(1, 2), told(1, 2, 1, 3))
        self.assertEqual(given[-26:], [[0, 2, 0]] * 25 + [[-7]])


if __name__ == "__main__":
    unittest.main()
