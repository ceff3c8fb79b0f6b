"""The call fate: what is known of a number of a player and stay."""

import unittest

from helper import begin, fate, join, last, leave, now, resize, run, tick, told


class EachAnswer(unittest.TestCase):
    def test_never_came(self):
        self.assertEqual(run(begin(), fate(0, 1, 1), fate(3, 40, 100000), join(0), fate(0, 1, 1), fate(0, 2, 1))[1:],
                         [[0, 0, 0], [0, 0, 0], [0, 1], [0, 0, 0], [0, 0, 0]])

    def test_the_first_counts(self):
        self.assertEqual(last(begin(), join(0), told(0, 1, 1, 3), fate(0, 1, 1)), [0, 1, 3])
        self.assertEqual(last(begin(), join(3), told(3, 1, 100000, 4, 1, 2), fate(3, 1, 100000)), [0, 1, 4])

    def test_the_first_does_not_count(self):
        given = run(begin(most=1), join(0), told(0, 1, 1, 2), told(0, 1, 2, 2), fate(0, 1, 1), fate(0, 1, 2))
        self.assertEqual(given[-2:], [[0, 1, 2], [0, 3, 2]])

    def test_only_come_too_late(self):
        given = run(begin(window=1), join(0), tick(3), told(0, 1, 7, 2), told(0, 1, 7, 1), fate(0, 1, 7))
        self.assertEqual(given[-3:], [[0, 2, 0], [0, 2, 0], [0, 2, 0]])

    def test_one_come_too_late_and_another_kept(self):
        calls = [begin(window=1, most=1), join(0), tick(3)]
        late, kept = told(0, 1, 7, 2), told(0, 1, 7, 3)
        for order in ((late, kept), (kept, late)):
            self.assertEqual(last(*calls, *order, fate(0, 1, 7)), [0, 1, 3])
            self.assertEqual(last(*calls, told(0, 1, 6, 3), *order, fate(0, 1, 7)), [0, 3, 3])
        given = run(*calls, late, fate(0, 1, 7), kept, fate(0, 1, 7), now())
        self.assertEqual([given[4], given[6], given[7][:5]], [[0, 2, 0], [0, 1, 3], [0, 3, 2, 1, 1]])

    def test_a_kept_one_that_comes_once_more_too_late(self):
        given = run(begin(window=1), join(0), told(0, 1, 1, 1), tick(2), told(0, 1, 1, 1), fate(0, 1, 1), now())
        self.assertEqual([given[4], given[5], given[6][3:5]], [[0, 2, 0], [0, 1, 1], [1, 1]])

    def test_too_early_or_not_of_a_present_stay_is_as_if_it_never_came(self):
        given = run(begin(ahead=1, window=1), join(0), tick(3), told(0, 1, 1, 5), told(0, 2, 2, 3), told(1, 1, 3, 3),
                    told(1, 1, 4, 1), told(0, 2, 5, 1), fate(0, 1, 1), fate(0, 2, 2), fate(1, 1, 3), fate(1, 1, 4),
                    fate(0, 2, 5))
        self.assertEqual(given[-5:], [[0, 0, 0]] * 5)

    def test_refused_is_as_if_it_never_came(self):
        self.assertEqual(last(begin(), join(0), told(0, 1, 1, 1, 1000001), fate(0, 1, 1)), [0, 0, 0])
        late = [told(0, 1, number, 1) for number in range(1, 101)]
        given = run(begin(window=1), join(0), tick(2), *late, told(0, 1, 101, 1), fate(0, 1, 100), fate(0, 1, 101))
        self.assertEqual(given[-3:], [[-7], [0, 2, 0], [0, 0, 0]])


class OfThisNumber(unittest.TestCase):
    def test_another_player_stay_or_number_is_another(self):
        calls = [begin(window=1), join(0), join(1), tick(3), told(0, 1, 5, 3), told(0, 1, 6, 1)]
        asked = [fate(1, 1, 5), fate(0, 2, 5), fate(0, 1, 4), fate(1, 1, 6), fate(0, 2, 6), fate(0, 1, 7)]
        self.assertEqual(run(*calls, *asked)[6:], [[0, 0, 0]] * 6)
        self.assertEqual(run(*calls, fate(0, 1, 5), fate(0, 1, 6))[6:], [[0, 1, 3], [0, 2, 0]])

    def test_each_stay_of_its_own(self):
        given = run(begin(most=1), join(0), told(0, 1, 5, 2), leave(0), join(0), told(0, 2, 5, 1), told(0, 2, 6, 2),
                    fate(0, 1, 5), fate(0, 2, 5), fate(0, 2, 6))
        self.assertEqual(given[-3:], [[0, 1, 2], [0, 1, 1], [0, 3, 2]])


class TheFirstOfThem(unittest.TestCase):
    def test_by_tick(self):
        given = run(begin(), join(0), told(0, 1, 1, 3), told(0, 1, 1, 4), fate(0, 1, 1), told(0, 1, 1, 2),
                    fate(0, 1, 1))
        self.assertEqual([given[4], given[6]], [[0, 1, 3], [0, 1, 2]])

    def test_it_does_not_count_though_a_later_one_could(self):
        given = run(begin(most=1), join(0), told(0, 1, 1, 1), told(0, 1, 2, 2), fate(0, 1, 2), told(0, 1, 2, 1),
                    fate(0, 1, 2))
        self.assertEqual([given[4], given[6]], [[0, 1, 2], [0, 3, 1]])

    def test_by_what_it_says(self):
        given = run(begin(), join(0), told(0, 1, 1, 1, 5), told(0, 1, 1, 1, 4), told(0, 1, 1, 1, 6), fate(0, 1, 1))
        self.assertEqual(given[-1], [0, 1, 1])


class AsItIsNow(unittest.TestCase):
    """Another than the fate that was answered when the input came."""

    def test_one_loses_its_place(self):
        given = run(begin(most=1), join(0), told(0, 1, 2, 1), fate(0, 1, 2), told(0, 1, 1, 1), fate(0, 1, 2))
        self.assertEqual(given[2:], [[0, 1, 0], [0, 1, 1], [0, 1, 0], [0, 3, 1]])

    def test_one_gets_a_place(self):
        given = run(begin(most=1), join(0), told(0, 1, 1, 2), told(0, 1, 2, 2), fate(0, 1, 2), told(0, 1, 1, 1),
                    fate(0, 1, 2))
        self.assertEqual([given[4], given[6]], [[0, 3, 2], [0, 1, 2]])

    def test_ticks_and_leaving_and_another_window_leave_it(self):
        given = run(begin(most=1), join(0), told(0, 1, 1, 2), told(0, 1, 2, 2), leave(0), fate(0, 1, 1), fate(0, 1, 2),
                    tick(50), resize(1), fate(0, 1, 1), fate(0, 1, 2))
        self.assertEqual([given[i] for i in (5, 6, 9, 10)], [[0, 1, 2], [0, 3, 2]] * 2)

    def test_come_too_late_in_a_stay_that_ended(self):
        given = run(begin(window=1), join(0), tick(3), told(0, 1, 1, 1), leave(0), join(0), fate(0, 1, 1),
                    fate(0, 2, 1))
        self.assertEqual(given[-2:], [[0, 2, 0], [0, 0, 0]])


if __name__ == "__main__":
    unittest.main()
