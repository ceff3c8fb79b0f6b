"""What counts for a tick, in which order it is done, and what is guessed."""

import itertools
import unittest

from helper import begin, join, last, leave, mixed, run, tick, told, world

CELLS = [0, 1, 2, 3, 4, 5]


def behind(cells, *deeds):
    """The cells behind tick 1: each deed is a cell and what is added to it."""
    done = list(cells)
    for place, number in deeds:
        done[place] += number
    return [0] + mixed(done, 1)


class ToldSeveralWays(unittest.TestCase):
    """Inputs of one player, stay and number: only the first in the order of inputs may count."""

    def test_the_earlier_tick_goes_first(self):
        given = run(begin(most=5), join(0), told(0, 1, 1, 2, 1, 0, 100), told(0, 1, 1, 1, 1, 0, 7), tick(), world(1))
        self.assertEqual(given[2:4], [[0, 1, 0], [0, 1, 0]])
        self.assertEqual(given[-1], behind(CELLS, (0, 7)))

    def test_the_later_tick_does_not_count(self):
        given = run(begin(most=5, held=0), join(0), told(0, 1, 1, 1, 1, 0, 7), told(0, 1, 1, 2, 1, 0, 100), tick(2),
                    world(1), world(2))
        self.assertEqual(given[2:4], [[0, 1, 0], [0, 5, 0]])
        self.assertEqual(given[-1], [0] + mixed(given[-2][1:], 2))

    def test_one_that_lost_its_place_is_not_done(self):
        given = run(begin(most=5, held=0), join(0), told(0, 1, 1, 2, 1, 0, 100), told(0, 1, 1, 1, 1, 0, 7), tick(2),
                    world(1), world(2))
        self.assertEqual(given[-1], [0] + mixed(given[-2][1:], 2))

    def test_what_they_say_number_by_number(self):
        for first, later in (([1, 0, 7], [1, 0, 8]), ([1, 0, -5], [1, 0, 5]), ([1, 1, 9], [1, 2, 3]),
                             ([0, 5, 9], [1, 0, 3]), ([1, 0, 9], [2, 0]), ([1, 0, 9], [1, 1])):
            for order in ((first, later), (later, first)):
                given = run(begin(most=5), join(0), told(0, 1, 1, 1, *order[0]), told(0, 1, 1, 1, *order[1]), tick(),
                            world(1))
                alone = run(begin(most=5), join(0), told(0, 1, 1, 1, *first), tick(), world(1))
                self.assertEqual(given[-1], alone[-1], order)
                self.assertEqual(given[3][1], 1 if order[1] == first else 5)

    def test_a_row_goes_before_one_that_begins_with_it_and_goes_on(self):
        given = run(begin(), join(0), told(0, 1, 1, 1, 1, 0, 7), told(0, 1, 1, 1, 1, 0), tick(), world(1))
        self.assertEqual(given[3], [0, 1, 0])
        self.assertEqual(given[-1], behind(CELLS))
        given = run(begin(), join(0), told(0, 1, 1, 1, 1, 0, 7), told(0, 1, 1, 1, 1, 0, 7, 0), tick(), world(1))
        self.assertEqual(given[3], [0, 5, 0])
        self.assertEqual(given[-1], behind(CELLS, (0, 7)))
        self.assertEqual(last(begin(), join(0), told(0, 1, 1, 1, -9), told(0, 1, 1, 1)), [0, 1, 0])

    def test_another_number_stay_or_player_is_another_input(self):
        given = run(begin(most=5), join(0), join(1), told(0, 1, 1, 1, 1, 0, 7), told(0, 1, 2, 1, 1, 0, 20),
                    told(1, 1, 1, 1, 1, 0, 300), leave(0), join(0), told(0, 2, 1, 1, 1, 0, 4000), tick(), world(1))
        self.assertEqual(given[-1], behind(CELLS, (0, 4327)))

    def test_one_that_may_not_count_takes_no_place(self):
        given = run(begin(most=2), join(0), told(0, 1, 1, 1, 1, 0, 7), told(0, 1, 1, 1, 1, 0, 8),
                    told(0, 1, 2, 1, 1, 0, 20), told(0, 1, 3, 1, 1, 0, 300), tick(), world(1))
        self.assertEqual([answer[1] for answer in given[2:6]], [1, 5, 1, 5])
        self.assertEqual(given[-1], behind(CELLS, (0, 27)))

    def test_a_place_that_is_given_up_is_taken_by_the_next(self):
        given = run(begin(most=1), join(0), told(0, 1, 1, 2, 1, 0, 7), told(0, 1, 2, 2, 1, 0, 20), told(0, 1, 1, 1, 9),
                    tick(2), world(1), world(2))
        self.assertEqual([answer[1] for answer in given[2:5]], [1, 5, 1])
        cells = given[-2][1:]
        cells[0] += 20
        self.assertEqual(given[-1], [0] + mixed(cells, 2))

    def test_ousted_by_one_that_does_not_count_itself(self):
        # Number 2 is told for tick 1, where the only place is taken; so it counts nowhere.
        given = run(begin(most=1, held=0), join(0), told(0, 1, 1, 1, 9), told(0, 1, 2, 2, 1, 0, 7),
                    told(0, 1, 2, 1, 1, 0, 7), tick(2), world(1), world(2))
        self.assertEqual([answer[1] for answer in given[2:5]], [1, 1, 5])
        self.assertEqual(given[-1], [0] + mixed(given[-2][1:], 2))


class SoManyOfAPlayer(unittest.TestCase):
    def test_the_first_so_many_count(self):
        adds = [told(0, 1, number, 1, 1, 0, 10 ** (number - 1)) for number in range(1, 7)]
        for most in range(1, 6):
            for order in (adds, adds[::-1], adds[3:] + adds[:3]):
                given = run(begin(most=most), join(0), *order, tick(), world(1))
                self.assertEqual(given[-1], behind(CELLS, (0, int("1" * most))))

    def test_the_fate_is_as_it_is_when_it_comes(self):
        given = run(begin(most=1), join(0), told(0, 1, 3, 1), told(0, 1, 2, 1), told(0, 1, 4, 1), told(0, 1, 1, 1))
        self.assertEqual([answer[1] for answer in given[2:]], [1, 1, 5, 1])

    def test_so_many_of_each_player(self):
        adds = [told(p, 1, n, 1, 1, p, 10 ** n) for p in range(4) for n in (1, 2, 3)]
        given = run(begin(most=2), *[join(p) for p in range(4)], *adds, tick(), world(1))
        self.assertEqual([answer[1] for answer in given[5:17]], [1, 1, 5] * 4)
        self.assertEqual(given[-1], behind(CELLS, (0, 110), (1, 110), (2, 110), (3, 110)))

    def test_so_many_for_each_tick(self):
        given = run(begin(most=1), join(0), told(0, 1, 1, 1), told(0, 1, 2, 2), told(0, 1, 3, 3), told(0, 1, 4, 3))
        self.assertEqual([answer[1] for answer in given[2:]], [1, 1, 1, 5])

    def test_the_stays_of_a_player_share_the_places(self):
        given = run(begin(most=1), join(0), told(0, 1, 9, 1, 1, 0, 7), leave(0), join(0), told(0, 2, 1, 1, 1, 0, 20),
                    tick(), world(1))
        self.assertEqual(given[5], [0, 5, 0])
        self.assertEqual(given[-1], behind(CELLS, (0, 7)))


class OrderInATick(unittest.TestCase):
    def test_by_player_stay_and_number_whatever_order_they_come_in(self):
        first = [told(0, 1, 2, 1, 1, 0, 3), told(0, 1, 1, 1, 3, 0, 2)]
        later = [told(1, 1, 1, 1, 3, 0, 5), told(0, 2, 1, 1, 1, 0, 4)]
        for one in itertools.permutations(first):
            for other in itertools.permutations(later):
                given = run(begin(most=5, seed=10), join(1), join(0), *one, leave(0), join(0), *other, tick(), world(1))
                cells = [(10 * 2 + 3 + 4) * 5, 11, 12, 13, 14, 15]
                self.assertEqual(given[-1], [0] + mixed(cells, 1))

    def test_numbers_are_ordered_as_numbers(self):
        given = run(begin(most=5, seed=10), join(0), told(0, 1, 10, 1, 1, 0, 3), told(0, 1, 9, 1, 3, 0, 2), tick(),
                    world(1))
        self.assertEqual(given[-1], [0] + mixed([23, 11, 12, 13, 14, 15], 1))

    def test_a_guess_stands_at_its_player(self):
        # In tick 2 player 1 doubles cell 1, then the guess of player 2 adds 1 to cell 2, then player 3 triples it.
        given = run(begin(held=1), join(1), join(2), join(3), told(2, 1, 1, 1), told(1, 1, 1, 2, 3, 2, 2),
                    told(3, 1, 1, 2, 3, 2, 3), tick(2), world(1), world(2))
        cells = given[-2][1:]
        cells[2] = (cells[2] * 2 + 1) * 3
        self.assertEqual(given[-1], [0] + mixed(cells, 2))


class Guesses(unittest.TestCase):
    def guessed(self, held, *calls):
        """The ticks up to 9 in which 1 was added to cell 0; the inputs of these tests change nothing."""
        given = run(begin(window=16, ahead=16, held=held, every=8), *calls, *[world(t) for t in range(10)])
        worlds = [answer[1:] for answer in given[-10:]]
        found = []
        for t in range(1, 10):
            cells = list(worlds[t - 1])
            if worlds[t] != mixed(cells, t):
                cells[0] += 1
                self.assertEqual(worlds[t], mixed(cells, t))
                found.append(t)
        return found

    def test_held_for_so_many_ticks(self):
        for held in range(6):
            self.assertEqual(self.guessed(held, join(0), told(0, 1, 1, 2), tick(9)), list(range(3, 3 + held)))

    def test_none_where_something_counts(self):
        self.assertEqual(self.guessed(2, join(0), told(0, 1, 1, 1), told(0, 1, 2, 3), tick(9)), [2, 4, 5])

    def test_none_without_an_earlier_input(self):
        self.assertEqual(self.guessed(5, join(0), tick(9)), [])

    def test_none_from_a_later_tick(self):
        self.assertEqual(self.guessed(5, join(0), told(0, 1, 1, 9), tick(9)), [])

    def test_none_from_another_player(self):
        given = run(begin(held=5), join(0), join(1), told(1, 1, 1, 1), leave(1), tick(2), world(1), world(2))
        self.assertEqual(given[-1], [0] + mixed(given[-2][1:], 2))

    def test_from_an_earlier_stay(self):
        self.assertEqual(self.guessed(3, join(0), told(0, 1, 1, 1), tick(2), leave(0), join(0), tick(7)), [2, 3, 4])

    def test_a_guess_is_not_guessed_from(self):
        self.assertEqual(self.guessed(1, join(0), told(0, 1, 1, 1), tick(9)), [2])

    def test_from_one_that_counts_only(self):
        # Number 1 is told for tick 4 too, where it does not count.
        self.assertEqual(self.guessed(1, join(0), told(0, 1, 1, 1), told(0, 1, 1, 4), tick(9)), [2])

    def test_from_a_settled_tick(self):
        given = run(begin(window=1, held=5, every=1), join(0), told(0, 1, 1, 1), tick(5), world(4), world(5))
        cells = given[-2][1:]
        cells[0] += 1
        self.assertEqual(given[-1], [0] + mixed(cells, 5))


if __name__ == "__main__":
    unittest.main()
