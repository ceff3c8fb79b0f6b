"""The calls join and leave: players who come and go."""

import unittest

from helper import begin, idle_world, join, last, leave, lock, mixed, run, tick, told, world


class JoinAndLeave(unittest.TestCase):
    def test_stays_are_numbered_for_each_player(self):
        given = run(begin(), join(0), join(3), leave(0), join(0), leave(3), leave(0), join(3), join(0), join(1))
        self.assertEqual(given[1:], [[0, 1], [0, 1], [0], [0, 2], [0], [0], [0, 2], [0, 3], [0, 1]])

    def test_join_of_a_player_who_is_there(self):
        self.assertEqual(run(begin(), join(2), join(2), join(1), join(2))[2:], [[-3], [0, 1], [-3]])

    def test_leave_of_a_player_who_is_not_there(self):
        self.assertEqual(run(begin(), leave(2), join(2), leave(1), leave(2), leave(2))[1:],
                         [[-3], [0, 1], [-3], [0], [-3]])

    def test_forty_stays_of_one_player(self):
        given = run(begin(), *([join(1), leave(1)] * 40), join(1), join(0), told(1, 40, 1, 1))
        self.assertEqual(given[1:81], [answer for number in range(1, 41) for answer in ([0, number], [0])])
        self.assertEqual(given[81:], [[-7], [-7], [0, 4, 0]])

    def test_forty_stays_of_all_players(self):
        calls = [call for step in range(10) for player in range(4) for call in (join(player), leave(player))]
        given = run(begin(), *calls, join(0), join(3))
        self.assertEqual(given[-4:], [[0, 10], [0], [-7], [-7]])

    def test_the_fortieth_stay_can_be_ended(self):
        given = run(begin(), *([join(1), leave(1)] * 39), join(1), join(1), join(0), told(1, 40, 1, 1), leave(1),
                    join(1))
        self.assertEqual(given[-6:], [[0, 40], [-3], [-7], [0, 1, 0], [0], [-7]])


class WhatAStayTakesIn(unittest.TestCase):
    """Seen by the guesses, which are done only in ticks that a stay takes in."""

    def guessed(self, *calls):
        """The ticks with a guess: player 0 says nothing that changes a cell, so a guess is all that does."""
        given = run(begin(window=16, ahead=16, held=5, every=8), *calls, *[world(t) for t in range(10)])
        worlds = [answer[1:] for answer in given[-10:] if answer[0] == 0]
        return [t for t in range(1, len(worlds)) if worlds[t] != mixed(worlds[t - 1], t)]

    def test_from_behind_the_tick_made_last(self):
        self.assertEqual(self.guessed(join(0), told(0, 1, 1, 1), leave(0), tick(2), join(0), tick(3)), [3, 4, 5])

    def test_up_to_the_tick_made_last(self):
        self.assertEqual(self.guessed(join(0), told(0, 1, 1, 1), tick(3), leave(0), tick(3)), [2, 3])

    def test_came_and_went_between_the_same_two_ticks(self):
        self.assertEqual(self.guessed(join(0), told(0, 1, 1, 1), leave(0), tick(2), join(0), leave(0), tick(3)), [])

    def test_two_stays_with_ticks_between(self):
        self.assertEqual(self.guessed(join(0), told(0, 1, 1, 1), tick(2), leave(0), tick(1), join(0), tick(2),
                                      leave(0), tick()), [2, 4, 5])

    def test_two_stays_with_no_tick_between(self):
        self.assertEqual(self.guessed(join(0), told(0, 1, 1, 1), tick(2), leave(0), join(0), tick(2)), [2, 3, 4])

    def test_a_player_who_is_there_does_not_stand_in_for_another(self):
        self.assertEqual(self.guessed(join(1), join(0), told(0, 1, 1, 1), leave(0), tick(4)), [])

    def test_inputs_of_a_stay_that_took_no_tick_in_are_done(self):
        given = run(begin(), join(0), told(0, 1, 1, 2, 0, 0, 77), leave(0), tick(2), world(2))
        cells = idle_world(0, 1)
        self.assertEqual(given[-1], [0] + mixed([77] + cells[1:], 2))

    def test_inputs_of_a_stay_that_has_ended_are_done(self):
        given = run(begin(), join(0), tick(), told(0, 1, 1, 4, 0, 0, 77), leave(0), tick(3), world(4))
        cells = idle_world(0, 3)
        self.assertEqual(given[-1], [0] + mixed([77] + cells[1:], 4))

    def test_a_lock_waits_only_for_those_who_are_there(self):
        self.assertEqual(last(begin(), join(0), lock(3)), [0, 0, 0])
        self.assertEqual(last(begin(), join(0), leave(0), lock(3)), [0, 3, 0])


if __name__ == "__main__":
    unittest.main()
