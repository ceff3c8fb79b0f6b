"""The interface: how calls are handed in and answers given back."""

import unittest

from helper import (begin, counts, deeds, fate, join, leave, line_of, lock, now, plain, ready, resize, snaps, split,
                    stays, tick, told, world)
from lateinputs.ticks import answers

LINE = line_of([begin(3, 4, 2, 2, 2, 0), join(0), join(0), told(0, 1, 1, 1, 1, 0, 5), told(0, 1, 2, 3), tick(),
                told(0, 1, 1, 1, 0), told(0, 1, 3, 1, 1, 2, 3, 4, 5, 6), tick(), lock(2), resize(1), leave(0),
                world(3), world(0), world(4)])

# A line with each call that asks, before ticks are made and behind them.
ASKED = [deeds(2), counts(1), fate(1, 1, 5), snaps(), now(), stays(), ready(), plain(0)]
ASKING_LINE = line_of([begin(2, 4, 1, 1, 2, 0), join(1), told(1, 1, 5, 1, 0, 1, 7), *ASKED, tick(3), told(1, 1, 6, 1),
                       leave(1), *ASKED, plain(2), plain(4)])


class Untouched(list):
    """A list that fails when it is changed, be it only for a while."""

    def refuse(self, *args, **named):
        raise AssertionError("the list that was handed in is changed")

    append = extend = insert = pop = remove = clear = sort = reverse = refuse
    __setitem__ = __delitem__ = __iadd__ = __imul__ = refuse


class Interface(unittest.TestCase):
    def test_each_answer_behind_its_length(self):
        self.assertEqual(answers(LINE), [
            1, 0, 2, 0, 1, 1, -3, 3, 0, 1, 0, 3, 0, 1, 0, 3, 0, 1, 0, 3, 0, 1, 1, 1, -1, 3, 0, 2, 0, 3, 0, 3, 0, 2, 0,
            2, 1, 0, 7, 0, 24, 31, 39, 41, 32, 23, 1, -4, 1, -4])

    def test_each_answer_of_the_calls_that_ask(self):
        self.assertEqual(split(answers(ASKING_LINE)), [
            [0], [0, 1], [0, 1, 0],
            [0, 1, 1, 5, 1, 1, 3, 0, 1, 7], [0, 1, 1, 5, 1, 0, 3, 0, 1, 7], [0, 1, 1], [0, 0],
            [0, 0, 0, 1, 0, 0, 1, 2, 3, 4, 5], [0, 1, 1, 0, -1], [0, 1], [0, 0, 1, 2, 3, 4, 5],
            [0, 3, 1], [0, 2, 0], [0],
            [0, 1, 1, 5, 1, 1, 3, 0, 1, 7], [0, 1, 1, 5, 1, 0, 3, 0, 1, 7], [0, 1, 1], [0, 0, 2],
            [0, 3, 1, 1, 1, 43, 38, 39, 41, 37, 40], [0, 1, 1, 0, 3], [0, 1], [0, 0, 1, 2, 3, 4, 5],
            [0, 21, 19, 16, 20, 18, 16], [-4]])

    def test_nothing_told_is_an_answer_of_one_number(self):
        self.assertEqual(answers(begin() + counts(1) + deeds(1) + stays() + snaps()), [1, 0, 1, 0, 1, 0, 1, 0, 2, 0, 0])

    def test_one_call(self):
        self.assertEqual(answers(begin()), [1, 0])
        self.assertEqual(answers(tick()), [1, -2])
        self.assertEqual(answers(world(401)), [1, -1])

    def test_two_hundred_calls(self):
        self.assertEqual(answers(begin() + join(0) * 199), [1, 0, 2, 0, 1] + [1, -3] * 198)

    def test_four_thousand_numbers(self):
        longest = told(0, 1, 1, 1, *range(10))
        line = begin() + longest * 199
        self.assertEqual(answers(line), [1, 0] + [1, -1] * 199)

    def test_the_list_handed_in_is_not_changed(self):
        for whole in (LINE, ASKING_LINE):
            line = list(whole)
            answers(line)
            self.assertEqual(line, whole)
            self.assertEqual(answers(Untouched(whole)), answers(whole))

    def test_a_second_time_answers_as_the_first(self):
        for whole in (LINE, ASKING_LINE):
            first = answers(whole)
            answers(begin(16, 16, 5, 5, 8, 9) + join(0) + join(1) + tick(50) + now() + stays() + plain(9))
            self.assertEqual(answers(whole), first)

    def test_the_list_given_back_is_a_new_one(self):
        for whole in (LINE, ASKING_LINE):
            first = answers(whole)
            expected = list(first)
            first.clear()
            self.assertEqual(answers(whole), expected)

    def test_answers_are_whole_numbers_in_a_list(self):
        for whole in (LINE, ASKING_LINE):
            given = answers(whole)
            self.assertIs(type(given), list)
            self.assertEqual({type(number) for number in given}, {int})

    def test_nothing_is_open_at_a_beginning(self):
        answers(begin() + join(0))
        self.assertEqual(answers(join(0)), [1, -2])
        self.assertEqual(answers(now() + stays() + begin() + stays()), [1, -2, 1, -2, 1, 0, 1, 0])


if __name__ == "__main__":
    unittest.main()
