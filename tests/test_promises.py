"""The promises 1 to 4, on many lines drawn from fixed seeds."""

import functools
import itertools
import random
import unittest

from helper import Chance, Model, begin, join, leave, line_of, lock, model_run, run, tick, told, world
from lateinputs.ticks import answers

LINES = 120
LENGTH = 120


@functools.lru_cache(maxsize=None)
def drawn_lines():
    return [Chance(seed).line(LENGTH) for seed in range(LINES)]


class WholeLines(unittest.TestCase):
    def test_as_the_plain_model_answers(self):
        for seed, calls in enumerate(drawn_lines()):
            for call, given, expected in zip(calls, run(*calls), model_run(calls)):
                self.assertEqual(given, expected, (seed, call))

    def test_lines_hold_what_they_are_to_try(self):
        fates, again, refusals = set(), set(), set()
        for calls in drawn_lines():
            for call, given in zip(calls, run(*calls)):
                if given[0] < 0:
                    refusals.add(given[0])
                elif call[0] == 3:
                    fates.add(given[1])
                    again.add(given[2])
        self.assertEqual(fates, {0, 1, 2, 3, 4, 5})
        self.assertTrue(again >= set(range(12)))
        self.assertTrue(refusals >= {-1, -3, -4, -5})


class OrderAndDoubles(unittest.TestCase):
    """Promise 1."""

    def setUp(self):
        self.opened = [begin(window=16, ahead=16, most=2, held=2, every=3, seed=5), join(0), join(1), join(3)]
        self.probes = [world(t) for t in range(9)]

    def test_every_order_of_a_few(self):
        few = [told(0, 1, 1, 1, 3, 0, 3), told(0, 1, 1, 2, 1, 0, 9), told(0, 1, 2, 1, 1, 0, 2), told(0, 1, 3, 1, 0, 0, 1),
               told(0, 1, 3, 1, 0, 0, 0), told(1, 1, 1, 1, 2, 0, 1)]
        expected = run(*self.opened, *few, tick(8), *self.probes)[-9:]
        for order in itertools.permutations(few):
            self.assertEqual(run(*self.opened, *order, tick(8), *self.probes)[-9:], expected)

    def test_drawn_orders_doubles_and_ticks_between(self):
        for seed in range(60):
            draw = random.Random(seed)
            chance = Chance(seed)
            inputs = [told(draw.choice([0, 1, 3]), 1, draw.randint(1, 5), draw.randint(1, 8), *chance.says())
                      for step in range(25)]
            expected = run(*self.opened, *inputs, tick(8), *self.probes)[-9:]
            for step in range(4):
                calls = inputs + draw.sample(inputs, 10) + [tick()] * 8
                draw.shuffle(calls)
                self.assertEqual(run(*self.opened, *calls, *self.probes)[-9:], expected, seed)

    def test_fates_of_what_comes_next_hang_on_the_set_alone(self):
        inputs = [told(0, 1, n, t, 1, 0, n) for n, t in ((1, 2), (1, 1), (2, 2), (3, 2), (4, 2), (5, 1))]
        behind = [told(0, 1, 6, 2), told(0, 1, 2, 1), told(0, 1, 4, 2, 0), told(1, 1, 1, 2), lock(3)]
        expected = run(*self.opened, *inputs, *behind)[-5:]
        for order in itertools.permutations(inputs):
            self.assertEqual(run(*self.opened, *order, *behind)[-5:], expected)


class PlainReckoning(unittest.TestCase):
    """Promise 2."""

    def test_every_world_in_the_window_behind_each_call(self):
        for seed in range(25):
            self.check_line(Chance(1000 + seed).line(60), seed)

    def check_line(self, calls, seed):
        model = Model()
        probed, expected = [], []
        for call in calls:
            probed.append(call)
            expected.append(model.answer(call))
            for behind in range(model.settled, model.made + 1):
                if len(probed) < 190:
                    probed.append(world(behind))
                    expected.append([0] + model.cells(behind))
        self.assertEqual(run(*probed[:200]), expected[:200], seed)


class Settled(unittest.TestCase):
    """Promise 3."""

    def test_worlds_behind_settled_ticks_never_change(self):
        for seed in range(40):
            calls = Chance(2000 + seed).line(70)
            calls[0] = calls[0][:5] + [8] + calls[0][6:]
            self.check_line(calls)

    def check_line(self, calls):
        """After each call every settled tick that can still be told is asked for, in a line of its own."""
        model = Model()
        seen = {}
        for at in range(len(calls)):
            model.answer(calls[at])
            ticks = list(range(model.snapshot_at(model.settled), model.settled + 1))
            given = run(*calls[:at + 1], *[world(t) for t in ticks])[at + 1:]
            for t, cells in zip(ticks, given):
                self.assertEqual(cells, seen.setdefault(t, cells), (at, t))

    def test_an_input_for_a_settled_tick_changes_nothing(self):
        calls = [begin(window=2, every=8, held=3), join(0), told(0, 1, 2, 3, 1, 0, 5), tick(6)]
        tries = [told(0, 1, 1, 3, 0, 0, 0), told(0, 1, 2, 3, 0, 0, 0), told(0, 1, 2, 1), told(0, 1, 3, 4, 0, 0, 0)]
        probes = [world(t) for t in range(7)] + [tick(), world(7)]
        given = run(*calls, *tries, *probes)
        self.assertEqual(given[4:8], [[0, 2, 0]] * 4)
        self.assertEqual(given[8:], run(*calls, *probes)[4:])

    def test_a_number_told_again_for_a_later_tick_leaves_the_settled_one(self):
        calls = [begin(window=2, every=8, held=0), join(0), told(0, 1, 2, 3, 1, 0, 5), tick(6)]
        probes = [world(t) for t in range(5)]
        given = run(*calls, told(0, 1, 2, 5, -9), told(0, 1, 2, 6), *probes)
        self.assertEqual(given[4:6], [[0, 5, 0]] * 2)
        self.assertEqual(given[6:], run(*calls, *probes)[4:])

    def test_coming_and_going_leaves_settled_ticks(self):
        calls = [begin(window=1, every=8, held=5), join(0), told(0, 1, 1, 1), tick(5)]
        probes = [world(t) for t in range(6)]
        expected = run(*calls, *probes)[4:]
        for more in ([leave(0)], [leave(0), join(0)], [join(1), leave(1)], [join(2)]):
            self.assertEqual(run(*calls, *more, *probes)[4 + len(more):], expected)


class RefusedCalls(unittest.TestCase):
    """Promise 4."""

    def test_a_line_without_its_refused_calls_answers_alike(self):
        for seed, calls in enumerate(drawn_lines()):
            given = run(*calls)
            taken = [call for call, answer in zip(calls, given) if answer[0] == 0]
            self.assertEqual(run(*taken), [answer for answer in given if answer[0] == 0], seed)


class NothingIsKept(unittest.TestCase):
    def test_a_second_time_answers_as_the_first(self):
        lines = [line_of(calls) for calls in drawn_lines()[:20]]
        first = [answers(list(line)) for line in lines]
        self.assertEqual([answers(line) for line in reversed(lines)], first[::-1])


if __name__ == "__main__":
    unittest.main()
