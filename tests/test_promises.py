"""The promises 1 to 4, on many lines drawn from fixed seeds."""

import functools
import itertools
import random
import unittest

from helper import (ASKING, Chance, Model, begin, counts, deeds, fate, join, leave, line_of, lock, model_run, now, plain,
                    ready, run, snaps, stays, tick, told, world)
from lateinputs.ticks import answers

LINES = 120
LENGTH = 160


@functools.lru_cache(maxsize=None)
def drawn_lines():
    return [Chance(seed).line(LENGTH) for seed in range(LINES)]


class WholeLines(unittest.TestCase):
    def test_as_the_plain_model_answers(self):
        for seed, calls in enumerate(drawn_lines()):
            for call, given, expected in zip(calls, run(*calls), model_run(calls)):
                self.assertEqual(given, expected, (seed, call))

    def test_lines_hold_what_they_are_to_try(self):
        fates, again, refusals = set(), set(), set()
        for calls in drawn_lines():
            for call, given in zip(calls, run(*calls)):
                if given[0] < 0:
                    refusals.add(given[0])
                elif call[0] == 3:
                    fates.add(given[1])
                    again.add(given[2])
        self.assertEqual(fates, {0, 1, 2, 3, 4, 5})
        self.assertTrue(again >= set(range(12)))
        self.assertTrue(refusals >= {-1, -3, -4, -5})

    def test_lines_hold_every_answer_of_the_calls_that_ask(self):
        known, are_ready, many_stays, many_snapshots, guesses = set(), set(), set(), set(), set()
        for calls in drawn_lines():
            for call, given in zip(calls, run(*calls)):
                if call[0] == 10 and given[0] == 0:
                    known.add(given[1])
                if call[0] == 14:
                    are_ready.add(given[1])
                if call[0] == 13:
                    many_stays.add(len(given) // 4)
                if call[0] == 11:
                    many_snapshots.add(len(given) - 1)
                if call[0] == 9 and len(given) > 6:
                    guesses.add(given[5])
        self.assertEqual([known, are_ready, guesses], [{0, 1, 2, 3}, {0, 1}, {0, 1}])
        self.assertTrue(many_stays >= set(range(5)))
        self.assertTrue(many_snapshots >= set(range(1, 8)))


class AskingChangesNothing(unittest.TestCase):
    def test_a_line_without_the_calls_that_ask_answers_alike(self):
        for seed, calls in enumerate(drawn_lines()):
            kept = [(call, answer) for call, answer in zip(calls, run(*calls)) if call[0] not in ASKING]
            self.assertEqual(run(*[call for call, answer in kept]), [answer for call, answer in kept], seed)

    def test_each_call_that_asks_behind_each_other_call(self):
        asked = [world(2), plain(2), plain(0), counts(3), deeds(3), deeds(9), fate(0, 1, 1), fate(0, 1, 9), snaps(), now(),
                 stays(), ready()]
        for seed in range(12):
            calls = [call for call in Chance(3000 + seed).line(60) if call[0] not in ASKING]
            expected = run(*calls)
            for ask in asked:
                between = [part for call in calls for part in (call, ask, ask)]
                given = run(*between)
                self.assertEqual(given[::3], expected, (seed, ask))
                self.assertEqual(given[1::3], given[2::3], (seed, ask))


class OrderAndDoubles(unittest.TestCase):
    """Promise 1."""

    def setUp(self):
        self.opened = [begin(window=16, ahead=16, most=2, held=2, every=3, seed=5), join(0), join(1), join(3)]
        self.probes = [world(t) for t in range(9)] + [counts(t) for t in range(1, 10)] + [deeds(t) for t in range(1, 10)]
        self.probes += [fate(p, 1, n) for p in (0, 1) for n in range(1, 6)]
        self.last = len(self.probes)

    def test_every_order_of_a_few(self):
        few = [told(0, 1, 1, 1, 3, 0, 3), told(0, 1, 1, 2, 1, 0, 9), told(0, 1, 2, 1, 1, 0, 2), told(0, 1, 3, 1, 0, 0, 1),
               told(0, 1, 3, 1, 0, 0, 0), told(1, 1, 1, 1, 2, 0, 1)]
        expected = run(*self.opened, *few, tick(8), *self.probes)[-self.last:]
        for order in itertools.permutations(few):
            self.assertEqual(run(*self.opened, *order, tick(8), *self.probes)[-self.last:], expected)

    def test_drawn_orders_doubles_and_ticks_between(self):
        for seed in range(60):
            draw = random.Random(seed)
            chance = Chance(seed)
            inputs = [told(draw.choice([0, 1, 3]), 1, draw.randint(1, 5), draw.randint(1, 8), *chance.says())
                      for step in range(25)]
            expected = run(*self.opened, *inputs, tick(8), *self.probes)[-self.last:]
            for step in range(4):
                calls = inputs + draw.sample(inputs, 10) + [tick()] * 8
                draw.shuffle(calls)
                self.assertEqual(run(*self.opened, *calls, *self.probes)[-self.last:], expected, seed)

    def test_counts_by_hand_in_every_order_with_doubles(self):
        few = [told(0, 1, 1, 2, 5), told(0, 1, 1, 1, 6), told(0, 1, 2, 2, 7), told(0, 1, 2, 2, 4), told(0, 1, 3, 2)]
        for order in itertools.permutations(few):
            for doubled in (order, order + order, order + order[::-1]):
                given = run(*self.opened, *doubled, counts(1), counts(2))
                self.assertEqual(given[-2:], [[0, 0, 1, 1, 1, 0, 1, 6], [0, 0, 1, 2, 2, 0, 1, 4, 0, 1, 3, 2, 0, 0]])

    def test_only_those_in_time_matter(self):
        # What came too late, too early or of no present stay changes nothing of what counts.
        inputs = [told(0, 1, 2, 7, 5), told(0, 1, 3, 7, 6), told(1, 1, 1, 6)]
        others = [told(0, 1, 2, 1), told(0, 1, 3, 30), told(0, 2, 1, 7), told(2, 1, 1, 7)]
        calls = [begin(window=2, ahead=4, most=2), join(0), join(1), tick(7)]
        asked = [counts(t) for t in range(1, 12)] + [counts(30)]
        expected = run(*calls, *inputs, *asked)[-12:]
        for order in itertools.permutations(inputs + others):
            self.assertEqual(run(*calls, *order, *asked)[-12:], expected)

    def test_fates_of_what_comes_next_hang_on_the_set_alone(self):
        inputs = [told(0, 1, n, t, 1, 0, n) for n, t in ((1, 2), (1, 1), (2, 2), (3, 2), (4, 2), (5, 1))]
        behind = [told(0, 1, 6, 2), told(0, 1, 2, 1), told(0, 1, 4, 2, 0), told(1, 1, 1, 2), lock(3)]
        expected = run(*self.opened, *inputs, *behind)[-5:]
        for order in itertools.permutations(inputs):
            self.assertEqual(run(*self.opened, *order, *behind)[-5:], expected)


class PlainReckoning(unittest.TestCase):
    """Promise 2."""

    def test_every_world_in_the_window_behind_each_call(self):
        for seed in range(25):
            self.check_line(Chance(1000 + seed).line(60), seed)

    def check_line(self, calls, seed):
        model = Model()
        probed, expected = [], []
        for call in calls:
            probed.append(call)
            expected.append(model.answer(call))
            for behind in range(model.settled, model.made + 1):
                if len(probed) < 190:
                    probed.append(world(behind))
                    expected.append([0] + model.cells(behind))
        self.assertEqual(run(*probed[:200]), expected[:200], seed)

    def test_world_plain_and_now_against_one_another(self):
        for seed in range(40):
            calls = [call for call in Chance(4000 + seed).line(90) if call[0] not in ASKING]
            for at in range(4, len(calls) + 1, 7):
                self.check_worlds(calls[:at], seed)

    def check_worlds(self, calls, seed):
        made = run(*calls, now())[-1][1]
        first = run(*calls, snaps())[-1][1]
        ticks = range(first, min(made, first + 50) + 1)
        given = run(*calls, *[world(t) for t in ticks], *[plain(t) for t in ticks], now(), plain(made))[len(calls):]
        self.assertEqual(given[:len(ticks)], given[len(ticks):-2], seed)
        self.assertEqual(given[-2][5:], given[-1][1:], seed)


class Settled(unittest.TestCase):
    """Promise 3."""

    def test_worlds_behind_settled_ticks_never_change(self):
        for seed in range(40):
            calls = Chance(2000 + seed).line(70)
            calls[0] = calls[0][:5] + [8] + calls[0][6:]
            self.check_line(calls)

    def check_line(self, calls):
        """After each call every settled tick that can still be told is asked for, in a line of its own."""
        model = Model()
        seen = {}
        for at in range(len(calls)):
            model.answer(calls[at])
            ticks = list(range(model.snapshot_at(model.settled), model.settled + 1))
            given = run(*calls[:at + 1], *[world(t) for t in ticks])[at + 1:]
            for t, cells in zip(ticks, given):
                self.assertEqual(cells, seen.setdefault(t, cells), (at, t))

    def test_deeds_and_plain_worlds_of_settled_ticks_never_change(self):
        for seed in range(40):
            calls = [call for call in Chance(5000 + seed).line(90) if call[0] not in ASKING]
            self.check_deeds(calls)

    def check_deeds(self, calls):
        """After each call every settled tick is asked for, however far back it is."""
        seen = {}
        for at in range(1, len(calls) + 1):
            settled = run(*calls[:at], now())[-1][2]
            ticks = range(1, min(settled, 50) + 1)
            given = run(*calls[:at], *[deeds(t) for t in ticks], *[plain(t) for t in ticks])[at:]
            for t in ticks:
                told_now = (given[t - 1], given[len(ticks) + t - 1])
                self.assertEqual(told_now, seen.setdefault(t, told_now), (at, t))

    def test_an_input_for_a_settled_tick_changes_nothing(self):
        calls = [begin(window=2, every=8, held=3), join(0), told(0, 1, 2, 3, 1, 0, 5), tick(6)]
        tries = [told(0, 1, 1, 3, 0, 0, 0), told(0, 1, 2, 3, 0, 0, 0), told(0, 1, 2, 1), told(0, 1, 3, 4, 0, 0, 0)]
        probes = [world(t) for t in range(7)] + [tick(), world(7)]
        given = run(*calls, *tries, *probes)
        self.assertEqual(given[4:8], [[0, 2, 0]] * 4)
        self.assertEqual(given[8:], run(*calls, *probes)[4:])

    def test_a_number_told_again_for_a_later_tick_leaves_the_settled_one(self):
        calls = [begin(window=2, every=8, held=0), join(0), told(0, 1, 2, 3, 1, 0, 5), tick(6)]
        probes = [world(t) for t in range(5)]
        given = run(*calls, told(0, 1, 2, 5, -9), told(0, 1, 2, 6), *probes)
        self.assertEqual(given[4:6], [[0, 5, 0]] * 2)
        self.assertEqual(given[6:], run(*calls, *probes)[4:])

    def test_coming_and_going_leaves_settled_ticks(self):
        calls = [begin(window=1, every=8, held=5), join(0), told(0, 1, 1, 1), tick(5)]
        probes = [world(t) for t in range(6)]
        expected = run(*calls, *probes)[4:]
        for more in ([leave(0)], [leave(0), join(0)], [join(1), leave(1)], [join(2)]):
            self.assertEqual(run(*calls, *more, *probes)[4 + len(more):], expected)


class RefusedCalls(unittest.TestCase):
    """Promise 4."""

    def test_a_line_without_its_refused_calls_answers_alike(self):
        for seed, calls in enumerate(drawn_lines()):
            given = run(*calls)
            taken = [call for call, answer in zip(calls, given) if answer[0] == 0]
            self.assertEqual(run(*taken), [answer for answer in given if answer[0] == 0], seed)


class NothingIsKept(unittest.TestCase):
    def test_a_second_time_answers_as_the_first(self):
        lines = [line_of(calls) for calls in drawn_lines()[:20]]
        first = [answers(list(line)) for line in lines]
        self.assertEqual([answers(line) for line in reversed(lines)], first[::-1])


if __name__ == "__main__":
    unittest.main()
