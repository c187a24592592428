"""Many calls, drawn from fixed seeds, answered by the package and by the model; and what always holds."""

import random
import unittest

from asking import ask, locate
from model import Model


def drawn_object(draw, count):
    n = draw.randint(1, count)
    return n if draw.random() < 0.98 else draw.choice([0, count + 1, 60, 61, -1, 10 ** 18, -10 ** 18])


def drawn_properties(draw):
    return sum(2 ** bit for bit, share in enumerate((0.6, 0.4, 0.5, 0.5, 0.5, 0.3, 0.15)) if draw.random() < share)


def drawn_call(draw, count):
    number = draw.choice([1, 2, 2, 3, 4, 5, 5, 6, 6, 6, 7, 7, 8, 8, 9])
    objects = [drawn_object(draw, count) for _ in range(3)]
    if draw.random() < 0.02:
        return [0, draw.randint(-1, 2)]
    if number == 1:
        return [1, objects[0], draw.randint(0, 6) if draw.random() < 0.05 else draw.randint(1, 5),
                drawn_properties(draw), draw.randint(0, 4), draw.randint(0, 9)]
    if number == 2:
        return [2, objects[0], objects[1], draw.randint(1, 5)]
    if number == 3:
        return [3, objects[0], draw.choice([3, 3, 4, 4, 5, 6, 6, 2, 7]), draw.randint(0, 1)]
    if number == 4:
        return [4, draw.randint(1, 4), draw.randint(1, 4), draw.randint(0, 3)]
    if number in (5, 7):
        return [number] + objects[:2]
    if number == 6:
        return [6] + objects + [draw.randint(1, 2)]
    if number == 8:
        return [8] + objects[:2] + [draw.randint(0, 1)]
    return [9, objects[0]]


def drawn_start(draw):
    """Some places and objects, the first ones of which are suitable holders of the later ones."""
    calls = [[0, draw.randint(0, 1)] for _ in range(draw.randint(1, 3))]
    places = len(calls)
    for _ in range(draw.randint(2, 8)):
        h = draw.randint(1, len(calls))
        relation = 1 if h <= places else draw.randint(1, 5)
        bulk = draw.randint(0, 4) if h <= places else draw.randint(0, 2)
        properties = drawn_properties(draw) | draw.choice([0, 4, 4, 7])
        calls.append([1, h, relation, properties, bulk, draw.randint(0, 12)])
    return calls


class AgainstModelTest(unittest.TestCase):
    def test_the_answers_are_those_of_the_model(self):
        codes = set()
        for seed in range(250):
            draw = random.Random(seed)
            model = Model()
            calls = drawn_start(draw)
            expected = [model.call(call) for call in calls]
            for _ in range(120):
                calls.append(drawn_call(draw, len(model.holder)))
                expected.append(model.call(calls[-1]))
            told = ask(*calls)
            for place, (answer, asked) in enumerate(zip(told, expected)):
                self.assertEqual(answer, asked, f"seed {seed}, call {place}: {calls[:place + 1]}")
            self.assertEqual(len(told), len(expected))
            codes |= {(call[0], answer[0]) for call, answer in zip(calls, told)}
        # The draws are of use only as long as they come upon each answer of each call.
        self.assertLessEqual({
            (1, 0), (1, -6), (1, -9), (2, 0), (2, -5), (2, -6), (2, -9), (3, 0), (3, -9), (4, 0), (4, -5), (4, -9),
            (5, 0), (5, -3), (5, -4), (5, -5), (5, -6), (5, -8), (6, 0), (6, -3), (6, -4), (6, -5), (6, -6), (6, -8),
            (6, -9), (7, 0), (7, -3), (7, -6), (7, -8), (8, 0), (8, -3), (8, -4), (8, -9), (8, -10), (9, 0), (9, -1),
            (9, -2),
        }, codes)

    def test_a_list_without_its_failed_calls_answers_the_same(self):
        for seed in range(250, 400):
            draw = random.Random(seed)
            calls = drawn_start(draw)
            calls += [drawn_call(draw, 10) for _ in range(200)]
            told = ask(*calls)
            done = [call for call, answer in zip(calls, told) if answer[0] == 0]
            self.assertEqual(ask(*done), [answer for answer in told if answer[0] == 0], f"seed {seed}")


class ForestTest(unittest.TestCase):
    def test_the_objects_form_a_forest_and_no_load_exceeds_its_capacity(self):
        for seed in range(400, 500):
            draw = random.Random(seed)
            calls = drawn_start(draw)
            calls += [drawn_call(draw, 12) for _ in range(200)]
            told = ask(*calls)
            made = [call for call, answer in zip(calls, told) if call[0] in (0, 1) and answer[0] == 0]
            found = ask(*calls, *[locate(n) for n in range(1, len(made) + 1)])[len(calls):]
            self.check_forest(found)
            self.check_loads(made, found)

    def check_forest(self, found):
        for n, answer in enumerate(found, 1):
            above = answer[4:]
            self.assertEqual(len(set(above + [n])), len(above) + 1)
            self.assertEqual(above[:1], [answer[1]] if answer[1] else [])
            self.assertEqual(found[(above or [n])[-1] - 1][1], 0)

    def check_loads(self, made, found):
        loads = [0] * (len(made) + 1)
        for call, answer in zip(made, found):
            if answer[2] in (1, 2, 3):
                loads[answer[1]] += call[4]
        for n, call in enumerate(made, 1):
            if call[0] == 1:
                self.assertLessEqual(loads[n], call[5])
