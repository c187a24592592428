"""Many calls, drawn from fixed seeds, answered by the package and by the model."""

import random
import unittest

from asking import ask
from drawing import drawn_change, drawn_proof_call, drawn_question, drawn_start, drawn_town
from model import Model

# The draws are of use only as long as they come upon each answer of each call.
EACH_ANSWER = {
    (1, 0), (1, -6), (1, -9), (2, 0), (2, -5), (2, -6), (2, -9), (3, 0), (3, -9), (4, 0), (4, -5), (4, -9),
    (5, 0), (5, -3), (5, -4), (5, -5), (5, -6), (5, -8), (6, 0), (6, -3), (6, -4), (6, -5), (6, -6), (6, -8),
    (6, -9), (7, 0), (7, -3), (7, -6), (7, -8), (8, 0), (8, -3), (8, -4), (8, -9), (8, -10), (9, 0), (9, -1),
    (9, -2), (10, 0), (10, -1), (10, -2), (11, 0), (11, -1), (11, -2), (11, -3), (12, 0), (12, -1), (12, -2),
    (12, -3), (13, 0), (13, -1), (13, -2), (13, -9), (14, 0), (14, -1), (14, -2), (14, -3), (15, 0), (15, -1),
    (15, -2), (15, -3), (16, 0), (16, -1), (16, -2), (17, 0), (17, -1), (17, -2), (18, 0), (18, -1), (18, -2),
    (19, 0),
}


class AgainstModelTest(unittest.TestCase):
    def compare(self, seed, calls, expected):
        told = ask(*calls)
        self.assertEqual(len(told), len(expected))
        for place, (answer, asked) in enumerate(zip(told, expected)):
            if answer != asked:
                self.fail(f"seed {seed}: {answer} instead of {asked}, call {place} of {calls[:place + 1]}")
        return told

    def drawn_calls(self, draw, start, length, share):
        """The start and as many calls more, the given share of them questions; and the model's answers."""
        model = Model()
        calls = list(start)
        expected = [model.call(call) for call in calls]
        while len(calls) < length:
            calls.append(self.next_call(draw, model, share))
            expected.append(model.call(calls[-1]))
        return calls, expected

    def next_call(self, draw, model, share):
        count = len(model.holder)
        if draw.random() >= share:
            return drawn_change(draw, count)
        actors = [n for n in model.holder if 2 in model.bits[n]]
        if not actors or draw.random() < 0.6:
            return drawn_question(draw, count)
        v, x = draw.choice(actors), draw.randint(1, count)
        return drawn_proof_call(draw, v, x, model.proof(v, x), count)

    def test_changes_and_questions(self):
        answered = set()
        for seed in range(200):
            draw = random.Random(seed)
            calls, expected = self.drawn_calls(draw, drawn_start(draw), 160, 0.35)
            told = self.compare(seed, calls, expected)
            answered |= {(call[0], answer[0]) for call, answer in zip(calls, told)}
        self.assertEqual(EACH_ANSWER - answered, set())

    def test_questions_on_many_places_and_windows(self):
        accepted = set()
        for seed in range(1000, 1150):
            draw = random.Random(seed)
            calls, expected = self.drawn_calls(draw, drawn_town(draw), 110, 0.9)
            told = self.compare(seed, calls, expected)
            accepted |= {(call[3], answer[1]) for call, answer in zip(calls, told)
                         if call[0] == 12 and answer[0] == 0}
        self.assertEqual(accepted, {(0, 0), (0, 1), (1, 0), (1, 1)})

    def test_each_proof_and_each_path_of_light(self):
        for seed in range(2000, 2100):
            draw = random.Random(seed)
            model = Model()
            calls = drawn_town(draw, 0.3)
            expected = [model.call(call) for call in calls]
            actors = [n for n in model.holder if 2 in model.bits[n]][:8]
            questions = [[11, v, x] for v in actors for x in model.holder]
            questions += [[number, v] for v in actors for number in (14, 15)]
            questions += [[13, h] for h in model.holder] + [[19]]
            self.compare(seed, calls + questions, expected + [model.call(call) for call in questions])
