"""Lists of 400 calls over 60 objects end within a few seconds."""

import random
import time
import unittest

from asking import ACTOR, CONTAINER, IN, LUMINOUS, OPEN, add_object, add_place, ask, can_see, check_proof
from asking import compare_spaces, drop, get_load, is_lit, list_contents, list_reachable, list_visible, locate
from asking import move_object, open_or_close, put, set_window, take

MOST_SECONDS = 5
EVERYTHING = 127


def nest(relation):
    """Sixty objects, each in this relation to the one before."""
    return [add_place(1), add_object(1, IN, EVERYTHING, 0, 9)] + [add_object(n, relation, EVERYTHING, 0, 9)
                                                                  for n in range(2, 60)]


def town():
    """Fifty-eight places, two actors, and as many windows as leave room for two hundred calls."""
    draw = random.Random(1)
    windows = [set_window(*draw.sample(range(1, 59), 2), draw.randint(1, 3)) for _ in range(140)]
    return [add_place(0)] * 57 + [add_place(1)] + [add_object(1, IN, ACTOR), add_object(2, IN, ACTOR)] + windows


def boxes():
    """A hall with fifty open boxes in it, an actor and things."""
    return [add_place(0)] + [add_object(1, IN, CONTAINER + OPEN)] * 50 + [add_object(51, IN, ACTOR + LUMINOUS)] + [
        add_object(n, IN) for n in range(2, 10)]


class SpeedTest(unittest.TestCase):
    def ends_soon(self, world, *questions):
        calls = world + list(questions) * 400
        calls = calls[:400]
        started = time.process_time()
        told = ask(*calls)
        self.assertLess(time.process_time() - started, MOST_SECONDS)
        self.assertEqual(len(told), 400)

    def questions(self, v, x):
        everything = list(range(1, 61))
        return [
            [list_visible(v)],
            [list_reachable(v)],
            [can_see(v, x), can_see(v, v)],
            [is_lit(1), is_lit(2)],
            [check_proof(v, x, 0, everything, everything)],
            [check_proof(v, x, 1, everything[::-1], everything[::-1])],
            [get_load(1), list_contents(1), locate(60), compare_spaces(60, 1)],
            [take(v, x), put(v, x, 1, 1), drop(v, x), open_or_close(v, x, 1), move_object(60, 1, 5)],
        ]

    def test_a_deep_nest(self):
        for relation in (1, 2):
            for row in self.questions(60, 30):
                with self.subTest(relation=relation, row=row[0]):
                    self.ends_soon(nest(relation), *row)

    def test_many_places_and_windows(self):
        for row in self.questions(59, 60):
            with self.subTest(row=row[0]):
                self.ends_soon(town(), *row)

    def test_many_boxes(self):
        for row in self.questions(52, 60):
            with self.subTest(row=row[0]):
                self.ends_soon(boxes(), *row)
