"""What the tests share: the calls by name, the answers one by one, and a test case with a look at the world."""

import unittest

from sightnest.desk import answers

CONTAINER = 1
SUPPORTER = 2
ACTOR = 4
HINGED = 8
OPEN = 16
TRANSPARENT = 32
LUMINOUS = 64

IN = 1
ON = 2
HELD = 3
WORN = 4
PART = 5

MOST = 1000000
FAR = 10 ** 18


def add_place(flag):
    return [0, flag]


def add_object(h, relation, properties=0, bulk=0, capacity=0):
    return [1, h, relation, properties, bulk, capacity]


def move_object(n, h, relation):
    return [2, n, h, relation]


def set_property(n, number, flag):
    return [3, n, number, flag]


def set_window(a, b, kind):
    return [4, a, b, kind]


def take(v, x):
    return [5, v, x]


def put(v, x, h, relation):
    return [6, v, x, h, relation]


def drop(v, x):
    return [7, v, x]


def open_or_close(v, n, flag):
    return [8, v, n, flag]


def locate(n):
    return [9, n]


def list_contents(h):
    return [10, h]


def can_see(v, x):
    return [11, v, x]


def check_proof(v, x, answer, p, q):
    return [12, v, x, answer, len(p), *p, len(q), *q]


def is_lit(h):
    return [13, h]


def list_visible(v):
    return [14, v]


def list_reachable(v):
    return [15, v]


def get_load(h):
    return [16, h]


def compare_spaces(a, b):
    return [17, a, b]


def get_properties(n):
    return [18, n]


def list_windows():
    return [19]


def flat(calls):
    """The calls one behind another, as they are handed in."""
    return [number for call in calls for number in call]


def split(told):
    """The answers one by one."""
    found = []
    at = 0
    while at < len(told):
        end = at + 1 + told[at]
        found.append(told[at + 1:end])
        at = end
    return found


def ask(*calls):
    """The answer of each call, in order, on a new world."""
    return split(answers(flat(calls)))


def ask_on(world, questions):
    """The answers of the questions on this world, which they don't change: asked in lists of at most 400 calls."""
    room = 400 - len(world)
    parts = [questions[at:at + room] for at in range(0, len(questions), room)]
    return [answer for part in parts for answer in ask(*world, *part)[len(world):]]


def behind_length(rows):
    """The rows one behind another, each behind its length."""
    return [number for row in rows for number in [len(row)] + list(row)]


def seen(p, q):
    """The answer of can_see with this positive proof."""
    return [0, 1] + behind_length([p, q])


def unseen(p, q):
    """The answer of can_see with this negative proof."""
    return [0, 0] + behind_length([p, q])


def state(count):
    """Calls whose answers tell all that a world of so many objects keeps."""
    numbers = range(1, count + 1)
    calls = [ask_for(n) for n in numbers for ask_for in (locate, get_properties, get_load, list_contents)]
    return calls + [list_windows()]


def look(count):
    """Calls whose answers tell what a world of so many objects keeps, and how it goes on with it."""
    numbers = range(1, count + 1)
    calls = state(count)
    if count <= 9:
        calls += [ask_for(v) for v in numbers for ask_for in (list_visible, list_reachable)]
        calls += [open_or_close(v, n, 0) for v in numbers for n in numbers]
        calls += [take(v, x) for v in numbers for x in numbers]
        calls += [locate(n) for n in numbers]
        calls += [add_object(h, relation, 0, 1) for h in numbers for relation in range(1, 6)]
    calls += [add_place(0), add_place(0)]
    return calls


class WorldTest(unittest.TestCase):
    def does(self, expected, world, *calls):
        """The world can be made, and the last of the calls on it answers as expected."""
        told = ask(*world, *calls)
        self.assertEqual([answer[0] for answer in told[:len(world)]], [0] * len(world))
        self.assertEqual(told[-1], expected)

    def refuses(self, code, world, call):
        """The call on this world answers the code, and the world is as before."""
        self.does([code], world, call)
        count = len([made for made in world if made[0] in (0, 1)])
        before = ask(*world, *look(count))[len(world):]
        after = ask(*world, call, *look(count))[len(world) + 1:]
        self.assertEqual(after, before)
