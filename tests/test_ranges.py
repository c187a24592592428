"""Arguments at the edges of their ranges, beyond them and far beyond, and the errors common to all calls."""

from asking import ACTOR, FAR, HELD, MOST, WorldTest, add_object, add_place, ask, locate

OBJECT = (1, 60)
FLAG = (0, 1)

# Of each call: arguments that succeed in the world below, and their ranges.
CALLS = {
    0: ([1], [FLAG]),
    1: ([1, 1, 0, 0, 0], [OBJECT, (1, 5), (0, 127), (0, MOST), (0, MOST)]),
    2: ([4, 1, 1], [OBJECT, OBJECT, (1, 5)]),
    3: ([4, 3, 0], [OBJECT, (3, 6), FLAG]),
    4: ([1, 2, 1], [OBJECT, OBJECT, (0, 3)]),
    5: ([3, 4], [OBJECT, OBJECT]),
    6: ([3, 4, 1, 1], [OBJECT, OBJECT, OBJECT, (1, 2)]),
    7: ([3, 4], [OBJECT, OBJECT]),
    8: ([3, 4, 1], [OBJECT, OBJECT, FLAG]),
    9: ([4], [OBJECT]),
    10: ([3], [OBJECT]),
    11: ([3, 4], [OBJECT, OBJECT]),
    # Behind its first three arguments two empty lists.
    12: ([3, 4, 0, 0, 0], [OBJECT, OBJECT, FLAG]),
    13: ([1], [OBJECT]),
    14: ([3], [OBJECT]),
    15: ([3], [OBJECT]),
    16: ([3], [OBJECT]),
    17: ([4, 2], [OBJECT, OBJECT]),
    18: ([4], [OBJECT]),
    19: ([], []),
}

# Two lit places, an actor, and a hinged thing in its hands.
WORLD = [
    add_place(1),
    add_place(1),
    add_object(1, 1, ACTOR, 0, MOST),
    add_object(3, HELD, 8, 1, 0),
]

VS = (5, 6, 7, 8, 11, 12, 14, 15)

# The calls that answer something before there is any object.
FIRST = (0, 19)


def with_argument(number, place, value):
    arguments = list(CALLS[number][0])
    arguments[place] = value
    return [number] + arguments


class RangesTest(WorldTest):
    def test_the_ordinary_arguments_succeed(self):
        for number in CALLS:
            with self.subTest(call=number):
                self.assertEqual(ask(*WORLD, [number] + CALLS[number][0])[-1][0], 0)

    def test_outside_its_range_each_argument_is_refused(self):
        for number, (_, ranges) in CALLS.items():
            for place, (lowest, highest) in enumerate(ranges):
                for value in (lowest - 1, highest + 1, -1, -FAR, FAR, 1 - FAR, FAR - 1, lowest - 60, highest + 60):
                    if lowest <= value <= highest:
                        continue
                    with self.subTest(call=number, place=place, value=value):
                        self.refuses(-1, WORLD, with_argument(number, place, value))

    def test_at_the_edges_of_its_range_no_argument_is_out_of_range(self):
        for number, (_, ranges) in CALLS.items():
            for place, edges in enumerate(ranges):
                for value in edges:
                    with self.subTest(call=number, place=place, value=value):
                        answer = ask(*WORLD, with_argument(number, place, value))[-1]
                        self.assertNotEqual(answer, [-1])

    def test_each_edge_that_is_not_an_object_succeeds_where_it_suits(self):
        for call, expected in (
            ([0, 0], [0, 5]),
            ([0, 1], [0, 5]),
            ([1, 1, 1, 0, 0, 0], [0, 5]),
            ([1, 1, 5, 127, MOST, MOST], [0, 5]),
            ([2, 4, 1, 1], [0]),
            ([2, 4, 1, 5], [0]),
            ([3, 4, 3, 1], [0]),
            ([3, 4, 6, 0], [0]),
            ([4, 1, 2, 0], [0]),
            ([4, 2, 1, 3], [0]),
        ):
            with self.subTest(call=call):
                self.does(expected, WORLD, call)

    def test_an_object_that_does_not_exist_is_refused(self):
        for number, (_, ranges) in CALLS.items():
            for place, edges in enumerate(ranges):
                if edges != OBJECT:
                    continue
                for value in (5, 59, 60):
                    with self.subTest(call=number, place=place, value=value):
                        self.refuses(-2, WORLD, with_argument(number, place, value))

    def test_nothing_exists_at_the_beginning(self):
        for number in CALLS:
            if number not in FIRST:
                with self.subTest(call=number):
                    self.assertEqual(ask([number] + CALLS[number][0]), [[-2]])

    def test_an_object_exists_from_the_call_that_adds_it(self):
        self.assertEqual(ask(locate(1), add_place(0), locate(1), locate(2)), [[-2], [0, 1], [0, 0, 0, 1], [-2]])

    def test_v_must_be_an_actor(self):
        for number in VS:
            for value in (1, 2, 4):
                with self.subTest(call=number, value=value):
                    self.refuses(-3, WORLD, with_argument(number, 0, value))

    def test_any_other_property_makes_no_actor(self):
        world = WORLD + [add_object(1, 1, 127 - ACTOR, 0, MOST)]
        for number in VS:
            with self.subTest(call=number):
                self.refuses(-3, world, with_argument(number, 0, 5))

    def test_the_range_goes_before_the_existence_and_this_before_the_actor(self):
        for call, expected in (
            ([1, 7, 6, 0, 0, 0], -1),
            ([1, 7, 1, 128, 0, 0], -1),
            ([2, 7, 61, 1], -1),
            ([2, 4, 7, 0], -1),
            ([3, 7, 2, 0], -1),
            ([4, 7, 1, 4], -1),
            ([4, 7, 7, 1], -2),
            ([5, 7, 0], -1),
            ([5, 1, 61], -1),
            ([5, 1, 7], -2),
            ([6, 1, 4, 1, 3], -1),
            ([6, 1, 7, 1, 1], -2),
            ([6, 1, 4, 7, 2], -2),
            ([7, 1, -1], -1),
            ([7, 1, 60], -2),
            ([8, 1, 4, 2], -1),
            ([8, 1, 5, 1], -2),
            ([11, 1, 0], -1),
            ([11, 1, 61], -1),
            ([11, 1, 5], -2),
            ([11, 5, 4], -2),
            ([11, 1, 4], -3),
            ([12, 1, 5, 2, 0, 0], -1),
            ([12, 1, 5, 1, 1, 61, 0], -1),
            ([12, 1, 5, 1, 0, 1, 0], -1),
            ([12, 1, 5, 0, 0, 0], -2),
            ([12, 1, 4, 0, 0, 0], -3),
            ([13, 61], -1),
            ([13, 5], -2),
            ([13, 4], -9),
            ([17, 5, 61], -1),
            ([17, 0, 5], -1),
            ([17, 5, 4], -2),
            ([17, 4, 5], -2),
        ):
            with self.subTest(call=call):
                self.refuses(expected, WORLD, call)
