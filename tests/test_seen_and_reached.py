"""The calls list_visible and list_reachable."""

from asking import ACTOR, CONTAINER, FAR, HELD, HINGED, IN, LUMINOUS, ON, OPEN, PART, SUPPORTER, TRANSPARENT, WORN
from asking import WorldTest, add_object, add_place, ask, drop, list_reachable, list_visible, move_object
from asking import open_or_close, set_property, set_window

EVERYTHING = CONTAINER + SUPPORTER + ACTOR


def hall(light=1, properties=ACTOR):
    """A place, and an actor in it."""
    return [add_place(light), add_object(1, IN, properties, 0, 100)]


class ListTest(WorldTest):
    def lists(self, visible, reachable, world, v):
        with self.subTest(v=v):
            self.does([0] + visible, world, list_visible(v))
            self.does([0] + reachable, world, list_reachable(v))


class BothTest(ListTest):
    def test_all_that_lies_beside_the_actor(self):
        self.lists([1, 2], [1, 2], hall(), 2)
        self.lists([1, 2, 3, 4], [1, 2, 3, 4], hall() + [add_object(1, IN), add_object(1, PART)], 2)

    def test_in_the_dark_what_it_carries(self):
        self.lists([], [2], hall(0), 2)
        world = hall(0, EVERYTHING) + [add_object(1, IN, EVERYTHING)]
        world += [add_object(2, relation) for relation in (ON, HELD, WORN, PART, IN)] + [add_object(3, ON)]
        self.lists([], [2, 4, 5, 6, 7], world, 2)
        self.lists([], [3, 9], world + [move_object(3, 1, PART)], 3)

    def test_what_is_carried_by_what_it_carries(self):
        for first in (ON, HELD, WORN, PART):
            world = hall(0, EVERYTHING) + [add_object(2, first, EVERYTHING + OPEN)]
            world += [add_object(3, relation) for relation in (ON, HELD, WORN, PART, IN)] + [add_object(7, PART)]
            with self.subTest(first=first):
                self.lists([], [2, 3, 4, 5, 6, 7, 9], world, 2)
        world = hall(0, EVERYTHING + OPEN) + [add_object(2, IN, EVERYTHING + OPEN), add_object(3, HELD),
                                              add_object(3, PART)]
        self.lists([], [2], world, 2)
        self.lists([], [3, 4, 5], world, 3)

    def test_not_what_carries_the_actor(self):
        for relation in (ON, HELD, WORN, PART):
            world = [add_place(0), add_object(1, IN, EVERYTHING), add_object(2, relation, ACTOR), add_object(2, PART)]
            with self.subTest(relation=relation):
                self.lists([], [3], world, 3)
                self.lists([], [2, 3, 4], world, 2)

    def test_what_is_carried_is_reached_in_a_dark_box(self):
        world = [add_place(1), add_object(1, IN, CONTAINER), add_object(2, IN, ACTOR), add_object(3, HELD),
                 add_object(2, IN)]
        self.lists([], [3, 4], world, 3)
        self.lists([2, 3, 4, 5], [2, 3, 4, 5], world + [set_property(4, 6, 1)], 3)

    def test_walls(self):
        for properties, visible, reachable in ((0, [1, 2, 3], [1, 2, 3]), (OPEN, [1, 2, 3, 4], [1, 2, 3, 4]),
                                               (TRANSPARENT, [1, 2, 3, 4], [1, 2, 3]),
                                               (OPEN + TRANSPARENT, [1, 2, 3, 4], [1, 2, 3, 4])):
            world = hall() + [add_object(1, IN, CONTAINER + properties), add_object(3, IN)]
            with self.subTest(properties=properties):
                self.lists(visible, reachable, world, 2)

    def test_walls_from_within(self):
        for properties, visible, reachable in ((0, [2, 3], [2, 3]), (OPEN, [1, 2, 3, 4], [1, 2, 3, 4]),
                                               (TRANSPARENT, [1, 2, 3, 4], [2, 3]),
                                               (OPEN + TRANSPARENT, [1, 2, 3, 4], [1, 2, 3, 4])):
            world = [add_place(1), add_object(1, IN, CONTAINER + properties), add_object(2, IN, ACTOR + LUMINOUS),
                     add_object(1, IN)]
            with self.subTest(properties=properties):
                self.lists(visible, reachable, world, 3)

    def test_a_luminous_closed_box_is_dark_inside(self):
        world = hall(0) + [add_object(1, IN, CONTAINER + LUMINOUS), add_object(3, IN, ACTOR), add_object(3, IN)]
        self.lists([1, 2, 3], [1, 2, 3], world, 2)
        self.lists([], [4], world, 4)

    def test_a_box_is_met_from_within(self):
        world = [add_place(0), add_object(1, IN, SUPPORTER), add_object(2, ON, CONTAINER), add_object(3, IN, CONTAINER),
                 add_object(4, IN, ACTOR + LUMINOUS), add_object(3, IN)]
        self.lists([4, 5], [4, 5], world, 5)
        self.lists([3, 4, 5, 6], [4, 5], world + [set_property(4, 5, 1)], 5)
        self.lists([3, 4, 5, 6], [3, 4, 5, 6], world + [set_property(4, 4, 1)], 5)

    def test_within_sight_and_in_the_dark(self):
        world = hall(0) + [add_object(1, IN, CONTAINER + OPEN), add_object(3, IN)]
        self.lists([], [2], world, 2)
        self.lists([1, 2, 3, 4], [1, 2, 3, 4], world + [set_property(4, 6, 1)], 2)
        self.lists([1, 2, 3, 4], [1, 2, 3, 4], world + [set_property(3, 6, 1)], 2)

    def test_windows(self):
        world = [add_place(1), add_place(1), add_object(1, IN, ACTOR), add_object(2, IN, ACTOR)]
        everything = [1, 2, 3, 4]
        for kind, forward, back, hands in ((0, [1, 3], [2, 4], False), (1, everything, everything, False),
                                           (2, everything, everything, True), (3, everything, [2, 4], False)):
            with self.subTest(kind=kind):
                there = world + [set_window(1, 2, kind)]
                self.lists(forward, everything if hands else [1, 3], there, 3)
                self.lists(back, everything if hands else [2, 4], there, 4)

    def test_hands_go_through_several_openings(self):
        world = [add_place(0), add_place(0), add_place(1), add_object(1, IN, ACTOR),
                 add_object(3, IN, CONTAINER + OPEN), add_object(5, IN), set_window(2, 1, 2), set_window(2, 3, 2)]
        self.lists([1, 2, 3, 4, 5, 6], [1, 2, 3, 4, 5, 6], world, 4)
        self.lists([1, 2, 3, 4, 5, 6], [1, 2, 4], world + [set_window(3, 2, 1)], 4)
        self.lists([1, 2, 3, 4, 5, 6], [1, 2, 3, 4, 5], world + [set_property(5, 4, 0), set_property(5, 5, 1)], 4)

    def test_the_lamp_shines_from_afar_through_a_one_way_window(self):
        world = [add_place(0), add_place(1), add_object(1, IN, ACTOR), set_window(2, 1, 3)]
        self.lists([1, 3], [1, 3], world, 3)

    def test_in_ascending_order(self):
        world = [add_place(1), add_object(1, IN, CONTAINER + OPEN), add_object(2, IN), add_object(2, IN),
                 add_object(1, IN), add_object(1, IN, CONTAINER + OPEN), add_object(6, IN, ACTOR), add_object(7, HELD)]
        self.lists([1, 2, 3, 4, 5, 6, 7, 8], [1, 2, 3, 4, 5, 6, 7, 8], world, 7)
        self.lists([2, 3, 4, 6, 7, 8], [2, 3, 4, 6, 7, 8],
                   world + [add_object(2, IN, CONTAINER), move_object(6, 2, IN), set_property(2, 4, 0),
                            set_property(7, 6, 1), move_object(9, 1, IN)], 7)

    def test_sixty_objects(self):
        world = hall() + [add_object(1, IN)] * 58
        everything = list(range(1, 61))
        self.lists(everything, everything, world, 2)
        self.lists([], [2], world + [set_property(1, 6, 0)], 2)

    def test_the_world_at_the_time_counts(self):
        world = hall(0) + [add_object(1, IN, CONTAINER + HINGED + LUMINOUS), add_object(2, HELD), add_object(3, IN)]
        told = ask(*world, list_visible(2), open_or_close(2, 3, 1), list_visible(2), drop(2, 4), set_property(3, 6, 0),
                   list_visible(2), list_reachable(2))
        self.assertEqual(told[-7:], [[0, 1, 2, 3, 4], [0], [0, 1, 2, 3, 4, 5], [0, 1, 1], [0], [0], [0, 2]])

    def test_wrong_arguments(self):
        world = hall() + [add_object(1, IN, 127 - ACTOR)]
        for ask_for in (list_visible, list_reachable):
            for v, expected in ((0, -1), (61, -1), (-1, -1), (FAR, -1), (-FAR, -1), (4, -2), (60, -2),
                                (1, -3), (3, -3)):
                with self.subTest(call=ask_for.__name__, v=v):
                    self.refuses(expected, world, ask_for(v))
