"""The call is_lit."""

from asking import ACTOR, CONTAINER, FAR, HELD, HINGED, IN, LUMINOUS, ON, OPEN, PART, SUPPORTER, TRANSPARENT, WORN
from asking import WorldTest, add_object, add_place, ask, is_lit, move_object, open_or_close, set_property, set_window


class IsLitTest(WorldTest):
    def test_a_place(self):
        self.does([0, 1, 1], [add_place(1)], is_lit(1))
        self.does([0, 0], [add_place(0)], is_lit(1))

    def test_a_luminous_object_lights_the_space_in_which_it_lies(self):
        for relation, place, box in ((IN, [0, 0], [0, 1, 2]), (ON, [0, 1, 1], [0, 0]), (HELD, [0, 1, 1], [0, 0]),
                                     (WORN, [0, 1, 1], [0, 0]), (PART, [0, 1, 1], [0, 0])):
            world = [add_place(0), add_object(1, IN, CONTAINER + SUPPORTER + ACTOR), add_object(2, relation, LUMINOUS)]
            with self.subTest(relation=relation):
                self.does(place, world, is_lit(1))
                self.does(box, world, is_lit(2))

    def test_light_passes_open_and_transparent_walls_in_both_directions(self):
        for properties, into, out in ((0, [0, 0], [0, 0]), (OPEN, [0, 1, 1, 2], [0, 1, 2, 1]),
                                      (TRANSPARENT, [0, 1, 1, 2], [0, 1, 2, 1]),
                                      (OPEN + TRANSPARENT, [0, 1, 1, 2], [0, 1, 2, 1])):
            with self.subTest(properties=properties):
                box = add_object(1, IN, CONTAINER + properties)
                self.does(into, [add_place(1), box], is_lit(2))
                self.does(out, [add_place(0), box, add_object(2, IN, LUMINOUS)], is_lit(1))

    def test_a_luminous_closed_box_is_dark_inside(self):
        world = [add_place(0), add_object(1, IN, CONTAINER + LUMINOUS)]
        self.does([0, 0], world, is_lit(2))
        self.does([0, 1, 1], world, is_lit(1))
        self.does([0, 1, 1, 2], world + [set_property(2, 4, 1)], is_lit(2))

    def test_light_passes_each_kind_of_window_in_both_directions(self):
        for kind in (1, 2, 3):
            for a, b in ((1, 2), (2, 1)):
                with self.subTest(kind=kind, a=a):
                    world = [add_place(1), add_place(0), set_window(a, b, kind)]
                    self.does([0, 1, 1, 2], world, is_lit(2))
                    self.does([0, 0], world + [set_window(b, a, 0)], is_lit(2))

    def test_the_path_is_canonical(self):
        world = [add_place(0)] * 6 + [set_window(a, b, 3) for a, b in ((5, 6), (1, 2), (3, 1), (5, 2), (3, 4), (4, 6))]
        self.does([0, 1, 1, 3, 4, 6], world + [set_property(1, 6, 1)], is_lit(6))
        self.does([0, 1, 6, 5, 2, 1], world + [set_property(6, 6, 1)], is_lit(1))

    def test_the_sources_are_in_ascending_order(self):
        world = [add_place(0)] * 4 + [add_object(3, IN, LUMINOUS), add_object(2, IN, LUMINOUS), set_window(3, 1, 1),
                                      set_window(1, 2, 1), set_window(4, 3, 1)]
        self.does([0, 1, 2, 1], world, is_lit(1))
        self.does([0, 1, 3, 4], world, is_lit(4))
        self.does([0, 1, 2], world, is_lit(2))
        self.does([0, 1, 3], world, is_lit(3))

    def test_the_light_may_be_anything(self):
        world = [add_place(0), add_object(1, IN, ACTOR), add_object(2, HELD), add_object(1, IN, CONTAINER)]
        self.does([0, 0], world, is_lit(1))
        for n in (1, 2, 3, 4):
            self.does([0, 1, 1], world + [set_property(n, 6, 1)], is_lit(1))
            self.does([0, 0], world + [set_property(n, 6, 1)], is_lit(4))
            self.does([0, 0], world + [set_property(n, 6, 1), set_property(n, 6, 0)], is_lit(1))

    def test_the_world_at_the_time_counts(self):
        world = [add_place(1), add_object(1, IN, ACTOR), add_object(1, IN, CONTAINER + HINGED), add_place(0)]
        told = ask(*world, is_lit(3), open_or_close(2, 3, 1), is_lit(3), move_object(3, 4, IN), is_lit(3), is_lit(4))
        self.assertEqual([told[4]] + told[6:], [[0, 0], [0, 1, 1, 3], [0], [0, 0], [0, 0]])

    def test_neither_a_place_nor_a_container(self):
        for properties in (0, SUPPORTER, ACTOR, LUMINOUS, OPEN, TRANSPARENT, 127 - CONTAINER):
            with self.subTest(properties=properties):
                self.refuses(-9, [add_place(1), add_object(1, IN, properties)], is_lit(2))
                self.refuses(-9, [add_place(0), add_object(1, PART, properties)], is_lit(2))
        for properties in (CONTAINER, 127):
            self.assertEqual(ask(add_place(1), add_object(1, PART, properties), is_lit(2))[-1][0], 0)

    def test_wrong_arguments(self):
        world = [add_place(1), add_object(1, IN)]
        for h, expected in ((0, -1), (61, -1), (-1, -1), (FAR, -1), (-FAR, -1), (3, -2), (60, -2), (2, -9)):
            with self.subTest(h=h):
                self.refuses(expected, world, is_lit(h))
