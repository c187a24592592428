"""The call open_or_close."""

from asking import ACTOR, CONTAINER, FAR, HELD, HINGED, IN, LUMINOUS, ON, OPEN, PART, SUPPORTER, TRANSPARENT, WORN
from asking import WorldTest, add_object, add_place, ask, open_or_close, set_property, set_window, take


def hall(properties, light=1):
    """A place, an actor in it, and a container with these properties and a thing in it."""
    return [add_place(light), add_object(1, IN, ACTOR, 0, 9), add_object(1, IN, CONTAINER + properties, 0, 9),
            add_object(3, IN, 0, 1)]


class OpenOrCloseTest(WorldTest):
    def test_a_box_is_opened_and_closed(self):
        told = ask(*hall(HINGED), take(2, 4), open_or_close(2, 3, 1), take(2, 4))
        self.assertEqual(told[-3:], [[-4], [0], [0]])
        told = ask(*hall(HINGED + OPEN), open_or_close(2, 3, 0), take(2, 4), open_or_close(2, 3, 1), take(2, 4))
        self.assertEqual(told[-4:], [[0], [-4], [0], [0]])

    def test_it_is_so_already(self):
        self.refuses(-10, hall(HINGED + OPEN), open_or_close(2, 3, 1))
        self.refuses(-10, hall(HINGED), open_or_close(2, 3, 0))
        self.refuses(-10, hall(HINGED) + [open_or_close(2, 3, 1)], open_or_close(2, 3, 1))
        self.refuses(-10, hall(HINGED + OPEN) + [open_or_close(2, 3, 0)], open_or_close(2, 3, 0))

    def test_what_is_not_hinged(self):
        for properties, flag in ((0, 1), (OPEN, 0), (126 - HINGED - OPEN, 1), (126 - HINGED, 0)):
            with self.subTest(properties=properties):
                self.refuses(-9, hall(properties), open_or_close(2, 3, flag))

    def test_a_place_is_not_hinged(self):
        for flag in (0, 1):
            self.refuses(-9, hall(HINGED), open_or_close(2, 1, flag))

    def test_anything_hinged(self):
        for relation in (IN, ON, HELD, WORN, PART):
            world = [add_place(1), add_object(1, IN, ACTOR, 0, 9), add_object(1, IN, 23, 0, 9),
                     add_object(3, relation, HINGED)]
            with self.subTest(relation=relation):
                self.does([0], world, open_or_close(2, 4, 1))

    def test_what_is_not_reached(self):
        self.refuses(-4, hall(HINGED, 0), open_or_close(2, 3, 1))
        for properties, flag in ((CONTAINER, 1), (CONTAINER + TRANSPARENT, 1), (CONTAINER + LUMINOUS, 1)):
            world = [add_place(1), add_object(1, IN, ACTOR), add_object(1, IN, properties, 0, 9),
                     add_object(3, IN, HINGED)]
            with self.subTest(properties=properties):
                self.refuses(-4, world, open_or_close(2, 4, flag))
                self.does([0], world + [set_property(3, 4, 1)], open_or_close(2, 4, flag))

    def test_through_windows(self):
        world = [add_place(1), add_place(1), add_object(1, IN, ACTOR), add_object(2, IN, HINGED)]
        for kind, expected in ((0, [-4]), (1, [-4]), (2, [0]), (3, [-4])):
            with self.subTest(kind=kind):
                self.does(expected, world, set_window(1, 2, kind), open_or_close(3, 4, 1))
                self.does(expected, world, set_window(2, 1, kind), open_or_close(3, 4, 1))

    def test_what_v_carries_in_the_dark(self):
        for relation, expected in ((IN, [-4]), (ON, [0]), (HELD, [0]), (WORN, [0]), (PART, [0])):
            world = [add_place(0), add_object(1, IN, ACTOR + CONTAINER + SUPPORTER + OPEN, 0, 9),
                     add_object(2, relation, HINGED)]
            with self.subTest(relation=relation):
                self.does(expected, world, open_or_close(2, 3, 1))

    def test_itself(self):
        self.does([0], [add_place(0), add_object(1, IN, ACTOR + HINGED)], open_or_close(2, 2, 1))

    def test_from_within(self):
        world = [add_place(0), add_object(1, IN, CONTAINER + HINGED), add_object(2, IN, ACTOR), add_object(2, IN)]
        self.refuses(-4, world, open_or_close(3, 2, 1))
        self.does([0], world + [set_property(4, 6, 1)], open_or_close(3, 2, 1))

    def test_light_comes_and_goes_with_the_wall(self):
        world = [add_place(0), add_object(1, IN, ACTOR, 0, 9), add_object(1, IN),
                 add_object(1, IN, CONTAINER + HINGED + OPEN), add_object(4, IN, LUMINOUS)]
        told = ask(*world, open_or_close(2, 4, 0), take(2, 3), open_or_close(2, 4, 1))
        self.assertEqual(told[-3:], [[0], [-4], [-4]])

    def test_which_error_of_several(self):
        dark = hall(HINGED, 0)
        bare = hall(0)
        for world, call, expected in (
            (bare, open_or_close(2, 3, 0), -9),
            (hall(OPEN), open_or_close(2, 3, 1), -9),
            (hall(HINGED), open_or_close(2, 1, 0), -9),
            (dark, open_or_close(2, 3, 0), -4),
            (hall(0, 0), open_or_close(2, 3, 0), -4),
            (dark, open_or_close(2, 1, 0), -4),
            (dark, open_or_close(3, 3, 0), -3),
            (dark, open_or_close(1, 5, 0), -2),
            (dark, open_or_close(5, 3, 0), -2),
            (dark, open_or_close(1, 5, 2), -1),
            (dark, open_or_close(61, 5, 1), -1),
            (hall(HINGED), open_or_close(2, 3, -1), -1),
            (hall(HINGED), open_or_close(2, 3, FAR), -1),
        ):
            with self.subTest(call=call, expected=expected):
                self.refuses(expected, world, call)
