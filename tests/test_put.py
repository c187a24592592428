"""The call put."""

from asking import ACTOR, CONTAINER, FAR, HELD, HINGED, IN, LUMINOUS, MOST, ON, OPEN, PART, SUPPORTER, TRANSPARENT
from asking import WORN, WorldTest, add_object, add_place, ask, locate, move_object, put, set_property, set_window

BOTH = CONTAINER + SUPPORTER


def hall(*more, light=1, properties=ACTOR, bulk=5):
    """A place, an actor in it, and a thing in the actor's hands."""
    return [add_place(light), add_object(1, IN, properties, 50, 10), add_object(2, HELD, 0, bulk), *more]


class PutTest(WorldTest):
    def test_in_and_on(self):
        world = hall(add_object(1, IN, BOTH + OPEN, 0, 10))
        self.assertEqual(ask(*world, put(2, 3, 4, IN), locate(3))[-2:], [[0], [0, 4, 1, 4, 4, 1]])
        self.assertEqual(ask(*world, put(2, 3, 4, ON), locate(3))[-2:], [[0], [0, 4, 2, 1, 4, 1]])

    def test_on_a_closed_box(self):
        self.does([0], hall(add_object(1, IN, BOTH, 0, 10)), put(2, 3, 4, ON))

    def test_in_a_place(self):
        world = hall(add_place(0), set_window(1, 4, 2))
        self.assertEqual(ask(*world, put(2, 3, 1, IN), locate(3))[-2:], [[0], [0, 1, 1, 1, 1]])
        self.assertEqual(ask(*world, put(2, 3, 4, IN), locate(3))[-2:], [[0], [0, 4, 1, 4, 4]])

    def test_in_or_on_what_v_carries_in_the_dark(self):
        for relation in (HELD, WORN, PART):
            world = hall(add_object(2, relation, BOTH + OPEN, 1, 10), light=0)
            for where in (IN, ON):
                with self.subTest(relation=relation, where=where):
                    self.does([0], world, put(2, 3, 4, where))

    def test_in_or_on_v_itself(self):
        world = hall(properties=ACTOR + BOTH + OPEN, light=0, bulk=10)
        self.assertEqual(ask(*world, put(2, 3, 2, IN), locate(3))[-2:], [[0], [0, 2, 1, 2, 2, 1]])
        self.assertEqual(ask(*world, put(2, 3, 2, ON), locate(3))[-2:], [[0], [0, 2, 2, 1, 2, 1]])
        self.refuses(-9, hall(properties=ACTOR + BOTH), put(2, 3, 2, IN))

    def test_out_of_an_open_box_in_which_v_is(self):
        world = [add_place(1), add_object(1, IN, BOTH + OPEN, 0, 99), add_object(2, IN, ACTOR, 1, 10),
                 add_object(3, HELD, 0, 5)]
        for h, relation in ((1, IN), (2, IN), (2, ON)):
            with self.subTest(h=h, relation=relation):
                self.does([0], world, put(3, 4, h, relation))

    def test_from_within_a_closed_box(self):
        world = [add_place(1), add_object(1, IN, BOTH, 0, 99), add_object(2, IN, ACTOR + LUMINOUS, 1, 10),
                 add_object(3, HELD, 0, 5)]
        self.does([0], world, put(3, 4, 2, IN))
        self.does([0], world, put(3, 4, 2, ON))
        self.refuses(-4, world, put(3, 4, 1, IN))

    def test_h_must_be_reached(self):
        box = add_object(1, IN, BOTH + OPEN, 0, 10)
        self.refuses(-4, hall(box, light=0), put(2, 3, 4, IN))
        self.refuses(-4, hall(box, light=0), put(2, 3, 4, ON))
        self.refuses(-4, hall(light=0), put(2, 3, 1, IN))
        self.refuses(-4, hall(add_place(1)), put(2, 3, 4, IN))
        self.refuses(-4, hall(add_place(1), set_window(1, 4, 1)), put(2, 3, 4, IN))
        hidden = hall(add_object(1, IN, CONTAINER + TRANSPARENT, 0, 10), add_object(4, IN, SUPPORTER, 0, 10))
        self.refuses(-4, hidden, put(2, 3, 5, ON))
        self.does([0], hidden + [set_property(4, 4, 1)], put(2, 3, 5, ON))

    def test_x_need_not_be_reached_otherwise_but_held(self):
        self.does([0], hall(add_object(1, IN, BOTH, 0, 10)), put(2, 3, 4, ON))

    def test_not_in_or_on_itself_or_what_is_within_it(self):
        held = [add_place(1), add_object(1, IN, ACTOR, 50, 90), add_object(2, HELD, BOTH + OPEN, 5, 90)]
        for relation in (IN, ON):
            with self.subTest(relation=relation):
                self.refuses(-5, held, put(2, 3, 3, relation))
                for inner in (IN, ON, PART):
                    world = held + [add_object(3, inner, BOTH + OPEN, 5, 90), add_object(4, PART, BOTH + OPEN, 5, 90)]
                    self.refuses(-5, world, put(2, 3, 4, relation))
                    self.refuses(-5, world, put(2, 3, 5, relation))

    def test_exactly_the_capacity_and_one_above(self):
        for relation in (IN, ON):
            for other in (IN, ON):
                world = hall(add_object(1, IN, BOTH + OPEN, 0, 10))
                with self.subTest(relation=relation, other=other):
                    self.does([0], world + [add_object(4, other, 0, 5)], put(2, 3, 4, relation))
                    self.refuses(-6, world + [add_object(4, other, 0, 6)], put(2, 3, 4, relation))

    def test_a_place_has_no_limit(self):
        self.does([0], hall(add_object(1, IN, 0, MOST), add_object(1, IN, 0, MOST)), put(2, 3, 1, IN))

    def test_what_counts_toward_the_load_already_is_counted_once(self):
        world = hall(add_object(2, HELD, 0, 5), properties=ACTOR + BOTH + OPEN)
        for relation in (IN, ON):
            self.does([0], world, put(2, 3, 2, relation))

    def test_the_box_that_v_holds_is_put_with_the_bulk_of_the_box_alone(self):
        world = hall(add_object(1, IN, BOTH + OPEN, 0, 5), add_object(2, HELD, CONTAINER, 5, 90), add_object(5, IN, 0, 9))
        self.does([0], world, put(2, 5, 4, IN))

    def test_x_must_be_held_by_v(self):
        shelf = add_object(1, IN, BOTH + OPEN + ACTOR, 0, 99)
        for h, relation in ((1, IN), (1, PART), (2, WORN), (2, PART), (2, ON), (4, HELD), (4, WORN), (4, IN)):
            world = hall(shelf, add_object(h, relation), properties=ACTOR + BOTH)
            with self.subTest(h=h, relation=relation):
                self.refuses(-8, world, put(2, 5, 4, ON))
                self.refuses(-8, world, put(2, 5, 1, IN))
        # Held by v is not: on, in or a part of what v holds.
        for relation in (IN, ON, PART):
            self.refuses(-8, hall(shelf, add_object(2, HELD, BOTH + OPEN, 0, 9), add_object(5, relation)),
                         put(2, 6, 4, ON))

    def test_neither_v_nor_a_place_is_held_by_v(self):
        world = hall(add_object(1, IN, BOTH + OPEN, 0, 99), add_place(0))
        self.refuses(-8, world, put(2, 2, 4, IN))
        self.refuses(-8, world, put(2, 5, 4, IN))
        # What is put, is within the place; v is within itself.
        self.refuses(-5, world, put(2, 1, 4, IN))
        self.refuses(-5, world, put(2, 2, 3, ON))

    def test_a_holder_that_does_not_suit(self):
        self.refuses(-9, hall(add_object(1, IN, 127 - CONTAINER, 0, 9)), put(2, 3, 4, IN))
        self.refuses(-9, hall(add_object(1, IN, 127 - SUPPORTER, 0, 9)), put(2, 3, 4, ON))
        self.refuses(-9, hall(add_object(1, IN, OPEN, 0, 9)), put(2, 3, 4, IN))
        self.refuses(-9, hall(), put(2, 3, 1, ON))

    def test_the_hands_must_come_into_the_box(self):
        for properties in (CONTAINER, CONTAINER + TRANSPARENT, CONTAINER + HINGED, CONTAINER + LUMINOUS):
            with self.subTest(properties=properties):
                self.refuses(-9, hall(add_object(1, IN, properties, 0, 9)), put(2, 3, 4, IN))
                self.refuses(-9, hall(add_object(2, HELD, properties, 0, 9)), put(2, 3, 4, IN))
                self.does([0], hall(add_object(1, IN, properties, 0, 9), set_property(4, 4, 1)), put(2, 3, 4, IN))

    def test_which_error_of_several(self):
        world = hall(
            add_object(1, IN, CONTAINER, 0, 4),
            add_object(1, IN, 0, 0, 4),
            add_object(1, IN, 0, 1),
            add_object(1, IN, CONTAINER + OPEN, 5, 0),
            add_object(1, IN, CONTAINER, 0, 0),
        )
        dark = world + [set_property(1, 6, 0)]
        for state, call, expected in (
            (world, put(2, 3, 4, IN), -6),
            (world, put(2, 3, 5, IN), -6),
            (world, put(2, 3, 5, ON), -6),
            (world, put(2, 6, 4, IN), -8),
            (world, put(2, 6, 5, ON), -8),
            (world, put(2, 6, 8, IN), -6),
            (world, put(2, 7, 7, IN), -5),
            (world, put(2, 3, 3, IN), -5),
            (world, put(2, 6, 6, ON), -5),
            (dark, put(2, 3, 4, IN), -4),
            (dark, put(2, 6, 6, IN), -4),
            (dark, put(2, 6, 8, IN), -4),
            (dark, put(2, 3, 3, IN), -5),
            (dark, put(1, 3, 4, IN), -3),
            (dark, put(3, 3, 3, IN), -3),
            (dark, put(1, 9, 4, IN), -2),
            (dark, put(1, 3, 9, IN), -2),
            (dark, put(1, 3, 9, 3), -1),
            (world, put(2, 3, 1, 3), -1),
            (world, put(2, 3, 1, 4), -1),
            (world, put(2, 3, 1, PART), -1),
            (world, put(2, 3, 1, 0), -1),
            (world, put(2, 3, 1, FAR), -1),
        ):
            with self.subTest(call=call, expected=expected):
                self.refuses(expected, state, call)

    def test_too_much_for_h_even_if_x_is_not_held(self):
        box = add_object(1, IN, BOTH + OPEN, 0, 4)
        self.refuses(-6, hall(box, add_object(1, IN, 0, 5)), put(2, 5, 4, IN))
        self.refuses(-8, hall(box, add_object(1, IN, 0, 4)), put(2, 5, 4, IN))
        # It counts already, so it is not too much.
        self.refuses(-8, hall(box, add_object(4, IN, 0, 4)), put(2, 5, 4, ON))

    def test_what_is_put_is_held_no_more(self):
        world = hall(add_object(1, IN, BOTH + OPEN, 0, 10), put(2, 3, 4, IN))
        self.refuses(-8, world, put(2, 3, 4, ON))
        self.does([0, 5], world, add_object(2, HELD, 0, 10))

    def test_v_moved_out_of_reach(self):
        world = hall(add_place(1), add_object(1, IN, SUPPORTER, 0, 9), move_object(2, 4, IN))
        self.refuses(-4, world, put(2, 3, 5, ON))
        self.does([0], world, put(2, 3, 4, IN))
