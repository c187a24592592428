"""The call take, and what an actor carries and reaches."""

from asking import ACTOR, CONTAINER, FAR, HELD, IN, LUMINOUS, MOST, ON, OPEN, PART, SUPPORTER, TRANSPARENT, WORN
from asking import WorldTest, add_object, add_place, ask, drop, locate, move_object, set_property, set_window, take

EVERYTHING = CONTAINER + SUPPORTER + ACTOR


def hall(light=1, properties=ACTOR, capacity=10):
    """A place, and an actor in it."""
    return [add_place(light), add_object(1, IN, properties, 50, capacity)]


class TakeTest(WorldTest):
    def test_what_is_taken_is_held(self):
        for relation in (IN, ON):
            world = hall() + [add_object(1, IN, CONTAINER + OPEN + SUPPORTER, 0, 9), add_object(3, relation, 0, 5)]
            with self.subTest(relation=relation):
                told = ask(*world, take(2, 4), locate(4))
                self.assertEqual(told[-2:], [[0], [0, 2, 3, 1, 2, 1]])

    def test_from_the_floor(self):
        told = ask(*hall(), add_object(1, IN, 0, 5), take(2, 3), locate(3))
        self.assertEqual(told[-2:], [[0], [0, 2, 3, 1, 2, 1]])

    def test_what_is_held_already_stays_held(self):
        world = hall() + [add_object(2, HELD, 0, 10)]
        self.assertEqual(ask(*world, take(2, 3), locate(3))[-2:], [[0], [0, 2, 3, 1, 2, 1]])

    def test_what_v_wears_is_held_afterwards(self):
        world = hall() + [add_object(2, WORN, 0, 10)]
        self.assertEqual(ask(*world, take(2, 3), locate(3))[-2:], [[0], [0, 2, 3, 1, 2, 1]])

    def test_what_is_on_or_in_v_is_held_afterwards(self):
        for relation in (IN, ON):
            world = hall(properties=EVERYTHING + OPEN) + [add_object(2, relation, 0, 10)]
            with self.subTest(relation=relation):
                self.assertEqual(ask(*world, take(2, 3), locate(3))[-2:], [[0], [0, 2, 3, 1, 2, 1]])

    def test_what_is_in_a_box_that_somebody_else_holds_or_wears(self):
        for relation in (HELD, WORN, PART):
            world = hall() + [add_object(1, IN, ACTOR, 0, 9), add_object(3, relation, CONTAINER + OPEN, 0, 9),
                              add_object(4, IN, 0, 3)]
            with self.subTest(relation=relation):
                self.does([0], world, take(2, 5))

    def test_an_actor_is_taken_with_all_that_it_holds(self):
        world = hall() + [add_object(1, IN, ACTOR, 4, 90), add_object(3, HELD, 0, 90)]
        self.does([0, 3, 3, 1, 3, 2, 1], world, take(2, 3), locate(4))

    def test_not_what_is_not_reached(self):
        world = hall() + [add_place(1), add_object(3, IN), add_object(1, IN, CONTAINER, 0, 9), add_object(5, IN),
                          add_object(1, IN, CONTAINER + TRANSPARENT, 0, 9), add_object(7, IN)]
        for x in (3, 4, 6, 8):
            with self.subTest(x=x):
                self.refuses(-4, world, take(2, x))
        self.refuses(-4, world + [set_window(1, 3, 1)], take(2, 4))
        self.does([0], world + [set_window(1, 3, 2)], take(2, 4))

    def test_not_in_the_dark(self):
        self.refuses(-4, hall(0) + [add_object(1, IN)], take(2, 3))

    def test_no_place(self):
        self.refuses(-5, hall(), take(2, 1))
        self.refuses(-5, hall() + [add_place(0), set_window(1, 3, 2)], take(2, 3))

    def test_not_itself(self):
        self.refuses(-5, hall(), take(2, 2))
        self.refuses(-5, hall(0), take(2, 2))

    def test_not_what_v_is_within(self):
        for relation in (IN, ON, HELD, WORN, PART):
            world = [add_place(1), add_object(1, IN, EVERYTHING + OPEN, 1, 99), add_object(2, relation, ACTOR, 1, 99)]
            with self.subTest(relation=relation):
                self.refuses(-5, world, take(3, 2))
        world = [add_place(1), add_object(1, IN, SUPPORTER, 1, 99), add_object(2, ON, SUPPORTER, 1, 99),
                 add_object(3, ON, ACTOR, 1, 99)]
        self.refuses(-5, world, take(4, 2))
        self.refuses(-5, world, take(4, 3))

    def test_exactly_the_capacity_and_one_above(self):
        self.does([0], hall() + [add_object(1, IN, 0, 10)], take(2, 3))
        self.refuses(-6, hall() + [add_object(1, IN, 0, 11)], take(2, 3))
        for relation in (IN, ON, HELD):
            world = hall(properties=EVERYTHING) + [add_object(2, relation, 0, 6)]
            with self.subTest(relation=relation):
                self.does([0], world + [add_object(1, IN, 0, 4)], take(2, 4))
                self.refuses(-6, world + [add_object(1, IN, 0, 5)], take(2, 4))
        for relation in (WORN, PART):
            world = hall() + [add_object(2, relation, 0, MOST)]
            self.does([0], world + [add_object(1, IN, 0, 10)], take(2, 4))

    def test_what_is_worn_counts_when_it_is_taken(self):
        world = hall() + [add_object(2, WORN, 0, 5)]
        self.does([0], world + [add_object(2, HELD, 0, 5)], take(2, 3))
        self.refuses(-6, world + [add_object(2, HELD, 0, 6)], take(2, 3))

    def test_what_is_in_a_held_box_counts_when_it_is_taken(self):
        world = hall() + [add_object(2, HELD, CONTAINER + OPEN, 5, 90)]
        self.does([0], world + [add_object(3, IN, 0, 5)], take(2, 4))
        self.refuses(-6, world + [add_object(3, IN, 0, 6)], take(2, 4))

    def test_not_a_part_of_anything(self):
        world = hall() + [add_object(1, IN), add_object(3, PART), add_object(1, PART), add_object(2, PART)]
        for x in (4, 5, 6):
            with self.subTest(x=x):
                self.refuses(-8, world, take(2, x))

    def test_not_what_somebody_else_holds_or_wears(self):
        for relation in (HELD, WORN):
            world = hall() + [add_object(1, IN, ACTOR, 20, 9), add_object(3, relation)]
            self.refuses(-8, world, take(2, 4))
            # Nor what is held or worn by an actor that v carries.
            self.refuses(-8, hall(capacity=99) + world[2:] + [move_object(3, 2, HELD)], take(2, 4))

    def test_which_error_of_several(self):
        world = hall() + [
            add_object(1, IN, ACTOR, 11, 99),
            add_object(3, HELD, 0, 11),
            add_object(1, PART, 0, 11),
            add_object(1, IN, CONTAINER, 0, 99),
            add_object(6, PART, 0, 11),
            add_object(1, IN, SUPPORTER, 11, 99),
        ]
        dark = world + [set_property(1, 6, 0)]
        boxed = world + [move_object(2, 8, ON)]
        for state, call, expected in (
            (world, take(2, 4), -6),
            (world, take(2, 5), -6),
            (world, take(2, 7), -6),
            (dark, take(2, 4), -4),
            (dark, take(2, 5), -4),
            (dark, take(2, 3), -4),
            (dark, take(2, 1), -4),
            (boxed, take(2, 8), -5),
            (boxed + [set_property(1, 6, 0)], take(2, 8), -4),
            (dark, take(1, 4), -3),
            (dark, take(1, 9), -2),
            (dark, take(1, FAR), -1),
        ):
            with self.subTest(call=call, expected=expected):
                self.refuses(expected, state, call)

    def test_a_part_within_which_v_is_and_that_is_too_heavy(self):
        world = [add_place(1), add_object(1, PART, SUPPORTER, 50, 99), add_object(2, ON, ACTOR, 0, 9)]
        self.refuses(-5, world, take(3, 2))

    def test_v_may_lie_on_a_thing_or_be_held(self):
        for relation in (ON, HELD, WORN, PART):
            world = [add_place(1), add_object(1, IN, EVERYTHING, 0, 99), add_object(2, relation, ACTOR, 1, 9),
                     add_object(1, IN, 0, 3)]
            with self.subTest(relation=relation):
                self.does([0], world, take(3, 4))


class CarriesTest(WorldTest):
    """In the dark an actor reaches only what it carries; what it doesn't reach can't be taken: -4."""

    def test_what_v_holds_wears_bears_and_what_is_a_part_of_it(self):
        for relation, expected in ((ON, [0]), (HELD, [0]), (WORN, [0]), (PART, [-8]), (IN, [-4])):
            world = hall(0, EVERYTHING + OPEN) + [add_object(2, relation, 0, 3)]
            with self.subTest(relation=relation):
                self.does(expected, world, take(2, 3))

    def test_what_is_on_or_a_part_of_something_carried(self):
        for first in (ON, HELD, WORN, PART):
            for second, expected in ((ON, [0]), (PART, [-8]), (HELD, [-8]), (WORN, [-8]), (IN, [-4])):
                world = hall(0, EVERYTHING, 99) + [add_object(2, first, EVERYTHING + OPEN, 1, 9), add_object(3, second)]
                with self.subTest(first=first, second=second):
                    self.does(expected, world, take(2, 4))

    def test_nothing_within_what_is_in_something_carried(self):
        for relation in (ON, PART, HELD, WORN, IN):
            world = hall(0, ACTOR, 99) + [add_object(2, HELD, CONTAINER + OPEN, 1, 9),
                                          add_object(3, IN, EVERYTHING + OPEN, 1, 9), add_object(4, relation)]
            with self.subTest(relation=relation):
                self.refuses(-4, world, take(2, 5))

    def test_far_within(self):
        world = hall(0, ACTOR, 99) + [add_object(2, HELD, SUPPORTER, 1, 9), add_object(3, ON, ACTOR, 1, 9),
                                      add_object(4, WORN, SUPPORTER, 1, 9), add_object(5, PART, SUPPORTER, 1, 9),
                                      add_object(6, ON, 0, 1)]
        self.does([0], world, take(2, 7))

    def test_not_the_holder_of_v_nor_what_it_carries(self):
        world = [add_place(0), add_object(1, IN, EVERYTHING, 0, 99), add_object(2, ON, ACTOR, 1, 9),
                 add_object(2, ON, 0, 1)]
        self.refuses(-4, world, take(3, 2))
        self.refuses(-4, world, take(3, 4))
        self.does([0], world, take(2, 3))

    def test_v_carries_itself(self):
        self.does([-5], hall(0), take(2, 2))

    def test_what_is_carried_is_reached_in_a_closed_box(self):
        world = [add_place(0), add_object(1, IN, CONTAINER, 0, 99), add_object(2, IN, ACTOR, 1, 9),
                 add_object(3, WORN, 0, 1)]
        self.does([0], world, take(3, 4))

    def test_what_is_in_a_closed_box_is_not_reached_though_v_carries_the_box(self):
        world = hall(1, ACTOR, 99) + [add_object(2, HELD, CONTAINER, 1, 9), add_object(3, IN, LUMINOUS)]
        self.refuses(-4, world, take(2, 4))
        self.does([0], world + [set_property(3, 4, 1)], take(2, 4))

    def test_what_is_dropped_in_the_dark_is_carried_no_more(self):
        world = hall(0) + [add_object(2, HELD), drop(2, 3)]
        self.refuses(-4, world, take(2, 3))
