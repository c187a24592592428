"""The call drop."""

from asking import ACTOR, CONTAINER, FAR, HELD, IN, MOST, ON, OPEN, PART, SUPPORTER, WORN, WorldTest
from asking import add_object, add_place, ask, drop, locate, move_object

EVERYTHING = CONTAINER + SUPPORTER + ACTOR


class DropTest(WorldTest):
    def test_in_a_place(self):
        world = [add_place(1), add_object(1, IN, ACTOR, 0, 9), add_object(2, HELD, 0, 5)]
        self.assertEqual(ask(*world, drop(2, 3), locate(3))[-2:], [[0, 1, 1], [0, 1, 1, 1, 1]])

    def test_in_and_on_the_holder_of_v(self):
        for relation, space in ((IN, 2), (ON, 1)):
            world = [add_place(1), add_object(1, IN, EVERYTHING, 0, 9), add_object(2, relation, ACTOR, 0, 9),
                     add_object(3, HELD, 0, 5)]
            with self.subTest(relation=relation):
                told = ask(*world, drop(3, 4), locate(4))
                self.assertEqual(told[-2:], [[0, 2, relation], [0, 2, relation, space, 2, 1]])

    def test_through_a_holder_that_holds_wears_or_is_made_of_v(self):
        for passed in (HELD, WORN, PART):
            for relation in (IN, ON):
                world = [add_place(1), add_object(1, IN, EVERYTHING, 0, 9), add_object(2, relation, ACTOR, 0, 9),
                         add_object(3, passed, ACTOR, 0, 9), add_object(4, HELD, 0, 5)]
                with self.subTest(passed=passed, relation=relation):
                    told = ask(*world, drop(4, 5), locate(5))
                    self.assertEqual(told[-2][:3], [0, 2, relation])
                    self.assertEqual(told[-1][:3], [0, 2, relation])

    def test_through_several_holders(self):
        chain = [add_object(2, HELD, ACTOR, 0, 9), add_object(3, WORN, ACTOR, 0, 9), add_object(4, PART, ACTOR, 0, 9),
                 add_object(5, HELD, ACTOR, 0, 9), add_object(6, HELD, 0, 5)]
        place = [add_place(1)]
        self.does([0, 1, 1], place + [add_object(1, IN, ACTOR, 0, 9)] + chain, drop(6, 7))
        self.does([0, 1, 1], place + [add_object(1, PART, ACTOR, 0, 9)] + chain, drop(6, 7))

    def test_the_first_one_that_is_in_or_on_something_counts(self):
        world = [add_place(1), add_object(1, IN, SUPPORTER, 0, 99), add_object(2, ON, CONTAINER, 0, 99),
                 add_object(3, IN, ACTOR, 0, 99), add_object(4, HELD, ACTOR, 0, 99), add_object(5, HELD, 0, 5)]
        told = ask(*world, drop(5, 6), locate(6))
        self.assertEqual(told[-2:], [[0, 3, 1], [0, 3, 1, 3, 3, 2, 1]])

    def test_a_part_of_a_place_drops_into_the_place(self):
        world = [add_place(0), add_place(1), add_object(2, PART, ACTOR, 0, 9), add_object(3, HELD, 0, 5)]
        self.does([0, 2, 1], world, drop(3, 4))

    def test_in_the_dark_and_in_a_closed_box(self):
        world = [add_place(0), add_object(1, IN, CONTAINER, 0, 9), add_object(2, IN, ACTOR, 0, 9),
                 add_object(3, HELD, 0, 5)]
        self.does([0, 2, 1], world, drop(3, 4))

    def test_exactly_the_capacity_and_one_above(self):
        for relation in (IN, ON):
            for bulk, expected in ((4, [0, 2, relation]), (5, [-6])):
                world = [add_place(1), add_object(1, IN, EVERYTHING, 0, 10), add_object(2, relation, ACTOR, 6, 9),
                         add_object(3, HELD, 0, bulk)]
                with self.subTest(relation=relation, bulk=bulk):
                    self.does(expected, world, drop(3, 4))
        self.refuses(-6, world, drop(3, 4))

    def test_a_holder_with_a_great_number(self):
        many = [add_place(1)] + [add_object(1, IN)] * 56
        for relation in (IN, ON):
            world = many + [add_object(1, IN, EVERYTHING, 0, 10), add_object(58, relation, ACTOR, 6, 9)]
            with self.subTest(relation=relation):
                self.does([0, 58, relation], world + [add_object(59, HELD, 0, 4)], drop(59, 60))
                self.refuses(-6, world + [add_object(59, HELD, 0, 5)], drop(59, 60))

    def test_all_the_load_of_the_new_holder_counts(self):
        for relation in (IN, ON, HELD):
            world = [add_place(1), add_object(1, IN, EVERYTHING, 0, 10), add_object(2, ON, ACTOR, 2, 9),
                     add_object(2, relation, 0, 4), add_object(3, HELD, 0, 5)]
            with self.subTest(relation=relation):
                self.refuses(-6, world, drop(3, 5))
        for relation in (WORN, PART):
            world[3] = add_object(2, relation, 0, 4)
            self.does([0, 2, 2], world, drop(3, 5))

    def test_a_place_has_no_limit(self):
        world = [add_place(1), add_object(1, IN, ACTOR, MOST, MOST), add_object(2, HELD, 0, MOST)]
        self.does([0, 1, 1], world, drop(2, 3))

    def test_x_must_be_held_by_v(self):
        world = [add_place(1), add_object(1, IN, EVERYTHING, 0, 9), add_object(1, IN, ACTOR, 0, 9)]
        for h, relation in ((1, IN), (1, PART), (2, IN), (2, ON), (2, WORN), (2, PART), (3, HELD), (3, WORN)):
            with self.subTest(h=h, relation=relation):
                self.refuses(-8, world + [add_object(h, relation)], drop(2, 4))
        held = world + [add_object(2, HELD, EVERYTHING, 0, 9)]
        for relation in (IN, ON, HELD, WORN, PART):
            self.refuses(-8, held + [add_object(4, relation)], drop(2, 5))
        for x in (1, 2, 3):
            self.refuses(-8, world, drop(2, x))

    def test_too_much_for_the_new_holder_even_if_x_is_not_held(self):
        world = [add_place(1), add_object(1, IN, EVERYTHING, 0, 10), add_object(2, ON, ACTOR, 6, 99)]
        for h, relation in ((1, IN), (1, PART), (3, WORN), (3, ON), (2, WORN), (2, PART)):
            maker = world[:2] + [add_object(2, ON, EVERYTHING, 6, 99)]
            with self.subTest(h=h, relation=relation):
                self.refuses(-6, maker + [add_object(h, relation, 0, 5)], drop(3, 4))
                self.refuses(-8, maker + [add_object(h, relation, 0, 4)], drop(3, 4))

    def test_what_counts_toward_the_load_already_is_not_added(self):
        world = [add_place(1), add_object(1, IN, EVERYTHING, 0, 10), add_object(2, ON, ACTOR, 5, 99)]
        for relation in (IN, ON, HELD):
            with self.subTest(relation=relation):
                self.refuses(-8, world + [add_object(2, relation, 0, 5)], drop(3, 4))
        # v itself counts toward the load already.
        self.refuses(-8, world + [add_object(2, ON, 0, 5)], drop(3, 3))

    def test_the_new_holder_is_x_itself(self):
        for relation in (IN, ON):
            for bulk, expected in ((4, -8), (5, -6), (MOST, -6)):
                world = [add_place(1), add_object(1, IN, EVERYTHING, bulk, 10), add_object(2, relation, ACTOR, 6, 9)]
                with self.subTest(relation=relation, bulk=bulk):
                    self.refuses(expected, world, drop(3, 2))
        world = [add_place(1), add_object(1, IN, EVERYTHING, 5, 10), add_object(2, IN, ACTOR, 6, 9),
                 add_object(3, HELD, ACTOR)]
        self.refuses(-6, world, drop(4, 2))

    def test_the_new_holder_is_within_x(self):
        for relation in (IN, ON, HELD, WORN, PART):
            for bulk, expected in ((4, -8), (5, -6)):
                world = [add_place(1), add_object(1, IN, EVERYTHING, bulk, 99),
                         add_object(2, relation, EVERYTHING, 0, 10), add_object(3, ON, ACTOR, 6, 9)]
                with self.subTest(relation=relation, bulk=bulk):
                    self.refuses(expected, world, drop(4, 2))

    def test_the_place_of_v(self):
        # A place has no bulk, so it is never too much; it is never held.
        world = [add_place(1), add_object(1, IN, CONTAINER, 0, 6), add_object(2, IN, ACTOR, 6, 9)]
        self.refuses(-8, world, drop(3, 1))

    def test_which_error_of_several(self):
        world = [add_place(1), add_object(1, IN, SUPPORTER, 9, 0), add_object(2, ON, ACTOR, 0, 9),
                 add_object(3, WORN, 0, 1)]
        for call, expected in (
            (drop(3, 4), -6),
            (drop(3, 2), -6),
            (drop(2, 4), -3),
            (drop(1, 1), -3),
            (drop(1, 5), -2),
            (drop(5, 4), -2),
            (drop(5, 61), -1),
            (drop(0, 5), -1),
            (drop(3, FAR), -1),
            (drop(-FAR, 4), -1),
        ):
            with self.subTest(call=call):
                self.refuses(expected, world, call)

    def test_what_is_dropped_is_held_no_more(self):
        world = [add_place(1), add_object(1, IN, ACTOR, 0, 9), add_object(2, HELD, 0, 9), drop(2, 3)]
        self.refuses(-8, world, drop(2, 3))
        self.does([0, 4], world, add_object(2, HELD, 0, 9))

    def test_the_holder_at_the_time_counts(self):
        world = [add_place(1), add_object(1, IN, ACTOR, 0, 9), add_object(2, HELD, 0, 9), add_place(0)]
        self.does([0, 4, 1], world, move_object(2, 4, IN), drop(2, 3))
        self.does([0, 4, 1], world, move_object(2, 4, PART), drop(2, 3))
        self.does([0, 5, 2], world + [add_object(4, IN, SUPPORTER + OPEN, 0, 9)], move_object(2, 5, ON), drop(2, 3))
