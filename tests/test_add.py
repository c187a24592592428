"""The calls add_place and add_object, and the load."""

from asking import ACTOR, CONTAINER, HELD, IN, LUMINOUS, MOST, ON, OPEN, PART, SUPPORTER, WORN, WorldTest
from asking import add_object, add_place, ask, drop, locate, move_object, take


class AddPlaceTest(WorldTest):
    def test_places_are_numbered_from_one(self):
        self.assertEqual(ask(add_place(1), add_place(0), add_place(0)), [[0, 1], [0, 2], [0, 3]])

    def test_places_and_objects_share_the_numbers(self):
        self.assertEqual(ask(add_place(0), add_object(1, 1), add_place(1)), [[0, 1], [0, 2], [0, 3]])

    def test_a_refused_call_uses_up_no_number(self):
        told = ask(add_place(2), add_place(0), add_object(1, 2), add_object(2, 1), add_place(0))
        self.assertEqual(told, [[-1], [0, 1], [-9], [-2], [0, 2]])

    def test_a_place_with_flag_1_is_lit(self):
        world = [add_place(1), add_object(1, 1, ACTOR, 0, 9), add_object(1, 1)]
        self.does([0], world, take(2, 3))

    def test_a_place_with_flag_0_is_dark(self):
        world = [add_place(0), add_object(1, 1, ACTOR, 0, 9), add_object(1, 1)]
        self.refuses(-4, world, take(2, 3))

    def test_a_place_has_no_other_properties(self):
        for flag in (0, 1):
            for relation in (ON, HELD, WORN):
                self.refuses(-9, [add_place(flag)], add_object(1, relation))

    def test_the_bulk_of_a_place_is_0(self):
        # The table is full: any bulk of the place would be one too many for it.
        world = [add_place(1), add_object(1, 1, SUPPORTER, 0, 5), add_object(2, ON, ACTOR, 5, 9)]
        self.refuses(-8, world, drop(3, 1))

    def test_sixty_objects_and_no_more(self):
        told = ask(*[add_place(0)] * 61)
        self.assertEqual(told[:60], [[0, n] for n in range(1, 61)])
        self.assertEqual(told[60], [-7])
        self.refuses(-7, [add_place(0)] * 60, add_place(1))
        self.refuses(-7, [add_place(0)] + [add_object(1, 1)] * 59, add_place(0))

    def test_the_range_goes_before_the_sixty_objects(self):
        self.refuses(-1, [add_place(0)] * 60, add_place(2))


class AddObjectTest(WorldTest):
    def test_each_relation_with_a_holder_that_suits(self):
        world = [add_place(0), add_object(1, 1, CONTAINER), add_object(1, 1, SUPPORTER), add_object(1, 1, ACTOR)]
        for h, relation in ((1, IN), (2, IN), (3, ON), (4, HELD), (4, WORN), (1, PART), (2, PART), (3, PART), (4, PART)):
            with self.subTest(h=h, relation=relation):
                self.does([0, 5], world, add_object(h, relation))
                told = ask(*world, add_object(h, relation), locate(5))[-1]
                self.assertEqual(told[:3], [0, h, relation])

    def test_a_holder_that_does_not_suit(self):
        for relation, missing in ((IN, CONTAINER), (ON, SUPPORTER), (HELD, ACTOR), (WORN, ACTOR)):
            world = [add_place(1), add_object(1, 1, 127 - missing, 0, MOST)]
            with self.subTest(relation=relation):
                self.refuses(-9, world, add_object(2, relation))
                self.refuses(-9, [add_place(1), add_object(1, 1, 0, 0, MOST)], add_object(2, relation))

    def test_a_part_of_anything(self):
        world = [add_place(0), add_object(1, 1, 0, 0, 0)]
        self.does([0, 3], world, add_object(2, PART, 0, MOST, 0))
        self.does([0, 3], world, add_object(1, PART, 0, MOST, 0))

    def test_a_place_is_a_holder_in_relation_1_and_5_only(self):
        for relation, expected in ((1, [0, 2]), (2, [-9]), (3, [-9]), (4, [-9]), (5, [0, 2])):
            self.does(expected, [add_place(1)], add_object(1, relation))

    def test_a_container_may_be_closed(self):
        for properties in (CONTAINER, CONTAINER + OPEN):
            self.does([0, 3], [add_place(0), add_object(1, 1, properties)], add_object(2, IN))

    def test_the_properties_are_kept(self):
        world = [add_place(0), add_object(1, 1, ACTOR + LUMINOUS, 0, 9), add_object(1, 1)]
        self.does([0], world, take(2, 3))

    def test_sixty_objects_and_no_more(self):
        world = [add_place(0)] + [add_object(1, 1)] * 59
        self.assertEqual(ask(*world)[-1], [0, 60])
        self.refuses(-7, world, add_object(1, 1))
        self.refuses(-7, world, add_object(60, PART))

    def test_sixty_objects_within_one_another(self):
        world = [add_place(0)] + [add_object(n, 1, CONTAINER, 1, 1) for n in range(1, 60)]
        self.does([0, 59, 1, 59] + list(range(59, 0, -1)), world, locate(60))

    def test_which_error_of_several(self):
        many = [add_place(0), add_object(1, 1, 0, 0, 5)] + [add_object(1, 1)] * 58
        for world, call, expected in (
            (many, add_object(2, IN, 0, 6), -6),
            (many, add_object(2, IN, 0, 5), -7),
            (many, add_object(2, WORN, 0, 6), -7),
            (many, add_object(2, PART, 0, 6), -7),
            (many, add_object(2, 6, 0, 6), -1),
            (many[:2], add_object(2, IN, 0, 6), -6),
            (many[:2], add_object(2, ON, 0, 6), -6),
            (many[:2], add_object(2, HELD, 0, 6), -6),
            (many[:2], add_object(2, WORN, 0, 6), -9),
            (many[:2], add_object(2, IN, 0, 5), -9),
            (many[:2], add_object(3, IN, 0, 6), -2),
            (many[:2], add_object(3, IN, 0, MOST + 1), -1),
        ):
            with self.subTest(call=call, expected=expected):
                self.refuses(expected, world, call)


# A place, and a holder of everything with the capacity 10.
HOLDER = [add_place(1), add_object(1, 1, CONTAINER + SUPPORTER + ACTOR, 3, 10)]


class LoadTest(WorldTest):
    def test_exactly_the_capacity_and_one_above(self):
        for relation in (IN, ON, HELD):
            with self.subTest(relation=relation):
                self.does([0, 3], HOLDER, add_object(2, relation, 0, 10))
                self.refuses(-6, HOLDER, add_object(2, relation, 0, 11))

    def test_the_bulks_in_relation_1_2_and_3_are_added(self):
        world = HOLDER + [add_object(2, IN, 0, 2), add_object(2, ON, 0, 3), add_object(2, HELD, 0, 4)]
        for relation in (IN, ON, HELD):
            with self.subTest(relation=relation):
                self.does([0, 6], world, add_object(2, relation, 0, 1))
                self.refuses(-6, world, add_object(2, relation, 0, 2))

    def test_a_full_holder_takes_what_has_no_bulk(self):
        world = HOLDER + [add_object(2, IN, 0, 10)]
        self.does([0, 4], world, add_object(2, HELD, 0, 0))

    def test_a_capacity_of_0(self):
        world = [add_place(1), add_object(1, 1, CONTAINER, 0, 0)]
        self.does([0, 3], world, add_object(2, IN, 0, 0))
        self.refuses(-6, world, add_object(2, IN, 0, 1))

    def test_the_greatest_capacity(self):
        world = [add_place(1), add_object(1, 1, CONTAINER, 0, MOST), add_object(2, IN, 0, 1)]
        self.does([0, 4], world, add_object(2, IN, 0, MOST - 1))
        self.refuses(-6, world, add_object(2, IN, 0, MOST))

    def test_worn_objects_and_parts_are_no_load_and_need_no_capacity(self):
        world = HOLDER + [add_object(2, WORN, 0, MOST), add_object(2, PART, 0, MOST)]
        self.does([0, 5], world, add_object(2, WORN, 0, MOST))
        self.does([0, 5], world, add_object(2, HELD, 0, 10))
        self.refuses(-6, world, add_object(2, HELD, 0, 11))
        full = HOLDER + [add_object(2, HELD, 0, 10)]
        self.does([0, 4], full, add_object(2, PART, 0, 1))
        self.does([0, 4], full, add_object(2, WORN, 0, 1))

    def test_what_is_further_within_is_no_load(self):
        world = HOLDER + [add_object(2, IN, CONTAINER, 4, 50), add_object(3, IN, 0, 50)]
        self.does([0, 5], world, add_object(2, IN, 0, 6))
        self.refuses(-6, world, add_object(2, IN, 0, 7))

    def test_the_bulk_does_not_depend_on_what_is_within(self):
        world = HOLDER + [add_object(1, 1, CONTAINER, 10, 50), add_object(3, IN, 0, 50)]
        self.does([0], world, move_object(3, 2, IN))

    def test_a_place_has_no_limit(self):
        self.does([0, 4], [add_place(0)] + [add_object(1, IN, 0, MOST)] * 2, add_object(1, IN, 0, MOST))

    def test_what_is_moved_away_is_no_load_any_more(self):
        world = HOLDER + [add_object(2, IN, 0, 10), move_object(3, 1, IN)]
        self.does([0, 4], world, add_object(2, IN, 0, 10))
        world = HOLDER + [add_object(2, HELD, 0, 10), move_object(3, 2, WORN)]
        self.does([0, 4], world, add_object(2, IN, 0, 10))

    def test_the_own_bulk_of_the_holder_is_no_load(self):
        world = [add_place(1), add_object(1, 1, CONTAINER, MOST, 1)]
        self.does([0, 3], world, add_object(2, IN, 0, 1))
