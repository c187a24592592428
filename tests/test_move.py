"""The calls move_object and locate."""

from asking import ACTOR, CONTAINER, HELD, IN, MOST, ON, OPEN, PART, SUPPORTER, WORN, WorldTest
from asking import add_object, add_place, ask, locate, move_object

EVERYTHING = CONTAINER + SUPPORTER + ACTOR

# Two places; a holder of everything in the first; a thing of bulk 4.
WORLD = [add_place(1), add_place(0), add_object(1, IN, EVERYTHING, 3, 10), add_object(1, IN, 0, 4, 0)]


class MoveObjectTest(WorldTest):
    def test_an_object_is_moved_in_each_relation(self):
        for relation in (IN, ON, HELD, WORN, PART):
            with self.subTest(relation=relation):
                self.does([0], WORLD, move_object(4, 3, relation))
                told = ask(*WORLD, move_object(4, 3, relation), locate(4))[-1]
                self.assertEqual(told, [0, 3, relation, 3 if relation == IN else 1, 3, 1])

    def test_an_object_is_moved_to_another_place(self):
        for relation in (IN, PART):
            told = ask(*WORLD, move_object(4, 2, relation), locate(4))
            self.assertEqual(told[-2:], [[0], [0, 2, relation, 2, 2]])

    def test_what_is_within_comes_along(self):
        world = WORLD + [move_object(4, 3, HELD), add_object(4, PART)]
        told = ask(*world, move_object(3, 2, IN), locate(3), locate(4), locate(5))
        self.assertEqual(told[-3:], [[0, 2, 1, 2, 2], [0, 3, 3, 2, 3, 2], [0, 4, 5, 2, 4, 3, 2]])

    def test_no_actor_no_light_and_no_open_wall_is_needed(self):
        world = [add_place(0), add_object(1, IN, CONTAINER, 0, 9), add_object(1, IN, 0, 9)]
        self.does([0], world, move_object(3, 2, IN))
        self.does([0], world + [move_object(3, 2, IN)], move_object(3, 1, IN))

    def test_an_object_is_moved_where_it_is_already(self):
        self.does([0], WORLD, move_object(4, 1, IN))

    def test_an_object_is_moved_to_the_holder_of_its_holder(self):
        world = WORLD + [move_object(4, 3, HELD)]
        self.does([0, 1, 1, 1, 1], world, move_object(4, 1, IN), locate(4))

    def test_a_place_is_not_moved(self):
        self.refuses(-5, WORLD, move_object(1, 2, IN))
        self.refuses(-5, WORLD, move_object(2, 1, PART))
        self.refuses(-5, WORLD, move_object(2, 3, ON))

    def test_no_object_is_moved_to_itself(self):
        for relation in (IN, ON, HELD, WORN, PART):
            self.refuses(-5, WORLD, move_object(3, 3, relation))

    def test_no_object_is_moved_into_something_within_it(self):
        for first in (IN, ON, HELD, WORN, PART):
            for second in (IN, PART):
                world = WORLD + [add_object(3, first, CONTAINER, 0, 9), add_object(5, second, CONTAINER, 0, 9)]
                with self.subTest(first=first, second=second):
                    self.refuses(-5, world, move_object(3, 5, IN))
                    self.refuses(-5, world, move_object(3, 6, IN))
                    self.refuses(-5, world, move_object(3, 6, PART))

    def test_exactly_the_capacity_and_one_above(self):
        for relation in (IN, ON, HELD):
            with self.subTest(relation=relation):
                self.does([0], WORLD + [add_object(3, IN, 0, 6)], move_object(4, 3, relation))
                self.refuses(-6, WORLD + [add_object(3, IN, 0, 7)], move_object(4, 3, relation))

    def test_worn_objects_and_parts_need_no_capacity(self):
        full = WORLD + [add_object(3, IN, 0, 10)]
        self.does([0], full, move_object(4, 3, WORN))
        self.does([0], full, move_object(4, 3, PART))

    def test_a_place_has_no_limit(self):
        world = WORLD + [add_object(1, PART, 0, MOST), add_object(2, IN, 0, MOST)]
        self.does([0], world, move_object(5, 2, IN))

    def test_what_counts_toward_the_load_already_is_counted_once(self):
        for first in (IN, ON, HELD):
            world = WORLD + [add_object(3, first, 0, 10)]
            for second in (IN, ON, HELD):
                with self.subTest(first=first, second=second):
                    told = ask(*world, move_object(5, 3, second), locate(5))
                    self.assertEqual(told[-2], [0])
                    self.assertEqual(told[-1][:3], [0, 3, second])

    def test_what_is_worn_or_a_part_counts_when_it_is_moved(self):
        for first in (WORN, PART):
            world = WORLD + [add_object(3, first, 0, 5)]
            with self.subTest(first=first):
                self.does([0], world + [add_object(3, IN, 0, 5)], move_object(5, 3, HELD))
                self.refuses(-6, world + [add_object(3, IN, 0, 6)], move_object(5, 3, HELD))

    def test_what_is_further_within_counts_when_it_is_moved(self):
        world = WORLD + [add_object(3, IN, CONTAINER, 6, 9), add_object(5, IN, 0, 5)]
        self.refuses(-6, world, move_object(6, 3, IN))
        world = WORLD + [add_object(3, IN, CONTAINER, 6, 9), add_object(5, IN, 0, 4)]
        self.does([0], world, move_object(6, 3, IN))

    def test_the_bulk_of_the_object_alone_counts(self):
        world = WORLD + [add_object(1, IN, CONTAINER, 10, 90), add_object(5, IN, 0, 90)]
        self.does([0], world, move_object(5, 3, IN))

    def test_a_holder_that_does_not_suit(self):
        for relation, missing in ((IN, CONTAINER), (ON, SUPPORTER), (HELD, ACTOR), (WORN, ACTOR)):
            world = WORLD[:2] + [add_object(1, IN, 127 - missing, 0, 9), add_object(1, IN)]
            with self.subTest(relation=relation):
                self.refuses(-9, world, move_object(4, 3, relation))
        for relation in (ON, HELD, WORN):
            self.refuses(-9, WORLD, move_object(4, 1, relation))

    def test_which_error_of_several(self):
        world = WORLD + [add_object(1, IN, 0, 0, 3), add_object(4, PART, 0, 0, 0)]
        for call, expected in (
            (move_object(4, 5, IN), -6),
            (move_object(4, 5, ON), -6),
            (move_object(4, 5, HELD), -6),
            (move_object(4, 5, WORN), -9),
            (move_object(4, 4, IN), -5),
            (move_object(4, 6, IN), -5),
            (move_object(4, 6, WORN), -5),
            (move_object(2, 1, ON), -5),
            (move_object(1, 1, 0), -1),
            (move_object(1, 7, IN), -2),
            (move_object(7, 7, IN), -2),
        ):
            with self.subTest(call=call):
                self.refuses(expected, world, call)


class LocateTest(WorldTest):
    def test_a_place(self):
        self.does([0, 0, 0, 1], WORLD, locate(1))
        self.does([0, 0, 0, 2], WORLD, locate(2))

    def test_an_object_in_a_place_lies_in_it(self):
        self.does([0, 1, 1, 1, 1], WORLD, locate(4))

    def test_a_part_of_a_place_lies_in_it(self):
        self.does([0, 2, 5, 2, 2], WORLD, add_object(2, PART), locate(5))

    def test_an_object_in_a_container_lies_in_its_space(self):
        for properties in (CONTAINER, CONTAINER + OPEN):
            world = [add_place(1), add_object(1, IN, properties)]
            self.does([0, 2, 1, 2, 2, 1], world, add_object(2, IN), locate(3))

    def test_any_other_object_lies_where_its_holder_lies(self):
        for relation in (ON, HELD, WORN, PART):
            with self.subTest(relation=relation):
                self.does([0, 3, relation, 1, 3, 1], WORLD, add_object(3, relation), locate(5))
                boxed = [add_place(1), add_object(1, IN, CONTAINER), add_object(2, IN, EVERYTHING)]
                self.does([0, 3, relation, 2, 3, 2, 1], boxed, add_object(3, relation), locate(4))

    def test_a_container_lies_outside_itself(self):
        self.does([0, 1, 1, 1, 1], [add_place(1), add_object(1, IN, CONTAINER + OPEN)], locate(2))

    def test_the_ancestors_go_from_the_inside_to_the_place(self):
        world = [
            add_place(0),
            add_place(0),
            add_object(2, PART, SUPPORTER),
            add_object(3, ON, ACTOR),
            add_object(4, WORN, CONTAINER),
            add_object(5, IN, ACTOR),
            add_object(6, HELD, 0),
            add_object(7, PART, CONTAINER),
            add_object(8, IN),
        ]
        self.does([0, 7, 5, 5, 7, 6, 5, 4, 3, 2], world, locate(8))
        self.does([0, 8, 1, 8, 8, 7, 6, 5, 4, 3, 2], world, locate(9))
        self.does([0, 4, 4, 2, 4, 3, 2], world, locate(5))

    def test_wrong_arguments(self):
        for n, expected in ((0, -1), (61, -1), (5, -2), (60, -2)):
            self.refuses(expected, WORLD, locate(n))

    def test_it_changes_nothing(self):
        told = ask(*WORLD, locate(4), locate(3), locate(4))
        self.assertEqual(told[-1], told[-3])
