"""The calls list_contents, get_load and get_properties."""

from asking import ACTOR, CONTAINER, FAR, HELD, HINGED, IN, LUMINOUS, MOST, ON, OPEN, PART, SUPPORTER, WORN
from asking import WorldTest, add_object, add_place, ask, drop, get_load, get_properties, list_contents, move_object
from asking import open_or_close, put, set_property, take

EVERYTHING = CONTAINER + SUPPORTER + ACTOR

# A place, a holder of everything in it, something in each relation to this, and something further within.
NEST = [
    add_place(1),
    add_object(1, IN, EVERYTHING, 7, 1000),
    add_object(2, IN, CONTAINER, 10, 50),
    add_object(2, ON, SUPPORTER, 20, 60),
    add_object(2, HELD, 0, 40, 70),
    add_object(2, WORN, CONTAINER, 80, 90),
    add_object(2, PART, SUPPORTER, 160, 99),
    add_object(3, IN, 0, 1),
    add_object(4, ON, 0, 2),
    add_object(6, IN, 0, 3),
    add_object(7, ON, 0, 4),
]

WRONG = ((0, -1), (61, -1), (-1, -1), (FAR, -1), (-FAR, -1), (12, -2), (60, -2))


class ListContentsTest(WorldTest):
    def test_each_object_with_its_relation(self):
        self.does([0, 3, 1, 4, 2, 5, 3, 6, 4, 7, 5], NEST, list_contents(2))

    def test_nothing_that_is_further_within(self):
        self.does([0, 2, 1], NEST, list_contents(1))
        for h, expected in ((3, [8, 1]), (4, [9, 2]), (6, [10, 1]), (7, [11, 2])):
            self.does([0] + expected, NEST, list_contents(h))

    def test_nothing_at_all(self):
        self.does([0], [add_place(0)], list_contents(1))
        for h in (5, 8, 11):
            self.does([0], NEST, list_contents(h))

    def test_in_ascending_order_whenever_they_came(self):
        world = [add_place(0), add_place(0)] + [add_object(1, IN) for n in range(4)]
        world += [move_object(n, 2, relation) for n, relation in ((5, IN), (3, PART), (6, PART), (4, IN))]
        self.does([0, 3, 5, 4, 1, 5, 1, 6, 5], world, list_contents(2))
        self.does([0], world, list_contents(1))
        self.does([0, 3, 5, 5, 1, 6, 5], world + [move_object(4, 1, IN)], list_contents(2))

    def test_a_place_has_no_holder(self):
        self.does([0], [add_place(0), add_place(0)], list_contents(2))

    def test_sixty_objects(self):
        world = [add_place(0)] + [add_object(1, PART)] * 59
        self.does([0] + [field for n in range(2, 61) for field in (n, PART)], world, list_contents(1))

    def test_wrong_arguments(self):
        for h, expected in WRONG:
            self.refuses(expected, NEST, list_contents(h))


class GetLoadTest(WorldTest):
    def test_parts_and_worn_objects_are_within_but_are_no_load(self):
        self.does([0, 10 + 20 + 40, 1000, 9, 310 + 10], NEST, get_load(2))

    def test_each_relation_by_itself(self):
        for relation, load in ((IN, 5), (ON, 5), (HELD, 5), (WORN, 0), (PART, 0)):
            with self.subTest(relation=relation):
                self.does([0, load, 9, 1, 5], NEST[:1] + [add_object(1, IN, EVERYTHING, 1, 9),
                                                          add_object(2, relation, 0, 5)], get_load(2))

    def test_what_is_further_within_is_no_load(self):
        self.does([0, 7, 0, 10, 310 + 10 + 7], NEST, get_load(1))
        for h, expected in ((3, [1, 50, 1, 1]), (4, [2, 60, 1, 2]), (6, [3, 90, 1, 3]), (7, [4, 99, 1, 4])):
            self.does([0] + expected, NEST, get_load(h))

    def test_nothing_within(self):
        self.does([0, 0, 70, 0, 0], NEST, get_load(5))
        self.does([0, 0, 0, 0, 0], NEST, get_load(8))
        self.does([0, 0, 0, 0, 0], [add_place(1)], get_load(1))

    def test_a_place_has_a_load_but_no_limit(self):
        world = [add_place(0), add_object(1, IN, 0, MOST), add_object(1, IN, 0, MOST), add_object(1, PART, 0, MOST),
                 add_place(0)]
        self.does([0, 2 * MOST, 0, 3, 3 * MOST], world, get_load(1))
        self.does([0, 0, 0, 0, 0], world, get_load(5))

    def test_the_greatest_sum(self):
        world = [add_place(0)] + [add_object(1, IN, 0, MOST, MOST)] * 59
        self.does([0, 59 * MOST, 0, 59, 59 * MOST], world, get_load(1))

    def test_far_within(self):
        world = [add_place(0)] + [add_object(n, IN, CONTAINER, 2, 100 + n) for n in range(1, 60)]
        self.does([0, 2, 0, 59, 118], world, get_load(1))
        self.does([0, 2, 101, 58, 116], world, get_load(2))
        self.does([0, 2, 158, 1, 2], world, get_load(59))
        self.does([0, 0, 159, 0, 0], world, get_load(60))

    def test_it_follows_what_is_moved(self):
        world = [add_place(1), add_object(1, IN, EVERYTHING, 3, 100), add_object(1, IN, EVERYTHING + OPEN, 4, 50),
                 add_object(3, IN, CONTAINER, 5, 9), add_object(4, IN, 0, 6)]
        told = ask(*world, get_load(2), take(2, 4), get_load(2), get_load(3), put(2, 4, 3, ON), get_load(3), take(2, 4),
                   drop(2, 4), get_load(1), move_object(4, 2, WORN), get_load(2))
        self.assertEqual(told[5:], [[0, 0, 100, 0, 0], [0], [0, 5, 100, 2, 11], [0, 0, 50, 0, 0], [0],
                                    [0, 5, 50, 2, 11], [0], [0, 1, 1], [0, 12, 0, 4, 18], [0], [0, 0, 100, 2, 11]])

    def test_wrong_arguments(self):
        for h, expected in WRONG:
            self.refuses(expected, NEST, get_load(h))


class GetPropertiesTest(WorldTest):
    def test_they_are_those_that_were_given(self):
        for properties in (0, 1, 2, 4, 8, 16, 32, 64, 100, 126, 127):
            for bulk, capacity in ((0, 0), (1, 2), (MOST, 0), (0, MOST), (MOST, MOST)):
                world = [add_place(0), add_object(1, IN, properties, bulk, capacity)]
                self.does([0, properties, bulk, capacity], world, get_properties(2))

    def test_a_place(self):
        self.does([0, LUMINOUS, 0, 0], [add_place(1)], get_properties(1))
        self.does([0, 0, 0, 0], [add_place(0)], get_properties(1))
        self.does([0, LUMINOUS, 0, 0], [add_place(0), set_property(1, 6, 1)], get_properties(1))

    def test_they_stay_when_something_is_put_in_it_or_it_is_moved(self):
        world = [add_place(1), add_object(1, IN, EVERYTHING, 7, 100), add_object(1, IN, EVERYTHING, 8, 200),
                 move_object(3, 2, HELD), add_object(3, IN, 0, 50)]
        self.does([0, EVERYTHING, 8, 200], world, get_properties(3))
        self.does([0, EVERYTHING, 7, 100], world, get_properties(2))
        self.does([0, LUMINOUS, 0, 0], world, get_properties(1))

    def test_open_or_close(self):
        world = [add_place(1), add_object(1, IN, ACTOR, 1, 2), add_object(1, IN, CONTAINER + HINGED, 3, 4)]
        told = ask(*world, open_or_close(2, 3, 1), get_properties(3), open_or_close(2, 3, 0), get_properties(3))
        self.assertEqual(told[3:], [[0], [0, CONTAINER + HINGED + OPEN, 3, 4], [0], [0, CONTAINER + HINGED, 3, 4]])

    def test_wrong_arguments(self):
        for n, expected in WRONG:
            self.refuses(expected, NEST, get_properties(n))
