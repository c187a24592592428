"""The call can_see: what an actor sees, canonical paths and generated proofs."""

from asking import ACTOR, CONTAINER, FAR, HELD, HINGED, IN, LUMINOUS, ON, OPEN, PART, SUPPORTER, TRANSPARENT, WORN
from asking import WorldTest, add_object, add_place, ask, can_see, move_object, open_or_close, seen, set_property
from asking import set_window, unseen

GLASS, OPENING, ONE_WAY = 1, 2, 3


def hall(light=1):
    """A place, and an actor in it."""
    return [add_place(light), add_object(1, IN, ACTOR)]


def places(count, *lit):
    return [add_place(int(n in lit)) for n in range(1, count + 1)]


def panes(*pairs, kind=GLASS):
    return [set_window(a, b, kind) for a, b in pairs]


class SeenTest(WorldTest):
    def test_what_lies_beside_the_actor(self):
        world = hall() + [add_object(1, IN)]
        for x in (1, 2, 3):
            with self.subTest(x=x):
                self.does(seen([1], [1]), world, can_see(2, x))

    def test_in_any_relation_but_in_it_lies_where_its_holder_lies(self):
        for relation in (ON, HELD, WORN, PART):
            world = hall() + [add_object(1, IN, CONTAINER + SUPPORTER + ACTOR), add_object(3, relation, ACTOR)]
            with self.subTest(relation=relation):
                self.does(seen([1], [1]), world, can_see(2, 4))
                self.does(seen([1], [1]), world, can_see(4, 2))

    def test_through_walls_that_let_sight_pass(self):
        for properties in (OPEN, TRANSPARENT, OPEN + TRANSPARENT):
            world = hall() + [add_object(1, IN, CONTAINER + properties), add_object(3, IN, CONTAINER + properties),
                              add_object(4, IN, ACTOR)]
            with self.subTest(properties=properties):
                self.does(seen([1, 3, 4], [1, 3, 4]), world, can_see(2, 5))
                self.does(seen([4, 3, 1], [1]), world, can_see(5, 2))

    def test_by_the_light_of_a_lamp_in_the_box(self):
        world = hall(0) + [add_object(1, IN, CONTAINER + TRANSPARENT), add_object(3, IN, LUMINOUS)]
        self.does(seen([1, 3], [3]), world, can_see(2, 4))
        self.does(seen([1], [3, 1]), world, can_see(2, 2))
        self.does(seen([1], [3, 1]), world, can_see(2, 1))

    def test_from_a_dark_place_into_a_lit_one(self):
        world = places(3, 3) + [add_object(1, IN, ACTOR), add_object(3, IN)] + panes((1, 2), (2, 3))
        self.does(seen([1, 2, 3], [3]), world, can_see(4, 5))
        self.does(seen([1], [3, 2, 1]), world, can_see(4, 1))

    def test_it_changes_nothing(self):
        world = hall() + [add_object(1, IN, CONTAINER), add_object(3, IN)]
        told = ask(*world, can_see(2, 3), can_see(2, 4), can_see(2, 3), can_see(2, 4))
        self.assertEqual(told[-4:], [seen([1], [1]), unseen([1], [])] * 2)

    def test_a_place_is_met_in_its_own_space_alone(self):
        world = places(3, 1, 2) + [add_object(1, IN, ACTOR)] + panes((1, 2))
        self.does(seen([1], [1]), world, can_see(4, 1))
        self.does(seen([1, 2], [2]), world, can_see(4, 2))
        self.does(unseen([1, 2], []), world, can_see(4, 3))


class MetTwiceTest(WorldTest):
    """A box that is not a place is met in the space in which it lies and in its own."""

    def test_both_spaces_are_lit_and_within_sight(self):
        for properties in (OPEN, TRANSPARENT):
            world = hall() + [add_object(1, IN, CONTAINER + properties), add_object(3, IN, ACTOR)]
            with self.subTest(properties=properties):
                self.does(seen([1], [1]), world, can_see(2, 3))
                # Its own space is nearer, yet the space in which it lies comes first.
                self.does(seen([3, 1], [1]), world, can_see(4, 3))
                self.does(seen([3, 1], [1]), world + [set_property(4, 6, 1)], can_see(4, 3))
                dark = world + [set_property(1, 6, 0), set_property(4, 6, 1)]
                self.does(seen([3, 1], [3, 1]), dark, can_see(4, 3))

    def test_the_space_in_which_it_lies_comes_first_with_the_greater_number_too(self):
        world = [add_place(1), add_object(1, IN, CONTAINER + OPEN), add_place(1), move_object(2, 3, IN),
                 add_object(2, IN, ACTOR), add_object(3, IN, ACTOR)]
        self.does(seen([2, 3], [3]), world, can_see(4, 2))
        self.does(seen([3], [3]), world, can_see(5, 2))

    def test_only_the_first_one(self):
        world = hall() + [add_object(1, IN, CONTAINER), add_object(3, IN, LUMINOUS)]
        self.does(seen([1], [1]), world, can_see(2, 3))

    def test_only_the_second_one(self):
        world = hall() + [add_object(1, IN, CONTAINER), add_object(3, IN, ACTOR + LUMINOUS)]
        for light in (0, 1):
            with self.subTest(light=light):
                self.does(seen([3], [3]), world + [set_property(1, 6, light)], can_see(4, 3))

    def test_only_the_second_one_from_further_within(self):
        world = [add_place(1), add_object(1, IN, CONTAINER), add_object(2, IN, CONTAINER + TRANSPARENT),
                 add_object(3, IN, ACTOR + LUMINOUS)]
        self.does(seen([3, 2], [3, 2]), world, can_see(4, 2))
        self.does(seen([3, 2], [3, 2]), world, can_see(4, 3))

    def test_none(self):
        world = hall() + [add_object(1, IN, CONTAINER), add_object(3, IN, ACTOR), add_place(1),
                          add_object(5, IN, CONTAINER + OPEN)]
        # Within sight, but dark; lit, but not within sight; neither.
        self.does(unseen([3], [3]), world, can_see(4, 3))
        self.does(unseen([1], []), world, can_see(2, 6))
        self.does(unseen([1], []), world + [set_property(5, 6, 0)], can_see(2, 6))
        # The one is lit, the other within sight.
        self.does(unseen([3], [3]), world + [set_property(3, 6, 1)], can_see(4, 3))

    def test_a_luminous_closed_box_is_dark_inside(self):
        world = hall(0) + [add_object(1, IN, CONTAINER + LUMINOUS), add_object(3, IN, ACTOR), add_object(3, IN)]
        self.does(seen([1], [1]), world, can_see(2, 3))
        self.does(unseen([3], [3]), world, can_see(4, 3))
        self.does(unseen([3], [3]), world, can_see(4, 5))
        self.does(unseen([3], [3]), world, can_see(4, 4))
        self.does(unseen([3], []), world, can_see(4, 2))
        for number in (4, 5):
            self.does(seen([3], [1, 3]), world + [set_property(3, number, 1)], can_see(4, 5))

    def test_what_is_no_container_is_met_once(self):
        world = hall() + [add_object(1, IN, SUPPORTER + OPEN + TRANSPARENT), add_object(3, ON, CONTAINER),
                          add_object(4, IN, ACTOR + LUMINOUS)]
        self.does(unseen([4], []), world, can_see(5, 3))
        self.does(seen([4], [4]), world, can_see(5, 4))


class NegativeTest(WorldTest):
    def test_in_the_dark(self):
        for x in (1, 2):
            self.does(unseen([1], [1]), hall(0), can_see(2, x))

    def test_no_source_where_x_is_out_of_sight(self):
        world = hall() + [add_object(1, IN, CONTAINER), add_object(3, IN, LUMINOUS), add_place(0)]
        self.does(unseen([1], []), world, can_see(2, 4))
        self.does(unseen([1], []), world, can_see(2, 5))

    def test_one_source(self):
        world = hall(0) + [add_object(1, IN, CONTAINER)]
        self.does(unseen([1], [1]), world, can_see(2, 3))
        self.does(unseen([3], [3]), world + [move_object(2, 3, IN)], can_see(2, 3))

    def test_two_sources_first_the_space_in_which_x_lies(self):
        world = hall(0) + [add_object(1, IN, CONTAINER + TRANSPARENT)]
        self.does(unseen([1, 3], [1, 3]), world, can_see(2, 3))
        self.does(unseen([3, 1], [1, 3]), world + [move_object(2, 3, IN)], can_see(2, 3))

    def test_two_sources_with_the_greater_number_first(self):
        world = [add_place(0), add_object(1, IN, CONTAINER + TRANSPARENT), add_place(0), move_object(2, 3, IN),
                 add_object(3, IN, ACTOR)]
        self.does(unseen([3, 2], [3, 2]), world, can_see(4, 2))
        self.does(unseen([3, 1, 2], [3, 2, 1]), world + panes((1, 3)), can_see(4, 2))
        self.does(unseen([3, 1, 2], [1, 3, 2]), world + panes((1, 3)), can_see(4, 1))
        self.does(unseen([2, 3], [3, 2]), world + [move_object(4, 2, IN)], can_see(4, 2))

    def test_several_levels_behind_the_sources(self):
        world = places(6) + [add_object(1, IN, ACTOR)] + panes((3, 1), (2, 3), (5, 2), (1, 4))
        self.does(unseen([1, 3, 4, 2, 5], [2, 3, 5, 1, 4]), world, can_see(7, 2))
        self.does(unseen([1, 3, 4, 2, 5], [5, 2, 3, 1, 4]), world, can_see(7, 5))
        self.does(unseen([1, 3, 4, 2, 5], []), world, can_see(7, 6))

    def test_several_levels_behind_two_sources(self):
        # The box 7 in place 3 with a box 8 in it, and the places 1 to 4 in a row.
        world = places(6) + [add_object(3, IN, CONTAINER + OPEN), add_object(7, IN, CONTAINER + TRANSPARENT),
                             add_object(8, IN, ACTOR)] + panes((1, 2), (2, 3), (3, 4))
        self.does(unseen([8, 7, 3, 2, 4, 1], [3, 7, 2, 4, 8, 1]), world, can_see(9, 7))
        self.does(unseen([8, 7, 3, 2, 4, 1], [7, 8, 3, 2, 4, 1]), world, can_see(9, 8))
        self.does(unseen([8, 7, 3, 2, 4, 1], [8, 7, 3, 2, 4, 1]), world, can_see(9, 9))

    def test_each_level_is_in_ascending_order(self):
        world = places(9) + [add_object(9, IN, ACTOR)] + panes((9, 8), (9, 7), (8, 1), (7, 6), (8, 5), (7, 2), (2, 3))
        self.does(unseen([9, 7, 8, 1, 2, 5, 6, 3], [9, 7, 8, 1, 2, 5, 6, 3]), world, can_see(10, 9))

    def test_the_second_list_goes_on_where_sight_ends(self):
        world = places(3) + [add_object(1, IN, ACTOR)] + panes((2, 1), (3, 2), kind=ONE_WAY)
        self.does(unseen([1], [1, 2, 3]), world, can_see(4, 1))
        self.does(unseen([1], []), world, can_see(4, 2))

    def test_the_second_list_is_only_what_light_comes_to_from_the_first_one(self):
        # A lit place behind the place of the box, but the wall of the box is closed.
        world = [add_place(1), add_object(1, IN, CONTAINER), add_object(2, IN, ACTOR), add_object(2, IN)]
        self.does(unseen([2], [2]), world, can_see(3, 4))
        self.does(unseen([2], [2]), world, can_see(3, 2))
        self.does(unseen([2], []), world, can_see(3, 1))


class WindowTest(WorldTest):
    WORLD = places(2, 1, 2) + [add_object(1, IN, ACTOR), add_object(2, IN, ACTOR)]

    def test_both_ways_through_glass_and_openings(self):
        for kind in (GLASS, OPENING):
            for a, b in ((1, 2), (2, 1)):
                with self.subTest(kind=kind, a=a):
                    world = self.WORLD + [set_window(a, b, kind)]
                    self.does(seen([1, 2], [2]), world, can_see(3, 4))
                    self.does(seen([2, 1], [1]), world, can_see(4, 3))

    def test_a_one_way_window_from_either_side(self):
        for a, b, v, x in ((1, 2, 3, 4), (2, 1, 4, 3)):
            with self.subTest(a=a):
                world = self.WORLD + [set_window(a, b, ONE_WAY)]
                self.does(seen([a, b], [b]), world, can_see(v, x))
                self.does(unseen([b], []), world, can_see(x, v))

    def test_light_passes_a_one_way_window_from_either_side(self):
        for lit in (1, 2):
            world = places(2, lit) + [add_object(3 - lit, IN, ACTOR)]
            for a, b in ((1, 2), (2, 1)):
                with self.subTest(lit=lit, a=a):
                    self.does(seen([3 - lit], [lit, 3 - lit]), world + [set_window(a, b, ONE_WAY)], can_see(3, 3))

    def test_no_window(self):
        self.does(unseen([1], []), self.WORLD, can_see(3, 4))
        self.does(unseen([1], []), self.WORLD + [set_window(1, 2, GLASS), set_window(2, 1, 0)], can_see(3, 4))


class CanonicalPathTest(WorldTest):
    def test_the_first_one_of_the_previous_level_counts(self):
        for pairs in (((1, 2), (1, 3), (2, 4), (3, 4)), ((4, 3), (3, 1), (4, 2), (2, 1))):
            world = places(4, 1, 4) + [add_object(1, IN, ACTOR), add_object(4, IN, ACTOR)] + panes(*pairs)
            with self.subTest(pairs=pairs):
                self.does(seen([1, 2, 4], [4]), world, can_see(5, 6))
                self.does(seen([4, 2, 1], [1]), world, can_see(6, 5))
                dark = world + [set_property(4, 6, 0)]
                self.does(seen([1, 2, 4], [1, 2, 4]), dark, can_see(5, 6))

    def test_it_is_chosen_from_the_end(self):
        # From the start the way by 2 and 5 would come first; from the end the way by 4 and 3 does.
        world = places(6, 1) + [add_object(1, IN, ACTOR)] + panes((1, 2), (1, 3), (2, 5), (3, 4), (4, 6), (5, 6))
        self.does(seen([1, 3, 4, 6], [1, 3, 4, 6]), world, can_see(7, 6))
        world = places(6, 6) + [add_object(1, IN, ACTOR)] + panes((1, 2), (1, 3), (2, 5), (3, 4), (4, 6), (5, 6))
        self.does(seen([1], [6, 5, 2, 1]), world, can_see(7, 1))

    def test_only_the_previous_level_counts(self):
        # 2 is linked to 5, but 2 is in the same level as 5.
        world = places(5, 1) + [add_object(3, IN, ACTOR)] + panes((3, 5), (3, 2), (2, 5), (5, 1))
        self.does(seen([3, 5, 1], [1]), world, can_see(6, 1))
        self.does(seen([3, 5], [1, 5]), world, can_see(6, 5))

    def test_the_shortest_way_counts_whatever_the_numbers(self):
        world = places(6, 6) + [add_object(1, IN, ACTOR)] + panes((1, 2), (2, 3), (3, 4), (4, 6), (1, 5), (5, 6))
        self.does(seen([1, 5, 6], [6]), world, can_see(7, 6))

    def test_the_way_of_sight_follows_its_links(self):
        world = places(4, 1) + [add_object(1, IN, ACTOR), set_window(1, 2, GLASS), set_window(4, 2, ONE_WAY),
                                set_window(1, 3, ONE_WAY), set_window(3, 4, OPENING)]
        self.does(seen([1, 3, 4], [1, 2, 4]), world, can_see(5, 4))

    def test_the_sources_of_light_are_in_ascending_order(self):
        world = places(4) + [add_object(3, IN, LUMINOUS), add_object(2, IN, LUMINOUS), add_object(1, IN, ACTOR)]
        self.does(seen([1], [2, 1]), world + panes((3, 1), (2, 1)), can_see(7, 1))
        self.does(seen([1], [3, 4, 1]), world + panes((3, 4), (4, 1)), can_see(7, 1))
        self.does(seen([1], [3, 1]), world + panes((3, 1), (2, 4), (4, 1)), can_see(7, 1))

    def test_a_box_may_be_a_source_of_light(self):
        world = places(2) + [add_object(2, IN, CONTAINER + TRANSPARENT), add_object(3, IN, LUMINOUS),
                             add_object(1, IN, CONTAINER + OPEN), add_object(5, IN, ACTOR)] + panes((1, 2))
        self.does(seen([5], [3, 2, 1, 5]), world, can_see(6, 6))
        self.does(seen([5, 1, 2, 3], [3]), world, can_see(6, 4))
        self.does(seen([5, 1, 2], [3, 2]), world, can_see(6, 2))

    def test_several_lamps_in_one_space_are_one_source(self):
        world = places(2, 1) + [add_object(1, IN, LUMINOUS), add_object(1, IN, LUMINOUS), add_object(2, IN, ACTOR)]
        self.does(seen([2], [1, 2]), world + panes((1, 2)), can_see(5, 5))

    def test_a_source_is_a_path_by_itself(self):
        world = places(2, 1, 2) + [add_object(2, IN, ACTOR)] + panes((1, 2))
        self.does(seen([2], [2]), world, can_see(3, 3))
        self.does(seen([2, 1], [1]), world, can_see(3, 1))

    def test_sixty_spaces_in_a_row(self):
        boxes = [add_object(n, IN, CONTAINER + OPEN) for n in range(1, 59)]
        world = [add_place(1)] + boxes + [add_object(59, IN, ACTOR)]
        row = list(range(1, 60))
        self.does(seen(row[::-1], [1]), world, can_see(60, 1))
        self.does(seen([59], row), world, can_see(60, 60))
        self.does(unseen(row[::-1], row), world + [set_property(1, 6, 0)], can_see(60, 1))


class ErrorTest(WorldTest):
    def test_wrong_arguments(self):
        world = hall() + [add_object(1, IN, 127 - ACTOR)]
        for call, expected in (
            (can_see(0, 2), -1),
            (can_see(61, 2), -1),
            (can_see(2, 0), -1),
            (can_see(2, 61), -1),
            (can_see(2, -FAR), -1),
            (can_see(FAR, 2), -1),
            (can_see(4, 2), -2),
            (can_see(2, 4), -2),
            (can_see(2, 60), -2),
            (can_see(1, 2), -3),
            (can_see(3, 2), -3),
            (can_see(3, 4), -2),
            (can_see(3, 61), -1),
            (can_see(4, 61), -1),
        ):
            with self.subTest(call=call):
                self.refuses(expected, world, call)

    def test_the_world_at_the_time_counts(self):
        world = hall() + [add_object(1, IN, CONTAINER + HINGED), add_object(3, IN)]
        told = ask(*world, can_see(2, 4), open_or_close(2, 3, 1), can_see(2, 4), set_property(1, 6, 0), can_see(2, 4))
        self.assertEqual([told[-5], told[-3], told[-1]],
                         [unseen([1], []), seen([1, 3], [1, 3]), unseen([1, 3], [3, 1])])
