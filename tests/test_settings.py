"""The calls set_property and set_window, and what light, sight and hands do at walls and windows.

What an actor reaches is asked by take: it reaches what it lies beside, if that is lit.
"""

import unittest

from asking import ACTOR, CONTAINER, FAR, HELD, HINGED, IN, LUMINOUS, ON, OPEN, PART, SUPPORTER, TRANSPARENT, WORN
from asking import WorldTest, add_object, add_place, ask, can_see, get_properties, list_windows, locate, move_object
from asking import open_or_close, set_property, set_window, take

# A lit place, an actor, a closed box with a thing in it.
BOX = [
    add_place(1),
    add_object(1, IN, ACTOR, 0, 99),
    add_object(1, IN, CONTAINER, 1, 99),
    add_object(3, IN, 0, 1),
]


class SetPropertyTest(WorldTest):
    def test_hinged(self):
        self.refuses(-9, BOX, open_or_close(2, 3, 1))
        hinged = BOX + [set_property(3, 3, 1)]
        self.does([0], hinged, open_or_close(2, 3, 1))
        self.refuses(-9, hinged + [set_property(3, 3, 0)], open_or_close(2, 3, 1))

    def test_open(self):
        self.refuses(-4, BOX, take(2, 4))
        opened = BOX + [set_property(3, 4, 1)]
        self.does([0], opened, take(2, 4))
        self.refuses(-4, opened + [set_property(3, 4, 0)], take(2, 4))

    def test_transparent(self):
        world = [add_place(0), add_object(1, IN, ACTOR), add_object(1, IN, HINGED, 0, 99), add_object(1, IN, CONTAINER),
                 add_object(4, IN, LUMINOUS)]
        self.refuses(-4, world, open_or_close(2, 3, 1))
        clear = world + [set_property(4, 5, 1)]
        self.does([0], clear, open_or_close(2, 3, 1))
        self.refuses(-4, clear + [set_property(4, 5, 0)], open_or_close(2, 3, 1))

    def test_luminous(self):
        world = [add_place(0), add_object(1, IN, ACTOR, 0, 99), add_object(1, IN), add_object(1, IN)]
        self.refuses(-4, world, take(2, 3))
        for n in (1, 2, 3, 4):
            with self.subTest(n=n):
                shining = world + [set_property(n, 6, 1)]
                self.does([0], shining, take(2, 3))
                self.refuses(-4, shining + [set_property(n, 6, 0)], take(2, 3))

    def test_a_lit_place_is_darkened(self):
        self.refuses(-4, BOX + [set_property(3, 4, 1), set_property(1, 6, 0)], take(2, 4))

    def test_a_property_may_be_so_already(self):
        for number in (3, 4, 5, 6):
            for flag in (0, 1):
                with self.subTest(number=number, flag=flag):
                    twice = [set_property(3, number, flag)] * 2
                    self.assertEqual(ask(*BOX, *twice)[-2:], [[0], [0]])
        self.does([0], BOX + [set_property(3, 4, 1)] * 2, take(2, 4))
        self.refuses(-4, BOX + [set_property(3, 4, 1)] * 2 + [set_property(3, 4, 0)] * 2, take(2, 4))

    def test_a_property_leaves_the_others_alone(self):
        world = [add_place(0), add_object(1, IN, 127, 0, 99), add_object(1, IN)]
        for number in (3, 4, 5):
            for flag in (0, 1):
                # Still a container, a supporter, an actor, and luminous.
                changed = world + [set_property(2, number, flag)]
                with self.subTest(number=number, flag=flag):
                    self.does([0], changed, take(2, 3))
                    for relation in (IN, ON, HELD, WORN):
                        self.does([0, 4], changed, add_object(2, relation))
        self.does([-10], world + [set_property(2, 6, 0)], open_or_close(2, 2, 1))
        self.does([-10], world + [set_property(2, 5, 0)], open_or_close(2, 2, 1))
        self.does([0], world + [set_property(2, 4, 0)], open_or_close(2, 2, 1))
        self.does([-9], world + [set_property(2, 3, 0)], open_or_close(2, 2, 1))
        self.does([-10], world + [set_property(2, 3, 1)], open_or_close(2, 2, 1))

    def test_each_property_has_its_own_value(self):
        for number, value in ((3, HINGED), (4, OPEN), (5, TRANSPARENT), (6, LUMINOUS)):
            for before in (0, 127, 7, 127 - value, value):
                world = [add_place(0), add_object(1, IN, before, 3, 4)]
                with self.subTest(number=number, before=before):
                    told = ask(*world, set_property(2, number, 1), get_properties(2), set_property(2, number, 0),
                               get_properties(2))
                    self.assertEqual(told[3], [0, before | value, 3, 4])
                    self.assertEqual(told[5], [0, before & ~value, 3, 4])

    def test_any_object_may_have_any_of_them(self):
        for number in (3, 4, 5, 6):
            for n in (2, 3, 4):
                self.does([0], BOX, set_property(n, number, 1))

    def test_it_answers_no_further_fields(self):
        self.assertEqual(ask(*BOX, set_property(1, 6, 0))[-1], [0])

    def test_a_place_takes_luminous_only(self):
        for number in (3, 4, 5):
            for flag in (0, 1):
                self.refuses(-9, BOX, set_property(1, number, flag))
        for flag in (0, 1):
            self.does([0], BOX, set_property(1, 6, flag))

    def test_wrong_arguments(self):
        for call, expected in (
            (set_property(3, 2, 1), -1),
            (set_property(3, 7, 1), -1),
            (set_property(3, 0, 1), -1),
            (set_property(3, 16, 1), -1),
            (set_property(3, FAR, 1), -1),
            (set_property(3, 4, 2), -1),
            (set_property(3, 4, -1), -1),
            (set_property(1, 2, 1), -1),
            (set_property(1, 4, 2), -1),
            (set_property(5, 4, 1), -2),
            (set_property(5, 4, 3), -1),
        ):
            with self.subTest(call=call):
                self.refuses(expected, BOX, call)


class WallTest(WorldTest):
    def test_light_comes_out_of_an_open_or_transparent_wall(self):
        for properties, expected in ((0, [-4]), (OPEN, [0]), (TRANSPARENT, [0]), (OPEN + TRANSPARENT, [0])):
            world = [add_place(0), add_object(1, IN, ACTOR, 0, 99), add_object(1, IN),
                     add_object(1, IN, CONTAINER + properties), add_object(4, IN, LUMINOUS)]
            with self.subTest(properties=properties):
                self.does(expected, world, take(2, 3))

    def test_light_goes_into_an_open_or_transparent_wall(self):
        for properties, expected in ((0, [-4]), (OPEN, [0]), (TRANSPARENT, [0]), (OPEN + TRANSPARENT, [0])):
            world = [add_place(1), add_object(1, IN, CONTAINER + properties), add_object(2, IN, ACTOR, 0, 99),
                     add_object(2, IN)]
            with self.subTest(properties=properties):
                self.does(expected, world, take(3, 4))

    def test_hands_go_into_an_open_wall_only(self):
        for properties, expected in ((0, [-4]), (OPEN, [0]), (TRANSPARENT, [-4]), (OPEN + TRANSPARENT, [0])):
            # The thing shines, so that the inside is lit anyway.
            world = [add_place(1), add_object(1, IN, ACTOR, 0, 99), add_object(1, IN, CONTAINER + properties),
                     add_object(3, IN, LUMINOUS)]
            with self.subTest(properties=properties):
                self.does(expected, world, take(2, 4))

    def test_hands_come_out_of_an_open_wall_only(self):
        for properties, expected in ((0, [-4]), (OPEN, [0]), (TRANSPARENT, [-4]), (OPEN + TRANSPARENT, [0])):
            world = [add_place(1), add_object(1, IN, CONTAINER + properties), add_object(2, IN, ACTOR + LUMINOUS, 0, 99),
                     add_object(1, IN)]
            with self.subTest(properties=properties):
                self.does(expected, world, take(3, 4))

    def test_each_wall_on_the_way_must_let_pass(self):
        for outer in (0, OPEN, TRANSPARENT):
            for inner in (0, OPEN, TRANSPARENT):
                world = [add_place(1), add_object(1, IN, ACTOR, 0, 99), add_object(1, IN, CONTAINER + outer, 0, 9),
                         add_object(3, IN, CONTAINER + inner, 0, 9), add_object(4, IN, LUMINOUS)]
                with self.subTest(outer=outer, inner=inner):
                    self.does([0] if outer == inner == OPEN else [-4], world, take(2, 5))

    def test_only_a_container_has_an_inside(self):
        # The open actor holds its thing outside; the light of the lamp on the closed box is outside, too.
        world = [add_place(0), add_object(1, IN, ACTOR, 0, 99), add_object(1, IN, CONTAINER + SUPPORTER, 0, 99),
                 add_object(3, ON, LUMINOUS)]
        self.does([0], world, take(2, 4))
        self.refuses(-4, world + [move_object(4, 3, IN)], take(2, 4))

    def test_a_luminous_closed_box_is_dark_inside_and_light_outside(self):
        world = [add_place(0), add_object(1, IN, ACTOR, 0, 99), add_object(1, IN, CONTAINER + HINGED + LUMINOUS, 0, 99),
                 add_object(3, IN, ACTOR, 0, 99), add_object(3, IN), add_object(1, IN)]
        self.does([0], world, take(2, 6))
        self.does([0], world, open_or_close(2, 3, 1))
        self.refuses(-4, world, take(4, 5))
        # Inside, the box is met, but it can't be seen in the dark.
        self.refuses(-4, world, open_or_close(4, 3, 1))
        self.does([0], world + [set_property(3, 5, 1)], open_or_close(4, 3, 1))

    def test_a_container_is_met_from_within(self):
        world = [add_place(0), add_object(1, IN, CONTAINER + HINGED), add_object(2, IN, ACTOR + LUMINOUS)]
        self.does([0], world, open_or_close(3, 2, 1))

    def test_what_is_no_container_is_not_met_from_within(self):
        # The actor in the closed box does not meet the board that the box is a part of.
        world = [add_place(1), add_object(1, IN, HINGED), add_object(2, PART, CONTAINER + HINGED),
                 add_object(3, IN, ACTOR + LUMINOUS)]
        self.refuses(-4, world, open_or_close(4, 2, 1))
        self.does([0], world, open_or_close(4, 3, 1))

    def test_a_luminous_object_shines_where_it_lies(self):
        for relation, expected in ((IN, [-4]), (ON, [0]), (HELD, [0]), (WORN, [0]), (PART, [0])):
            world = [add_place(0), add_object(1, IN, ACTOR, 0, 9), add_object(1, IN),
                     add_object(1, IN, CONTAINER + SUPPORTER + ACTOR, 0, 9), add_object(4, relation, LUMINOUS)]
            with self.subTest(relation=relation):
                self.does(expected, world, take(2, 3))


# A dark place with an actor and a thing, and another place with a lamp and a thing.
PLACES = [
    add_place(0),
    add_place(1),
    add_object(1, IN, ACTOR, 0, 99),
    add_object(1, IN, 0, 1),
    add_object(2, IN, 0, 1),
]
HERE = take(3, 4)
THERE = take(3, 5)


class WindowTest(WorldTest):
    def test_without_a_window(self):
        self.refuses(-4, PLACES, HERE)
        self.refuses(-4, PLACES, THERE)

    def test_light_passes_each_kind_in_both_directions(self):
        for kind in (1, 2, 3):
            for a, b in ((1, 2), (2, 1)):
                with self.subTest(kind=kind, a=a):
                    self.does([0], PLACES + [set_window(a, b, kind)], HERE)

    def test_hands_pass_the_open_kind_only_and_in_both_directions(self):
        for kind, expected in ((1, [-4]), (2, [0]), (3, [-4])):
            for a, b in ((1, 2), (2, 1)):
                for light in (0, 1):
                    with self.subTest(kind=kind, a=a, light=light):
                        world = PLACES + [set_window(a, b, kind), set_property(1, 6, light)]
                        self.does(expected, world, THERE)

    def test_nothing_passes_kind_0(self):
        for a, b in ((1, 2), (2, 1)):
            self.refuses(-4, PLACES + [set_window(a, b, 0)], HERE)
            self.refuses(-4, PLACES + [set_window(a, b, 0)], THERE)

    def test_it_answers_no_further_fields(self):
        for kind in (0, 1, 2, 3):
            self.does([0], PLACES, set_window(1, 2, kind))

    def test_a_window_is_replaced_by_one_of_another_kind(self):
        for a, b in ((1, 2), (2, 1)):
            with self.subTest(a=a):
                world = PLACES + [set_window(1, 2, 2), set_window(a, b, 1)]
                self.does([0], world, HERE)
                self.refuses(-4, world, THERE)
                world = PLACES + [set_window(1, 2, 1), set_window(a, b, 2)]
                self.does([0], world, THERE)

    def test_kind_0_takes_the_window_away(self):
        for kind in (1, 2, 3):
            for a, b in ((1, 2), (2, 1)):
                with self.subTest(kind=kind, a=a):
                    world = PLACES + [set_window(1, 2, kind), set_window(a, b, 0)]
                    self.refuses(-4, world, HERE)
                    self.refuses(-4, world, THERE)

    def test_kind_0_takes_all_away_that_was_set_before(self):
        world = PLACES + [set_window(1, 2, 1), set_window(2, 1, 2), set_window(1, 2, 3), set_window(2, 1, 0)]
        self.refuses(-4, world, HERE)

    def test_the_windows_of_other_places_stay(self):
        world = [add_place(0), add_place(0), add_place(1), add_object(1, IN, ACTOR, 0, 99), add_object(1, IN),
                 add_object(3, IN), set_window(1, 2, 2), set_window(2, 3, 2), set_window(1, 3, 1)]
        self.does([0], world, take(4, 6))
        self.does([0], world + [set_window(3, 1, 0)], take(4, 6))
        self.does([0], world + [set_window(2, 3, 0)], take(4, 5))
        self.refuses(-4, world + [set_window(2, 3, 0)], take(4, 6))
        self.refuses(-4, world + [set_window(2, 1, 0)], take(4, 6))
        self.refuses(-4, world + [set_window(2, 1, 0), set_window(3, 1, 0)], take(4, 5))

    def test_light_goes_on_through_several_windows_and_walls(self):
        world = [add_place(0), add_place(0), add_place(0), add_object(1, IN, CONTAINER + TRANSPARENT, 0, 9),
                 add_object(4, IN, ACTOR, 0, 9), add_object(4, IN), add_object(3, IN, CONTAINER + OPEN, 0, 9),
                 add_object(7, IN, LUMINOUS), set_window(2, 1, 1), set_window(2, 3, 3)]
        self.does([0], world, take(5, 6))
        self.refuses(-4, world + [set_window(2, 3, 0)], take(5, 6))

    def test_both_must_be_places_and_two(self):
        for kind in (0, 1, 2, 3):
            with self.subTest(kind=kind):
                self.refuses(-5, PLACES, set_window(1, 1, kind))
                self.refuses(-9, PLACES, set_window(1, 3, kind))
                self.refuses(-9, PLACES, set_window(3, 1, kind))
                self.refuses(-9, PLACES, set_window(4, 3, kind))
                self.refuses(-5, PLACES, set_window(3, 3, kind))

    def test_a_container_is_no_place(self):
        self.refuses(-9, BOX, set_window(1, 3, 1))

    def test_a_window_is_kept_with_its_first_place_its_second_place_and_its_kind(self):
        for kind in (1, 2, 3):
            for a, b in ((1, 2), (2, 1)):
                with self.subTest(kind=kind, a=a):
                    self.does([0, a, b, kind], PLACES, set_window(a, b, kind), list_windows())

    def test_a_refused_window_replaces_nothing(self):
        world = PLACES + [set_window(1, 2, 1)]
        for call, expected in ((set_window(1, 2, 4), -1), (set_window(2, 2, 0), -5), (set_window(2, 3, 0), -9)):
            self.refuses(expected, world, call)
            self.does([0], world, call, HERE)

    def test_which_error_of_several(self):
        for call, expected in (
            (set_window(1, 1, 4), -1),
            (set_window(1, 1, -1), -1),
            (set_window(1, 1, FAR), -1),
            (set_window(6, 6, 1), -2),
            (set_window(6, 1, 1), -2),
            (set_window(1, 6, 1), -2),
            (set_window(3, 6, 1), -2),
            (set_window(3, 6, 4), -1),
        ):
            with self.subTest(call=call):
                self.refuses(expected, PLACES, call)


class SightTest(unittest.TestCase):
    def sees(self, v, x, *calls):
        told = ask(*calls, can_see(v, x))
        self.assertEqual([answer[0] for answer in told], [0] * len(told))
        return told[-1][1] == 1

    def test_windows(self):
        for kind, forward, back in ((0, False, False), (1, True, True), (2, True, True), (3, True, False)):
            with self.subTest(kind=kind):
                self.assertEqual(self.sees(3, 5, *PLACES, set_window(1, 2, kind)), forward)
                self.assertEqual(self.sees(3, 5, *PLACES, set_window(2, 1, kind)), back)

    def test_a_one_way_window_is_replaced_by_one_the_other_way(self):
        world = PLACES + [set_window(1, 2, 3), set_window(2, 1, 3)]
        self.assertFalse(self.sees(3, 5, *world))
        self.assertTrue(self.sees(3, 5, *world, set_window(1, 2, 3)))

    def test_walls(self):
        for properties, expected in ((0, False), (OPEN, True), (TRANSPARENT, True), (OPEN + TRANSPARENT, True)):
            world = [add_place(1), add_object(1, IN, ACTOR), add_object(1, IN, CONTAINER + properties),
                     add_object(3, IN, LUMINOUS), add_object(3, IN, ACTOR)]
            with self.subTest(properties=properties):
                self.assertEqual(self.sees(2, 4, *world), expected)
                self.assertEqual(self.sees(5, 2, *world), expected)

    def test_the_spaces_on_the_way_may_be_dark(self):
        world = [add_place(0), add_place(0), add_place(0), add_object(1, IN, ACTOR),
                 add_object(3, IN, CONTAINER + TRANSPARENT), add_object(5, IN, LUMINOUS), set_property(5, 5, 1)]
        way = world + [set_window(1, 2, 1), set_window(2, 3, 1)]
        self.assertTrue(self.sees(4, 6, *way))
        self.assertFalse(self.sees(4, 6, *way, set_property(6, 6, 0)))
        self.assertFalse(self.sees(4, 6, *way, set_property(5, 5, 0)))

    def test_only_what_is_lit_is_seen(self):
        self.assertFalse(self.sees(3, 4, *PLACES))
        self.assertFalse(self.sees(3, 3, *PLACES))
        self.assertTrue(self.sees(3, 3, *PLACES, set_property(3, 6, 1)))

    def test_a_box_is_seen_from_within(self):
        world = [add_place(1), add_object(1, IN, CONTAINER), add_object(2, IN, ACTOR), add_object(2, IN)]
        self.assertFalse(self.sees(3, 2, *world))
        self.assertTrue(self.sees(3, 2, *world, set_property(4, 6, 1)))
        self.assertFalse(self.sees(3, 1, *world, set_property(4, 6, 1)))


class RefusedSettingTest(WorldTest):
    def test_the_places_stay_where_they_are(self):
        told = ask(*PLACES, set_window(1, 3, 1), set_property(2, 4, 1), locate(1), locate(2), locate(3))
        self.assertEqual(told[-3:], [[0, 0, 0, 1], [0, 0, 0, 2], [0, 1, 1, 1, 1]])
