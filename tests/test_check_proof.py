"""The call check_proof."""

from asking import ACTOR, CONTAINER, FAR, IN, TRANSPARENT, WorldTest, add_object, add_place, ask, can_see
from asking import check_proof, list_contents, locate, move_object, set_property, set_window, unseen

# The lit place 1 with the actor 4, the dark places 2 and 3, a clear box 5 in 2 with a thing 6 in it, and a closed
# box 7 in 1 with a thing 8 in it. Light passes 1-2, 2-3 and 2-5; sight the same, but not from 3 into 2.
TOWN = [
    add_place(1),
    add_place(0),
    add_place(0),
    add_object(1, IN, ACTOR),
    add_object(2, IN, CONTAINER + TRANSPARENT),
    add_object(5, IN),
    add_object(1, IN, CONTAINER),
    add_object(7, IN),
    set_window(1, 2, 1),
    set_window(2, 3, 3),
]
ALL = [1, 2, 3, 5]
DARK = TOWN + [set_property(1, 6, 0)]
NO_SPACES = (4, 6, 8, 9, 59, 60)


class CheckTest(WorldTest):
    """The proofs are for this answer and about this object, if no other one is named."""

    ANSWER, X = 1, 6

    def checks(self, expected, world, v, x, answer, p, q):
        with self.subTest(v=v, x=x, answer=answer, p=p, q=q):
            self.does([0, expected], world, check_proof(v, x, answer, p, q))

    def accepts(self, p, q, v=4, x=None, world=TOWN):
        self.checks(1, world, v, x or self.X, self.ANSWER, p, q)

    def refuses_proof(self, p, q, v=4, x=None, world=TOWN):
        self.checks(0, world, v, x or self.X, self.ANSWER, p, q)


class PositiveTest(CheckTest):
    ANSWER, X = 1, 6

    def test_paths_to_a_space_in_which_x_is_met(self):
        self.accepts([1, 2, 5], [1, 2, 5])

    def test_lists_of_one_number(self):
        for x in (1, 4, 7):
            self.accepts([1], [1], x=x)
        for p, q in (([2], [2]), ([1], [2]), ([2], [1]), ([3], [3]), ([7], [7]), ([4], [4]), ([60], [60])):
            self.refuses_proof(p, q, x=4)

    def test_any_path_will_do(self):
        self.accepts([1, 2, 1, 2, 5], [1, 2, 5])
        self.accepts([1, 2, 5, 2, 5], [1, 2, 5, 2, 1, 2, 5])
        self.accepts([1, 2, 5], [1, 2, 3, 2, 5])
        self.accepts([1, 2, 1], [1], x=4)

    def test_either_space_of_a_box(self):
        self.accepts([1, 2], [1, 2], x=5)
        self.accepts([1, 2, 5], [1, 2, 5], x=5)
        self.refuses_proof([1, 2], [1, 2, 5], x=5)
        self.refuses_proof([1, 2, 5], [1, 2], x=5)

    def test_an_empty_list_is_never_accepted(self):
        for p, q in (([], []), ([], [1]), ([1], []), ([], [1, 2, 5]), ([1, 2, 5], [])):
            for x in (1, 4, 6, 8):
                self.refuses_proof(p, q, x=x)
        self.refuses_proof([], [], world=DARK)

    def test_p_starts_where_v_lies(self):
        for p in ([2, 5], [5], [2, 1, 2, 5], [7], [4, 2, 5], [4, 1, 2, 5], [60, 1, 2, 5]):
            self.refuses_proof(p, [1, 2, 5])

    def test_q_starts_where_a_luminous_object_lies(self):
        for q in ([2, 5], [5], [2, 1, 2, 5], [3, 2, 5], [4, 1, 2, 5], [60, 1, 2, 5]):
            self.refuses_proof([1, 2, 5], q)
        for lamp, q in ((5, [2, 5]), (6, [5]), (3, [3, 2, 5])):
            self.accepts([1, 2, 5], q, world=TOWN + [set_property(lamp, 6, 1)])
        self.refuses_proof([1, 2, 5], [1, 2, 5], world=DARK)
        self.accepts([1, 2, 5], [1, 2, 5], world=DARK + [set_property(4, 6, 1)])

    def test_a_luminous_object_lies_outside_its_own_space(self):
        world = DARK + [set_property(5, 6, 1)]
        self.refuses_proof([1, 2, 5], [5], world=world)
        self.accepts([1, 2, 5], [2, 5], world=world)

    def test_each_step_is_linked(self):
        for wrong in ([1, 5], [1, 3, 2, 5], [1, 7, 2, 5], [1, 2, 3, 5], [1, 2, 7, 5]):
            self.refuses_proof(wrong, [1, 2, 5])
            self.refuses_proof([1, 2, 5], wrong)
        self.refuses_proof([1, 7], [1, 7], x=8)

    def test_the_last_step_counts(self):
        self.refuses_proof([1, 2, 1, 5], [1, 2, 5])
        self.refuses_proof([1, 2, 5], [1, 2, 1, 5])

    def test_the_first_step_counts(self):
        self.refuses_proof([1, 5, 2, 5], [1, 2, 5])
        self.refuses_proof([1, 2, 5], [1, 5, 2, 5])

    def test_a_space_is_not_linked_to_itself(self):
        for wrong in ([1, 1, 2, 5], [1, 2, 2, 5], [1, 2, 5, 5]):
            self.refuses_proof(wrong, [1, 2, 5])
            self.refuses_proof([1, 2, 5], wrong)
        self.refuses_proof([1, 1], [1], x=4)
        self.refuses_proof([1], [1, 1], x=4)

    def test_a_step_that_is_linked_for_light_but_not_for_sight(self):
        self.refuses_proof([1, 2, 3, 2, 5], [1, 2, 5])
        self.accepts([1, 2, 5], [1, 2, 3, 2, 5])
        self.accepts([1, 2, 3], [1, 2, 3], x=3)
        other_way = TOWN + [set_window(3, 2, 3)]
        self.refuses_proof([1, 2, 3], [1, 2, 3], x=3, world=other_way)
        self.refuses_proof([1, 2, 3], [1, 2, 3], x=3, world=TOWN + [set_window(2, 3, 0)])
        self.accepts([1, 2, 3], [1, 2, 3], x=3, world=TOWN + [set_window(3, 2, 1)])

    def test_a_step_into_a_closed_box(self):
        closed = TOWN + [set_property(5, 5, 0)]
        self.refuses_proof([1, 2, 5], [1, 2, 5], world=closed)
        self.accepts([1, 2, 5], [1, 2, 5], world=closed + [set_property(5, 4, 1)])

    def test_numbers_that_are_no_spaces(self):
        for n in NO_SPACES:
            for wrong in ([1, 2, n, 5], [1, n, 2, 5], [1, 2, 5, n], [n], [1, n]):
                self.refuses_proof(wrong, [1, 2, 5])
                self.refuses_proof([1, 2, 5], wrong)
                self.refuses_proof(wrong, wrong)

    def test_both_end_where_x_is_met(self):
        for p, q in (([1, 2, 5], [1, 2]), ([1, 2], [1, 2, 5]), ([1, 2], [1, 2]), ([1], [1]), ([1, 2, 5], [1]),
                     ([1, 2, 3], [1, 2, 3]), ([1, 2, 5, 2], [1, 2, 5, 2])):
            self.refuses_proof(p, q)

    def test_the_lists_are_not_exchanged(self):
        world = DARK + [set_property(6, 6, 1)]
        self.accepts([1], [5, 2, 1], x=4, world=world)
        self.refuses_proof([5, 2, 1], [1], x=4, world=world)

    def test_the_lists_of_a_negative_answer(self):
        self.refuses_proof(ALL, [], x=8)
        self.refuses_proof([1, 2, 5, 3], [3, 2, 1, 5], world=DARK)
        self.refuses_proof([1], [1], x=4, world=DARK)

    def test_from_within_a_box(self):
        world = TOWN + [add_object(5, IN, ACTOR)]
        self.accepts([5, 2, 1], [1], v=9, x=4, world=world)
        self.accepts([5], [1, 2, 5], v=9, x=5, world=world)
        self.refuses_proof([2, 1], [1], v=9, x=4, world=world)


class NegativeTest(CheckTest):
    ANSWER, X = 0, 8

    def test_sets_that_no_link_leaves(self):
        self.accepts(ALL, [])
        self.accepts(ALL, ALL, x=4, world=DARK)
        self.accepts(ALL, ALL, x=6, world=DARK)

    def test_in_any_order_and_repeated(self):
        self.accepts([5, 3, 2, 1], [])
        self.accepts([3, 3, 1, 5, 2, 1], [])
        self.accepts([5, 3, 2, 1, 1], [2, 3, 5, 1, 5], x=6, world=DARK)

    def test_an_empty_p_is_refused(self):
        for q in ([], [1], ALL, [7], [60]):
            for x in (4, 6, 8):
                self.refuses_proof([], q, x=x)
                self.refuses_proof([], q, x=x, world=DARK)

    def test_an_empty_q(self):
        self.accepts(ALL, [])
        self.refuses_proof(ALL, [], x=6)
        self.refuses_proof(ALL, [], x=6, world=DARK)
        self.refuses_proof(ALL, [], x=4, world=DARK)

    def test_lists_of_one_number(self):
        hall = [add_place(0), add_object(1, IN, ACTOR)]
        self.accepts([1], [1], v=2, x=2, world=hall)
        self.accepts([1], [1], v=2, x=1, world=hall)
        self.refuses_proof([2], [1], v=2, x=2, world=hall)
        self.refuses_proof([1], [2], v=2, x=2, world=hall)
        self.refuses_proof([1], [1], v=2, x=2, world=hall + [set_property(1, 6, 1)])

    def test_p_contains_the_space_in_which_v_lies(self):
        for p in ([7], [2, 3, 5], [60], [4], [3], [8, 7]):
            self.refuses_proof(p, [])
        lonely = TOWN + [set_window(1, 2, 0)]
        self.accepts([1], [], world=lonely)
        self.refuses_proof([2, 3, 5], [], world=lonely)
        self.accepts([2, 3, 5, 1], [], world=lonely)

    def test_no_link_of_sight_leaves_p(self):
        for p in ([1], [1, 2], [1, 2, 3], [1, 2, 5], [1, 3, 5], [1, 7], [2, 1, 1, 3, 60]):
            self.refuses_proof(p, [])
            self.refuses_proof(p, ALL, world=DARK)

    def test_no_link_of_light_leaves_q(self):
        for q in ([2], [1], [2, 3], [3], [5], [2, 5], [1, 2, 3], [1, 2, 5], [1, 3, 5]):
            self.refuses_proof(ALL, q, world=DARK)
            self.refuses_proof(ALL, q)
        self.accepts(ALL, ALL, world=DARK)

    def test_links_for_light_but_not_for_sight(self):
        # The actor in 3 sees nothing but 3; light passes from 3 to the others, too.
        world = DARK + [move_object(4, 3, IN)]
        self.accepts([3], [], x=6, world=world)
        self.accepts([3], [], x=8, world=world)
        self.refuses_proof([3], [3], x=8, world=world)
        self.refuses_proof([3], [3], x=4, world=world)
        self.accepts([3], ALL, x=4, world=world)
        self.refuses_proof([3], ALL, x=4, world=TOWN + [move_object(4, 3, IN)])
        self.refuses_proof([3, 2], [], x=8, world=world)

    def test_each_space_of_p_in_which_x_is_met_is_in_q(self):
        self.refuses_proof(ALL, [7], x=6, world=DARK)
        self.refuses_proof(ALL, [7], x=5, world=DARK)
        self.accepts(ALL, ALL, x=5, world=DARK)
        # The box 7 is met in 1 and in its own space, that no light comes to or from.
        self.refuses_proof(ALL, [7], x=7, world=DARK)
        self.accepts(ALL, ALL, x=7, world=DARK)
        self.refuses_proof(ALL + [7], ALL, x=7, world=DARK)
        self.accepts(ALL + [7], ALL + [7], x=7, world=DARK)
        # What is within 7 is met in no space of p, unless p has it without need.
        self.accepts(ALL, [7])
        self.refuses_proof(ALL + [7], [])
        self.accepts(ALL + [7], [7])

    def test_no_luminous_object_lies_in_q(self):
        self.refuses_proof(ALL, ALL)
        for lamp in (1, 2, 3, 4, 5, 6, 7):
            self.refuses_proof(ALL, ALL, x=4, world=DARK + [set_property(lamp, 6, 1)])
        self.accepts(ALL, ALL, x=4, world=DARK + [set_property(8, 6, 1)])
        self.refuses_proof(ALL + [7], ALL + [7], x=4, world=DARK + [set_property(8, 6, 1)])
        self.refuses_proof(ALL, [7], world=TOWN + [set_property(8, 6, 1)])

    def test_a_luminous_box_is_dark_inside(self):
        self.accepts(ALL, [7], world=TOWN + [set_property(7, 6, 1)])
        world = TOWN + [set_property(7, 6, 1), add_object(7, IN, ACTOR)]
        self.accepts([7], [7], v=9, x=8, world=world)
        self.accepts([7], [7], v=9, x=7, world=world)
        self.refuses_proof([7], [], v=9, x=7, world=world)
        self.refuses_proof([7], [7], v=9, x=7, world=world + [set_property(9, 6, 1)])

    def test_numbers_that_are_no_spaces(self):
        for n in NO_SPACES:
            self.accepts(ALL + [n], [])
            self.accepts([n] + ALL, [n])
            self.accepts([n] + ALL, ALL + [n], x=4, world=DARK)
            # A luminous object n lies in no space n.
            if n <= 8:
                self.accepts(ALL, [n], world=TOWN + [set_property(n, 6, 1)])

    def test_the_lists_are_not_exchanged(self):
        self.refuses_proof([], ALL)
        self.refuses_proof([7], ALL, world=DARK)
        self.accepts(ALL, [7], world=DARK)

    def test_the_lists_of_a_positive_answer(self):
        self.refuses_proof([1, 2, 5], [1, 2, 5], x=6)
        self.refuses_proof([1], [1], x=4)
        self.refuses_proof([1], [5, 2, 1], x=4, world=DARK + [set_property(6, 6, 1)])
        self.refuses_proof([1, 2, 5], [1, 2, 5], x=6, world=DARK)

    def test_what_is_seen_is_never_proved_unseen(self):
        for q in ([], [5], [2, 5], ALL, [7], [60], [5, 2, 3]):
            self.refuses_proof(ALL, q, x=6)
            self.refuses_proof(ALL + [7], q, x=6)


class ArgumentTest(CheckTest):
    def test_lists_of_sixty_numbers(self):
        self.checks(1, TOWN, 4, 5, 1, [1, 2] * 30, [1, 2] * 30)
        self.checks(0, TOWN, 4, 6, 1, [1, 2] * 30, [1, 2] * 30)
        self.checks(1, TOWN, 4, 8, 0, ALL * 15, [])
        self.checks(1, DARK, 4, 6, 0, ALL * 15, ALL * 15)
        self.checks(0, DARK, 4, 6, 0, ALL * 15, [])
        self.checks(1, TOWN, 4, 8, 0, list(range(1, 61)), [7])

    def test_lists_of_more_than_sixty_numbers(self):
        for count in (61, 62, 69, 70):
            row = ([1, 2] * 35)[:count]
            for answer in (0, 1):
                for p, q in ((row, [1]), ([1], row), (row, []), ([], row), (row, row)):
                    with self.subTest(count=count, answer=answer):
                        self.refuses(-1, TOWN, check_proof(4, 4, answer, p, q))
            self.refuses(-1, TOWN, check_proof(4, 8, 0, (ALL * 20)[:count], []))

    def test_numbers_at_the_edges_and_beyond(self):
        for answer in (0, 1):
            for n in (1, 60):
                for p, q in (([n], [1]), ([1], [n])):
                    self.assertEqual(ask(*TOWN, check_proof(4, 4, answer, p, q))[-1][0], 0)
            for n in (0, 61, -1, 62, -60, FAR, -FAR, FAR - 1):
                for p, q in (([n], [1]), ([1], [n]), ([1, n], [1]), ([1], [1, n, 1]), ([n, 1], []), ([], [n, 1]),
                             ([1] * 59 + [n], []), ([n], [n])):
                    with self.subTest(answer=answer, p=p, q=q):
                        self.refuses(-1, TOWN, check_proof(4, 4, answer, p, q))

    def test_the_answer_is_0_or_1(self):
        for answer in (2, -1, 3, FAR, -FAR):
            self.refuses(-1, TOWN, check_proof(4, 4, answer, [1], [1]))
            self.refuses(-1, TOWN, check_proof(4, 4, answer, [], []))

    def test_wrong_arguments(self):
        for call, expected in (
            (check_proof(0, 4, 1, [1], [1]), -1),
            (check_proof(61, 4, 1, [1], [1]), -1),
            (check_proof(4, 0, 1, [1], [1]), -1),
            (check_proof(4, 61, 1, [1], [1]), -1),
            (check_proof(FAR, 4, 0, [], []), -1),
            (check_proof(4, -FAR, 0, [], []), -1),
            (check_proof(9, 4, 1, [1], [1]), -2),
            (check_proof(4, 9, 1, [1], [1]), -2),
            (check_proof(60, 60, 0, [], []), -2),
            (check_proof(1, 4, 1, [1], [1]), -3),
            (check_proof(5, 4, 0, ALL, []), -3),
            (check_proof(6, 9, 0, [], []), -2),
            (check_proof(9, 9, 2, [], []), -1),
            (check_proof(9, 9, 1, [61], []), -1),
            (check_proof(9, 9, 1, [], [0]), -1),
            (check_proof(6, 4, 1, [1] * 61, []), -1),
            (check_proof(6, 4, 1, [], [1] * 61), -1),
        ):
            with self.subTest(call=call):
                self.refuses(expected, TOWN, call)

    def test_the_calls_behind_it_are_found(self):
        for p, q in (([], []), ([1], []), ([], [1]), ([9, 9], [9, 9, 9]), ([1] * 70, [FAR] * 70), ([0], [14, 4])):
            for answer in (0, 1, 2):
                told = ask(*TOWN, check_proof(4, 6, answer, p, q), locate(6),
                           check_proof(4, 6, answer, q, p), locate(7))
                with self.subTest(p=p, q=q, answer=answer):
                    self.assertEqual(len(told), len(TOWN) + 4)
                    self.assertEqual([told[-3], told[-1]], [[0, 5, 1, 5, 5, 2], [0, 1, 1, 1, 1]])

    def test_it_changes_nothing(self):
        told = ask(*TOWN, check_proof(4, 8, 0, ALL, []), check_proof(4, 8, 0, ALL, []), can_see(4, 8),
                   list_contents(1))
        self.assertEqual(told[-4:], [[0, 1], [0, 1], unseen(ALL, []), [0, 4, 1, 7, 1]])
