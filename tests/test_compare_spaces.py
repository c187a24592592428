"""The call compare_spaces."""

from asking import ACTOR, CONTAINER, FAR, HELD, IN, ON, OPEN, PART, SUPPORTER, WORN, WorldTest
from asking import add_object, add_place, ask, behind_length, compare_spaces, move_object, set_window

EVERYTHING = CONTAINER + SUPPORTER + ACTOR

# The hall 1 with the boxes 3 and 4, 5 in the box 3; in the other hall 2 the box 6 with the box 7 in it, 8 in the box 7.
HALLS = [
    add_place(1),
    add_place(1),
    add_object(1, IN, CONTAINER),
    add_object(1, IN, CONTAINER),
    add_object(3, IN),
    add_object(2, IN, CONTAINER),
    add_object(6, IN, CONTAINER),
    add_object(7, IN),
]


class CompareSpacesTest(WorldTest):
    def compares(self, same, spaces_a, spaces_b, world, a, b):
        with self.subTest(a=a, b=b):
            self.does([0, same] + behind_length([spaces_a, spaces_b]), world, compare_spaces(a, b))
            self.does([0, same] + behind_length([spaces_b, spaces_a]), world, compare_spaces(b, a))

    def test_the_example_of_the_document(self):
        self.does([0, 1, 1, 3, 0], HALLS, compare_spaces(5, 4))
        self.does([0, 1, 0, 1, 3], HALLS, compare_spaces(4, 5))

    def test_the_same_object_twice(self):
        for n in range(1, 9):
            self.compares(1, [], [], HALLS, n, n)

    def test_two_objects_in_the_same_space(self):
        self.compares(1, [], [], HALLS, 3, 4)
        self.compares(1, [], [], HALLS, 1, 3)
        self.compares(1, [], [], HALLS, 2, 6)

    def test_one_within_the_other(self):
        self.compares(1, [3], [], HALLS, 5, 3)
        self.compares(1, [3], [], HALLS, 5, 1)
        self.compares(1, [7, 6], [], HALLS, 8, 6)
        self.compares(1, [7], [], HALLS, 8, 7)
        self.compares(1, [6], [], HALLS, 7, 6)
        self.compares(1, [7, 6], [], HALLS, 8, 2)

    def test_each_in_a_box_of_its_own(self):
        world = HALLS + [add_object(4, IN)]
        self.compares(1, [3], [4], world, 5, 9)
        world = HALLS + [move_object(6, 3, IN), add_object(4, IN)]
        self.compares(1, [7, 6, 3], [4], world, 8, 9)
        self.compares(1, [7, 6], [], world, 8, 5)

    def test_different_places(self):
        self.compares(0, [1], [2], HALLS, 1, 2)
        self.compares(0, [1], [2], HALLS, 3, 2)
        self.compares(0, [3, 1], [7, 6, 2], HALLS, 5, 8)
        self.compares(0, [3, 1], [2], HALLS, 5, 6)

    def test_windows_are_not_considered(self):
        for kind in (1, 2, 3):
            self.compares(0, [3, 1], [7, 6, 2], HALLS + [set_window(1, 2, kind)], 5, 8)

    def test_walls_that_let_pass_count_like_others(self):
        world = [add_place(1), add_object(1, IN, CONTAINER + OPEN), add_object(2, IN), add_object(1, IN)]
        self.compares(1, [2], [], world, 3, 4)

    def test_only_what_is_in_a_box_lies_in_its_space(self):
        for relation, spaces in ((IN, [2]), (ON, []), (HELD, []), (WORN, []), (PART, [])):
            world = [add_place(1), add_object(1, IN, EVERYTHING), add_object(2, relation), add_object(1, IN)]
            with self.subTest(relation=relation):
                self.compares(1, spaces, [], world, 3, 4)

    def test_a_box_on_something_in_a_box(self):
        world = [add_place(1), add_object(1, PART, CONTAINER), add_object(2, IN, SUPPORTER),
                 add_object(3, ON, CONTAINER), add_object(4, IN, ACTOR), add_object(5, HELD)]
        self.compares(1, [4, 2], [], world, 6, 1)
        self.compares(1, [4], [], world, 6, 3)
        self.compares(1, [], [], world, 6, 5)

    def test_sixty_objects(self):
        world = [add_place(0)] + [add_object(n, IN, CONTAINER) for n in range(1, 60)]
        self.compares(1, list(range(59, 1, -1)), [], world, 60, 1)
        self.compares(1, list(range(59, 29, -1)), [], world, 60, 30)
        boxes = [add_object(n, IN, CONTAINER) for n in range(3, 60)]
        world = [add_place(0), add_place(0), add_object(1, IN, CONTAINER)] + boxes
        self.compares(0, list(range(59, 2, -1)) + [1], [2], world, 60, 2)

    def test_it_changes_nothing(self):
        self.assertEqual(ask(*HALLS, *[compare_spaces(5, 8)] * 2)[-2:], [[0, 0, 2, 3, 1, 3, 7, 6, 2]] * 2)

    def test_wrong_arguments(self):
        for a, b, expected in ((0, 1, -1), (1, 0, -1), (61, 1, -1), (1, 61, -1), (FAR, 1, -1), (1, -FAR, -1),
                               (9, 1, -2), (1, 9, -2), (60, 60, -2), (9, 61, -1), (0, 9, -1)):
            with self.subTest(a=a, b=b):
                self.refuses(expected, HALLS, compare_spaces(a, b))
