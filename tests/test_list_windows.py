"""The call list_windows."""

from asking import ACTOR, FAR, IN, WorldTest, add_object, add_place, ask, list_windows, set_window

PLACES = [add_place(0)] * 5


class ListWindowsTest(WorldTest):
    def windows(self, expected, *set_ones):
        world = PLACES + [set_window(*window) for window in set_ones]
        self.does([0] + [field for window in expected for field in window], world, list_windows())

    def test_none(self):
        self.assertEqual(ask(list_windows()), [[0]])
        self.windows([])

    def test_each_kind(self):
        for kind in (1, 2, 3):
            self.windows([(1, 2, kind)], (1, 2, kind))
            self.windows([(2, 1, kind)], (2, 1, kind))

    def test_in_the_order_in_which_they_were_set(self):
        rows = [(4, 5, 1), (1, 2, 3), (3, 1, 2), (2, 3, 1), (5, 1, 3)]
        self.windows(rows, *rows)
        self.windows(rows[::-1], *rows[::-1])

    def test_a_window_that_is_replaced_moves_to_the_end(self):
        first = [(1, 2, 1), (2, 3, 2), (3, 4, 3)]
        for kind in (1, 2, 3):
            self.windows(first[1:] + [(1, 2, kind)], *first, (1, 2, kind))
            self.windows([first[0], first[2], (2, 3, kind)], *first, (2, 3, kind))
            self.windows(first[:2] + [(3, 4, kind)], *first, (3, 4, kind))

    def test_also_with_its_places_exchanged(self):
        first = [(1, 2, 1), (2, 3, 2), (3, 4, 3)]
        for kind in (1, 2, 3):
            self.windows(first[1:] + [(2, 1, kind)], *first, (2, 1, kind))
            self.windows([first[0], first[2], (3, 2, kind)], *first, (3, 2, kind))
            self.windows(first[:2] + [(4, 3, kind)], *first, (4, 3, kind))

    def test_kind_0_takes_it_away(self):
        first = [(1, 2, 1), (2, 3, 2), (3, 4, 3)]
        self.windows(first[1:], *first, (1, 2, 0))
        self.windows([first[0], first[2]], *first, (3, 2, 0))
        self.windows(first[:2], *first, (4, 3, 0))
        self.windows(first, *first, (1, 3, 0))
        self.windows([], (1, 2, 3), (2, 1, 0))
        self.windows([], (1, 2, 0))

    def test_one_that_was_taken_away_and_set_again_comes_last(self):
        self.windows([(2, 3, 1), (2, 1, 1)], (1, 2, 1), (2, 3, 1), (1, 2, 0), (2, 1, 1))

    def test_all_the_windows_of_many_places(self):
        pairs = [(a, b, 1 + (a + b) % 3) for a in range(1, 26) for b in range(a + 1, 26)]
        told = ask(*[add_place(0)] * 25, *[set_window(*window) for window in pairs], list_windows())
        self.assertEqual(told[-1], [0] + [field for window in pairs for field in window])

    def test_a_refused_window_is_not_there(self):
        world = PLACES + [add_object(1, IN, ACTOR), set_window(1, 2, 1), set_window(2, 3, 1)]
        for call in (set_window(1, 1, 2), set_window(1, 6, 2), set_window(1, 7, 2), set_window(1, 2, 4),
                     set_window(1, 2, -1), set_window(2, 1, FAR), set_window(2, 2, 0), set_window(6, 2, 0)):
            with self.subTest(call=call):
                self.does([0, 1, 2, 1, 2, 3, 1], world, call, list_windows())

    def test_it_changes_nothing(self):
        self.assertEqual(ask(*PLACES, set_window(3, 2, 3), *[list_windows()] * 3)[-3:], [[0, 3, 2, 3]] * 3)
