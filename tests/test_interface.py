"""The list that is handed in, the list that is given back, and the example."""

import unittest

from asking import ACTOR, add_object, add_place, answers, ask, can_see, check_proof, drop, flat, is_lit, list_reachable
from asking import list_visible, list_windows, locate, open_or_close, set_property, set_window, take

EXAMPLE = [
    [0, 1],
    [1, 1, 1, 4, 50, 100],
    [1, 1, 1, 9, 30, 20],
    [1, 3, 1, 64, 5, 0],
    [14, 2],
    [11, 2, 4],
    [8, 2, 3, 1],
    [14, 2],
    [5, 2, 4],
    [9, 4],
]
EXAMPLE_ANSWERS = [[0, 1], [0, 2], [0, 3], [0, 4], [0, 1, 2, 3], [0, 0, 1, 1, 0], [0], [0, 1, 2, 3, 4], [0],
                   [0, 2, 3, 1, 2, 1]]


class InterfaceTest(unittest.TestCase):
    def test_the_rows_of_the_example(self):
        self.assertEqual(ask(*EXAMPLE), EXAMPLE_ANSWERS)

    def test_each_answer_stands_behind_its_length(self):
        told = answers([0, 1, 1, 1, 1, 4, 50, 100, 9, 7, 9, 2, 3, 2, 3, 1])
        self.assertEqual(told, [2, 0, 1, 2, 0, 2, 1, -2, 5, 0, 1, 1, 1, 1, 1, 0])
        told = answers([0, 1, 1, 1, 1, 4, 50, 100, 12, 2, 2, 1, 1, 1, 1, 1, 19, 10, 1, 11, 2, 2, 14, 2, 13, 1])
        self.assertEqual(told, [2, 0, 1, 2, 0, 2, 2, 0, 1, 1, 0, 3, 0, 2, 1, 6, 0, 1, 1, 1, 1, 1, 3, 0, 1, 2,
                                3, 0, 1, 1])

    def test_a_single_call(self):
        self.assertEqual(answers([0, 0]), [2, 0, 1])
        self.assertEqual(answers([0, 2]), [1, -1])
        self.assertEqual(answers([19]), [1, 0])
        self.assertEqual(answers([12, 1, 1, 0, 0, 0]), [1, -2])
        self.assertEqual(answers([12, 1, 1, 0, 2, 1, 61, 1, 1]), [1, -1])

    def test_failed_calls_do_not_end_the_list(self):
        mixed = []
        expected = []
        for call, answer in zip(EXAMPLE, EXAMPLE_ANSWERS):
            mixed += [[0, 2], call, [9, 60], [5, 0, 1]]
            expected += [[-1], answer, [-2], [-1]]
        self.assertEqual(ask(*mixed), expected)

    def test_the_same_list_a_second_time_answers_the_same(self):
        calls = flat(EXAMPLE)
        first = answers(calls)
        self.assertEqual(answers(calls), first)
        self.assertIsNot(answers(calls), first)

    def test_nothing_is_kept_from_one_list_to_the_next(self):
        answers([0, 1, 0, 1, 4, 1, 2, 2])
        self.assertEqual(answers([9, 1]), [1, -2])
        self.assertEqual(answers([0, 0]), [2, 0, 1])
        self.assertEqual(answers([19]), [1, 0])
        # Without the window of the first list the second place stays dark.
        world = [add_place(1), add_place(0), add_object(2, 1, ACTOR, 0, 9), add_object(2, 1)]
        self.assertEqual(ask(*world, take(3, 4), is_lit(2), list_visible(3), list_reachable(3), list_windows())[-5:],
                         [[-4], [0, 0], [0], [0, 3], [0]])

    def test_what_is_given_back_may_be_changed_by_the_caller(self):
        told = answers([0, 1])
        told.append(7)
        self.assertEqual(answers([0, 1]), [2, 0, 1])

    def test_the_list_handed_in_stays_as_it_was(self):
        calls = flat(EXAMPLE + [[5, 2, 60], [0, 5], [6, 2, 4, 3, 1], [7, 2, 4], [4, 1, 1, 0],
                                [12, 2, 4, 1, 2, 1, 3, 1, 1], [12, 2, 4, 0, 3, 3, 1, 1, 2, 61, 7], [19]])
        copied = list(calls)
        answers(calls)
        self.assertEqual(calls, copied)

    def test_whole_numbers_are_given_back(self):
        calls = EXAMPLE + [add_place(0), set_window(1, 5, 1), set_property(3, 4, 0), open_or_close(2, 3, 1)]
        calls += [drop(2, 4), locate(4), take(2, 60), can_see(2, 4), check_proof(2, 4, 1, [1], [1]), is_lit(3),
                  is_lit(5), check_proof(2, 4, 0, [1], []), [10, 1], [15, 2], [16, 1], [17, 4, 5], [18, 4],
                  list_windows()]
        told = answers(flat(calls))
        self.assertIs(type(told), list)
        self.assertEqual({type(number) for number in told}, {int})

    def test_four_hundred_calls(self):
        told = ask(*[add_place(1)] * 60, *[locate(60)] * 340)
        self.assertEqual(told, [[0, n] for n in range(1, 61)] + [[0, 0, 0, 60]] * 340)

    def test_sixteen_thousand_numbers(self):
        proof = check_proof(2, 2, 1, [1] * 15, [1] * 15)
        world = [add_place(1), add_object(1, 1, ACTOR)]
        told = ask(*world, *[proof] * 398)
        self.assertEqual(told, [[0, 1], [0, 2]] + [[0, 0]] * 398)
        told = ask(*world, *[check_proof(2, 2, 0, [61] * 70, [1] * 70)] * 100, can_see(2, 2))
        self.assertEqual(told, [[0, 1], [0, 2]] + [[-1]] * 100 + [[0, 1, 1, 1, 1, 1]])
