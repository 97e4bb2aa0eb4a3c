"""Points [5] and [6]: parents, children, heaps."""

import itertools
import unittest

from heapcode.items import child, first_fault, is_heap, parent

BIG = 10 ** 30


def marked(keys):
    """The list of items with these keys and the places as marks."""
    return [(key, mark) for mark, key in enumerate(keys)]


class TestPlaces(unittest.TestCase):

    def test_the_place_0_has_no_parent(self):
        for width in (2, 3, 4):
            self.assertIsNone(parent(0, width))

    def test_parents_of_the_first_places(self):
        self.assertEqual([parent(place, 2) for place in range(1, 8)], [0, 0, 1, 1, 2, 2, 3])
        self.assertEqual([parent(place, 3) for place in range(1, 11)], [0, 0, 0, 1, 1, 1, 2, 2, 2, 3])
        self.assertEqual([parent(place, 4) for place in range(1, 10)], [0, 0, 0, 0, 1, 1, 1, 1, 2])

    def test_children_of_the_first_places(self):
        self.assertEqual([child(0, 1, 2), child(0, 2, 2), child(3, 1, 2), child(3, 2, 2)], [1, 2, 7, 8])
        self.assertEqual([child(0, 3, 3), child(2, 1, 3), child(2, 2, 3)], [3, 7, 8])
        self.assertEqual([child(0, 4, 4), child(5, 1, 4), child(5, 4, 4)], [4, 21, 24])

    def test_the_parent_of_each_child_is_the_place(self):
        for width in (2, 3, 4):
            for place in [*range(50), BIG - 1, BIG, BIG + 1, 7 * BIG + 123]:
                for number in range(1, width + 1):
                    with self.subTest(width=width, place=place, number=number):
                        self.assertEqual(child(place, number, width), width * place + number)
                        self.assertEqual(parent(width * place + number, width), place)

    def test_names_of_the_arguments(self):
        self.assertEqual(parent(width=3, place=10), 3)
        self.assertEqual(child(number=2, width=3, place=BIG), 3 * BIG + 2)
        self.assertIs(is_heap(width=2, items=[(1, 1), (0, 2)]), False)
        self.assertEqual(first_fault(width=2, items=[(1, 1), (0, 2)]), 1)


class TestHeaps(unittest.TestCase):

    def test_short_lists_are_heaps(self):
        for width in (2, 3, 4):
            for items in ([], (), [(3, 1)], [(-BIG, BIG)]):
                self.assertIs(is_heap(items, width), True)
                self.assertIsNone(first_fault(items, width))

    def test_equal_keys_are_no_fault_whatever_the_marks(self):
        for width in (2, 3, 4):
            items = [(4, 20 - mark) for mark in range(20)]
            self.assertIs(is_heap(items, width), True)
            self.assertIsNone(first_fault(items, width))

    def test_one_list_at_three_widths(self):
        items = marked([0, 5, 1, 2, 4])
        self.assertEqual([first_fault(items, width) for width in (2, 3, 4)], [3, 4, None])
        self.assertEqual([is_heap(items, width) for width in (2, 3, 4)], [False, False, True])

    def test_the_least_fault_is_told(self):
        self.assertEqual(first_fault(marked([5, 6, 4, 1, 9]), 2), 2)
        self.assertEqual(first_fault(marked([5, 6, 7, 6, 5, 6]), 2), 4)
        self.assertEqual(first_fault(marked([5, 4, 3]), 2), 1)

    def test_a_fault_at_the_last_place(self):
        for width in (2, 3, 4):
            for size in range(2, 30):
                keys = [2] * (size - 1) + [1]
                with self.subTest(width=width, size=size):
                    self.assertEqual(first_fault(marked(keys), width), size - 1)

    def test_big_keys(self):
        self.assertIs(is_heap([(BIG, 1), (BIG + 1, 2), (BIG, 3)], 2), True)
        self.assertEqual(first_fault([(BIG, 1), (BIG + 1, 2), (BIG - 1, 3)], 2), 2)
        self.assertEqual(first_fault([(-BIG, 1), (-BIG - 1, 2)], 4), 1)

    def test_a_tuple_is_as_good_as_a_list(self):
        self.assertIs(is_heap(((1, 1), (2, 2)), 2), True)
        self.assertEqual(first_fault(((1, 1), (0, 2)), 2), 1)

    def test_all_lists_of_three_keys_and_up_to_five_places(self):
        for size in range(6):
            for keys in itertools.product((1, 2, 3), repeat=size):
                for width in (2, 3, 4):
                    faults = [at for at in range(1, size) if keys[at] < keys[(at - 1) // width]]
                    fault = faults[0] if faults else None
                    self.assertEqual(first_fault(marked(keys), width), fault)
                    self.assertIs(is_heap(marked(keys), width), fault is None)


if __name__ == "__main__":
    unittest.main()
