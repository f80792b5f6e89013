"""Point 10: the tree's order, behind, depth and spot."""

import unittest
from random import Random

from helper import depth_in, grown, order_of
from stylehouse.errors import NoBox
from stylehouse.tree import Tree
from stylehouse.walks import beneath, behind, depth_of, gathered, spot_of


def small():
    """0 holds 3, 1, 2; 1 holds 5, 4; 4 holds 6."""
    tree = Tree("house")
    tree.put(0, 0, "a")
    tree.put(0, 1, "b")
    tree.put(0, 0, "c")
    tree.put(1, 0, "d")
    tree.put(1, 0, "e")
    tree.put(4, 0, "f")
    return tree


class WalksTest(unittest.TestCase):
    def told(self, tree):
        return {
            box: (beneath(tree, box), behind(tree, box), depth_of(tree, box), spot_of(tree, box))
            for box in order_of(tree)
        }

    def test_a_root_alone(self):
        self.assertEqual(self.told(Tree("house")), {0: ([], [], 0, (1, 1))})

    def test_behind_puts(self):
        self.assertEqual(self.told(small()), {
            0: ([3, 1, 5, 4, 6, 2], [], 0, (1, 1)),
            3: ([], [1, 2], 1, (1, 3)),
            1: ([5, 4, 6], [2], 1, (2, 3)),
            5: ([], [4], 2, (1, 2)),
            4: ([6], [], 2, (2, 2)),
            6: ([], [], 3, (1, 1)),
            2: ([], [], 1, (3, 3)),
        })

    def test_behind_moves_and_cuts(self):
        tree = small()
        tree.move(4, 0, 0)
        self.assertEqual(self.told(tree), {
            0: ([4, 6, 3, 1, 5, 2], [], 0, (1, 1)),
            4: ([6], [3, 1, 2], 1, (1, 4)),
            6: ([], [], 2, (1, 1)),
            3: ([], [1, 2], 1, (2, 4)),
            1: ([5], [2], 1, (3, 4)),
            5: ([], [], 2, (1, 1)),
            2: ([], [], 1, (4, 4)),
        })
        tree.cut(3)
        tree.cut(6)
        self.assertEqual(self.told(tree), {
            0: ([4, 1, 5, 2], [], 0, (1, 1)),
            4: ([], [1, 2], 1, (1, 3)),
            1: ([5], [2], 1, (2, 3)),
            5: ([], [], 2, (1, 1)),
            2: ([], [], 1, (3, 3)),
        })

    def test_trees_grown_by_chance(self):
        for seed in range(8):
            tree = grown(Random(seed), 40)
            for box in order_of(tree):
                self.assertEqual([box] + beneath(tree, box), order_of(tree, box))
                self.assertEqual(depth_of(tree, box), depth_in(tree, box))
                row = [0] if box == 0 else tree.boxes_of(tree.holder_of(box))
                self.assertEqual(spot_of(tree, box), (row.index(box) + 1, len(row)))
                self.assertEqual(behind(tree, box), row[row.index(box) + 1:])

    def test_twelve_deep(self):
        tree = Tree("house")
        for holder in range(12):
            tree.put(holder, 0, "a")
        self.assertEqual([depth_of(tree, box) for box in range(13)], list(range(13)))
        self.assertEqual(beneath(tree, 0), list(range(1, 13)))

    def test_gathered(self):
        tree = small()
        self.assertEqual(gathered(tree, 0, lambda box: True), [0, 3, 1, 5, 4, 6, 2])
        self.assertEqual(gathered(tree, 0, lambda box: False), [])
        self.assertEqual(gathered(tree, 1, lambda box: True), [1, 5, 4, 6])
        self.assertEqual(gathered(tree, 0, lambda box: box % 2 == 0), [0, 4, 6, 2])
        self.assertEqual(gathered(tree, 1, lambda box: box != 1), [5, 4, 6])
        self.assertEqual(gathered(tree, 0, lambda box: tree.boxes_of(box) == []), [3, 5, 6, 2])
        self.assertEqual(gathered(tree, 2, lambda box: True), [2])
        self.assertEqual(gathered(tree, 0, lambda box: depth_of(tree, box) == 2), [5, 4])

    def test_gathered_asks_each_box_in_order(self):
        asked = []
        gathered(small(), 1, lambda box: asked.append(box) is None)
        self.assertEqual(asked, [1, 5, 4, 6])

    def test_no_box(self):
        tree = small()
        tree.cut(4)
        for box in (4, 6, 7, -1, -(10 ** 29), 10 ** 29):
            for ask in (beneath, behind, depth_of, spot_of):
                with self.subTest(ask=ask.__name__, box=box):
                    self.assertRaises(NoBox, ask, tree, box)
            asked = []
            self.assertRaises(NoBox, gathered, tree, box, asked.append)
            self.assertEqual(asked, [])

    def test_lists_told_are_the_askers_own(self):
        tree = small()
        for told in (beneath(tree, 0), behind(tree, 3), behind(tree, 0), gathered(tree, 0, lambda box: True)):
            told.append(99)
        self.assertEqual(order_of(tree), [0, 3, 1, 5, 4, 6, 2])
        kept = beneath(tree, 0)
        tree.cut(1)
        self.assertEqual(kept, [3, 1, 5, 4, 6, 2])


if __name__ == "__main__":
    unittest.main()
