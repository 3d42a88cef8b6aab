"""Point 8: trees laid side by side, and joined."""

import unittest

from joinside.trees import joined, sided, tree_by

from samples import (FIGURES, all_told, odd_things, points_in, random_points, random_told, refuse, samples_of,
                     ties_in)

LAYINGS = ((sided, "side"), (joined, "join"))


class Laid(unittest.TestCase):
    def check(self, one, other):
        points = sorted(points_in(one) + points_in(other))
        between = [(min(a, b), max(a, b)) for a in points_in(one) for b in points_in(other)]
        within = ties_in(one) + ties_in(other)
        for call, word in LAYINGS:
            told = call(one, other)
            self.assertEqual(told[0], word)
            self.assertEqual(tree_by(told).told(), told)
            self.assertEqual(tree_by(told).points(), points)
            self.assertEqual(ties_in(told), sorted(within + between if word == "join" else within))
            self.assertEqual(call(other, one), told)

    def test_a_point_and_a_point(self):
        for one, other in ((0, 1), (3, 2), (0, 29), (29, 28)):
            low, high = min(one, other), max(one, other)
            self.assertEqual(sided(one, other), ("side", (low, high)))
            self.assertEqual(joined(one, other), ("join", (low, high)))
            self.check(one, other)

    def test_a_point_and_a_tree(self):
        tree = ("side", (1, 3))
        for one, other in ((2, tree), (tree, 2)):
            self.assertEqual(sided(one, other), ("side", (1, 2, 3)))
            self.assertEqual(joined(one, other), ("join", (tree, 2)))
        for one, other in ((0, tree), (tree, 0)):
            self.assertEqual(sided(one, other), ("side", (0, 1, 3)))
            self.assertEqual(joined(one, other), ("join", (0, tree)))
        for one, other in ((4, tree), (tree, 4)):
            self.assertEqual(sided(one, other), ("side", (1, 3, 4)))
            self.assertEqual(joined(one, other), ("join", (tree, 4)))

    def test_trees_of_the_same_word(self):
        one, other = ("side", (0, ("join", (2, 9)), 5)), ("side", (("join", (1, 7)), 4))
        self.assertEqual(sided(one, other), ("side", (0, ("join", (1, 7)), ("join", (2, 9)), 4, 5)))
        self.assertEqual(sided(other, one), sided(one, other))
        self.assertEqual(joined(one, other), ("join", (one, other)))
        self.assertEqual(joined(other, one), ("join", (one, other)))
        self.assertEqual(joined(("join", (0, 3)), ("join", (1, 2))), ("join", (0, 1, 2, 3)))
        self.assertEqual(sided(("join", (1, 3)), ("join", (0, 4))), ("side", (("join", (0, 4)), ("join", (1, 3)))))

    def test_trees_of_the_other_word(self):
        one, other = ("side", (0, 5)), ("join", (1, ("side", (2, 3))))
        self.assertEqual(sided(one, other), ("side", (0, other, 5)))
        self.assertEqual(sided(other, one), ("side", (0, other, 5)))
        self.assertEqual(joined(one, other), ("join", (one, 1, ("side", (2, 3)))))
        self.assertEqual(joined(other, one), ("join", (one, 1, ("side", (2, 3)))))

    def test_least_points_far_within(self):
        one = ("side", (("join", (("side", (("join", (1, 20)), 9)), 12)), 6))
        other = ("side", (("join", (("side", (0, 14)), 3)), 2))
        self.assertEqual(sided(one, other)[1][0], other[1][0])
        self.check(one, other)

    def test_all_small_trees(self):
        for split in (([0, 1, 2], [3]), ([3], [0, 1, 2]), ([0, 2], [1, 3]), ([1, 4], [0, 2, 3]), ([2, 5, 9], [4, 7])):
            for one in all_told(split[0]):
                for other in all_told(split[1]):
                    self.check(one, other)

    def test_trees_of_up_to_thirty_points(self):
        source = samples_of(21)
        for _ in range(60):
            many = source.randint(2, 30)
            points = random_points(source, many)
            cut = source.randint(1, many - 1)
            self.check(random_told(source, points[:cut]), random_told(source, points[cut:]))

    def test_three_whichever_two_first(self):
        source = samples_of(22)
        for _ in range(150):
            points = random_points(source, source.randint(3, 30))
            low, high = sorted(source.sample(range(1, len(points)), 2))
            a, b, c = (random_told(source, group) for group in (points[:low], points[low:high], points[high:]))
            for call, _ in LAYINGS:
                told = call(call(a, b), c)
                self.assertEqual(tree_by(told).told(), told)
                for other in (call(a, call(b, c)), call(call(a, c), b), call(call(c, b), a), call(b, call(c, a))):
                    self.assertEqual(other, told)

    def test_point_by_point_to_thirty(self):
        for call, word in LAYINGS:
            told = 29
            for point in list(range(0, 29, 2)) + list(range(27, 0, -2)):
                told = call(point, told)
            self.assertEqual(told, (word, tuple(range(30))))

    def test_by_turns_to_thirty_points_deep(self):
        told = 0
        for point in range(1, 30):
            told = (joined if point % 2 else sided)(told, point)
        self.assertEqual(tree_by(told).told(), told)
        self.assertEqual(ties_in(told), [(a, b) for a in range(30) for b in range(a + 1, 30) if b % 2])


class Refused(unittest.TestCase):
    def refused(self, one, other):
        for call, _ in LAYINGS:
            refuse(self, "BadTree", call, one, other)

    def test_what_is_no_tree(self):
        for wrong in [30, FIGURES, ("side", (1, 0)), ("side", [1, 2]), ("join", (1,)), ("join", (1, 1))] + odd_things():
            for right in (0, 9, ("side", (3, 4)), ("join", (3, 4))):
                self.refused(wrong, right)
                self.refused(right, wrong)
            self.refused(wrong, wrong)

    def test_a_point_in_common(self):
        for one, other in ((0, 0), (29, 29), (1, ("side", (0, 1))), (("join", (2, 3)), 2),
                           (("side", (0, 1)), ("side", (1, 2))), (("join", (0, 1)), ("side", (0, 5))),
                           (("side", (0, ("join", (1, 9)))), ("join", (("side", (2, 9)), 3))),
                           (("side", tuple(range(30))), 17), (("join", (0, 1)), ("join", (0, 1)))):
            self.refused(one, other)
            self.refused(other, one)

    def test_what_is_handed_in_stays(self):
        one, other = ["side", (0, 1)], {"join": [2, 3]}
        self.refused(one, other)
        self.refused(other, one)
        self.assertEqual((one, other), (["side", (0, 1)], {"join": [2, 3]}))


if __name__ == "__main__":
    unittest.main()
