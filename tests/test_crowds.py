"""Points 1, 9 and 10: crowds, still sets, colours and covers of told trees."""

import functools
import unittest

from joinside import crowds
from joinside.crowds import colours, covers, crowd, many_crowds, many_stills, still
from joinside.trees import joined, sided

from samples import (all_told, deep_first, deep_last, nested, points_in, random_points, random_told, refuse, samples_of,
                     ties_in)
from told_trees import EXAMPLE, LONG_FIRST, LONG_LAST, TREES, no_trees, trees_to_try, turned_in

ALL = (crowd, still, colours, covers, many_crowds, many_stills)

NAMES = ("crowd", "still", "colours", "covers", "many_crowds", "many_stills")


def flat(word, points):
    return (word, tuple(points))


def sets_of(points):
    """Each rising list of these rising points, the empty one too."""
    found = [[]]
    for point in points:
        found += [row + [point] for row in found]
    return found


@functools.lru_cache(maxsize=None)
def ties_of(told):
    return frozenset(ties_in(told))


def counted(told):
    """How many crowds and still sets, and of how many points the greatest: all sets are tried."""
    ties = ties_of(told)
    sizes = {True: [], False: []}
    for row in sets_of(sorted(points_in(told))):
        pairs = [(one, other) for one in row for other in row if one < other]
        for tied in (True, False):
            if all((pair in ties) is tied for pair in pairs):
                sizes[tied].append(len(row))
    return len(sizes[True]), len(sizes[False]), max(sizes[True]), max(sizes[False])


def small_trees(seed, many):
    source = samples_of(seed)
    return [random_told(source, random_points(source, source.randint(1, 9))) for _ in range(many)]


class Interface(unittest.TestCase):
    def test_names_stand_in_their_file(self):
        for name in NAMES:
            self.assertEqual(getattr(crowds, name).__module__, "joinside.crowds")

    def test_arguments_have_their_names(self):
        self.assertEqual([call(told=7) for call in ALL], [[7], [7], {7: 0}, [[7]], 2, 2])


class Sets(unittest.TestCase):
    def check_set(self, told, row, tied):
        """A rising list of points of the tree, all of them tied or none."""
        self.assertIs(type(row), list)
        self.assertEqual([type(point) for point in row], [int] * len(row))
        self.assertEqual(row, sorted(set(row)))
        self.assertLessEqual(set(row), set(points_in(told)))
        ties = ties_of(told)
        for at, one in enumerate(row):
            for other in row[at + 1:]:
                self.assertIs((one, other) in ties, tied)

    def check_colours(self, told):
        """A dict of just the points to colours, unlike ones for tied points; how many colours."""
        found = colours(told)
        self.assertIs(type(found), dict)
        self.assertEqual(sorted(found), sorted(points_in(told)))
        for point, colour in found.items():
            self.assertEqual((type(point), type(colour)), (int, int))
        many = max(found.values()) + 1
        self.assertEqual(sorted(set(found.values())), list(range(many)))
        for one, other in ties_of(told):
            self.assertNotEqual(found[one], found[other])
        return many

    def check_covers(self, told):
        """A list of crowds, none empty, each point in just one; how many crowds."""
        found = covers(told)
        self.assertIs(type(found), list)
        for row in found:
            self.assertGreater(len(row), 0)
            self.check_set(told, row, True)
        self.assertEqual(sorted(point for row in found for point in row), sorted(points_in(told)))
        return len(found)

    def check(self, told):
        """As many colours as points of a crowd: so neither can be fewer, and none be greater."""
        self.check_set(told, crowd(told), True)
        self.check_set(told, still(told), False)
        self.assertEqual(self.check_colours(told), len(crowd(told)))
        self.assertEqual(self.check_covers(told), len(still(told)))

    def test_of_all_trees_of_up_to_five_points(self):
        for points in ([0], [29], [3, 8], [0, 1, 2], [4, 17, 28], [0, 1, 2, 3], [2, 3, 5, 7, 11]):
            for told in all_told(points):
                self.check(told)

    def test_greatest_ones_against_all_sets(self):
        for told in all_told([0, 1, 2, 3]) + small_trees(61, 60):
            self.check(told)
            self.assertEqual((len(crowd(told)), len(still(told))), counted(told)[2:])

    def test_of_flat_and_deep_trees_and_others_of_up_to_thirty_points(self):
        for told in trees_to_try(62, 120):
            self.check(told)

    def test_of_flat_trees(self):
        for many in range(2, 31):
            points = list(range(30 - many, 30))
            one_by_one = [[point] for point in points]
            self.assertEqual(crowd(flat("join", points)), points)
            self.assertEqual(still(flat("side", points)), points)
            self.assertIn([still(flat("join", points))], [[row] for row in one_by_one])
            self.assertIn([crowd(flat("side", points))], [[row] for row in one_by_one])
            self.assertEqual(colours(flat("side", points)), {point: 0 for point in points})
            self.assertEqual(sorted(colours(flat("join", points)).values()), list(range(many)))
            self.assertEqual(covers(flat("join", points)), [points])
            self.assertEqual(sorted(covers(flat("side", points))), one_by_one)

    def test_of_each_point(self):
        for point in range(30):
            self.assertEqual([call(point) for call in ALL], [[point], [point], {point: 0}, [[point]], 2, 2])

    def test_of_the_example_of_point_4(self):
        self.assertIn(crowd(EXAMPLE), ([0, 1, 2], [0, 2, 3]))
        self.assertEqual(still(EXAMPLE), [1, 3])
        self.assertEqual((self.check_colours(EXAMPLE), self.check_covers(EXAMPLE)), (3, 2))
        self.assertEqual((many_crowds(EXAMPLE), many_stills(EXAMPLE)), (12, 6))

    def test_of_parts_of_unlike_sizes(self):
        told = ("side", (("join", (0, 4, 5)), 1, ("join", (2, 3)), ("join", (6, 7, 8, 9)), ("join", (10, 11))))
        self.assertEqual(crowd(told), [6, 7, 8, 9])
        self.assertEqual(len(still(told)), 5)
        self.assertEqual((self.check_colours(told), self.check_covers(told)), (4, 5))
        told = turned_in(told)
        self.assertEqual(still(told), [6, 7, 8, 9])
        self.assertEqual(len(crowd(told)), 5)
        self.assertEqual((self.check_colours(told), self.check_covers(told)), (5, 4))

    def test_turned_it_is_the_other_way_round(self):
        for told in trees_to_try(63, 60):
            turned = turned_in(told)
            self.assertEqual((len(crowd(turned)), len(still(turned))), (len(still(told)), len(crowd(told))))
            self.assertEqual((self.check_colours(turned), self.check_covers(turned)),
                             (self.check_covers(told), self.check_colours(told)))
            self.assertEqual((many_crowds(turned), many_stills(turned)), (many_stills(told), many_crowds(told)))


class HowMany(unittest.TestCase):
    def check(self, told, many, others):
        found = (many_crowds(told), many_stills(told))
        self.assertEqual(found, (many, others))
        self.assertEqual([type(number) for number in found], [int, int])

    def test_against_all_sets_of_small_trees(self):
        for points in ([5], [0, 1], [3, 9, 20], [0, 1, 2, 3]):
            for told in all_told(points):
                self.check(told, *counted(told)[:2])
        for told in small_trees(64, 80):
            self.check(told, *counted(told)[:2])

    def test_of_flat_trees(self):
        for many in range(2, 31):
            points = range(30 - many, 30)
            self.check(flat("side", points), many + 1, 2 ** many)
            self.check(flat("join", points), 2 ** many, many + 1)

    def test_of_groups_of_the_same_size(self):
        for size in (2, 3, 5, 6, 10, 15):
            groups = [range(first, first + size) for first in range(0, 30, size)]
            told = flat("side", [flat("join", group) for group in groups])
            many, others = len(groups) * (2 ** size - 1) + 1, (size + 1) ** len(groups)
            self.check(told, many, others)
            self.check(turned_in(told), others, many)

    def test_of_deep_trees_by_sums(self):
        for told in (LONG_LAST, LONG_FIRST, deep_last(("side", (27, 28, 29)), range(27)),
                     deep_first(("join", (3, 5)), range(6, 30))):
            piece, words = told, []
            while isinstance(piece, tuple) and len(piece[1]) == 2:
                words.append(piece[0])
                piece = [within for within in piece[1] if isinstance(within, tuple)][:1]
                piece = piece[0] if piece else 0
            many, others = (2, 2) if piece == 0 else (4, 8)
            for word in reversed(words):
                many, others = (many + 1, others * 2) if word == "side" else (many * 2, others + 1)
            self.check(told, many, others)

    def test_of_trees_laid_by_sums_and_products(self):
        source = samples_of(65)
        for _ in range(120):
            points = random_points(source, source.randint(2, 30))
            cut = source.randint(1, len(points) - 1)
            one, other = random_told(source, points[:cut]), random_told(source, points[cut:])
            self.check(sided(one, other), many_crowds(one) + many_crowds(other) - 1,
                       many_stills(one) * many_stills(other))
            self.check(joined(one, other), many_crowds(one) * many_crowds(other),
                       many_stills(one) + many_stills(other) - 1)


class AskersOwn(unittest.TestCase):
    def all_of(self, told):
        return [call(told) for call in ALL]

    def test_what_is_told_may_be_changed_and_is_told_again_the_same(self):
        for told in TREES:
            first = self.all_of(told)
            for row in (crowd(told), still(told)):
                row.append(0)
                row.reverse()
                row.clear()
            dyed, parted = colours(told), covers(told)
            for point in dyed:
                dyed[point] = 99
            dyed.clear()
            for row in parted:
                row.append(99)
            parted.clear()
            self.assertEqual(self.all_of(told), first)

    def test_nothing_asked_later_changes_what_was_told(self):
        rows = [self.all_of(told) for told in TREES]
        copies = repr(rows)
        for told in TREES:
            self.all_of(turned_in(told))
            for row in covers(told):
                row.clear()
        self.assertEqual(repr(rows), copies)

    def test_of_the_same_tree_the_same_also_when_made_anew(self):
        for told, again in zip(trees_to_try(66, 40), trees_to_try(66, 40)):
            self.assertEqual(repr(self.all_of(told)), repr(self.all_of(again)))
            self.assertEqual(repr(self.all_of(told)), repr(self.all_of(told)))

    def test_lists_told_are_apart_from_one_another(self):
        for told in TREES:
            parted = covers(told)
            self.assertEqual(len(set(map(id, parted))), len(parted))


class NoTrees(unittest.TestCase):
    def test_what_is_no_tree(self):
        for told in no_trees():
            for call in ALL:
                refuse(self, "BadTree", call, told)

    def test_some_thousands_deep(self):
        for deep in (30, 31, 900, 2000, 5000):
            for told in (nested(deep), nested(deep, lambda at: "join")):
                for call in ALL:
                    refuse(self, "BadTree", call, told)

    def test_a_refusal_changes_nothing(self):
        handed = ["side", [0, {1: [2]}]]
        for call in ALL:
            refuse(self, "BadTree", call, handed)
            refuse(self, "BadTree", call, ("side", (0, handed)))
        self.assertEqual(handed, ["side", [0, {1: [2]}]])
        self.assertEqual(crowd(EXAMPLE), crowd(EXAMPLE))

    def test_trees_that_are_not_whole_are_trees(self):
        for told in (5, ("join", (4, 29)), ("side", (2, ("join", (7, 9))))):
            for call in ALL:
                call(told)


if __name__ == "__main__":
    unittest.main()
