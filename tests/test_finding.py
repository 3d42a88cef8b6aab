"""Points 1, 3 and 6 to 8: rows in webs, and trees of webs."""

import itertools
import unittest

from joinside import finding
from joinside.errors import NoTree
from joinside.finding import row_in, tree_of
from joinside.trees import joined, sided, tree_by, web_of
from joinside.webs import Web, opposite, part

from samples import (all_told, deep_first, deep_last, flip, is_row, points_in, random_ties, random_told, refuse,
                     samples_of, ties_in, trees_in, web_state, web_with)
from told_trees import LONG_FIRST, LONG_LAST, turned_in

ROW = [(0, 1), (1, 2), (2, 3)]


def all_webs(many):
    """Each web of so many points."""
    ties = list(itertools.combinations(range(many), 2))
    for picked in itertools.product((False, True), repeat=len(ties)):
        yield web_with(many, [tie for tie, there in zip(ties, picked) if there])


def has_row(web):
    """Whether any four points, in any order, are a row: all are tried."""
    return any(is_row(web, row) for row in itertools.permutations(range(web.many()), 4))


def whole_trees(seed, many, least=1):
    """So many told trees of points from 0 on, none left out."""
    source = samples_of(seed)
    found = [LONG_LAST, LONG_FIRST, ("side", tuple(range(30))), ("join", tuple(range(30)))]
    for _ in range(many):
        found.append(random_told(source, list(range(source.randint(least, 30)))))
    return found


def renumbered(told, numbers):
    """The tree with numbers[point] for each point, its parts in their order again."""
    if isinstance(told, int):
        return numbers[told]
    parts = [renumbered(within, numbers) for within in told[1]]
    return (told[0], tuple(sorted(parts, key=lambda within: min(points_in(within)))))


def web_of_rows(many):
    """One row after another, with no tie between them."""
    return web_with(many, [(point, point + 1) for point in range(many - 1) if point % 4 != 3])


class Interface(unittest.TestCase):
    def test_names_stand_in_their_file(self):
        for name in ("row_in", "tree_of"):
            self.assertEqual(getattr(finding, name).__module__, "joinside.finding")

    def test_arguments_have_their_names(self):
        self.assertIsNone(row_in(web=Web(2)))
        self.assertEqual(tree_of(web=Web(2)), ("side", (0, 1)))


class Either(unittest.TestCase):
    def check(self, web):
        """Just one of the two; the tree, or None where there is a row."""
        state = web_state(web)
        row = row_in(web)
        self.assertEqual(web_state(web), state)
        if row is None:
            told = tree_of(web)
            self.assertEqual(tree_by(told).told(), told)
            self.assertEqual(sorted(points_in(told)), list(range(web.many())))
            self.assertEqual(web_of(told).ties(), web.ties())
            for within in trees_in(told):
                self.assertIn(type(within), (int, tuple))
        else:
            told = None
            self.assertTrue(is_row(web, row))
            refusal = refuse(self, "NoTree", tree_of, web)
            self.assertTrue(is_row(web, refusal.row))
        self.assertEqual(web_state(web), state)
        self.assertEqual(row_in(web), row)
        return told

    def test_all_webs_of_up_to_five_points(self):
        for many, count in ((1, 1), (2, 2), (3, 8), (4, 52), (5, 472)):
            found = []
            for web in all_webs(many):
                told = self.check(web)
                self.assertEqual(told is None, has_row(web))
                if told is not None:
                    found.append(told)
            self.assertEqual(len(found), count)
            self.assertEqual(sorted(map(repr, found)), sorted(map(repr, all_told(list(range(many))))))

    def test_some_webs_of_six_to_eight_points(self):
        source = samples_of(31)
        for _ in range(120):
            many = source.randint(6, 8)
            web = web_with(many, random_ties(source, many))
            self.assertEqual(self.check(web) is None, has_row(web))
            told = random_told(source, list(range(many)))
            web = web_of(told)
            self.assertEqual(self.check(web), told)
            flip(web, *source.sample(range(many), 2))
            self.assertEqual(self.check(web) is None, has_row(web))

    def test_a_row_in_each_numbering(self):
        for points in itertools.permutations(range(4)):
            web = part(web_with(4, ROW), list(points))
            self.assertIsNone(self.check(web))
            self.assertEqual(sorted(row_in(web)), [0, 1, 2, 3])

    def test_one_row_among_thirty_points(self):
        source = samples_of(32)
        for word in ("side", "join"):
            for _ in range(12):
                a, b, c, d = source.sample(range(30), 4)
                web = web_with(30, [(a, b), (b, c), (c, d)])
                rows = [(a, b, c, d), (d, c, b, a)]
                if word == "join":
                    web = opposite(web)
                    rows = [(b, d, a, c), (c, a, d, b)]
                self.check(web)
                self.assertIn(row_in(web), rows)

    def test_a_row_far_within(self):
        # The row stands within 26 words, alternately side and join.
        for told, four in ((deep_last(("side", (26, 27, 28, 29)), range(26)), (26, 27, 28, 29)),
                           (deep_first(("side", (0, 1, 2, 3)), range(4, 30)), (0, 1, 2, 3))):
            web = web_of(told)
            for one, other in zip(four, four[1:]):
                self.assertEqual(self.check(web) is None, has_row(part(web, list(four))))
                web.put(one, other)
            self.assertIsNone(self.check(web))
            self.assertIn(row_in(web), (four, four[::-1]))

    def test_webs_of_whole_trees(self):
        for told in whole_trees(33, 150) + all_told([0, 1, 2, 3]):
            self.assertEqual(self.check(web_of(told)), told)

    def test_such_webs_with_some_ties_put_or_taken(self):
        source = samples_of(34)
        with_row = 0
        for told in whole_trees(35, 60, 4):
            web = web_of(told)
            for _ in range(3):
                flip(web, *source.sample(range(web.many()), 2))
                with_row += self.check(web) is None
        self.assertGreater(with_row, 60)

    def test_any_webs(self):
        source = samples_of(36)
        for many in range(1, 31):
            for _ in range(4):
                self.check(web_with(many, random_ties(source, many)))

    def test_ways_rounds_and_rows_beside_one_another(self):
        for many in range(1, 31):
            way = web_with(many, [(point, point + 1) for point in range(many - 1)])
            self.assertEqual(self.check(way) is None, many > 3)
            if many > 2:
                way.put(many - 1, 0)
                self.assertEqual(self.check(way) is None, many > 4)
            for web in (way, web_of_rows(many)):
                self.check(opposite(web))

    def test_some_trees_by_hand(self):
        self.assertEqual(tree_of(Web(1)), 0)
        self.assertEqual(tree_of(web_with(2, [(0, 1)])), ("join", (0, 1)))
        self.assertEqual(tree_of(web_with(4, [(0, 1), (0, 2), (0, 3), (1, 2), (2, 3)])),
                         ("join", (0, ("side", (1, 3)), 2)))
        self.assertEqual(tree_of(web_with(4, [(0, 2), (1, 3)])), ("side", (("join", (0, 2)), ("join", (1, 3)))))
        self.assertEqual(tree_of(web_with(5, [(3, 4), (0, 3)])), ("side", (("join", (("side", (0, 4)), 3)), 1, 2)))
        for many in range(2, 31):
            self.assertEqual(tree_of(Web(many)), ("side", tuple(range(many))))
            self.assertEqual(tree_of(opposite(Web(many))), ("join", tuple(range(many))))


class TreesOfWebs(unittest.TestCase):
    def test_the_opposite_has_the_tree_with_its_words_exchanged(self):
        for told in whole_trees(41, 60) + all_told([0, 1, 2, 3]):
            self.assertEqual(tree_of(opposite(web_of(told))), turned_in(told))
            self.assertEqual(tree_of(opposite(web_of(told))), tree_by(told).turned().told())

    def test_the_opposite_of_a_web_with_a_row_has_one_too(self):
        source = samples_of(42)
        for _ in range(40):
            many = source.randint(4, 30)
            web = web_with(many, random_ties(source, many))
            self.assertEqual(row_in(opposite(web)) is None, row_in(web) is None)

    def test_each_part_of_a_web_that_has_a_tree_has_one(self):
        source = samples_of(43)
        for told in whole_trees(44, 40):
            web = web_of(told)
            for _ in range(4):
                points = source.sample(range(web.many()), source.randint(1, web.many()))
                some = part(web, points)
                self.assertIsNone(row_in(some))
                found = tree_of(some)
                self.assertEqual(tree_by(found).told(), found)
                self.assertEqual(web_of(found).ties(), some.ties())

    def test_numbered_otherwise(self):
        source = samples_of(45)
        for told in whole_trees(46, 60):
            web = web_of(told)
            points = source.sample(range(web.many()), web.many())
            numbers = {point: number for number, point in enumerate(points)}
            self.assertEqual(tree_of(part(web, points)), renumbered(told, numbers))

    def test_parts_by_parts_of_the_tree(self):
        for told in whole_trees(47, 25, 2):
            for within in trees_in(told)[:12]:
                points = sorted(points_in(within))
                numbers = {point: number for number, point in enumerate(points)}
                self.assertEqual(tree_of(part(web_of(told), points)), renumbered(within, numbers))

    def test_laid_side_by_side_and_joined(self):
        source = samples_of(48)
        for _ in range(40):
            many = source.randint(2, 30)
            points = source.sample(range(many), many)
            cut = source.randint(1, many - 1)
            one, other = random_told(source, points[:cut]), random_told(source, points[cut:])
            within = ties_in(one) + ties_in(other)
            between = [(a, b) for a in points[:cut] for b in points[cut:]]
            self.assertEqual(tree_of(web_with(many, within)), sided(one, other))
            self.assertEqual(tree_of(web_with(many, within + between)), joined(one, other))


class AskedAgain(unittest.TestCase):
    def webs(self):
        source = samples_of(51)
        found = [web_with(4, ROW), web_of_rows(30), opposite(web_of_rows(30))]
        found += [web_with(many, random_ties(source, many)) for many in range(1, 31)]
        return found + [web_of(told) for told in whole_trees(52, 15)]

    def told_of(self, web):
        try:
            return (row_in(web), tree_of(web))
        except NoTree as refusal:
            return (row_in(web), refusal.row)

    def test_of_the_same_web_the_same(self):
        webs = self.webs()
        first = [self.told_of(web) for web in webs]
        self.assertEqual([self.told_of(web) for web in webs], first)
        self.assertEqual([self.told_of(web) for web in reversed(webs)], first[::-1])

    def test_after_a_tie_was_put_and_taken_again(self):
        source = samples_of(53)
        for web in self.webs():
            if web.many() > 1:
                told = self.told_of(web)
                for _ in range(6):
                    one, other = source.sample(range(web.many()), 2)
                    flip(web, one, other)
                    self.told_of(web)
                    flip(web, other, one)
                    self.assertEqual(self.told_of(web), told)

    def test_after_all_ties_were_taken_and_put_in_another_order(self):
        source = samples_of(54)
        for web in self.webs():
            told, ties = self.told_of(web), web.ties()
            for one, other in ties:
                web.take(one, other)
            for one, other in source.sample(ties, len(ties)):
                web.put(other, one)
            self.assertEqual(self.told_of(web), told)

    def test_what_is_done_later_changes_no_row_told(self):
        web = web_with(4, ROW)
        row = row_in(web)
        refusal = refuse(self, "NoTree", tree_of, web)
        rows = (row, refusal.row)
        web.take(1, 2)
        self.assertEqual(tree_of(web), ("side", (("join", (0, 1)), ("join", (2, 3)))))
        self.assertIsNone(row_in(web))
        self.assertEqual((row, refusal.row), rows)

    def test_a_web_goes_on_by_itself(self):
        web = web_with(3, [(0, 1), (1, 2)])
        told = tree_of(web)
        web.put(web.grow(), 2)
        self.assertIn(row_in(web), ((0, 1, 2, 3), (3, 2, 1, 0)))
        self.assertEqual(told, ("join", (("side", (0, 2)), 1)))


if __name__ == "__main__":
    unittest.main()
