"""Points 1, 4 and 5: trees, and the webs of whole ones."""

import unittest

from joinside import trees
from joinside.trees import Join, Point, Side, Tree, joined, sided, tree_by, web_of
from joinside.webs import Web

from samples import (DEEP, FIGURES, Same, all_told, deep_first, deep_last, odd_things, points_in, random_points,
                     random_told, refuse, samples_of, tied_in, ties_in, trees_in, web_state)
from told_trees import (BROKEN_HIGH, BROKEN_LOW, EXAMPLE, LONG_FIRST, LONG_LAST, TREES, broken_far_within, trees_to_try,
                        turned_in)


def made_of(told):
    """The tree made by Point, Side and Join, of lists."""
    if isinstance(told, int):
        return Point(told)
    parts = [made_of(within) for within in told[1]]
    return Side(parts) if told[0] == "side" else Join(parts)


def class_of(told):
    if isinstance(told, int):
        return Point
    return Side if told[0] == "side" else Join


class Interface(unittest.TestCase):
    def test_names_stand_in_their_file(self):
        for name in ("Tree", "Point", "Side", "Join", "tree_by", "web_of", "sided", "joined"):
            self.assertEqual(getattr(trees, name).__module__, "joinside.trees")

    def test_methods_stand_in_each_class_itself(self):
        for kind in (Tree, Point, Side, Join):
            for name in ("told", "points", "tied", "turned"):
                self.assertIn(name, vars(kind))

    def test_classes_under_tree(self):
        for kind in (Point, Side, Join):
            self.assertTrue(issubclass(kind, Tree))
            self.assertEqual([issubclass(kind, other) for other in (Point, Side, Join)],
                             [kind is other for other in (Point, Side, Join)])

    def test_arguments_have_their_names(self):
        made = Side(parts=[Point(number=0), Join(parts=[Point(number=1), Point(number=2)])])
        self.assertEqual(made.told(), ("side", (0, ("join", (1, 2)))))
        self.assertIs(made.tied(one=1, other=2), True)
        self.assertEqual(tree_by(told=EXAMPLE).told(), EXAMPLE)
        self.assertEqual(web_of(told=EXAMPLE).many(), 4)
        self.assertEqual(sided(one=1, other=0), ("side", (0, 1)))
        self.assertEqual(joined(one=1, other=0), ("join", (0, 1)))


class Told(unittest.TestCase):
    def test_the_example_of_point_4(self):
        tree = tree_by(EXAMPLE)
        self.assertIsInstance(tree, Join)
        self.assertEqual(tree.told(), ("join", (0, ("side", (1, 3)), 2)))
        self.assertEqual(tree.points(), [0, 1, 2, 3])
        self.assertEqual([pair for pair in ((0, 1), (0, 2), (0, 3), (1, 2), (1, 3), (2, 3)) if tree.tied(*pair)],
                         [(0, 1), (0, 2), (0, 3), (1, 2), (2, 3)])
        self.assertEqual(tree.turned().told(), ("side", (0, ("join", (1, 3)), 2)))

    def test_each_point(self):
        for number in range(30):
            for tree in (tree_by(number), Point(number)):
                self.assertIs(type(tree), Point)
                self.assertEqual((tree.told(), tree.points()), (number, [number]))
                self.assertIs(type(tree.told()), int)
                self.assertIs(type(tree.turned()), Point)
                self.assertEqual(tree.turned().told(), number)

    def test_class_told_and_points(self):
        for told in trees_to_try(11, 150):
            for tree in (tree_by(told), made_of(told)):
                self.assertIs(type(tree), class_of(told))
                self.assertEqual(tree.told(), told)
                self.assertEqual(tree.points(), sorted(points_in(told)))

    def test_kinds_of_what_is_told(self):
        for told in TREES:
            for within in trees_in(tree_by(told).told()):
                if isinstance(within, tuple):
                    self.assertEqual([type(item) for item in within], [str, tuple])
                    self.assertEqual(len(within), 2)
                else:
                    self.assertIs(type(within), int)
            self.assertIs(type(tree_by(told).points()), list)

    def test_all_trees_of_few_points(self):
        for many, count in ((1, 1), (2, 2), (3, 8), (4, 52), (5, 472)):
            rows = all_told(list(range(many)))
            self.assertEqual(len(rows), count)
            webs = {}
            for told in rows:
                self.assertEqual(tree_by(told).told(), told)
                webs[tuple(web_of(told).ties())] = told
            self.assertEqual(len(webs), count)

    def test_tied_of_all_trees_of_four_points_in_both_orders(self):
        for told in all_told([2, 3, 11, 29]):
            for tree in (tree_by(told), made_of(told)):
                for one in (2, 3, 11, 29):
                    for other in (2, 3, 11, 29):
                        if one != other:
                            self.assertIs(tree.tied(one, other), tied_in(told, one, other))

    def test_tied_of_larger_trees_in_both_orders(self):
        for told in trees_to_try(12, 12):
            tree = tree_by(told)
            ties = ties_in(told)
            for one in points_in(told):
                for other in points_in(told):
                    if one != other:
                        tie = (min(one, other), max(one, other))
                        self.assertIs(tree.tied(one, other), tie in ties)

    def test_turned_and_turned_twice(self):
        for told in trees_to_try(13, 60):
            for tree in (tree_by(told), made_of(told)):
                turned = tree.turned()
                self.assertIs(type(turned), class_of(turned_in(told)))
                self.assertEqual(turned.told(), turned_in(told))
                self.assertEqual(turned.points(), tree.points())
                self.assertEqual(turned.turned().told(), told)
                self.assertIs(type(turned.turned()), type(tree))
                self.assertEqual(tree.told(), told)

    def test_turned_ties_what_was_not_tied(self):
        for told in all_told([0, 1, 2, 3]):
            tree, turned = tree_by(told), tree_by(told).turned()
            for one in range(4):
                for other in range(4):
                    if one != other:
                        self.assertIs(turned.tied(one, other), not tree.tied(one, other))

    def test_deep_trees(self):
        for told in (LONG_LAST, LONG_FIRST):
            tree = tree_by(told)
            self.assertEqual(tree.points(), list(range(30)))
            self.assertEqual(tree.told(), told)
            self.assertEqual(web_of(told).ties(), ties_in(told))


class Making(unittest.TestCase):
    def test_of_points_and_of_trees(self):
        tree = Join([Point(0), Side([Point(1), Point(3)]), Point(2)])
        self.assertEqual(tree.told(), EXAMPLE)
        self.assertEqual(Side([Point(4), tree_by(("join", (5, 6)))]).told(), ("side", (4, ("join", (5, 6)))))

    def test_the_list_of_parts_is_left_alone_and_may_change_behind(self):
        for kind, word in ((Side, "side"), (Join, "join")):
            parts = [Point(3), Point(5), Point(9)]
            handed = list(parts)
            tree = kind(parts)
            self.assertEqual(parts, handed)
            parts.pop()
            parts[0] = Point(1)
            self.assertEqual(tree.told(), (word, (3, 5, 9)))
            self.assertEqual(tree.points(), [3, 5, 9])
            self.assertIs(tree.tied(9, 3), word == "join")
            self.assertEqual(tree.turned().turned().told(), (word, (3, 5, 9)))

    def test_one_tree_may_be_a_part_of_several(self):
        part = Side([Point(1), Point(2)])
        first, second = Join([Point(0), part]), Join([part, Point(3)])
        self.assertEqual(first.told(), ("join", (0, ("side", (1, 2)))))
        self.assertEqual(second.told(), ("join", (("side", (1, 2)), 3)))
        self.assertEqual(part.told(), ("side", (1, 2)))

    def test_somewhat_beyond_the_limits_no_error_is_raised(self):
        self.assertEqual(Point(30).told(), 30)
        wide = Join([Point(number) for number in range(35)])
        self.assertEqual(wide.points(), list(range(35)))
        self.assertIs(wide.tied(34, 0), True)


class AskersOwn(unittest.TestCase):
    def test_a_list_of_points_changed_changes_no_tree(self):
        for told in TREES:
            tree = tree_by(told)
            points = tree.points()
            points.append(0)
            points.reverse()
            del points[0]
            tree.points().clear()
            self.assertEqual((tree.points(), tree.told()), (sorted(points_in(told)), told))

    def test_a_list_of_points_stays_what_it_was(self):
        tree = tree_by(EXAMPLE)
        points = tree.points()
        tree.turned()
        tree.tied(0, 1)
        tree.points().clear()
        self.assertEqual(points, [0, 1, 2, 3])

    def test_a_web_changed_changes_no_tree_and_no_other_web(self):
        first = web_of(EXAMPLE)
        state = web_state(first)
        first.take(0, 1)
        first.put(1, 3)
        first.grow()
        self.assertEqual(web_state(web_of(EXAMPLE)), state)
        self.assertEqual(tree_by(EXAMPLE).told(), EXAMPLE)

    def test_asked_again_told_again(self):
        tree = tree_by(EXAMPLE)
        for _ in range(2):
            self.assertEqual((tree.told(), tree.points(), tree.turned().told()),
                             (EXAMPLE, [0, 1, 2, 3], turned_in(EXAMPLE)))


class BadTrees(unittest.TestCase):
    def refused(self, told):
        for call in (tree_by, web_of):
            refuse(self, "BadTree", call, told)

    def test_whole_numbers_that_are_no_points(self):
        for told in (30, 31, 1000, -1, -29, FIGURES, -FIGURES, True, False, 0.0, 1.0):
            self.refused(told)

    def test_odd_things(self):
        for told in odd_things() + [b"", b"side", Same("side"), 1.5, {0}, range(2), iter([0])]:
            self.refused(told)

    def test_odd_things_as_a_part_at_any_place(self):
        for odd in odd_things():
            for word in ("side", "join"):
                for at in range(3):
                    parts = [3, 5]
                    parts.insert(at, odd)
                    self.refused((word, tuple(parts)))
                self.refused((word, (3, ("join" if word == "side" else "side", (4, odd)))))

    def test_odd_things_as_a_word_and_as_parts(self):
        for odd in odd_things():
            self.refused((odd, odd))
            if odd != "side":
                self.refused((odd, (3, 5)))
                self.refused(("join", (2, (odd, (3, 5)))))
            if odd not in ((0, 1), (0, 1, 2)):
                self.refused(("side", odd))
                self.refused(("join", odd))

    def test_broken_at_the_top(self):
        for told in BROKEN_LOW + BROKEN_HIGH:
            self.refused(told)

    def test_broken_far_within(self):
        self.assertEqual(web_of(deep_first(("side", (0, 1)), range(2, 30))).many(), 30)
        self.assertEqual(web_of(deep_last(("join", (28, 29)), range(28))).many(), 30)
        for told in broken_far_within():
            self.refused(told)

    def test_broken_in_the_midst_of_a_flat_tree(self):
        for told in BROKEN_LOW:
            other = "join" if isinstance(told, tuple) and told[:1] == ("side",) else "side"
            self.refused((other, (told, 10, ("join" if other == "side" else "side", (11, 12)), 13)))

    def test_a_point_told_twice_far_from_one_another(self):
        self.refused(("side", (("join", (0, 9)), ("join", (1, 8)), ("join", (2, 9)))))
        self.refused(deep_last(("side", (26, 26)), range(26)))
        self.refused(deep_first(("side", (0, 17)), range(2, 30)))
        self.refused(("side", tuple(range(30)) + (29,)))

    def test_far_too_wide(self):
        self.refused(("side", tuple(range(31))))
        self.refused(("join", tuple(range(5000))))
        self.refused(("join", (0,) * 100000))
        self.refused(("side", (("join", (0, 1)),) * 100000))

    def test_forty_and_some_thousands_of_words(self):
        for told in DEEP:
            self.refused(told)
            self.refused(("side", (told, 1)))
            self.refused(("join", (0, told)))
        for word in ("side", "join"):
            for deep in (29, 30, 31, 40, 900, 1100, 3000, 60000):
                told = 5
                for _ in range(deep):
                    told = (word, (told, 6))
                self.refused(told)

    def test_one_word_deeper_than_thirty_points_allow(self):
        self.refused(("side" if LONG_LAST[0] == "join" else "join", (30, LONG_LAST)))
        self.refused(("side" if LONG_FIRST[0] == "join" else "join", (LONG_FIRST, 30)))
        self.refused(("side" if LONG_FIRST[0] == "join" else "join", (LONG_FIRST, 29)))

    def test_each_step_from_a_right_tree(self):
        source = samples_of(14)
        for _ in range(80):
            told = random_told(source, random_points(source, source.randint(2, 30)))
            word, parts = told
            self.refused((word, list(parts)))
            self.refused((word, parts[:1]))
            self.refused((word, parts[::-1]))
            self.refused((word, parts + parts[-1:]))
            self.refused((word, parts, parts))
            self.refused((word.upper(), parts))
            self.refused((word, (told, 29)))
            self.refused(list(told))

    def test_a_refusal_changes_nothing(self):
        tree = tree_by(EXAMPLE)
        handed = ["side", (0, 1)]
        self.refused(handed)
        self.refused(("side", (0, handed)))
        self.assertEqual(handed, ["side", (0, 1)])
        self.assertEqual(tree.told(), EXAMPLE)
        self.assertEqual(tree_by(EXAMPLE).told(), EXAMPLE)


class WebsOfTrees(unittest.TestCase):
    def test_of_the_example(self):
        web = web_of(EXAMPLE)
        self.assertIsInstance(web, Web)
        self.assertEqual((web.many(), web.ties()), (4, [(0, 1), (0, 2), (0, 3), (1, 2), (2, 3)]))

    def test_of_a_point(self):
        self.assertEqual((web_of(0).many(), web_of(0).ties()), (1, []))

    def test_of_flat_trees(self):
        for many in range(2, 31):
            self.assertEqual(web_of(("side", tuple(range(many)))).ties(), [])
            self.assertEqual(web_of(("join", tuple(range(many)))).ties(),
                             [(a, b) for a in range(many) for b in range(a + 1, many)])

    def test_just_the_ties_of_point_5(self):
        source = samples_of(15)
        rows = [LONG_LAST, LONG_FIRST] + all_told([0, 1, 2, 3])
        rows += [random_told(source, list(range(source.randint(1, 30)))) for _ in range(60)]
        for told in rows:
            web = web_of(told)
            self.assertEqual(web.many(), len(points_in(told)))
            self.assertEqual(web.ties(), ties_in(told))

    def test_trees_that_are_not_whole(self):
        for told in (1, 2, 29, ("side", (1, 2)), ("join", (0, 2)), ("side", (0, 29)), ("side", tuple(range(1, 30))),
                     ("join", (0, ("side", (1, 4)), 2)), ("side", (0, 1, ("join", (2, 4)))), ("join", (5, 6, 7)),
                     deep_last(29, range(1, 29)), deep_first(0, range(2, 30)), ("join", (0, ("side", (2, 3))))):
            self.assertEqual(tree_by(told).told(), told)
            refuse(self, "BadTree", web_of, told)

    def test_each_point_left_out(self):
        for left in range(29):
            points = tuple(point for point in range(30) if point != left)
            refuse(self, "BadTree", web_of, ("side", points))
        self.assertEqual(web_of(("side", tuple(range(29)))).many(), 29)

    def test_a_web_of_a_tree_goes_on_by_itself(self):
        web = web_of(EXAMPLE)
        self.assertEqual(web.grow(), 4)
        web.put(4, 0)
        self.assertEqual(web.beside(0), [1, 2, 3, 4])


if __name__ == "__main__":
    unittest.main()
