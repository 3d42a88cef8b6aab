"""Points 1 and 11: kept webs."""

import unittest

from joinside import kept
from joinside.finding import row_in, tree_of
from joinside.kept import Kept
from joinside.trees import tree_by, web_of
from joinside.webs import Web

from samples import (FIGURES, flip, is_row, odd_things, points_in, random_told, refuse, round_list, samples_of,
                     web_state, web_with)
from told_trees import EXAMPLE, LONG_FIRST, LONG_LAST


def kept_of(told):
    """The kept web of a whole tree, grown point by point: each part of a web with a tree has one."""
    web = web_of(told)
    found = Kept(1)
    for point in range(1, web.many()):
        found.grow([other for other in web.beside(point) if other < point])
    return found


def kept_state(found):
    """All that a kept web tells of itself."""
    return (found.tree(), web_state(found.web()))


def kept_way(many):
    """0 tied to 1, 1 tied to 2, and further points that are tied to none."""
    found = Kept(many)
    found.put(0, 1)
    found.put(2, 1)
    return found


class Interface(unittest.TestCase):
    def test_names_stand_in_their_file(self):
        self.assertEqual(kept.Kept.__module__, "joinside.kept")

    def test_methods_stand_in_the_class_itself(self):
        for name in ("put", "take", "grow", "tree", "web"):
            self.assertIn(name, vars(Kept))

    def test_arguments_have_their_names(self):
        found = Kept(many=2)
        self.assertIsNone(found.put(one=0, other=1))
        self.assertIsNone(found.take(one=1, other=0))
        self.assertEqual(found.grow(points=[1]), 2)
        self.assertEqual(found.tree(), ("side", (0, ("join", (1, 2)))))


class Sizes(unittest.TestCase):
    def test_one_to_thirty_points_without_ties(self):
        for many in range(1, 31):
            found = Kept(many)
            self.assertEqual(web_state(found.web()), web_state(Web(many)))
            self.assertEqual(found.tree(), ("side", tuple(range(many))) if many > 1 else 0)
            self.assertIs(type(found.web()), Web)

    def test_other_sizes_are_refused(self):
        for many in [0, 31, 32, 100, 1000] + odd_things():
            refuse(self, "BadSize", Kept, many)


class Case(unittest.TestCase):
    def refused(self, name, found, call, *handed):
        """The refusal; the kept web is behind it as it was."""
        state = kept_state(found)
        refusal = refuse(self, name, call, *handed)
        self.assertEqual(kept_state(found), state)
        return refusal

    def refused_with_row(self, found, would_be, call, *handed):
        """NoTree, with a row of the web that would be."""
        row = self.refused("NoTree", found, call, *handed).row
        self.assertTrue(is_row(would_be, row))

    def holds(self, found, web):
        """The kept web is as that web, and has its tree."""
        self.assertEqual(web_state(found.web()), web_state(web))
        told = found.tree()
        self.assertEqual(tree_by(told).told(), told)
        self.assertEqual((len(points_in(told)), web_of(told).ties()), (web.many(), web.ties()))


class Deeds(Case):
    def test_put_and_take_what_is_right(self):
        found, web = Kept(4), Web(4)
        for call, one, other in (("put", 0, 1), ("put", 2, 1), ("put", 3, 1), ("take", 1, 0), ("put", 2, 3),
                                 ("put", 1, 0), ("take", 3, 1), ("take", 1, 2), ("take", 1, 0), ("put", 0, 3)):
            if is_right(web, call, one, other):
                self.assertIsNone(getattr(found, call)(one, other))
                getattr(web, call)(one, other)
            else:
                self.refused("NoTree", found, getattr(found, call), one, other)
            self.holds(found, web)

    def test_a_row_by_a_tie_put(self):
        found = kept_way(4)
        would_be = web_with(4, [(0, 1), (1, 2), (2, 3)])
        self.refused_with_row(found, would_be, found.put, 2, 3)
        self.refused_with_row(found, would_be, found.put, 3, 2)
        self.assertEqual(found.web().ties(), [(0, 1), (1, 2)])
        found.put(3, 1)
        found.put(3, 2)
        self.assertEqual(found.tree(), ("join", (("side", (0, ("join", (2, 3)))), 1)))

    def test_a_row_by_a_tie_taken(self):
        found = kept_of(("join", (("side", (0, 2)), ("side", (1, 3)))))
        for one, other in ((0, 1), (3, 2), (1, 2), (0, 3)):
            would_be = found.web()
            would_be.take(one, other)
            self.refused_with_row(found, would_be, found.take, one, other)
        found.put(0, 2)
        found.take(0, 1)
        self.assertEqual(found.web().ties(), [(0, 2), (0, 3), (1, 2), (2, 3)])

    def test_a_row_by_a_point_grown(self):
        found = kept_way(3)
        for points in ([0], [2], [0, 2, 1][:1], [2, 0][:1]):
            would_be = web_with(4, [(0, 1), (1, 2)] + [(point, 3) for point in points])
            self.refused_with_row(found, would_be, found.grow, points)
        self.assertEqual(found.grow([0, 2]), 3)
        self.assertEqual(found.tree(), ("join", (("side", (0, 2)), ("side", (1, 3)))))

    def test_grow_by_none_by_one_and_by_all(self):
        found, web = Kept(1), Web(1)
        for number in range(1, 30):
            points = ([], list(range(number)), list(range(number - 1, -1, -1)))[number % 3]
            told = found.grow(points)
            self.assertEqual(told, number)
            self.assertIs(type(told), int)
            web.grow()
            for point in points:
                web.put(number, point)
            self.holds(found, web)
        found = Kept(2)
        self.assertEqual(found.grow([1]), 2)
        self.holds(found, web_with(3, [(1, 2)]))
        self.assertEqual(found.grow([]), 3)
        self.assertEqual(found.grow([3, 1, 0, 2]), 4)
        self.holds(found, web_with(5, [(1, 2), (0, 4), (1, 4), (2, 4), (3, 4)]))

    def test_whole_trees_of_up_to_thirty_points(self):
        source = samples_of(71)
        rows = [LONG_LAST, LONG_FIRST, EXAMPLE]
        rows += [random_told(source, list(range(source.randint(1, 30)))) for _ in range(30)]
        for told in rows:
            found = kept_of(told)
            self.assertEqual(found.tree(), told)
            self.holds(found, web_of(told))

    def test_many_deeds_against_a_plain_web(self):
        source = samples_of(72)
        for first in (1, 4, 5, 7, 29, 30):
            found, web = Kept(first), Web(first)
            for _ in range(160):
                if source.random() < 0.05:
                    self.grows(found, web, source)
                elif web.many() > 1:
                    self.deed(found, web, *source.sample(range(web.many()), 2))

    def grows(self, found, web, source):
        points = source.sample(range(web.many()), source.randint(0, web.many()))
        if web.many() == 30:
            self.refused("TooMany", found, found.grow, points)
            return
        would_be = found.web()
        number = would_be.grow()
        for point in points:
            would_be.put(point, number)
        if row_in(would_be) is not None:
            self.refused_with_row(found, would_be, found.grow, points)
            return
        self.assertEqual(found.grow(points), number)
        web.grow()
        for point in points:
            web.put(point, number)
        self.holds(found, web)

    def deed(self, found, web, one, other):
        name, wrong, unlike = ("put", "NoTie", "take")
        if web.has(one, other):
            name, wrong, unlike = ("take", "Twice", "put")
        self.refused(wrong, found, getattr(found, unlike), one, other)
        flip(web, one, other)
        if row_in(web) is not None:
            self.refused_with_row(found, web, getattr(found, name), one, other)
            flip(web, one, other)
        else:
            self.assertIsNone(getattr(found, name)(one, other))
        self.holds(found, web)

    def test_no_tree_just_where_there_would_be_a_row(self):
        source = samples_of(73)
        for _ in range(12):
            told = random_told(source, list(range(source.randint(4, 9))))
            for one in range(len(points_in(told))):
                for other in range(one):
                    found, would_be = kept_of(told), web_of(told)
                    name = "take" if would_be.has(one, other) else "put"
                    flip(would_be, one, other)
                    if row_in(would_be) is None:
                        getattr(found, name)(one, other)
                        self.assertEqual(found.tree(), tree_of(would_be))
                    else:
                        self.refused_with_row(found, would_be, getattr(found, name), one, other)

    def test_one_point_alone(self):
        found = Kept(1)
        for wrong in (0, 1):
            self.refused("BadPoint", found, found.put, 0, wrong)
            self.refused("BadPoint", found, found.take, wrong, 0)
        self.assertEqual(found.grow([0]), 1)
        self.assertEqual(found.tree(), ("join", (0, 1)))


def is_right(web, call, one, other):
    """Whether the deed leaves the web without a row."""
    flip(web, one, other)
    right = row_in(web) is None
    flip(web, one, other)
    return right


class Refused(Case):
    def setUp(self):
        self.found = kept_way(5)

    def wrong(self):
        return [5, 6, 29, 30, FIGURES] + odd_things()

    def test_wrong_points_in_either_place(self):
        for call in (self.found.put, self.found.take):
            for wrong in self.wrong():
                for right in (0, 1, 4):
                    self.refused("BadPoint", self.found, call, wrong, right)
                    self.refused("BadPoint", self.found, call, right, wrong)
                self.refused("BadPoint", self.found, call, wrong, wrong)

    def test_two_that_are_the_same(self):
        for call in (self.found.put, self.found.take):
            for point in range(5):
                self.refused("BadPoint", self.found, call, point, point)

    def test_truths_are_no_points_also_where_the_tie_is_there_or_would_make_a_row(self):
        for one, other in ((False, 1), (0, True), (True, 2), (True, False), (False, 3), (3, False), (True, True)):
            for call in (self.found.put, self.found.take):
                self.refused("BadPoint", self.found, call, one, other)

    def test_twice_and_no_tie(self):
        for one, other in ((0, 1), (1, 0), (1, 2), (2, 1)):
            self.refused("Twice", self.found, self.found.put, one, other)
        # Even where one more tie would make a row.
        for one, other in ((0, 2), (2, 3), (3, 0), (3, 4)):
            self.refused("NoTie", self.found, self.found.take, one, other)
        self.refused("NoTree", self.found, self.found.put, 2, 3)

    def test_grow_too_many_first(self):
        found = Kept(30)
        found.put(0, 1)
        found.put(1, 2)
        for points in [[], [0], [1, 0], list(range(30)), [30], [0, 0], [None], round_list()] + odd_things():
            self.refused("TooMany", found, found.grow, points)

    def test_grow_by_what_is_no_list(self):
        for wrong in self.wrong() + [(0, 1), range(2), {0, 1}, iter([0])]:
            if not isinstance(wrong, list):
                self.refused("BadPoint", self.found, self.found.grow, wrong)

    def test_grow_by_a_list_with_a_point_twice(self):
        for points in ([0, 0], [1, 2, 1], [0, 1, 2, 3, 4, 0], [4] * 40, [0, 1, 0], [2, 2, 5], [2, 2, None]):
            self.refused("BadPoint", self.found, self.found.grow, points)

    def test_grow_by_a_list_with_what_is_no_point_at_any_place(self):
        for wrong in self.wrong():
            self.refused("BadPoint", self.found, self.found.grow, [wrong])
            for rest in ([0, 2, 1], [0], [3, 4]):
                for at in range(len(rest) + 1):
                    points = list(rest)
                    points.insert(at, wrong)
                    self.refused("BadPoint", self.found, self.found.grow, points)

    def test_grow_by_the_further_point_itself(self):
        self.refused("BadPoint", self.found, self.found.grow, [5])
        self.refused("BadPoint", self.found, self.found.grow, [0, 1, 2, 3, 4, 5])
        self.assertEqual(self.found.grow([0, 1, 2, 3, 4]), 5)

    def test_grow_bad_point_ahead_of_no_tree(self):
        self.refused("NoTree", self.found, self.found.grow, [0])
        for points in ([0, 0], [0, None], [0, True], [False], [0, 5], [0, -1], [0, [1]], (0,)):
            self.refused("BadPoint", self.found, self.found.grow, points)

    def test_later_deeds_are_as_if_nothing_was_refused(self):
        other = kept_way(5)
        for call, handed in ((self.found.put, (2, 3)), (self.found.put, (0, 1)), (self.found.take, (0, 3)),
                             (self.found.put, (0, 5)), (self.found.grow, ([0],)), (self.found.grow, ([0, 0],))):
            with self.assertRaises(ValueError):
                call(*handed)
        for found in (self.found, other):
            found.put(3, 1)
            found.take(0, 1)
            self.assertEqual(found.grow([1, 4, 0, 2, 3]), 5)
            found.put(2, 3)
            found.put(4, 0)
            self.refused("NoTree", found, found.put, 0, 1)
        self.assertEqual(kept_state(self.found), kept_state(other))

    def test_a_grow_refused_leaves_no_point_behind(self):
        self.refused("NoTree", self.found, self.found.grow, [0])
        self.refused("BadPoint", self.found, self.found.put, 0, 5)
        self.assertEqual(self.found.grow([]), 5)
        self.assertEqual(self.found.web().beside(5), [])

    def test_a_row_told_stays(self):
        row_there = self.refused("NoTree", self.found, self.found.put, 2, 3)
        row = row_there.row
        self.assertIn(row, ((0, 1, 2, 3), (3, 2, 1, 0)))
        self.found.take(0, 1)
        self.found.put(2, 3)
        self.assertIn(row_there.row, ((0, 1, 2, 3), (3, 2, 1, 0)))
        self.assertEqual(row_there.row, row)


class AskersOwn(Case):
    def test_what_is_done_to_the_web_changes_nothing_in_the_kept_one(self):
        found = kept_way(4)
        state = kept_state(found)
        web = found.web()
        web.put(2, 3)
        web.take(0, 1)
        web.put(web.grow(), 0)
        self.assertEqual(kept_state(found), state)
        found.put(1, 3)
        self.assertEqual(found.web().ties(), [(0, 1), (1, 2), (1, 3)])

    def test_what_is_done_to_the_kept_one_changes_nothing_in_a_web_told(self):
        found = kept_way(4)
        web, told = found.web(), found.tree()
        state = web_state(web)
        found.put(3, 1)
        found.take(1, 2)
        found.grow([0, 1, 2, 3])
        self.assertEqual(web_state(web), state)
        self.assertEqual(told, ("side", (("join", (("side", (0, 2)), 1)), 3)))

    def test_two_webs_told_are_apart(self):
        found = kept_way(4)
        first, second = found.web(), found.web()
        first.take(0, 1)
        self.assertEqual(second.ties(), [(0, 1), (1, 2)])

    def test_the_list_of_grow_is_left_alone_and_may_change_behind(self):
        found = kept_way(3)
        points = [2, 0]
        found.grow(points)
        self.assertEqual(points, [2, 0])
        points.append(1)
        points.reverse()
        self.assertEqual(found.web().beside(3), [0, 2])
        for refused, name in (([0], "NoTree"), ([0, 0], "BadPoint"), ([1, None, 0], "BadPoint")):
            handed = list(refused)
            self.refused(name, found, found.grow, handed)
            self.assertEqual(handed, refused)

    def test_two_kept_webs_change_nothing_in_one_another(self):
        first, second = Kept(3), Kept(3)
        state = kept_state(second)
        first.put(0, 1)
        first.put(1, 2)
        first.grow([0, 2])
        self.assertEqual(kept_state(second), state)
        second.put(0, 2)
        self.assertEqual(first.web().ties(), [(0, 1), (0, 3), (1, 2), (2, 3)])
        self.refused("NoTree", first, first.take, 0, 1)
        self.assertEqual(second.web().ties(), [(0, 2)])

    def test_asked_again_told_again(self):
        for told in (EXAMPLE, LONG_LAST, LONG_FIRST):
            found = kept_of(told)
            state = kept_state(found)
            kept_of(("side", (0, 1))).tree()
            self.assertEqual(kept_state(found), state)
            rows = [self.refused("NoTree", kept_way(4), kept_way(4).put, 2, 3).row for _ in range(3)]
            self.assertEqual(rows, rows[:1] * 3)


if __name__ == "__main__":
    unittest.main()
