"""Points 1 to 3: webs, their parts and their opposites."""

import unittest

from joinside import webs
from joinside.webs import Web, opposite, part

from samples import FIGURES, odd_things, random_ties, refuse, samples_of, web_state, web_with


class Interface(unittest.TestCase):
    def test_names_stand_in_their_file(self):
        for name in ("Web", "part", "opposite"):
            self.assertEqual(getattr(webs, name).__module__, "joinside.webs")

    def test_methods_stand_in_the_class_itself(self):
        for name in ("many", "has", "put", "take", "grow", "beside", "ties"):
            self.assertIn(name, vars(Web))

    def test_arguments_have_their_names(self):
        web = Web(many=3)
        self.assertIsNone(web.put(one=0, other=2))
        self.assertIs(web.has(one=2, other=0), True)
        self.assertEqual(web.beside(point=2), [0])
        self.assertEqual(part(web=web, points=[2, 0]).ties(), [(0, 1)])
        self.assertEqual(opposite(web=web).ties(), [(0, 1), (1, 2)])
        self.assertIsNone(web.take(one=2, other=0))


class Sizes(unittest.TestCase):
    def test_one_to_thirty_points_without_ties(self):
        for many in range(1, 31):
            web = Web(many)
            self.assertEqual(web.many(), many)
            self.assertIs(type(web.many()), int)
            self.assertEqual(web.ties(), [])
            self.assertEqual([web.beside(point) for point in range(many)], [[]] * many)

    def test_other_sizes_are_refused(self):
        for many in [0, 31, 32, 100, 1000] + odd_things():
            refuse(self, "BadSize", Web, many)


class Ties(unittest.TestCase):
    def test_put_and_take_in_both_orders(self):
        for one, other in ((0, 1), (1, 0), (0, 4), (4, 2)):
            for asked in ((one, other), (other, one)):
                web = Web(5)
                self.assertIs(web.has(*asked), False)
                self.assertIsNone(web.put(one, other))
                self.assertIs(web.has(*asked), True)
                self.assertEqual(web.ties(), [(min(one, other), max(one, other))])
                self.assertEqual((web.beside(one), web.beside(other)), ([other], [one]))
                refuse(self, "Twice", web.put, *asked)
                self.assertIsNone(web.take(*asked))
                self.assertIs(web.has(one, other), False)
                self.assertEqual((web.ties(), web.beside(one), web.beside(other)), ([], [], []))
                refuse(self, "NoTie", web.take, *asked)

    def test_put_again_after_take(self):
        web = web_with(2, [(0, 1)])
        web.take(1, 0)
        web.put(1, 0)
        self.assertEqual(web.ties(), [(0, 1)])

    def test_beside_and_ties_rise_whatever_the_order_of_putting(self):
        web = web_with(12, [(11, 3), (3, 2), (10, 3), (0, 3), (11, 10), (2, 0), (9, 3)])
        self.assertEqual(web.beside(3), [0, 2, 9, 10, 11])
        self.assertEqual(web.beside(1), [])
        self.assertEqual(web.ties(), [(0, 2), (0, 3), (2, 3), (3, 9), (3, 10), (3, 11), (10, 11)])

    def test_what_is_told_is_of_its_kind(self):
        web = web_with(30, [(29, 0), (5, 4)])
        self.assertIs(type(web.ties()), list)
        for tie in web.ties():
            self.assertIs(type(tie), tuple)
            self.assertEqual([type(point) for point in tie], [int, int])
        self.assertIs(type(web.beside(0)), list)
        self.assertEqual([type(point) for point in web.beside(0)], [int])

    def test_all_ties_of_thirty_points(self):
        ties = [(a, b) for a in range(30) for b in range(a + 1, 30)]
        web = web_with(30, reversed(ties))
        self.assertEqual(web.ties(), ties)
        for point in range(30):
            self.assertEqual(web.beside(point), [other for other in range(30) if other != point])

    def test_many_steps_against_a_plain_list(self):
        source = samples_of(1)
        web, ties, many = Web(9), [], 9
        for _ in range(600):
            one, other = source.sample(range(many), 2)
            tie = (min(one, other), max(one, other))
            if source.random() < 0.5:
                if tie in ties:
                    refuse(self, "Twice", web.put, one, other)
                else:
                    web.put(one, other)
                    ties.append(tie)
            elif tie in ties:
                web.take(one, other)
                ties.remove(tie)
            else:
                refuse(self, "NoTie", web.take, one, other)
            if many < 30 and source.random() < 0.03:
                self.assertEqual(web.grow(), many)
                many += 1
            self.assertEqual((web.many(), web.ties()), (many, sorted(ties)))
            point = source.randrange(many)
            near = sorted(a + b - point for a, b in ties if point in (a, b))
            self.assertEqual(web.beside(point), near)


class Growing(unittest.TestCase):
    def test_grow_up_to_thirty(self):
        web = web_with(1, [])
        for number in range(1, 30):
            told = web.grow()
            self.assertEqual((told, web.many()), (number, number + 1))
            self.assertIs(type(told), int)
            self.assertEqual(web.beside(number), [])
            web.put(number, number - 1)
        for _ in range(2):
            refuse(self, "TooMany", web.grow)
        self.assertEqual(web.many(), 30)
        self.assertEqual(web.ties(), [(point, point + 1) for point in range(29)])

    def test_thirty_from_the_start_do_not_grow(self):
        refuse(self, "TooMany", Web(30).grow)

    def test_a_point_is_there_only_once_grown(self):
        web = Web(2)
        refuse(self, "BadPoint", web.put, 0, 2)
        self.assertEqual(web.grow(), 2)
        web.put(0, 2)
        self.assertEqual(web.ties(), [(0, 2)])


class WrongPoints(unittest.TestCase):
    def setUp(self):
        self.web = web_with(4, [(0, 1), (1, 2), (0, 3)])
        self.state = web_state(self.web)

    def tearDown(self):
        self.assertEqual(web_state(self.web), self.state)

    def wrong(self):
        return [4, 5, 29, 30, FIGURES] + odd_things()

    def test_in_either_place_and_in_both(self):
        for call in (self.web.has, self.web.put, self.web.take):
            for wrong in self.wrong():
                for right in range(4):
                    refuse(self, "BadPoint", call, wrong, right)
                    refuse(self, "BadPoint", call, right, wrong)
                refuse(self, "BadPoint", call, wrong, wrong)
                refuse(self, "BadPoint", call, wrong, None)

    def test_of_beside(self):
        for wrong in self.wrong():
            refuse(self, "BadPoint", self.web.beside, wrong)

    def test_two_that_are_the_same(self):
        for call in (self.web.has, self.web.put, self.web.take):
            for point in range(4):
                refuse(self, "BadPoint", call, point, point)

    def test_a_truth_is_no_point_even_where_the_tie_is_there_or_is_not(self):
        self.assertTrue(self.web.has(0, 1))
        for one, other in ((False, 1), (0, True), (True, 0), (1, False), (True, 2), (False, 2), (True, True)):
            for call in (self.web.has, self.web.put, self.web.take):
                refuse(self, "BadPoint", call, one, other)

    def test_twice_and_no_tie_change_nothing(self):
        for one, other in ((0, 1), (1, 0), (2, 1), (3, 0)):
            refuse(self, "Twice", self.web.put, one, other)
        for one, other in ((0, 2), (2, 0), (3, 1), (2, 3)):
            refuse(self, "NoTie", self.web.take, one, other)

    def test_of_a_web_of_one_point(self):
        web = Web(1)
        for call in (web.has, web.put, web.take):
            for wrong in [0, 1] + odd_things():
                refuse(self, "BadPoint", call, 0, wrong)
                refuse(self, "BadPoint", call, wrong, 0)
        self.assertEqual((web.many(), web.ties()), (1, []))


class Parts(unittest.TestCase):
    def setUp(self):
        self.web = web_with(6, [(0, 1), (1, 2), (2, 3), (3, 4), (0, 4), (1, 4)])

    def test_of_one_point(self):
        for point in range(6):
            found = part(self.web, [point])
            self.assertIsInstance(found, Web)
            self.assertEqual((found.many(), found.ties()), (1, []))

    def test_of_all_points_in_order(self):
        self.assertEqual(web_state(part(self.web, [0, 1, 2, 3, 4, 5])), web_state(self.web))

    def test_numbered_in_the_order_told(self):
        self.assertEqual(part(self.web, [4, 1, 5, 0]).ties(), [(0, 1), (0, 3), (1, 3)])
        self.assertEqual(part(self.web, [5, 4, 3, 2, 1, 0]).ties(),
                         [(1, 2), (1, 4), (1, 5), (2, 3), (3, 4), (4, 5)])

    def test_any_order_of_any_points(self):
        source = samples_of(2)
        for _ in range(150):
            many = source.randint(1, 30)
            web = web_with(many, random_ties(source, many))
            points = source.sample(range(many), source.randint(1, many))
            found = part(web, points)
            self.assertEqual(found.many(), len(points))
            for one in range(len(points)):
                for other in range(len(points)):
                    if one != other:
                        self.assertEqual(found.has(one, other), web.has(points[one], points[other]))

    def test_part_of_a_part(self):
        first = part(self.web, [4, 1, 5, 0])
        self.assertEqual(web_state(part(first, [3, 0, 1])), web_state(part(self.web, [0, 4, 1])))

    def test_of_thirty_points(self):
        web = web_with(30, [(point, point + 1) for point in range(29)])
        found = part(web, list(range(29, -1, -1)))
        self.assertEqual(web_state(found), web_state(web))

    def test_a_part_grows_by_itself(self):
        found = part(self.web, [1, 4])
        self.assertEqual(found.grow(), 2)
        found.put(2, 0)
        self.assertEqual(found.ties(), [(0, 1), (0, 2)])
        self.assertEqual(self.web.many(), 6)

    def test_what_is_no_list_of_unlike_points(self):
        state = web_state(self.web)
        for wrong in odd_things() + [(1, 2), range(3), {0, 1}, iter([0, 1]), 0, 1, 3]:
            if not isinstance(wrong, list):
                refuse(self, "BadPoint", part, self.web, wrong)
        for wrong in ([], [0, 0], [0, 1, 2, 0], [5, 5], [0, 1, 2, 3, 4, 5, 0], [0] * 40, [1, 2, 2, 3]):
            refuse(self, "BadPoint", part, self.web, wrong)
        self.assertEqual(web_state(self.web), state)

    def test_a_thing_that_is_no_point_at_any_place(self):
        for wrong in [6, 7, 30, FIGURES] + odd_things():
            for at in range(4):
                points = [2, 4, 3]
                points.insert(at, wrong)
                refuse(self, "BadPoint", part, self.web, points)
            refuse(self, "BadPoint", part, self.web, [wrong])
            refuse(self, "BadPoint", part, self.web, [wrong, wrong])

    def test_a_truth_beside_other_points(self):
        for points in ([True], [False], [0, True], [False, 1], [2, True, 3], [True, 1], [0, False]):
            refuse(self, "BadPoint", part, self.web, points)


class Opposites(unittest.TestCase):
    def test_just_the_ties_that_it_has_not(self):
        found = opposite(web_with(4, [(0, 1), (1, 2), (2, 3)]))
        self.assertIsInstance(found, Web)
        self.assertEqual((found.many(), found.ties()), (4, [(0, 2), (0, 3), (1, 3)]))

    def test_of_one_point_and_of_thirty(self):
        self.assertEqual(web_state(opposite(Web(1))), web_state(Web(1)))
        full = opposite(Web(30))
        self.assertEqual(full.ties(), [(a, b) for a in range(30) for b in range(a + 1, 30)])
        self.assertEqual(web_state(opposite(full)), web_state(Web(30)))

    def test_opposite_of_the_opposite(self):
        source = samples_of(3)
        for _ in range(60):
            many = source.randint(1, 30)
            web = web_with(many, random_ties(source, many))
            state = web_state(web)
            other = opposite(web)
            self.assertEqual(other.many(), many)
            self.assertEqual(sorted(web.ties() + other.ties()), opposite(Web(many)).ties())
            self.assertEqual(web_state(opposite(other)), state)
            self.assertEqual(web_state(web), state)


class ToldAndHandedIn(unittest.TestCase):
    def setUp(self):
        self.web = web_with(5, [(0, 1), (0, 2), (3, 4)])
        self.state = web_state(self.web)

    def test_lists_told_are_the_askers_own(self):
        for told in (self.web.beside(0), self.web.beside(3), self.web.ties()):
            told.append(1)
            told.reverse()
            del told[0]
            self.assertEqual(web_state(self.web), self.state)
        near, ties = self.web.beside(0), self.web.ties()
        near.clear()
        ties.clear()
        self.assertEqual(web_state(self.web), self.state)

    def test_nothing_done_later_changes_lists_told(self):
        near, ties = self.web.beside(0), self.web.ties()
        self.web.take(0, 1)
        self.web.put(0, 4)
        self.web.put(0, self.web.grow())
        self.assertEqual((near, ties), ([1, 2], [(0, 1), (0, 2), (3, 4)]))

    def test_asked_again_told_again(self):
        for _ in range(2):
            self.assertEqual(web_state(self.web), self.state)
        self.assertIsNot(self.web.ties(), self.web.ties())

    def test_the_list_of_part_is_left_alone_and_may_change_behind(self):
        points = [4, 3, 0]
        found = part(self.web, points)
        self.assertEqual(points, [4, 3, 0])
        points.reverse()
        points.append(1)
        self.assertEqual((found.many(), found.ties()), (3, [(0, 1)]))
        refused = [3, 3, None]
        refuse(self, "BadPoint", part, self.web, refused)
        self.assertEqual(refused, [3, 3, None])

    def test_part_and_opposite_stay_when_the_web_changes(self):
        whole, some, other = part(self.web, [0, 1, 2, 3, 4]), part(self.web, [2, 0]), opposite(self.web)
        states = [web_state(web) for web in (whole, some, other)]
        self.web.take(0, 2)
        self.web.put(1, 4)
        self.web.put(2, self.web.grow())
        self.assertEqual([web_state(web) for web in (whole, some, other)], states)

    def test_the_web_stays_when_part_and_opposite_change(self):
        for web in (part(self.web, [0, 1, 2, 3, 4]), opposite(opposite(self.web))):
            web.take(0, 2)
            web.put(1, 4)
            web.put(2, web.grow())
        other = opposite(self.web)
        other.take(0, 3)
        other.grow()
        self.assertEqual(web_state(self.web), self.state)

    def test_webs_of_the_same_size_are_apart(self):
        first, second = Web(3), Web(3)
        first.put(0, 1)
        self.assertEqual((first.ties(), second.ties()), ([(0, 1)], []))


if __name__ == "__main__":
    unittest.main()
