"""Point 1, over the whole program."""

import copy
import inspect
import unittest

from joinside import crowds, errors, finding, kept, texts, trees, webs
from joinside.crowds import colours, covers, crowd, many_crowds, many_stills, still
from joinside.finding import row_in, tree_of
from joinside.kept import Kept
from joinside.texts import read, shown
from joinside.trees import joined, sided, tree_by, web_of
from joinside.webs import Web, opposite, part

from samples import (FIGURES, REFUSALS, is_row, odd_things, random_ties, random_told, refuse, samples_of, web_state,
                     web_with)
from told_trees import EXAMPLE, turned_in

OF_TREES = (tree_by, crowd, still, colours, covers, many_crowds, many_stills, shown)

INTERFACE = {
    errors: ["JoinError"] + list(REFUSALS),
    webs: ["Web", "part", "opposite"],
    trees: ["Tree", "Point", "Side", "Join", "tree_by", "web_of", "sided", "joined"],
    finding: ["row_in", "tree_of"],
    crowds: ["crowd", "still", "colours", "covers", "many_crowds", "many_stills"],
    kept: ["Kept"],
    texts: ["shown", "read"],
}

ARGUMENTS = {
    Web: "many", Web.many: "self", Web.has: "self one other", Web.put: "self one other", Web.take: "self one other",
    Web.grow: "self", Web.beside: "self point", Web.ties: "self", part: "web points", opposite: "web",
    trees.Point: "number", trees.Side: "parts", trees.Join: "parts", tree_by: "told", web_of: "told",
    sided: "one other", joined: "one other", row_in: "web", tree_of: "web", crowd: "told", still: "told",
    colours: "told", covers: "told", many_crowds: "told", many_stills: "told", Kept: "many",
    Kept.put: "self one other", Kept.take: "self one other", Kept.grow: "self points", Kept.tree: "self",
    Kept.web: "self", shown: "told", read: "text", errors.NoTree: "row",
}


def odd_ones():
    """Those of the kinds that point 1 names, none of them right in any place but a list of points."""
    return [None, True, False, "", "one", "(0 |", [], [0], [None, [1]], {}, {0: 1}, {"side": (0, 1)}, (), (0,),
            (0, (1, 2)), ("side",), -1, -29, -FIGURES, FIGURES] + [odd for odd in odd_things() if type(odd) is tuple]


def web_of_three():
    return web_with(3, [(0, 1), (1, 2)])


def kept_of_three():
    found = Kept(3)
    found.put(0, 1)
    found.put(1, 2)
    return found


class TheInterface(unittest.TestCase):
    def test_each_name_is_defined_in_its_file(self):
        for module, names in INTERFACE.items():
            for name in names:
                self.assertEqual(getattr(module, name).__module__, module.__name__)
                self.assertEqual(getattr(module, name).__name__, name)

    def test_the_names_of_the_arguments(self):
        for call, names in ARGUMENTS.items():
            self.assertEqual(list(inspect.signature(call).parameters), names.split())


class OddThings(unittest.TestCase):
    def places(self):
        """The refusal of each place in which a lone thing is handed in, and how it is handed in there."""
        found = [("BadSize", Web), ("BadSize", Kept), ("BadText", read), ("BadTree", web_of)]
        found += [("BadTree", call) for call in OF_TREES]
        for call in (sided, joined):
            found.append(("BadTree", lambda odd, call=call: call(odd, 5)))
            found.append(("BadTree", lambda odd, call=call: call(5, odd)))
        for make in (web_of_three, kept_of_three):
            for name in ("put", "take"):
                found.append(("BadPoint", lambda odd, make=make, name=name: getattr(make(), name)(odd, 0)))
                found.append(("BadPoint", lambda odd, make=make, name=name: getattr(make(), name)(1, odd)))
        found.append(("BadPoint", lambda odd: web_of_three().has(odd, 2)))
        found.append(("BadPoint", lambda odd: web_of_three().has(2, odd)))
        found.append(("BadPoint", lambda odd: web_of_three().beside(odd)))
        found.append(("BadPoint", lambda odd: kept_of_three().grow([0, odd, 2])))
        found.append(("BadPoint", lambda odd: part(web_of_three(), [1, odd])))
        return found

    def test_in_each_place(self):
        for odd in odd_ones():
            for name, call in self.places():
                refuse(self, name, call, odd)

    def test_in_place_of_a_list_of_points(self):
        for odd in odd_ones():
            if odd not in ([0], []):
                refuse(self, "BadPoint", part, web_of_three(), odd)
                refuse(self, "BadPoint", kept_of_three().grow, odd)
        refuse(self, "BadPoint", part, web_of_three(), [])
        self.assertEqual(kept_of_three().grow([]), 3)
        self.assertEqual(part(web_of_three(), [0]).many(), 1)

    def test_what_is_handed_in_stays(self):
        for odd in ([], [0], [None, [1]], {}, {0: [1]}, {"side": [0, 1]}, [[0, 1], {2: 3}], ["side", [0, 1]]):
            for name, call in self.places():
                handed = copy.deepcopy(odd)
                refuse(self, name, call, handed)
                self.assertEqual(handed, odd)
                handed = ("side", (0, copy.deepcopy(odd)))
                refuse(self, name, call, handed)
                self.assertEqual(handed, ("side", (0, odd)))


class Refusals(unittest.TestCase):
    def test_each_kind_and_no_other(self):
        full, way = web_with(30, []), kept_of_three()
        way.grow([])
        for name, call, handed in (
                ("BadSize", Web, (31,)), ("BadSize", Kept, (0,)), ("BadPoint", full.has, (0, 30)),
                ("BadPoint", way.put, (1, 4)), ("Twice", way.put, (1, 0)), ("NoTie", way.take, (0, 2)),
                ("TooMany", full.grow, ()), ("TooMany", Kept(30).grow, ([],)), ("NoTree", way.put, (2, 3)),
                ("NoTree", way.grow, ([0],)), ("NoTree", tree_of, (web_with(4, [(0, 1), (1, 2), (2, 3)]),)),
                ("BadTree", tree_by, (30,)), ("BadTree", web_of, (1,)), ("BadTree", shown, (("side", (1, 0)),)),
                ("BadText", read, ("(1 | 0)",)), ("NoTie", full.take, (0, 1))):
            refusal = refuse(self, name, call, *handed)
            self.assertEqual(hasattr(refusal, "row"), name == "NoTree")


class AllTogether(unittest.TestCase):
    def told_of(self, web):
        """All that is told of a web, and of its tree where it has one."""
        found = [web_state(web), web_state(opposite(web)), row_in(web)]
        if found[-1] is None:
            told = tree_of(web)
            found += [told, tree_by(told).turned().told(), web_state(web_of(told)), shown(told), read(shown(told))]
            found += [call(told) for call in OF_TREES[1:]]
        else:
            found += [refuse(self, "NoTree", tree_of, web).row]
        return found

    def webs(self):
        source = samples_of(91)
        found = [web_with(many, random_ties(source, many)) for many in range(1, 12)]
        return found + [web_of(random_told(source, list(range(many)))) for many in range(1, 31)]

    def test_asked_again_in_another_order_told_again_the_same(self):
        found = self.webs()
        first = [repr(self.told_of(web)) for web in found]
        self.assertEqual([repr(self.told_of(web)) for web in found[::-1]], first[::-1])
        self.assertEqual([repr(self.told_of(web)) for web in self.webs()], first)

    def test_from_web_to_tree_to_text_and_back(self):
        for web in self.webs():
            row = row_in(web)
            if row is None:
                self.assertEqual(web_state(web_of(read(shown(tree_of(web))))), web_state(web))
                self.assertEqual(read(shown(turned_in(tree_of(web)))), tree_of(opposite(web)))
            else:
                self.assertTrue(is_row(web, row))

    def test_crowds_are_still_sets_of_the_opposite(self):
        for web in self.webs():
            if row_in(web) is None:
                told, other = tree_of(web), tree_of(opposite(web))
                self.assertEqual((many_crowds(told), len(crowd(told))), (many_stills(other), len(still(other))))
                self.assertEqual(len(covers(told)), len(set(colours(other).values())))

    def test_what_is_told_is_changed_and_told_again(self):
        web = web_of(EXAMPLE)
        first = repr(self.told_of(web))
        for told in (web.ties(), web.beside(0), tree_by(EXAMPLE).points(), crowd(EXAMPLE), still(EXAMPLE),
                     colours(EXAMPLE), covers(EXAMPLE)[0], covers(EXAMPLE)):
            told.clear()
        for other in (web_of(EXAMPLE), opposite(web), part(web, [0, 1, 2, 3])):
            other.grow()
            other.put(4, 1)
        self.assertEqual(repr(self.told_of(web)), first)


if __name__ == "__main__":
    unittest.main()
