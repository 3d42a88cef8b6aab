"""Trees of points, sides and joins, as objects and as they are told."""

from joinside.errors import BadTree
from joinside.webs import MOST_POINTS, Web, pairs, whole_within

SIDE = "side"
JOIN = "join"


class Tree:
    """A Point, a Side or a Join; none of them changes once it is made."""

    def told(self):
        """The tree as it is told: a whole number, or a tuple of a word and parts."""
        raise NotImplementedError("a Tree is a Point, a Side or a Join")

    def points(self):
        """Its points, rising."""
        raise NotImplementedError("a Tree is a Point, a Side or a Join")

    def tied(self, one, other):
        """Whether these two unlike points of it are tied."""
        raise NotImplementedError("a Tree is a Point, a Side or a Join")

    def turned(self):
        """The Tree with sides for joins and joins for sides all through."""
        raise NotImplementedError("a Tree is a Point, a Side or a Join")


class Point(Tree):
    """A single point."""

    def __init__(self, number):
        self._number = number

    def told(self):
        """Its number."""
        return self._number

    def points(self):
        """It alone."""
        return [self._number]

    def tied(self, one, other):
        """False: it has no two points."""
        return False

    def turned(self):
        """The same point."""
        return Point(self._number)


class Side(Tree):
    """Parts laid side by side: no point of one is tied to one of another."""

    def __init__(self, parts):
        # A copy, for the list handed in may be changed behind.
        self._parts = list(parts)
        self._points = _points_of(self._parts)

    def told(self):
        """The word "side" with its parts as they are told."""
        return (SIDE, _told_of(self._parts))

    def points(self):
        """Its points, rising."""
        return list(self._points)

    def tied(self, one, other):
        """Whether these two unlike points are tied within one of its parts."""
        return _tied_among(self._parts, one, other, False)

    def turned(self):
        """The Join of its parts turned."""
        return Join(_turned_of(self._parts))


class Join(Tree):
    """Parts joined all with all: each point of one is tied to each of another."""

    def __init__(self, parts):
        # A copy, for the list handed in may be changed behind.
        self._parts = list(parts)
        self._points = _points_of(self._parts)

    def told(self):
        """The word "join" with its parts as they are told."""
        return (JOIN, _told_of(self._parts))

    def points(self):
        """Its points, rising."""
        return list(self._points)

    def tied(self, one, other):
        """Whether these two unlike points are in two parts, or tied within one."""
        return _tied_among(self._parts, one, other, True)

    def turned(self):
        """The Side of its parts turned."""
        return Side(_turned_of(self._parts))


def _points_of(trees):
    return sorted([point for tree in trees for point in tree.points()])


def _told_of(trees):
    return tuple([tree.told() for tree in trees])


def _turned_of(trees):
    return [tree.turned() for tree in trees]


def _tied_among(trees, one, other, across):
    """Whether the two are tied within one of the trees; across where none has both."""
    for tree in trees:
        points = tree.points()
        if one in points and other in points:
            return tree.tied(one, other)
    return across


def tree_by(told):
    """The Tree that is told so; BadTree of what is no tree."""
    # Each word has a point of its own beside the word within it, and the innermost has two.
    return _tree_under("", told, MOST_POINTS - 1, {})


def _tree_under(above, told, deep, met):
    """The Tree of told, right within the word above, with at most so many words deep.

    The points told before it are the keys of met, and its own are added to them:
    so what repeats itself is refused at once, however large it is.
    """
    if whole_within(told, 0, MOST_POINTS - 1):
        if told in met:
            raise BadTree("a point is told twice")
        met[told] = True
        return Point(told)
    word, parts = _opened(told)
    if word == above:
        raise BadTree("a word stands right within the same word")
    if deep == 0:
        raise BadTree("more words within one another than there are points for")
    trees = [_tree_under(word, within, deep - 1, met) for within in parts]
    leasts = [tree.points()[0] for tree in trees]
    if leasts != sorted(leasts):
        raise BadTree("parts do not rise by their least points")
    if word == SIDE:
        return Side(trees)
    return Join(trees)


def _opened(told):
    """The word and the parts of told, where it has the shape of a side or a join."""
    if not isinstance(told, tuple) or len(told) != 2:
        raise BadTree("neither a point nor a tuple of a word and parts")
    word, parts = told
    # What is no text might still call itself equal to one.
    if not isinstance(word, str) or (word != SIDE and word != JOIN):
        raise BadTree("neither the word of a side nor that of a join")
    if not isinstance(parts, tuple) or len(parts) < 2:
        raise BadTree("no tuple of two or more parts")
    return word, parts


def web_of(told):
    """The Web of a whole tree; BadTree of what is no tree, or not whole."""
    tree = tree_by(told)
    points = tree.points()
    if points != list(range(len(points))):
        raise BadTree("the tree is not whole")
    web = Web(len(points))
    for one, other in pairs(len(points)):
        if tree.tied(one, other):
            web.put(one, other)
    return web


def sided(one, other):
    """The told tree of two told ones laid side by side."""
    return _laid(SIDE, one, other)


def joined(one, other):
    """The told tree of two told ones joined all with all."""
    return _laid(JOIN, one, other)


def _laid(word, one, other):
    first = tree_by(one).points()
    second = tree_by(other).points()
    if len(set(first + second)) < len(first) + len(second):
        raise BadTree("the two trees have a point in common")
    parts = _parts_for(word, one) + _parts_for(word, other)
    return (word, tuple(sorted(parts, key=_least)))


def _parts_for(word, told):
    """What told brings to a tree of that word, within which the word may not stand again."""
    if isinstance(told, tuple) and told[0] == word:
        return list(told[1])
    return [told]


def _least(told):
    """The least point of a told tree."""
    # Parts rise by their least points: the least of all is in the first part.
    while isinstance(told, tuple):
        told = told[1][0]
    return told
