"""What several of the tests hand in, and what they compare with."""

import random

from joinside import errors
from joinside.webs import Web

FIGURES = 10 ** 999  # a whole number of a thousand figures

REFUSALS = ("BadSize", "BadPoint", "Twice", "NoTie", "TooMany", "NoTree", "BadTree", "BadText")

WORDS = ("side", "join")


def nested(deep, word_of=lambda at: WORDS[at % 2]):
    """So many words within one another, around a point."""
    told = 29
    for at in range(deep):
        told = (word_of(at), (at % 29, told))
    return told


def boxed(deep):
    """So many tuples of one within one another."""
    told = 0
    for _ in range(deep):
        told = (told,)
    return told


def doubled(deep):
    """A tuple that holds itself twice at each level: huge, were it written out."""
    told = 0
    for at in range(deep):
        told = (WORDS[at % 2], (told, told))
    return told


def round_list():
    """A list that holds itself."""
    rows = []
    rows.append(rows)
    return rows


class Same:
    """Equal to a word, yet no text."""

    def __init__(self, word):
        self.word = word

    def __eq__(self, other):
        return self.word == other


DEEP = [nested(40), nested(3000), nested(40000), nested(3000, lambda at: "side"), boxed(41), boxed(40000),
        doubled(29), doubled(45), doubled(3000)]


def odd_things():
    """Wrong as a size, a point, a list of points and a tree, wherever they are handed in."""
    return [
        None, True, False, "", "0", "1", "side", "(0 | 1)", [], [None], ["side", (0, 1)], round_list(),
        {}, {0: 1}, (), (0,), (0, 1), (0, 1, 2), ("side",), ("side", 0), (round_list(), {}), -1, -2, -30,
        FIGURES, -FIGURES,
    ] + DEEP


def samples_of(seed):
    """A source that gives the same run after run."""
    return random.Random(seed)


def random_ties(source, many):
    """Ties among so many points, some webs with few of them and some with many."""
    share = source.random()
    return [(a, b) for a in range(many) for b in range(a + 1, many) if source.random() < share]


def random_told(source, points, barred=""):
    """A told tree of these points, whose own word is not the barred one."""
    if len(points) == 1:
        return points[0]
    word = source.choice([word for word in WORDS if word != barred])
    shuffled = source.sample(points, len(points))
    cuts = sorted(source.sample(range(1, len(points)), source.randint(1, min(4, len(points) - 1))))
    groups = [shuffled[low:high] for low, high in zip([0] + cuts, cuts + [len(points)])]
    groups.sort(key=min)
    return (word, tuple(random_told(source, group, word) for group in groups))


def random_points(source, many):
    return source.sample(range(30), many)


def groupings(points):
    """Each way to part a list of points, the groups in the order of their firsts."""
    if not points:
        yield []
        return
    first, rest = points[0], points[1:]
    for groups in groupings(rest):
        yield [[first]] + groups
        for at in range(len(groups)):
            yield sorted(groups[:at] + [[first] + groups[at]] + groups[at + 1:])


def all_told(points, barred=""):
    """Each told tree of these rising points, whose own word is not the barred one."""
    if len(points) == 1:
        return [points[0]]
    found = []
    for word in WORDS:
        if word == barred:
            continue
        for groups in groupings(points):
            if len(groups) > 1:
                rows = [()]
                for group in groups:
                    rows = [row + (told,) for row in rows for told in all_told(group, word)]
                found += [(word, row) for row in rows]
    return found


def points_in(told):
    """The points of a told tree, in the order in which they are told."""
    if isinstance(told, int):
        return [told]
    return [point for within in told[1] for point in points_in(within)]


def trees_in(told):
    """The told tree and every tree within it."""
    if isinstance(told, int):
        return [told]
    return [told] + [tree for within in told[1] for tree in trees_in(within)]


def tied_in(told, one, other):
    """Point 5, word by word: is the smallest tree that has both a join?"""
    both = [tree for tree in trees_in(told) if one in points_in(tree) and other in points_in(tree)]
    smallest = min(both, key=lambda tree: len(points_in(tree)))
    return smallest[0] == "join"


def ties_in(told):
    points = sorted(points_in(told))
    return [(a, b) for a in points for b in points if a < b and tied_in(told, a, b)]


def deep_last(piece, points):
    """The points around the piece, which comes last at each level."""
    return _around(piece, sorted(points, reverse=True), lambda point, told: (point, told))


def deep_first(piece, points):
    """The points around the piece, which comes first at each level."""
    return _around(piece, sorted(points), lambda point, told: (told, point))


def _around(piece, points, pair):
    word = piece[0] if isinstance(piece, tuple) and piece and piece[0] in WORDS else "side"
    told = piece
    for point in points:
        word = WORDS[1 - WORDS.index(word)]
        told = (word, pair(point, told))
    return told


def web_with(many, ties):
    """The Web of so many points with these ties, put in the order told."""
    web = Web(many)
    for one, other in ties:
        web.put(one, other)
    return web


def flip(web, one, other):
    """Put the tie of the two where there is none, and take it where there is one."""
    if web.has(one, other):
        web.take(one, other)
    else:
        web.put(one, other)


def web_state(web):
    """All that a web tells of itself."""
    many = web.many()
    return (many, web.ties(), [web.beside(point) for point in range(many)],
            [[one != other and web.has(one, other) for other in range(many)] for one in range(many)])


def is_row(web, row):
    """Point 6, word by word."""
    if type(row) is not tuple or [type(point) for point in row] != [int] * 4 or len(set(row)) != 4:
        return False
    if min(row) < 0 or max(row) >= web.many():
        return False
    a, b, c, d = row
    return (web.has(a, b) and web.has(b, c) and web.has(c, d)
            and not web.has(a, c) and not web.has(b, d) and not web.has(a, d))


def refuse(case, name, call, *handed):
    """The refusal of that name which the call raises: a JoinError, and no other one of errors.py."""
    with case.assertRaises(ValueError) as held:
        call(*handed)
    case.assertIs(type(held.exception), getattr(errors, name))
    case.assertIsInstance(held.exception, errors.JoinError)
    for other in REFUSALS:
        case.assertEqual(isinstance(held.exception, getattr(errors, other)), other == name)
    return held.exception
