"""Told trees: right ones, and such as break point 4."""

from samples import (DEEP, FIGURES, Same, deep_first, deep_last, odd_things, random_points, random_told,
                     samples_of)

EXAMPLE = ("join", (0, ("side", (1, 3)), 2))

LONG_LAST = deep_last(29, range(29))
LONG_FIRST = deep_first(0, range(1, 30))

TREES = [
    0, 7, 29, EXAMPLE, ("side", (0, 1)), ("join", (0, 1)), ("join", (3, 29)), ("side", (0, 29)),
    ("side", tuple(range(30))), ("join", tuple(range(30))), ("side", (("join", (2, 9)), 4, ("join", (5, 8)))),
    ("join", (("side", (0, 3)), ("side", (1, 2)))), ("side", (0, ("join", (1, ("side", (2, ("join", (3, 4)))))))),
    ("side", (("join", (0, 29)), ("join", (1, 28)), ("join", (2, 27)))),
    LONG_LAST, LONG_FIRST, deep_last(("side", (27, 28, 29)), range(27)), deep_first(("join", (3, 5)), range(6, 30)),
]


def turned_in(told):
    if isinstance(told, int):
        return told
    return ("join" if told[0] == "side" else "side", tuple(turned_in(within) for within in told[1]))


def trees_to_try(seed, many):
    """The trees above, and so many more of up to 30 points."""
    source = samples_of(seed)
    found = list(TREES)
    for _ in range(many):
        found.append(random_told(source, random_points(source, source.randint(1, 30))))
    return found


# Each of these breaks point 4 in one way only, where points from 0 to 4 are free and it comes first.
BROKEN_LOW = [
    ("side", [0, 1]), ("side", {0: True, 1: True}), ("side", None), ("side", "01"), ("side", 1), ("side", True),
    ("join", [0, 1]), ("side", range(2)), ("join", None),
    ("side", ()), ("join", ()), ("side", (0,)), ("join", (3,)), ("side", (("join", (0, 1)),)),
    (), ("side",), ("join",), ((0, 1),), (0,), ("side", (0, 1), 2), ("side", (0, 1), None), ("join", (0, 1), (2, 3)),
    ("side", 0, 1), ("side", (0, 1), "side", (2, 3)), ["side", (0, 1)], ["join", [0, 1]], [0, 1],
    ("sides", (0, 1)), ("Side", (0, 1)), ("JOIN", (0, 1)), ("", (0, 1)), (" side", (0, 1)), ("join ", (0, 1)),
    ("sid", (0, 1)), ("sidejoin", (0, 1)), ("point", (0, 1)), ("|", (0, 1)),
    (None, (0, 1)), (True, (0, 1)), (False, (0, 1)), (0, (1, 2)), (0, 1), (("side",), (0, 1)), (["side"], (0, 1)),
    ({"side": 0}, (0, 1)), (b"side", (0, 1)), (Same("side"), (0, 1)), (Same("join"), (0, 1)), ((0, 1), "side"),
    ("side", (0, ("side", (1, 2)))), ("side", (("side", (0, 1)), 2)), ("join", (0, ("join", (1, 2)))),
    ("join", (("join", (0, 2)), 1)), ("join", (0, ("join", (1, 2)), 3)), ("side", (0, 1, ("side", (2, 3)))),
    ("side", (1, 0)), ("join", (1, 0)), ("side", (0, 2, 1)), ("join", (2, 0, 1)), ("side", (1, ("join", (0, 2)))),
    ("side", (("join", (1, 2)), 0)), ("join", (("side", (1, 3)), ("side", (0, 2)))), ("join", (0, 3, 1, 4)),
    ("side", (0, 0)), ("join", (0, 0)), ("side", (0, 1, 1)), ("side", (0, ("join", (0, 1)))),
    ("side", (("join", (0, 1)), 1)), ("join", (("side", (0, 2)), ("side", (1, 2)))), ("join", (0, ("side", (1, 1)))),
    ("side", (-1, 0)), ("side", (-1, 1)), ("join", (-30, 0)), ("side", (-FIGURES, 0)), ("join", (0, ("side", (-1, 1)))),
    ("side", (False, 1)), ("side", (0, True)), ("join", (True, 2)), ("join", (False, True)), ("side", (0, True, 2)),
    ("join", (0, ("side", (True, 2)))), ("side", (0, None)), ("side", (None, 0)), ("side", (0, "1")),
    ("join", (0, 1.0)), ("side", (0, [1])), ("side", (0, (1, 2))), ("side", (0, ())), ("side", (0, {})),
]

# Points above 29 rise only where they come last.
BROKEN_HIGH = [
    ("side", (28, 30)), ("join", (28, 30)), ("side", (28, 29, 30)), ("join", (28, ("side", (29, 30)))),
    ("side", (29, 31)), ("join", (29, 100)), ("side", (28, FIGURES)), ("join", (28, ("side", (30, 31)))),
]


def broken_far_within():
    """Each of these around which there are right words, up to the top."""
    low = [deep_first(told, range(first, 30)) for told in BROKEN_LOW for first in (5, 20, 29)]
    return low + [deep_last(told, range(first, 28)) for told in BROKEN_HIGH for first in (0, 10, 27)]


def no_trees():
    """All of these, and what is odd by itself, too deep or too wide."""
    found = BROKEN_LOW + BROKEN_HIGH + broken_far_within() + odd_things()
    found += [30, 31, 1000, -29, 1.0, ("side", tuple(range(31))), ("join", (0,) * 5000), ("side", (30, LONG_LAST))]
    found += [("side", (told, 1)) for told in DEEP] + [("join", (0, told)) for told in DEEP]
    return found
