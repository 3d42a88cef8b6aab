"""Told trees as texts."""

from joinside.errors import BadText, BadTree
from joinside.trees import JOIN, SIDE, tree_by
from joinside.webs import MOST_POINTS

SIDE_SIGN = " | "
JOIN_SIGN = " & "


def shown(told):
    """The text of a told tree; BadTree of what is no tree."""
    tree_by(told)
    return _written(told)


def _written(told):
    if isinstance(told, int):
        return str(told)
    sign = JOIN_SIGN
    if told[0] == SIDE:
        sign = SIDE_SIGN
    return "(" + sign.join([_written(within) for within in told[1]]) + ")"


def read(text):
    """The told tree of its text; BadText of any other text, and of what is no text."""
    if not isinstance(text, str):
        raise BadText("no text")
    # In brackets within brackets there is a word within a word: see tree_by.
    told, end = _read_from(text, 0, MOST_POINTS - 1)
    if end < len(text):
        raise BadText("something stands behind the tree")
    try:
        tree_by(told)
    except BadTree:
        raise BadText("what is written is no tree")
    return told


def _read_from(text, start, deep):
    """What is told from that place on, with at most so many brackets deep, and where it ends."""
    if text[start:start + 1] != "(":
        return _point_from(text, start)
    if deep == 0:
        raise BadText("more brackets within one another than there are points for")
    first, end = _read_from(text, start + 1, deep - 1)
    parts = [first]
    sign = text[end:end + len(SIDE_SIGN)]
    word = _word_of(sign)
    while text[end:end + len(sign)] == sign:
        further, end = _read_from(text, end + len(sign), deep - 1)
        parts.append(further)
    if text[end:end + 1] != ")":
        raise BadText("a bracket is missing")
    return (word, tuple(parts)), end + 1


def _word_of(sign):
    """The word of a tree between whose parts the sign stands."""
    if sign == SIDE_SIGN:
        return SIDE
    if sign == JOIN_SIGN:
        return JOIN
    raise BadText("no sign between parts")


def _point_from(text, start):
    """The point whose figures begin at that place, and where they end."""
    figures = {str(point): point for point in range(MOST_POINTS)}
    # Two signs first: 12 is not a 1 with something behind it.
    for long in (2, 1):
        word = text[start:start + long]
        if word in figures:
            return figures[word], start + len(word)
    raise BadText("no point")
