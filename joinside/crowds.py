"""Crowds, still sets and colours of told trees.

A crowd takes points from all parts of a join, but from one part alone of a side;
of a still set it is the other way round. So each of the functions below that end
in `_by` serves both: crowds by the word JOIN, still sets by the word SIDE.
"""

from joinside.trees import JOIN, SIDE, tree_by


def crowd(told):
    """A greatest crowd, rising; BadTree of what is no tree."""
    tree_by(told)
    return sorted(_greatest_by(JOIN, told))


def still(told):
    """A greatest still set, rising; BadTree of what is no tree."""
    tree_by(told)
    return sorted(_greatest_by(SIDE, told))


def colours(told):
    """As few colours as can be, by points; BadTree of what is no tree."""
    tree_by(told)
    found = {}
    # Points of one colour are a still set.
    for colour, points in enumerate(_fewest_by(SIDE, told)):
        for point in points:
            found[point] = colour
    return found


def covers(told):
    """As few crowds as can be, each point in just one; BadTree of what is no tree."""
    tree_by(told)
    return [sorted(points) for points in _fewest_by(JOIN, told)]


def many_crowds(told):
    """How many crowds there are, the empty one too; BadTree of what is no tree."""
    tree_by(told)
    return _many_by(JOIN, told)


def many_stills(told):
    """How many still sets there are, the empty one too; BadTree of what is no tree."""
    tree_by(told)
    return _many_by(SIDE, told)


def _greatest_by(word, told):
    """The points of a greatest crowd or still set."""
    if isinstance(told, int):
        return [told]
    found = [_greatest_by(word, within) for within in told[1]]
    if told[0] == word:
        return [point for points in found for point in points]
    return max(found, key=len)


def _fewest_by(word, told):
    """All points, parted in as few crowds or still sets as can be."""
    if isinstance(told, int):
        return [[told]]
    found = [_fewest_by(word, within) for within in told[1]]
    if told[0] == word:
        return _merged(found)
    return [points for lists in found for points in lists]


def _merged(found):
    """The first lists of all as one, the second lists as one, and so on."""
    merged = []
    for lists in found:
        for at, points in enumerate(lists):
            if at == len(merged):
                merged.append([])
            merged[at] = merged[at] + points
    return merged


def _many_by(word, told):
    """How many crowds or still sets there are, the empty one too."""
    if isinstance(told, int):
        return 2
    many = 1
    for within in told[1]:
        if told[0] == word:
            many = many * _many_by(word, within)
        else:
            # The empty one is the same in each part: it is counted once.
            many = many + _many_by(word, within) - 1
    return many
