"""Finding the tree of a web, or a row that shows that it has none."""

from joinside.errors import NoTree
from joinside.trees import JOIN, SIDE


def row_in(web):
    """A row of the web, of several always the same one; None without one."""
    near = _near_each(web)
    # A row read from behind is a row too: so its midst may be a tie as ties are told.
    for b, c in web.ties():
        firsts = [point for point in near[b] if point != c and point not in near[c]]
        lasts = [point for point in near[c] if point != b and point not in near[b]]
        for a in firsts:
            for d in lasts:
                if d not in near[a]:
                    return (a, b, c, d)
    return None


def tree_of(web):
    """The told tree whose web it is; NoTree where the web has a row."""
    row = row_in(web)
    if row is not None:
        raise NoTree(row)
    return _told_of(_near_each(web), list(range(web.many())))


def _near_each(web):
    """For each point a dict of those beside it, rising."""
    return [{other: True for other in web.beside(point)} for point in range(web.many())]


def _told_of(near, points):
    """The told tree of these rising points, between which there is no row."""
    if len(points) == 1:
        return points[0]
    word = SIDE
    groups = _groups(near, points, True)
    # Without a row, points that hang together by their ties fall apart by the ties that are missing.
    if len(groups) == 1:
        word = JOIN
        groups = _groups(near, points, False)
    return (word, tuple([_told_of(near, group) for group in groups]))


def _groups(near, points, tied):
    """The rising points in the groups that hang together, which rise by their least points.

    Two points hang together where they are tied or, if tied is False, where they are not,
    and where points lead from one to the other that do so step by step.
    """
    groups = []
    left = points
    while left:
        group = _group_of(near, left, tied)
        left = [point for point in left if point not in group]
        groups.append(group)
    return groups


def _group_of(near, points, tied):
    """Those of the points that hang together with the first of them, rising."""
    met = {points[0]: True}
    fresh = [points[0]]
    while fresh:
        point = fresh.pop()
        for other in points:
            if other not in met and (other in near[point]) == tied:
                met[other] = True
                fresh.append(other)
    return sorted(met)
