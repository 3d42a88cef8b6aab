"""Kept webs: those that always have a tree."""

from joinside.errors import BadPoint, NoTree
from joinside.finding import row_in, tree_of
from joinside.webs import Web, part, unlike_points


class Kept:
    """A web, at first without ties, that is never left with a row."""

    def __init__(self, many):
        self._web = Web(many)

    def put(self, one, other):
        """Tie these two points, which are not tied yet; NoTree where that makes a row."""
        would_be = self.web()
        would_be.put(one, other)
        self._become(would_be)

    def take(self, one, other):
        """Undo the tie of these two points; NoTree where that makes a row."""
        would_be = self.web()
        would_be.take(one, other)
        self._become(would_be)

    def grow(self, points):
        """The number of a further point, tied to these; NoTree where that makes a row."""
        would_be = self.web()
        number = would_be.grow()
        if not unlike_points(points, number):
            raise BadPoint("no list of unlike points")
        for point in points:
            would_be.put(point, number)
        self._become(would_be)
        return number

    def tree(self):
        """The told tree of the web."""
        return tree_of(self._web)

    def web(self):
        """A Web alike, of the asker's own."""
        return part(self._web, list(range(self._web.many())))

    def _become(self, would_be):
        """Be that web from now on, unless it has a row."""
        row = row_in(would_be)
        if row is not None:
            raise NoTree(row)
        self._web = would_be
