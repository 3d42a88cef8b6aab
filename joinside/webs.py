"""Webs: points numbered from 0 on, and ties between two of them."""

from joinside.errors import BadPoint, BadSize, NoTie, TooMany, Twice

MOST_POINTS = 30


def whole_within(number, least, most):
    """Whether number is a whole number from least to most."""
    # A truth passes for an int in Python, but is no whole number here.
    if not isinstance(number, int) or isinstance(number, bool):
        return False
    return least <= number <= most


def unlike_points(points, many):
    """Whether points is a list, perhaps empty, of unlike points below many."""
    if not isinstance(points, list):
        return False
    for point in points:
        if not whole_within(point, 0, many - 1):
            return False
    return len(set(points)) == len(points)


def pairs(many):
    """Each two points below many, the lesser one first, rising."""
    return [(one, other) for one in range(many) for other in range(one + 1, many)]


class Web:
    """So many points, at first without ties."""

    def __init__(self, many):
        if not whole_within(many, 1, MOST_POINTS):
            raise BadSize("a web has 1 to 30 points")
        self._near = [{} for point in range(many)]

    def many(self):
        """How many points there are."""
        return len(self._near)

    def has(self, one, other):
        """Whether there is a tie of these two points."""
        self._need_point(one)
        self._need_point(other)
        if one == other:
            raise BadPoint("a tie is between two unlike points")
        return other in self._near[one]

    def put(self, one, other):
        """Tie these two points, which are not tied yet."""
        if self.has(one, other):
            raise Twice("there is that tie already")
        self._near[one][other] = True
        self._near[other][one] = True

    def take(self, one, other):
        """Undo the tie of these two points."""
        if not self.has(one, other):
            raise NoTie("there is no such tie")
        del self._near[one][other]
        del self._near[other][one]

    def grow(self):
        """The number of a further point, which has no ties."""
        number = len(self._near)
        if number >= MOST_POINTS:
            raise TooMany("there are 30 points")
        self._near.append({})
        return number

    def beside(self, point):
        """The points beside this one, rising."""
        self._need_point(point)
        return sorted(self._near[point])

    def ties(self):
        """All ties, each with the lesser point first, rising."""
        return [(one, other) for one, other in pairs(self.many()) if other in self._near[one]]

    def _need_point(self, point):
        if not whole_within(point, 0, len(self._near) - 1):
            raise BadPoint("the web has no such point")


def part(web, points):
    """The Web of these points, numbered anew as they are told, and of all ties between them."""
    if not unlike_points(points, web.many()) or len(points) == 0:
        raise BadPoint("no list of one or more unlike points")
    found = Web(len(points))
    for one, other in pairs(len(points)):
        if web.has(points[one], points[other]):
            found.put(one, other)
    return found


def opposite(web):
    """The Web of the same points, and of just the ties that web has not."""
    found = Web(web.many())
    for one, other in pairs(web.many()):
        if not web.has(one, other):
            found.put(one, other)
    return found
