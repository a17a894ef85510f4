"""KEEPERs: points that are put, moved, taken out and taken back, and the SMOOTHEST row through them."""

from gentlebends.cutting import part_of
from gentlebends.errors import NoOne
from gentlebends.errors import NoPoint
from gentlebends.errors import NoStretch
from gentlebends.errors import Twice
from gentlebends.fractions import greatest_of
from gentlebends.fractions import is_below
from gentlebends.fractions import least_of
from gentlebends.rowsums import row_scaled
from gentlebends.rowsums import row_sum
from gentlebends.smoothing import smoothest_through
from gentlebends.smoothing import unit_row


def places_of_points(points):
    """The places at which points stand, rising."""
    return [place for place, value in points]


def with_point(points, place, value):
    """Points with one of this value at a place, whether one stands there or not."""
    ahead = [point for point in points if is_below(point[0], place)]
    behind = [point for point in points if is_below(place, point[0])]
    return (*ahead, (place, value), *behind)


def ask_standing(points, place):
    """Nothing, or NoPoint where no point stands at a place."""
    if place not in places_of_points(points):
        raise NoPoint(place)


def ask_enough(points):
    """Nothing, or NoOne where fewer than two points stand."""
    if len(points) < 2:
        raise NoOne("fewer than two points stand")


def row_less(one, other):
    """The first ROW less the second over the stretch that both have."""
    low = greatest_of([one[0][0], other[0][0]])
    high = least_of([one[0][-1], other[0][-1]])
    if not is_below(low, high):
        raise NoStretch("the two rows share no stretch")
    return row_sum(part_of(one, low, high), row_scaled(part_of(other, low, high), (-1, 1)))


class Keeper:
    """Keeps points, each a place and a value, and tells of the SMOOTHEST row through them."""

    def __init__(self, sort):
        self.bent_by = sort
        # Pairs (place, value), places rising: a tuple, so that what stood ahead of a deed is kept as it was.
        self.standing = ()
        self.stood = []

    def become(self, points):
        """Do a deed: these points stand now, and it is told how many they are."""
        self.stood.append(self.standing)
        self.standing = points
        return len(points)

    def put(self, place, value):
        """Put a point where none stands."""
        if place in places_of_points(self.standing):
            raise Twice(place)
        return self.become(with_point(self.standing, place, value))

    def move(self, place, value):
        """Give the point at a place another value."""
        ask_standing(self.standing, place)
        return self.become(with_point(self.standing, place, value))

    def out(self, place):
        """Let the point at a place go."""
        ask_standing(self.standing, place)
        return self.become(tuple(point for point in self.standing if point[0] != place))

    def back(self):
        """Take back the last deed that stands: whether there was one."""
        if not self.stood:
            return False
        self.standing = self.stood.pop()
        return True

    def points_now(self):
        """The points that stand, a list of pairs (place, value)."""
        return list(self.standing)

    def row_now(self):
        """The SMOOTHEST row through the points."""
        ask_enough(self.standing)
        return smoothest_through(self.bent_by, None, self.standing)[1]

    def share_now(self, place):
        """By what the row is turned when the value at a place becomes greater by 1."""
        ask_enough(self.standing)
        ask_standing(self.standing, place)
        places = places_of_points(self.standing)
        return unit_row(self.bent_by, places, places.index(place))

    def turned_from(self, row):
        """By what the KEEPER's row is turned from another ROW."""
        return row_less(self.row_now(), row)
