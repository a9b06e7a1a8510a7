"""CONES: all points that some planes let be, told by their corners, in whole numbers.

A point (p, q, ..) of fractions is told by a RAY (a, b, c, ..) of whole
numbers: a is above 0, p is b by a, q is c by a, and so on. A RAY with 0 for
a is a direction in which points go on without end. A PLANE has as many
numbers, and lets be each RAY whose numbers, each times that of the PLANE,
come to 0 or more.
"""

from math import gcd


class Cone:
    """The RAYS that are no mixture of others, each with the PLANES on which it lies, as the bits of a number."""

    def __init__(self, lows):
        """All points that have at least lows, whole numbers, place by place."""
        many = len(lows) + 1
        self.planes = many
        self.rays = [((1, *lows), all_bits(many) - 1)]
        for place in range(1, many):
            self.rays.append((tuple([int(at == place) for at in range(many)]), all_bits(many) - (1 << place)))

    def cut(self, plane):
        """Take away all that this PLANE does not let be."""
        told = [(ray, bits, height(plane, ray)) for ray, bits in self.rays]
        bit = 1 << self.planes
        stays = [(ray, bits + bit if high == 0 else bits) for ray, bits, high in told if high >= 0]
        above = [own for own in told if own[2] > 0]
        below = [own for own in told if own[2] < 0]
        for one in above:
            for other in below:
                common = one[1] & other[1]
                if self.is_edge(common):
                    stays.append((between(one, other), common + bit))
        self.planes += 1
        self.rays = stays

    def is_edge(self, common):
        """Whether no more than two RAYS lie on all of these PLANES, as the bits of a number."""
        return len([bits for _, bits in self.rays if bits & common == common]) == 2

    def corners(self):
        """The list of the RAYS that tell a point."""
        return [ray for ray, _ in self.rays if ray[0] > 0]


def all_bits(many):
    """The number that has so many bits, all 1."""
    return (1 << many) - 1


def height(plane, ray):
    """The numbers of this RAY, each times that of the PLANE, added up."""
    return sum([own * number for own, number in zip(plane, ray)])


def between(one, other):
    """The RAY between two that are told with their heights, above 0 and below, on the PLANE that these are of."""
    mixed = [other_part * one[2] - one_part * other[2] for one_part, other_part in zip(one[0], other[0])]
    common = 0
    for part in mixed:
        common = gcd(common, part)
    return tuple([part // common for part in mixed])
