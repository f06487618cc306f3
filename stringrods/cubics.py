"""Surfaces of third degree, and all rods on the one of a double six."""

from stringrods.errors import Flat, InvalidCubic, NotOnIt
from stringrods.rods import check_rod, meeting_plane, meeting_point, on_rod, points_of, row_product
from stringrods.rows import combined, is_reduced_row, minus, plus, reduced
from stringrods.sixes import check_double_six, check_two_sixes
from stringrods.spaces import check_point, cut

# Which three numbers of a point stand behind each number of a cubic.
TERMS = (
    (0, 0, 0), (0, 0, 1), (0, 0, 2), (0, 0, 3), (0, 1, 1), (0, 1, 2), (0, 1, 3), (0, 2, 2), (0, 2, 3), (0, 3, 3),
    (1, 1, 1), (1, 1, 2), (1, 1, 3), (1, 2, 2), (1, 2, 3), (1, 3, 3), (2, 2, 2), (2, 2, 3), (2, 3, 3), (3, 3, 3),
)
# The pairs i, j of the c_ij in their order.
PAIRS = (
    (0, 1), (0, 2), (0, 3), (0, 4), (0, 5), (1, 2), (1, 3), (1, 4), (1, 5), (2, 3), (2, 4), (2, 5), (3, 4), (3, 5),
    (4, 5),
)


def is_cubic(value):
    """Tell whether a value, whatever it is, is a cubic."""
    return is_reduced_row(value, 20)


def check_cubic(value):
    """Raise InvalidCubic for what is no cubic."""
    if not is_cubic(value):
        raise InvalidCubic(value)


def sum_at(numbers, row):
    """Return the sum of a cubic, reduced or not, at the four numbers of a row."""
    return sum([number * row[i] * row[j] * row[k] for number, (i, j, k) in zip(numbers, TERMS)])


def slope_by(cubic, row, place):
    """Return the slope of the sum at the four numbers of a row, by the number at the place."""
    total = 0
    for number, term in zip(cubic, TERMS):
        for at in range(3):
            if term[at] == place:
                total += number * row[term[at - 1]] * row[term[at - 2]]
    return total


def four_points(rod):
    """Return four points, not reduced, of the rod: a cubic has all points of it if it has these."""
    first, second = points_of(rod)
    return [first, second, plus(first, second), minus(first, second)]


def planes_product(planes):
    """Return the numbers, not reduced, of the cubic that is three planes."""
    first, second, third = planes
    numbers = [0] * len(TERMS)
    for i in range(4):
        for j in range(4):
            for k in range(4):
                numbers[TERMS.index(tuple(sorted([i, j, k])))] += first[i] * second[j] * third[k]
    return tuple(numbers)


def cubic_of(rods, others):
    """Return the cubic of a double six."""
    # Both these products of planes have nine rods of the cubic, three in each plane, and
    # each cubic with these is a sum of multiples of them: a point more tells which.
    first = planes_product([meeting_plane(rods[at], others[(at + 1) % 3]) for at in range(3)])
    second = planes_product([meeting_plane(rods[at], others[(at + 2) % 3]) for at in range(3)])
    # The fourth rod meets one rod of each plane at most besides, so it lies in none of them.
    point = [each for each in four_points(rods[3]) if sum_at(first, each) != 0][0]
    return reduced(combined((sum_at(second, point), -sum_at(first, point)), (first, second)))


def rods_of(rods, others):
    """Return the 27 rods of the cubic of a double six, in their order."""
    between = []
    for i, j in PAIRS:
        between.append(cut(meeting_plane(rods[i], others[j]), meeting_plane(rods[j], others[i])))
    return rods + others + tuple(between)


def meeting_threes(whole):
    """Return the ascending list of all three ascending indexes of rods each two of which meet."""
    places = list(range(len(whole)))
    meets = [[row_product(rod, each) == 0 for each in whole] for rod in whole]
    pairs = [(i, j) for i in places for j in places[i + 1:] if meets[i][j]]
    return [(i, j, k) for i, j in pairs for k in places[j + 1:] if meets[i][k] and meets[j][k]]


def index_between(first, second):
    """Return the index, among the 27, of the c with these two indexes, in any order."""
    return 12 + PAIRS.index((min(first, second), max(first, second)))


def pair_of_two(i, j):
    """Return the double six of the 27 that parts a_i and b_i from a_j and b_j, i being below j."""
    left = [k for k in range(6) if k != i and k != j]
    near = [i, 6 + i] + [index_between(j, k) for k in left]
    there = [j, 6 + j] + [index_between(i, k) for k in left]
    return (tuple(near), tuple(there))


def pair_of_three(i, j, k):
    """Return the double six of the 27 with a_i, a_j and a_k alone of the a, the three ascending."""
    first, second, third = [each for each in range(6) if each not in (i, j, k)]
    near = (i, j, k, index_between(first, second), index_between(first, third), index_between(second, third))
    there = (index_between(j, k), index_between(i, k), index_between(i, j), 6 + third, 6 + second, 6 + first)
    return (near, there)


def check_sixes(rods, others):
    """Raise InvalidRods for what are no sixes of rods, NotSix if they are no double six."""
    check_two_sixes(rods, others)
    check_double_six(rods, others)


def cubic_at(cubic, point):
    """Return the sum of the cubic at the point."""
    check_cubic(cubic)
    check_point(point)
    return sum_at(cubic, point)


def has_rod(cubic, rod):
    """Tell whether all points of the rod are on the cubic."""
    check_cubic(cubic)
    check_rod(rod)
    return not any([sum_at(cubic, point) for point in four_points(rod)])


def tangent_plane(cubic, point):
    """Return the tangent plane at a point of the cubic that is no double point."""
    check_cubic(cubic)
    check_point(point)
    if sum_at(cubic, point) != 0:
        raise NotOnIt(point)
    plane = [slope_by(cubic, point, place) for place in range(4)]
    if not any(plane):
        raise Flat()
    return reduced(plane)


def cubic_through(rods, others):
    """Return the one cubic with all twelve rods of a double six."""
    check_sixes(rods, others)
    return cubic_of(rods, others)


def all_rods(rods, others):
    """Return the 27 rods of the cubic of a double six, in their order."""
    check_sixes(rods, others)
    return rods_of(rods, others)


def three_planes(rods, others):
    """Return the ascending tuple of the 45 pairs of three indexes of rods of the 27 and the plane of these."""
    check_sixes(rods, others)
    whole = rods_of(rods, others)
    return tuple([(three, meeting_plane(whole[three[0]], whole[three[1]])) for three in meeting_threes(whole)])


def six_pairs(rods, others):
    """Return the ascending tuple of the 36 double sixes among the 27 rods, told by their indexes."""
    check_sixes(rods, others)
    places = list(range(6))
    pairs = [(tuple(places), tuple(range(6, 12)))]
    pairs += [pair_of_two(i, j) for i, j in PAIRS]
    pairs += [pair_of_three(i, j, k) for i, j in PAIRS for k in places[j + 1:]]
    return tuple(sorted(pairs))


def stars(rods, others):
    """Return the ascending tuple of the points on three of the 27 rods."""
    check_sixes(rods, others)
    whole = rods_of(rods, others)
    points = []
    for i, j, k in meeting_threes(whole):
        point = meeting_point(whole[i], whole[j])
        if on_rod(point, whole[k]):
            points.append(point)
    return tuple(sorted(points))
