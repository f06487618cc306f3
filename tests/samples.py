"""Values that several tests share."""

from itertools import permutations, product
from math import gcd


class Grumpy:
    """A value that cannot be compared, measured, iterated over or tested."""

    def __eq__(self, other):
        raise RuntimeError("compared")

    __hash__ = None

    def __len__(self):
        raise RuntimeError("measured")

    def __iter__(self):
        raise RuntimeError("iterated over")

    def __bool__(self):
        raise RuntimeError("tested")

    def __getitem__(self, at):
        raise RuntimeError("indexed")


def nested(depth):
    """A tuple nested so many deep."""
    value = ()
    for _ in range(depth - 1):
        value = (value,)
    return value


HUGE = 10 ** 399 + 7

# None of these is a point, a plane or a rod, or any other row of numbers.
ANYTHING = [
    None, True, False, 0, 1, -3, HUGE, "", "1000", "100000", b"", b"\x01\x00\x00\x00",
    [], {}, {1: 0, 2: 0, 3: 0, 4: 0}, set(), {1, 2, 3, 4}, frozenset(), range(4), object(), Grumpy(),
    len, int, ValueError, ValueError("1"), (), (1,), (1, 0), (1, 0, 0), nested(14), [nested(13)],
    ((1, 0, 0, 0),), ([1, 0, 0, 0],), ("1", "0", "0", "0"), ("1", "0", "0", "0", "0", "0"),
]

# None of these is a point or a plane.
NO_FOURS = ANYTHING + [
    [1, 0, 0, 0], [1, 2, 3, 4], {0: 1, 1: 0, 2: 0, 3: 0},
    (1, 0, 0, 0, 0), (0, 1, 0, 0, 0), (1, 0, 0, 0, 0, 0),
    (0, 0, 0, 0), (2, 0, 0, 0), (0, 0, 0, 2), (2, 4, 6, 8), (3, 0, -6, 9), (0, 5, 10, 0),
    (-1, 0, 0, 0), (-1, 2, 3, 4), (0, -1, 0, 0), (0, 0, -1, 1), (0, 0, 0, -1), (-2, 3, 0, 0),
    (True, 0, 0, 0), (1, False, 0, 0), (1, 0, 0, False), (0, 0, 0, True), (False, 1, 0, 0),
    (1, 0, 0, None), (None, 0, 0, 1), (1, 0, 0, "0"), (1, 0, (0,), 0), (1, 0, [], 0), (1, 2, Grumpy(), 3),
    (Grumpy(), 0, 0, 1), (HUGE, 0, 0, HUGE), (-HUGE, 1, 0, 0), (1, 0, 0, nested(13)),
    ((1, 0, 0, 0), 0, 0, 0),
]

# None of these is a rod.
NO_RODS = ANYTHING + [
    [1, 0, 0, 0, 0, 0], [0, 1, 0, -1, 0, 0], {at: 1 for at in range(6)},
    (1, 0, 0, 0), (1, 0, 0, 0, 0), (1, 0, 0, 0, 0, 0, 0), (0, 0, 0, 0, 0), (0, 0, 1),
    (0, 0, 0, 0, 0, 0), (2, 0, 0, 0, 0, 0), (0, 2, 0, -2, 0, 0), (0, 0, 0, 0, 0, 2), (0, 0, 0, 3, 6, 0),
    (-1, 0, 0, 0, 0, 0), (0, -1, 0, 1, 0, 0), (0, 0, 0, -1, 0, 0), (0, 0, 0, 0, 0, -1), (-1, 0, 0, 0, 2, 3),
    (1, 0, 0, 1, 0, 0), (0, 0, 1, 0, 0, 1), (1, 2, 3, 1, 1, 1), (1, 1, 1, 1, 1, -1), (0, 1, 0, 0, -1, 0),
    (HUGE, 1, 0, 1, HUGE, 0),
    (True, 0, 0, 0, 0, 0), (1, False, 0, 0, 0, 0), (1, 0, 0, 0, 0, False), (0, 0, 0, 0, 0, True),
    (1, 0, 0, None, 0, 0), (1, 0, 0, 0, 0, "0"), ("1", 0, 0, 0, 0, 0), (1, 0, 0, (), 0, 0), (1, 0, [0], 0, 0, 0),
    (1, 0, 0, 0, 0, Grumpy()), (Grumpy(), 0, 0, 0, 0, 1), (HUGE, 0, 0, 0, HUGE, 0),
    (1, 0, 0, 0, 0, nested(13)), ((1, 0, 0), (0, 0, 0)), ((1, 0, 0, 0, 0, 0), 0, 0, 0, 0, 0),
]


def is_reduced(row):
    """Say by [6], in the test's own words, whether whole numbers are reduced."""
    divisor = gcd(*row)
    front = [number for number in row if number != 0]
    return divisor == 1 and front[0] > 0


def rows_between(low, high, length):
    """All reduced rows of numbers from low up to high."""
    rows = product(range(low, high + 1), repeat=length)
    return [row for row in rows if any(row) and is_reduced(row)]


def determinant(rows):
    """The determinant, term by term."""
    total = 0
    for order in permutations(range(len(rows))):
        term = 1
        for low in range(len(order)):
            for high in range(low + 1, len(order)):
                if order[low] > order[high]:
                    term = -term
        for row, at in zip(rows, order):
            term *= row[at]
        total += term
    return total


def in_line(first, second, third):
    """Whether three rows of four hang together, by their determinants of three."""
    picked = [(0, 1, 2), (0, 1, 3), (0, 2, 3), (1, 2, 3)]
    rows = (first, second, third)
    return all(determinant([[row[at] for at in pick] for row in rows]) == 0 for pick in picked)


def crossed_sum(rod, other):
    """The product of [8], number by number."""
    return sum(rod[at] * other[(at + 3) % 6] for at in range(6))


# None of these is a whole number.
NO_WHOLES = [value for value in ANYTHING if not (value.__class__ is int)] + ["0", "7", (7,), [7], {7: 7}, {7}]

# None of these is a fraction from 0 on.
NO_FRACTIONS = ANYTHING + [
    [1, 1], [0, 1], {1: 1, 2: 1}, "1/2", (0, 2), (0, -1), (0, 0), (2, 4), (6, 3), (1, 0), (-1, 1), (1, -1), (-1, -1),
    (-1, 2), (1, 1, 1), (3,), (True, 1), (1, True), (False, 1), (0, True), (True, True), (None, 1), (1, None),
    ("1", 1), (1, "1"), ((1, 1), 1), (1, [1]), (Grumpy(), 1), (1, Grumpy()), (HUGE, HUGE), (-HUGE, 2),
    (2 * HUGE, 2), (1, nested(13)),
]

# None of these is a surface.
NO_SURFACES = NO_RODS + NO_FOURS + [
    [1, 0, 0, 0, 1, 0, 0, 1, 0, -1], (0,) * 10, (1,) * 9, (1,) * 11, (2,) + (0,) * 9, (-1,) + (0,) * 9,
    (0,) * 9 + (-1,), (0,) * 9 + (2,), (2, 0, 0, 0, 2, 0, 0, 2, 0, 4), (True,) + (0,) * 9, (1,) + (False,) * 9,
    (1,) + (None,) * 9, ("1",) + (0,) * 9, (0,) * 9 + (Grumpy(),), (1, 0, 0, 0, 0, 0, 0, 0, 0, nested(13)),
    ((1, 0, 0, 0), (0, 1, 0, 0), (0, 0, 1, 0), (0, 0, 0, 1)), (0, -1, 0, 0, 0, 0, 0, 0, 0, 1), (HUGE,) * 10,
]

SOME_RODS = (
    (1, 0, 0, 0, 0, 0), (0, 1, 0, 0, 0, 0), (0, 0, 1, 0, 0, 0), (0, 0, 0, 1, 0, 0), (0, 1, 0, -1, 0, 0),
    (0, 0, 1, 1, -1, 0), (1, 2, 3, 3, 0, -1), (1, 0, 0, 0, 0, -2), (0, 0, 0, 2, -3, 5), (1, 0, 0, 0, 0, 0),
)


def wrong_lots():
    """Pairs of what is no lot and the index that is told."""
    no_tuples = [value for value in NO_RODS if not isinstance(value, tuple)] + [list(SOME_RODS[:3]), [SOME_RODS[0]]]
    told = [(value, None) for value in no_tuples] + [((), 0)]
    told += [((value,), 0) for value in NO_RODS]
    told += [(SOME_RODS[:at] + (value,) + SOME_RODS[at:7], at) for at in range(8) for value in NO_RODS[at::8]]
    told += [(SOME_RODS[:at] + ([1, 0, 0, 0, 0, 0],) + (None,) * 3, at) for at in range(8)]
    told += [(SOME_RODS[:9], 8), (SOME_RODS, 8), (SOME_RODS[:1] * 60, 8), (SOME_RODS[:8] + (None,), 8)]
    told += [(SOME_RODS[:9] + (None,), 8), ((None,) + SOME_RODS[:9], 0), (SOME_RODS[0], 0), ((1, 0, 0, 0), 0)]
    told += [(SOME_RODS[:7] + ((2, 0, 0, 0, 0, 0), None), 7), ((SOME_RODS[:2],), 0)]
    return told


WRONG_LOTS = wrong_lots()


def is_plain_row(value, length):
    """Say in the test's own words whether a value is a reduced row of whole numbers."""
    if value.__class__ is not tuple or len(value) != length or {number.__class__ for number in value} != {int}:
        return False
    return any(value) and is_reduced(value)


# None of these is a screw.
NO_SCREWS = [value for value in NO_RODS if not is_plain_row(value, 6)] + [
    (0, 0, 2, 0, 0, 2), (0, 0, -1, 0, 0, 1), [0, 0, 1, 0, 0, 1], (0, 0, 1, 0, 0, True), (0, 0, 1, 0, 0, 1, 0),
    (3, 0, 0, 6, 0, 0), (-1, 0, 0, 1, 0, 0), (HUGE, 0, 0, HUGE, 0, 0),
]

PLAIN = ((1, 0, 0, 0), (0, 1, 0, 0), (0, 0, 1, 0), (0, 0, 0, 1))


def plain_but(down, across, value):
    """The plain table with another value at a place."""
    rows = [list(row) for row in PLAIN]
    rows[down][across] = value
    return tuple(tuple(row) for row in rows)


# None of these is a table.
NO_TABLES = NO_RODS + NO_FOURS + [
    list(PLAIN), tuple(list(row) for row in PLAIN), PLAIN[:3] + ([0, 0, 0, 1],), PLAIN[:3], PLAIN + ((0, 0, 0, 0),),
    PLAIN[:3] + ((0, 0, 0),), PLAIN[:3] + ((0, 0, 0, 1, 0),), PLAIN[:3] + ((0, 0, 0, 0),), PLAIN[:3] + (None,),
    PLAIN[:3] + ("0001",), (PLAIN[1],) + PLAIN[1:], (PLAIN[0], PLAIN[0], PLAIN[2], PLAIN[3]), PLAIN[:3] + (Grumpy(),),
    ((0, 0, 0, 0),) * 4, ((1, 1, 1, 1),) * 4, ((1, 2, 3, 4), (5, 6, 7, 8), (9, 10, 11, 12), (13, 14, 15, 16)),
    tuple(tuple(2 * number for number in row) for row in PLAIN),
    tuple(tuple(-number for number in row) for row in PLAIN), ((0, -1, 0, 0), (1, 0, 0, 0)) + PLAIN[2:],
    tuple(tuple(HUGE * number for number in row) for row in PLAIN), (1, 0, 0, 0, 0, 1, 0, 0, 0, 0, 1, 0, 0, 0, 0, 1),
    tuple({0: row} for row in PLAIN), dict(enumerate(PLAIN)), (PLAIN, PLAIN, PLAIN, PLAIN),
] + [plain_but(down, across, value) for down, across, value in [
    (0, 0, True), (0, 1, False), (3, 3, True), (3, 3, 0), (0, 0, 0), (2, 2, None), (1, 2, "0"), (3, 0, (0,)),
    (1, 1, [1]), (0, 3, Grumpy()), (2, 3, nested(12)), (0, 0, -1),
]]
