"""Names of rods, and wishes: what is to hold of named rods."""

from stringrods.forms import ENDLESS
from stringrods.gaps import gap
from stringrods.lots import MOST_RODS, meeters_count
from stringrods.ratios import is_below, is_ratio
from stringrods.rods import do_meet
from stringrods.rows import is_whole
from stringrods.surfaces import has_rod_on, is_surface

LETTERS = "abcdefghijklmnopqrstuvwxyz"
MOST_LETTERS = 12
MOST_COUNTED = 2
MEET = "meet"
ON_SURFACE = "on surface"
COUNT = "count"
GAP_FROM = "gap from"
# How many parts a wish of each sort has, its word counted.
LENGTHS = {"meet": 3, "apart": 3, "on surface": 3, "count": 3, "gap from": 4}


def is_name(value):
    """Tell whether a value, whatever it is, can be a name."""
    if not isinstance(value, str) or len(value) < 1 or len(value) > MOST_LETTERS:
        return False
    return all([letter in LETTERS for letter in value])


def are_names(value):
    """Tell whether a value, whatever it is, is a tuple of as many names as a lot has rods."""
    if not isinstance(value, tuple) or len(value) < 1 or len(value) > MOST_RODS:
        return False
    return all([is_name(name) for name in value])


def is_count(value):
    """Tell whether a value, whatever it is, can be a count of meeters."""
    if isinstance(value, str):
        return value == ENDLESS
    return is_whole(value) and value >= 0 and value <= MOST_COUNTED


def is_wish(value):
    """Tell whether a value, whatever it is, is a wish, its names known or not."""
    if not isinstance(value, tuple) or len(value) == 0 or not isinstance(value[0], str):
        return False
    word = value[0]
    if word not in LENGTHS or len(value) != LENGTHS[word]:
        return False
    if word == COUNT:
        return are_names(value[1]) and is_count(value[2])
    if word == ON_SURFACE:
        return is_name(value[1]) and is_surface(value[2])
    if word == GAP_FROM and not is_ratio(value[3]):
        return False
    return is_name(value[1]) and is_name(value[2])


def names_of(wish):
    """Return the names in a wish, in their order."""
    if wish[0] == COUNT:
        return wish[1]
    if wish[0] == ON_SURFACE:
        return wish[1:2]
    return wish[1:3]


def keeps_gap(rod, other, fraction):
    """Tell whether both rods are not far, and their gap is at least the fraction."""
    if not any(rod[:3]) or not any(other[:3]):
        return False
    return not is_below(gap(rod, other), fraction)


def holds(wish, rods):
    """Tell whether a wish holds of the rods that its names, in their order, stand for."""
    word = wish[0]
    if word == COUNT:
        return meeters_count(rods) == wish[2]
    if word == ON_SURFACE:
        return has_rod_on(wish[2], rods[0])
    if word == GAP_FROM:
        return keeps_gap(rods[0], rods[1], wish[3])
    return do_meet(rods[0], rods[1]) == (word == MEET)
