"""A workshop that several tests share, and what can be told of one."""

from samples import ANYTHING
from shapes import ACROSS, TOWER, UPRIGHT
from stringrods.workshops import Workshop

UP, AHEAD, LEFT = UPRIGHT, ACROSS, (1, 0, 0, 0, 0, -1)
HIGH, FAR = (0, 1, 0, -1, 0, 0), (0, 0, 0, 0, 0, 1)
WAIST = (1, 0, 0, 0, -1, 0, 0, -1, 0, 1)
FOUR = (UPRIGHT, (1, -1, -1, 0, 1, -1), (2, -3, -1, 0, 2, -6), (3, -2, -1, 0, 3, -6))

NO_NAMES = ANYTHING + [
    "A", "Post", "post ", " post", "po st", "post1", "p_st", "p-st", "post\n", "1", "a" * 13, "a" * 60, "", " ", "aB",
    "a.b", b"post", ["post"], ("post",), {"post"}, {"post": 1}, "~", "z" * 12 + "1", "none!", "a:",
]
GOOD_NAMES = ["a", "z", "post", "az" * 6, "abcdefghijkl", "mnopqrstuvwx", "yz", "none", "rod", "undo"]


def state(shop):
    """All that can be told of a workshop, undone to its beginning within a trial."""
    class Enough(Exception):
        pass

    told = [(shop.names, shop.wishes, [shop.named(name) for name in shop.names], len(shop))]
    try:
        with shop.trial():
            while len(shop):
                shop.undo()
                told.append((shop.names, shop.wishes, [shop.named(name) for name in shop.names], len(shop)))
            raise Enough()
    except Enough:
        return told


def built():
    """A workshop with some rods, and wishes of each sort."""
    shop = Workshop()
    for name, rod in (("post", UP), ("beam", LEFT), ("high", HIGH), ("far", FAR), ("round", TOWER[0])):
        shop.put(name, rod)
    shop.wish(("apart", "post", "beam"))
    shop.wish(("meet", "far", "beam"))
    shop.wish(("on surface", "round", WAIST))
    shop.wish(("count", ("post", "beam"), "endless"))
    shop.wish(("gap from", "beam", "post", (1, 1)))
    return shop
