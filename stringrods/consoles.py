"""Consoles: workshops told what to do, and asked, by lines of text."""

from stringrods.errors import InvalidPhrase, NotAWorkshop
from stringrods.gaps import gap
from stringrods.lots import meeters_count
from stringrods.phrases import fraction_text, names_text, phrase_in, row_text
from stringrods.rods import product
from stringrods.spaces import join
from stringrods.workshops import Workshop

DONE = "done"


def rods_named(shop, names):
    """Return the tuple of the rods under the names."""
    return tuple([shop.named(name) for name in names])


def put_rod(shop, names, told):
    """Put a rod under a name."""
    shop.put(names[0], told)
    return DONE


def put_joined(shop, names, told):
    """Put the rod through two points under a name."""
    shop.put(names[0], join(told[0], told[1]))
    return DONE


def move_rod(shop, names, told):
    """Move a rod by a table."""
    shop.move(names[0], told)
    return DONE


def forget_rod(shop, names, told):
    """Take the rod under a name away."""
    shop.forget(names[0])
    return DONE


def undo_last(shop, names, told):
    """Take back the last change."""
    shop.undo()
    return DONE


def shown(shop, names, told):
    """Return the text of a rod."""
    return row_text(shop.named(names[0]))


def product_told(shop, names, told):
    """Return the text of the product of two rods."""
    rods = rods_named(shop, names)
    return str(product(rods[0], rods[1]))


def gap_told(shop, names, told):
    """Return the text of the gap of two rods."""
    rods = rods_named(shop, names)
    return fraction_text(gap(rods[0], rods[1]))


def count_told(shop, names, told):
    """Return the text of how many rods meet all of these."""
    return str(meeters_count(rods_named(shop, names)))


def names_told(shop, names, told):
    """Return the text of all names."""
    return names_text(shop.names)


ACTIONS = {
    "rod": put_rod, "join": put_joined, "move": move_rod, "forget": forget_rod, "undo": undo_last, "show": shown,
    "product": product_told, "gap": gap_told, "count": count_told, "names": names_told,
}


class Console:
    """What is said to a workshop, line by line."""

    def __init__(self, shop):
        if not isinstance(shop, Workshop):
            raise NotAWorkshop(shop)
        self.shop = shop

    def __eq__(self, other):
        return self is other

    def say(self, line):
        """Do what the line says, and return the answer."""
        phrase = phrase_in(line)
        if phrase is None:
            raise InvalidPhrase(line)
        word, names, told = phrase
        action = ACTIONS[word]
        return action(self.shop, names, told)
