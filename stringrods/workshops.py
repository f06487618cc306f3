"""Workshops: rods under names, with wishes that always hold."""

from stringrods.errors import (
    Broken, InUse, InvalidIndex, InvalidName, InvalidWish, NothingToUndo, UnknownName,
)
from stringrods.rods import check_rod
from stringrods.rows import is_whole
from stringrods.tables import rod_by
from stringrods.wishes import holds, is_name, is_wish, names_of


def check_holds(wish, index, rods):
    """Raise Broken with the index if the wish does not hold of the rods under their names."""
    if not holds(wish, tuple([rods[name] for name in names_of(wish)])):
        raise Broken(index)


class Trial:
    """What one `with` statement goes over: a workshop, put back if the block ends with an exception."""

    def __init__(self, shop):
        self.shop = shop
        self.now = None
        self.past = None

    def __eq__(self, other):
        return self is other

    def __enter__(self):
        # What is put back is what is there when the block begins, not when the trial was made.
        self.now = self.shop.now
        self.past = self.shop.past
        return self.shop

    def __exit__(self, kind, value, trace):
        shop = self.shop
        if kind is not None:
            shop.now = self.now
            shop.past = self.past
        return False


class Workshop:
    """Rods under names, and wishes that hold after each change."""

    def __init__(self):
        # What is there now: a dict of the rods by their names, and the wishes. Neither it nor
        # what has been there is ever changed, so it is enough to keep it for going back.
        self.now = ({}, ())
        self.past = ()

    def __eq__(self, other):
        return self is other

    def __bool__(self):
        return True

    def __len__(self):
        return len(self.past)

    def __contains__(self, name):
        return isinstance(name, str) and name in self.now[0]

    @property
    def names(self):
        """The ascending tuple of the names."""
        return tuple(sorted(list(self.now[0])))

    @property
    def wishes(self):
        """The tuple of the wishes, as they were passed."""
        return self.now[1]

    def _change(self, rods, wishes):
        """Make one change."""
        self.past = self.past + (self.now,)
        self.now = (rods, wishes)

    def _check_known(self, name):
        """Raise UnknownName for what is no name here."""
        if name not in self:
            raise UnknownName(name)

    def _place(self, name, rod):
        """Put the rod under the name, if all wishes then hold."""
        rods = dict(self.now[0])
        rods[name] = rod
        for index, wish in enumerate(self.now[1]):
            # The others hold as they did.
            if name in names_of(wish):
                check_holds(wish, index, rods)
        self._change(rods, self.now[1])

    def put(self, name, rod):
        """Put a rod under a name, or another one in its place."""
        if not is_name(name):
            raise InvalidName(name)
        check_rod(rod)
        self._place(name, rod)

    def forget(self, name):
        """Take the rod under a name away."""
        self._check_known(name)
        rods, wishes = self.now
        for index, wish in enumerate(wishes):
            if name in names_of(wish):
                raise InUse(index)
        self._change({each: rods[each] for each in rods if each != name}, wishes)

    def move(self, name, table):
        """Put in the place of a rod that to which the table leads it."""
        self._check_known(name)
        self._place(name, rod_by(table, self.now[0][name]))

    def wish(self, wish):
        """Keep a wish, if it holds."""
        if not is_wish(wish):
            raise InvalidWish(wish)
        for name in names_of(wish):
            self._check_known(name)
        rods, wishes = self.now
        check_holds(wish, len(wishes), rods)
        self._change(rods, wishes + (wish,))

    def lift(self, index):
        """Take a wish away."""
        rods, wishes = self.now
        if not is_whole(index) or index < 0 or index >= len(wishes):
            raise InvalidIndex(index)
        self._change(rods, wishes[:index] + wishes[index + 1:])

    def named(self, name):
        """Return the rod under a name."""
        self._check_known(name)
        return self.now[0][name]

    def undo(self):
        """Take back the last change."""
        if len(self.past) == 0:
            raise NothingToUndo()
        self.now = self.past[-1]
        self.past = self.past[:-1]

    def trial(self):
        """Return what a `with` statement goes over, so that an exception in its block puts all back."""
        return Trial(self)

    def tried(self, action):
        """Call the function with the workshop within such a statement, and return what it returns."""
        with self.trial() as shop:
            return action(shop)
