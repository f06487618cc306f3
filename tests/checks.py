"""Checks of errors that several tests share."""

from samples import (
    NO_FOURS, NO_FRACTIONS, NO_RODS, NO_SCREWS, NO_SURFACES, NO_TABLES, NO_WHOLES, WRONG_LOTS,
)
from shapes import NO_CUBICS, WRONG_FIVES, WRONG_SIXES
from stringrods.errors import (
    InvalidCubic, InvalidFraction, InvalidLot, InvalidNumber, InvalidPlane, InvalidPoint, InvalidRod, InvalidRods,
    InvalidScrew, InvalidSurface, InvalidTable, RodError,
)


def kept(values):
    """Wrong values, each with what its error keeps: itself."""
    return [(value, value) for value in values]


# Of each sort: the error, its attribute, and wrong values with what the error keeps.
ROD = (InvalidRod, "given", kept(NO_RODS))
POINT = (InvalidPoint, "given", kept(NO_FOURS))
PLANE = (InvalidPlane, "given", kept(NO_FOURS))
SCREW = (InvalidScrew, "given", kept(NO_SCREWS))
TABLE = (InvalidTable, "given", kept(NO_TABLES))
SURFACE = (InvalidSurface, "given", kept(NO_SURFACES))
FRACTION = (InvalidFraction, "given", kept(NO_FRACTIONS))
NUMBER = (InvalidNumber, "given", kept(NO_WHOLES))
LOT = (InvalidLot, "index", WRONG_LOTS)
CUBIC = (InvalidCubic, "given", kept(NO_CUBICS))
FIVE = (InvalidRods, "index", WRONG_FIVES)
SIX = (InvalidRods, "index", WRONG_SIXES)


class ErrorChecks:
    """Each call is a function and its parameters in order: name, sort, a good value."""

    def check_raised(self, call, arguments, expected, attribute=None, value=None):
        """Check the error by position and by name, the names in another order."""
        for positional in (True, False):
            with self.assertRaises(RodError) as caught:
                if positional:
                    call(*arguments.values())
                else:
                    call(**dict(reversed(arguments.items())))
            self.assertIs(caught.exception.__class__, expected, (call.__name__, arguments))
            if attribute is None:
                self.assertEqual(vars(caught.exception), {})
            else:
                self.assertEqual(list(vars(caught.exception)), [attribute])
                self.assertIs(getattr(caught.exception, attribute), value)

    def check_by_name(self, calls):
        """Check that a call by position and calls by name return the same."""
        for call, parameters in calls:
            good = {name: value for name, _, value in parameters}
            told = call(*good.values())
            for again in (call(**good), call(**dict(reversed(good.items()))), call(*good.values())):
                self.assertEqual(again, told)
                self.assertIs(again.__class__, told.__class__)

    def check_each_parameter(self, calls):
        for call, parameters in calls:
            good = {name: value for name, _, value in parameters}
            for name, (expected, attribute, values), _ in parameters:
                for value, keeps in values:
                    self.check_raised(call, {**good, name: value}, expected, attribute, keeps)

    def check_first_of_two(self, calls):
        for call, parameters in calls:
            good = {name: value for name, _, value in parameters}
            for at, (name, sort, _) in enumerate(parameters):
                for later, other, _ in parameters[at + 1:]:
                    for (value, keeps), (second, _) in zip(sort[2][::5], other[2][::-5]):
                        wrong = {**good, name: value, later: second}
                        self.check_raised(call, wrong, sort[0], sort[1], keeps)

    def check_ahead_of_last(self, calls):
        """Each call is told with arguments that raise an error told with last: wrong ones are told ahead of it."""
        for call, parameters, last in calls:
            bad = {name: value for name, _, value in parameters}
            self.check_raised(call, bad, last)
            for name, sort, _ in parameters:
                for value, keeps in sort[2][::3]:
                    self.check_raised(call, {**bad, name: value}, sort[0], sort[1], keeps)

    def check_defined(self, module, names):
        for name in names:
            self.assertEqual(getattr(module, name).__module__, module.__name__)
            self.assertEqual(getattr(module, name).__name__, name)
