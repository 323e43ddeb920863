"""What several tests need."""

from howmanyeach.errors import Empty, EmptyBy
from howmanyeach.manys import Many
from howmanyeach.models import Model
from howmanyeach.ratios import Ratio, Span
from howmanyeach.sizes import Sizes

# Many digits, so that a detour through floats would be seen.
SIXTY = 10 ** 59 + 7
SIXTY_MORE = 7 * 10 ** 59 + 3


def strange_values():
    """Values that are no COUNT, no Many and no string that is the text of a Many."""
    return [True, False, -1, -SIXTY, "", "1", "a", "near", "word", b"", b"2", None, [], [1], [[2]], (), (1,),
            (1, 2), {}, {"a": 1}, {1}, object(), int, Span(Ratio(1), True, None)]


def copied(value):
    """A copy of lists, tuples and dicts within each other, with the very same things in them."""
    if isinstance(value, dict):
        return {key: copied(value[key]) for key in value}
    if isinstance(value, (list, tuple)):
        return type(value)([copied(part) for part in value])
    return value


class Checks:
    """Checks to be mixed into a TestCase."""

    def raised(self, error, call, /, *values, **named):
        """Make a call that has to raise an error of just this class, and return the error."""
        before = copied([values, named])
        with self.assertRaises(error) as caught:
            call(*values, **named)
        self.assertIs(type(caught.exception), error)
        self.assertEqual(before, [values, named])
        return caught.exception

    def refused(self, error, value, call, /, *values, **named):
        """Make a call that has to raise an error of just this class with this value."""
        got = self.raised(error, call, *values, **named).value
        self.assertIs(type(got), type(value))
        self.assertTrue(got is value or got == value, (got, value))


    def empty(self, kind, is_paper, call, /, *values, **named):
        """Make a call that has to raise Empty for this kind, with a right paper, from EmptyBy with the same one."""
        error = self.raised(Empty, call, *values, **named)
        self.assertEqual(error.kind, kind)
        self.assertTrue(is_paper(error.paper), error.paper)
        self.assertIs(type(error.__cause__), EmptyBy)
        self.assertEqual(error.__cause__.paper, error.paper)


def some_manys():
    """All Manys with numbers up to 4."""
    return [Many(least, most) for least in range(5) for most in [*range(least, 5), None]]


def shop():
    """The model of the document's examples."""
    return Model(["order", "line", "bill"], {"has": ("order", Many(1, 6), "line", Many.just(1)),
                                             "paid": ("order", Many.just(1), "bill", Many(2, 3))})


def own_things():
    """Objects of the package, each of another class."""
    return [Many(1), Ratio(1), Span(Ratio(1), True, None), shop()]


def wrong_sizes(kinds):
    """Values that are no sizes of these kinds."""
    right = {kind: 1 for kind in kinds}
    wrong = [{**right, "z": 1}, {kind: 1 for kind in kinds[1:]}, {**right, kinds[0]: True}, {**right, kinds[-1]: -1},
             {**right, 5: 1}, list(kinds), tuple(kinds), {kind: "1" for kind in kinds}, {**right, kinds[0]: None},
             {**right, (): 1}, Sizes({**right, "z": 1})]
    return wrong + strange_values() + own_things()
