"""Papers for least sizes, and the judge of them."""

import random
import unittest

from howmanyeach.bounding import is_raise_paper, least_sizes, raise_paper, raises_for
from howmanyeach.errors import InvalidCount, InvalidModel, InvalidSizes, UnknownKind
from howmanyeach.manys import Many
from howmanyeach.models import Model
from howmanyeach.sizes import Sizes
from tests import oracle
from tests.helpers import SIXTY, Checks, own_things, shop, strange_values, wrong_sizes
from tests.test_bounding import turned_round, zeros
from tests.test_rings import around, is_paper, sick


def follow(model, told, kind, number, value):
    """Whether a list of tuples of the right form is a paper, step by step."""
    sizes = dict(told)
    lines = {(link, line): (asked, asks) for link, line, asked, asks in oracle.lines_of(model)}
    for link, line, size in value:
        if (link, line) not in lines:
            return False
        asked, asks = lines[link, line]
        if not sizes[asked] < size <= asks(sizes):
            return False
        sizes[asked] = size
    return sizes[kind] >= number


class Papers(Checks, unittest.TestCase):
    def check(self, model, told):
        least = least_sizes(model, told)
        for kind in model.kinds():
            for number in range(least[kind] + 3):
                paper = raise_paper(model, told, kind, number)
                self.assertEqual(raise_paper(number=number, kind=kind, sizes=Sizes(told), model=model), paper)
                self.assertEqual(raise_paper(model, turned_round(told), kind, number), paper)
                self.assertIs(paper is None, number > least[kind])
                if number <= told[kind]:
                    self.assertEqual(paper, [])
                if paper is not None:
                    self.assertIs(type(paper), list)
                    self.assertTrue(follow(model, told, kind, number, paper))
                    self.judged(model, told, kind, number, paper)

    def judged(self, model, told, kind, number, value):
        is_it = follow(model, told, kind, number, value)
        for sizes in (told, turned_round(told), Sizes(told)):
            self.assertIs(is_raise_paper(model, sizes, kind, number, value), is_it, value)
        self.assertIs(is_raise_paper(value=tuple(value), number=number, kind=kind, sizes=told, model=model), is_it)
        return is_it

    def test_some_models(self):
        for model in [*oracle.some_models(60, 21), *oracle.ring_models(30, 22)]:
            full = [kind for kind in model.kinds() if oracle.is_full(model, kind)]
            for kind in full:
                self.check(model, zeros(model, **{kind: 1}))
            self.check(model, zeros(model, **{kind: at for at, kind in enumerate(full)}))

    def test_spoilt_ones(self):
        chance = random.Random(23)
        found = []
        for model in [shop(), around(2, 3, 3, 5, 5, 2), *oracle.ring_models(60, 24)]:
            told = zeros(model, **{chance.choice(model.kinds()): chance.randint(1, 3)})
            paper = raises_for(model, told)
            least = least_sizes(model, told)
            for kind in model.kinds():
                for value in self.spoilt(paper, chance):
                    found.append(self.judged(model, told, kind, least[kind], value))
        self.assertGreater(min(found.count(True), found.count(False)), 100)

    def spoilt(self, paper, chance):
        for at, (link, line, size) in enumerate(paper):
            ahead, behind = paper[:at], paper[at + 1:]
            yield ahead + behind
            yield ahead + [(link, line, size)] * 2 + behind
            for changed in ((link, line, size - 1), (link, line, size + 1), (link, (line + 1) % 4, size), (link, 4, size),
                            (link + "x", line, size), (link, line, 0), (link, line, size - chance.randint(2, 4))):
                if changed[2] >= 0:
                    yield ahead + [changed] + behind
            if behind:
                yield ahead + [behind[0], (link, line, size)] + behind[1:]
        yield paper + [("has", 0, 5)]
        yield []

    def test_smaller_steps(self):
        told = zeros(shop(), order=3)
        for paper, kind, number, is_it in (
                ([("has", 0, 1), ("has", 0, 2)], "line", 2, True), ([("has", 0, 1), ("has", 0, 1)], "line", 1, False),
                ([("has", 0, 3)], "line", 3, True), ([("has", 0, 3)], "line", 4, False), ([("has", 0, 4)], "line", 3, False),
                ([("has", 0, 3), ("has", 0, 2)], "line", 2, False), ([("paid", 0, 1)], "bill", 1, True),
                ([("paid", 0, 2)], "bill", 1, False), ([("has", 1, 4)], "order", 4, False), ([], "order", 3, True),
                ([], "order", 4, False), ([("has", 0, 3)], "order", 3, True), ([("has", 2, 1)], "line", 1, True),
                ([("has", 2, 2)], "line", 1, False), ([], "line", 0, True), ([("has", 0, 0)], "line", 0, False)):
            self.assertIs(self.judged(shop(), told, kind, number, paper), is_it)

    def test_lines_without_a_most_number_ask_nothing(self):
        model = Model(["a", "b"], {"l": ("a", Many(2), "b", Many(0))})
        told = {"a": 5, "b": 0}
        self.assertEqual(raise_paper(model, told, "b", 2), [("l", 2, 2)])
        for value in ([("l", 0, 1)], [("l", 0, 10)], [("l", 2, 3)], [("l", 3, 1)], [("l", 1, 6)]):
            self.assertIs(is_raise_paper(model, told, "b", 1, value), False)
        self.assertIs(is_raise_paper(model, told, "b", 1, [("l", 2, 1)]), True)

    def test_many_digits(self):
        told = zeros(shop(), order=SIXTY)
        bills = -(-SIXTY // 3)
        self.assertEqual(raise_paper(shop(), told, "bill", bills), [("has", 0, SIXTY), ("paid", 0, bills)])
        self.assertIsNone(raise_paper(shop(), told, "bill", bills + 1))
        for size, is_it in ((bills, True), (bills - 1, False), (bills + 1, False)):
            self.assertIs(is_raise_paper(shop(), told, "bill", bills, [("paid", 0, size)]), is_it)

    def test_values_of_other_kinds(self):
        told = zeros(shop(), order=3)
        self.assertIs(is_raise_paper(shop(), told, "line", 3, [("has", 0, 3)]), True)
        for value in strange_values() + own_things():
            is_it = value in ([], ()) and isinstance(value, (list, tuple))
            self.assertIs(is_raise_paper(shop(), told, "order", 3, value), is_it)
            self.assertIs(is_raise_paper(shop(), told, "line", 0, [value]), False)
            self.assertIs(is_raise_paper(shop(), told, "line", 1, [("has", 0, 3), value]), False)
            self.assertIs(is_raise_paper(shop(), told, "line", 1, [(value, 0, 3)]), False)
            self.assertIs(is_raise_paper(shop(), told, "line", 1, [("has", value, 3)]), False)
            self.assertIs(is_raise_paper(shop(), told, "line", 1, [("has", 0, value)]), False)
        for value in ([["has", 0, 3]], [("has", False, 3)], [("has", 0, True)], [("has", 0)], [("has", 0, 3, 3)],
                      {("has", 0, 3): 1}, ("has", 0, 3), [("line", 0, 3)], [(None, "line", 3)], {("has", 0, 3)}):
            self.assertIs(is_raise_paper(shop(), told, "line", 1, value), False)

    def test_empty_kinds(self):
        for told, kind in (({"d": 1, "b": 1}, "b"), ({"c": SIXTY}, "c")):
            def is_it(paper):
                return is_paper(sick(), kind, paper)
            self.empty(kind, is_it, raise_paper, sick(), zeros(sick(), **told), "e", 1)
            self.empty(kind, is_it, is_raise_paper, sick(), zeros(sick(), **told), "e", 1, None)
        told = zeros(sick(), e=1)
        self.assertEqual([raise_paper(sick(), told, "a", 0), raise_paper(sick(), told, "a", 1)], [[], None])
        self.assertEqual(raise_paper(sick(), told, "e", 2), [("p", 2, 2)])
        self.assertIs(is_raise_paper(sick(), told, "a", 0, []), True)
        self.assertIs(is_raise_paper(sick(), told, "a", 1, [("k", 3, 1)]), False)
        # A way leads from e to nothing that is empty, but a line of an empty kind may be told all the same.
        for link, line in (("k", 0), ("k", 1), ("k", 2), ("k", 3), ("m", 0), ("m", 2), ("o", 3), ("n", 2)):
            for size in (0, 1, 2):
                self.assertIs(is_raise_paper(sick(), told, "e", 1, [(link, line, size)]), False)

    def test_what_is_returned_can_be_changed(self):
        told = zeros(shop(), order=1)
        raise_paper(shop(), told, "order", 2).clear()
        self.assertEqual(raise_paper(shop(), told, "order", 2), [("has", 0, 1), ("paid", 0, 1), ("paid", 1, 2)])


class Refused(Checks, unittest.TestCase):
    CALLS = ((raise_paper, {}), (is_raise_paper, {"value": []}))

    def test_each_parameter(self):
        told = zeros(shop(), order=1)
        for call, rest in self.CALLS:
            for value in strange_values() + own_things():
                if not isinstance(value, Model):
                    self.refused(InvalidModel, value, call, value, 5, 5, -1, *rest.values())
                    self.refused(InvalidModel, value, call, **rest, number=1, kind=1, sizes=1, model=value)
                self.refused(UnknownKind, value, call, shop(), told, value, -1, *rest.values())
                self.refused(UnknownKind, value, call, **rest, number=value, kind=value, sizes=told, model=shop())
                self.refused(InvalidCount, value, call, shop(), told, "line", value, *rest.values())
                self.refused(InvalidCount, value, call, **rest, number=value, kind="line", sizes=told, model=shop())
            for value in wrong_sizes(["order", "line", "bill"]):
                self.refused(InvalidSizes, value, call, shop(), value, "x", -1, *rest.values())
                self.refused(InvalidSizes, value, call, **rest, number=1, kind="line", sizes=value, model=shop())

    def test_empty_comes_behind(self):
        told = zeros(sick(), a=1)
        for call, rest in self.CALLS:
            self.refused(UnknownKind, "f", call, sick(), told, "f", 1, *rest.values())
            self.refused(InvalidCount, -1, call, sick(), told, "e", -1, *rest.values())


if __name__ == "__main__":
    unittest.main()
