"""Models made of other models."""

import itertools
import unittest

from howmanyeach.errors import (Apart, InvalidEnd, InvalidKinds, InvalidMany, InvalidModel, Taken, TooMany, UnknownKind,
                                UnknownLink)
from howmanyeach.manys import Many
from howmanyeach.models import Model
from tests.helpers import SIXTY, Checks, own_things, shop, strange_values

ONE = Many.just(1)
LINKS = {"l": ("a", Many(1, 6), "b", Many(2)), "m": ("b", Many(0, 1), "b", Many(3, 3)), "n": ("b", ONE, "c", Many(0)),
         "o": ("c", Many(0, 0), "a", Many(2, 5))}


def web():
    return Model(["a", "b", "c", "d"], LINKS)


class Unchanged(Checks, unittest.TestCase):
    def setUp(self):
        self.model = web()

    def tearDown(self):
        self.assertEqual(self.model, web())


class WithMany(Unchanged):
    def test_each_end(self):
        for link, (end, place), many in itertools.product(LINKS, (("near", 1), ("far", 3)),
                                                          (Many(0), Many(6), Many(6, 6), Many(0, 0), Many(1, 6))):
            ends = list(LINKS[link])
            ends[place] = many
            wanted = Model(list("abcd"), {**LINKS, link: tuple(ends)})
            self.assertEqual(self.model.with_many(link, end, many), wanted)
            self.assertEqual(self.model.with_many(many=many, end=end, link=link), wanted)

    def test_refused(self):
        for value in strange_values() + own_things() + ["a", "ll"]:
            self.refused(UnknownLink, value, self.model.with_many, value, 1, 2)
            self.refused(UnknownLink, value, self.model.with_many, link=value, end="near", many=ONE)
            if value != "near":
                self.refused(InvalidEnd, value, self.model.with_many, "l", value, 2)
                self.refused(InvalidEnd, value, self.model.with_many, many=ONE, end=value, link="l")
        for value in strange_values() + own_things()[1:] + [1, 6, Many(7), Many(0, 7), Many(7, 7), Many(SIXTY)]:
            self.refused(InvalidMany, value, self.model.with_many, "l", "near", value)
            self.refused(InvalidMany, value, self.model.with_many, many=value, end="far", link="m")


class Without(Unchanged):
    def test_each_choice(self):
        for many in range(5):
            for links in itertools.permutations(LINKS, many):
                wanted = Model(list("abcd"), {link: LINKS[link] for link in LINKS if link not in links})
                self.assertEqual(self.model.without(*links), wanted)
                self.assertEqual(self.model.without(*links, *links[::-1]), wanted)

    def test_the_first_unknown_one(self):
        for value in strange_values() + own_things() + ["a", "p", ["l"], ("l",)]:
            self.refused(UnknownLink, value, self.model.without, value)
            self.refused(UnknownLink, value, self.model.without, "l", value, "m")
            self.refused(UnknownLink, value, self.model.without, "l", "l", value, "x", 1)


class Only(Unchanged):
    def test_each_choice(self):
        for many in range(1, 5):
            for kinds in itertools.permutations("abcd", many):
                links = {link: ends for link, ends in LINKS.items() if ends[0] in kinds and ends[2] in kinds}
                self.assertEqual(self.model.only(*kinds), Model(kinds, links))
                self.assertEqual(self.model.only(*kinds, kinds[0]), Model(kinds, links))

    def test_by_hand(self):
        self.assertEqual(self.model.only("b"), Model(["b"], {"m": LINKS["m"]}))
        self.assertEqual(self.model.only("c", "b"), Model(["b", "c"], {"m": LINKS["m"], "n": LINKS["n"]}))
        self.assertEqual(self.model.only("d", "d"), Model(["d"]))

    def test_refused(self):
        self.assertIsNone(self.raised(InvalidKinds, self.model.only).position)
        for value in strange_values() + own_things() + ["l", "e", ["a"], ("a",)]:
            if value != "a":
                self.refused(UnknownKind, value, self.model.only, value)
                self.refused(UnknownKind, value, self.model.only, "a", value, 1)
                self.refused(UnknownKind, value, self.model.only, "b", "b", value, "zz")


class Turned(Unchanged):
    def test_each_link(self):
        for link, (near, near_many, far, far_many) in LINKS.items():
            wanted = Model(list("abcd"), {**LINKS, link: (far, far_many, near, near_many)})
            for turned in (self.model.turned(link), self.model.turned(link=link)):
                self.assertEqual(turned, wanted)
                self.assertNotEqual(turned, self.model)
                self.assertEqual(turned.turned(link), self.model)

    def test_refused(self):
        for value in strange_values() + own_things() + ["a", "p"]:
            self.refused(UnknownLink, value, self.model.turned, value)
            self.refused(UnknownLink, value, self.model.turned, link=value)


class Joined(Unchanged):
    def join(self, other):
        return self.model | other

    def test_kinds_and_links_of_both(self):
        other = Model(["e", "b"], {"k": ("e", Many(2, 2), "b", Many(1))})
        wanted = Model(list("abcde"), {**LINKS, "k": ("e", Many(2, 2), "b", Many(1))})
        self.assertEqual(self.model | other, wanted)
        self.assertEqual(other | self.model, wanted)
        self.assertEqual(list((self.model | other).links()), list("klmno"))
        self.assertEqual(other, Model(["e", "b"], {"k": ("e", Many(2, 2), "b", Many(1))}))

    def test_with_itself(self):
        self.assertEqual(Model(["b", "a"]) | Model(["a", "b"]), Model(["a", "b"]))
        self.assertEqual(self.model | Model(["d"]), self.model)
        self.refused(Taken, "l", self.join, self.model)

    def test_up_to_the_limits(self):
        eight = {name: ("d", ONE, "e", ONE) for name in "stuv"}
        self.assertEqual(len(self.model | Model(["d", "e"], eight)), 8)

    def test_a_parting_and_its_joining(self):
        for many in range(5):
            for links in itertools.combinations(LINKS, many):
                others = [link for link in LINKS if link not in links]
                self.assertEqual(self.model.without(*links) | self.model.without(*others), self.model)

    def test_no_model(self):
        for value in strange_values() + own_things()[:-1] + [LINKS, ["a"]]:
            self.refused(InvalidModel, value, self.join, value)

    def test_taken(self):
        other = Model(list("abcd"), {"n": LINKS["n"], "m": LINKS["l"], "p": LINKS["l"]})
        self.refused(Taken, "m", self.join, other)
        self.refused(Taken, "o", self.join, Model(["a"], {"o": ("a", ONE, "a", ONE), "k": ("a", ONE, "a", ONE)}))

    def test_too_many(self):
        nine = {name: ("e", ONE, "e", ONE) for name in "stuvw"}
        for other, what, limit in ((Model(["e", "f"]), "kinds", 5), (Model(["e"], nine), "links", 8),
                                   (Model(["e", "f"], nine), "kinds", 5)):
            error = self.raised(TooMany, self.join, other)
            self.assertEqual([error.what, error.limit], [what, limit])
        self.refused(Taken, "l", self.join, Model(["e", "f"], {**nine, "l": nine["s"]}))

    def test_the_left_one_decides(self):
        self.refused(InvalidMany, shop(), lambda other: Many(1) | other, shop())
        self.assertRaises(Apart, lambda: Many(1, 1) & Many(2, 2))


if __name__ == "__main__":
    unittest.main()
