"""The whole program: a long history, in which what was made earlier stays, and queries by the names of parameters."""

import unittest

from howmanyeach import bounding, claims, completing, leads, normal, numbers, parting, rings, texts
from howmanyeach.databases import Database
from howmanyeach.desk import Desk
from howmanyeach.drafts import Draft
from howmanyeach.errors import EachError, LimitError, MissingError, StateError
from howmanyeach.manys import Many
from howmanyeach.models import Model
from howmanyeach.sizes import Sizes
from howmanyeach.told import Told
from tests.helpers import Checks, copied, shop
from tests.test_completions import is_right
from tests.test_desk import told_text, whole
from tests.test_rings import sick
from tests.test_told import state

ONE = Many.just(1)
OWN = (EachError, MissingError, StateError, LimitError)


def outcome(call, named):
    """What a call returns, or which error it raises, in a form that can be compared."""
    try:
        found = call(**named)
        return list(found) if call is numbers.sizes_from else found
    except OWN as error:
        return (type(error), vars(error))


def model_questions(model, other):
    """Calls with all their parameters by name."""
    sizes = {kind: at for at, kind in enumerate(model.kinds())}
    yield from ((call, {"model": model}) for call in (
        leads.steps_of, rings.empty_kinds, rings.groups_of, normal.normal_form, normal.idle_numbers, texts.model_text))
    for call in (bounding.is_let, bounding.first_gap, bounding.totals_of, bounding.least_sizes, bounding.raises_for):
        yield call, {"model": model, "sizes": sizes}
    for call in (bounding.greatest_sizes, bounding.lowerings_for):
        yield call, {"model": model, "room": sizes}
    for call in (normal.are_comparable, normal.are_alike, normal.is_below, normal.join_of, parting.parting_of):
        yield call, {"one": model, "other": other}
        yield call, {"one": other, "other": model}
    for kind in model.kinds():
        for call in (rings.is_full, rings.empty_paper, numbers.unit_of, numbers.gaps_of):
            yield call, {"model": model, "kind": kind}
        for call in (numbers.is_size, numbers.size_from, numbers.many_below):
            yield call, {"model": model, "kind": kind, "number": 7}
        yield numbers.size_at, {"model": model, "kind": kind, "place": 7}
        yield numbers.sizes_from, {"model": model, "kind": kind, "number": 7, "many": 3}
        yield bounding.raise_paper, {"model": model, "sizes": sizes, "kind": kind, "number": 3}
        yield bounding.is_raise_paper, {"model": model, "sizes": sizes, "kind": kind, "number": 0, "value": []}
        for goal in model.kinds():
            for call in (rings.ratio_of, rings.greatest_way):
                yield call, {"model": model, "kind": kind, "other": goal}
    for link in model.links():
        for end in ("near", "far"):
            for call in (leads.factor_of, leads.is_broken, rings.is_stiff, rings.stiff_ring, normal.occurring):
                yield call, {"model": model, "link": link, "end": end}
            yield parting.least_with, {"model": model, "link": link, "end": end, "number": 2}
            yield parting.can_have_row, {"model": model, "sizes": sizes, "link": link, "end": end, "number": 2}


def told_questions(told):
    sizes = {kind: 5 for kind in told.model.kinds()}
    for call in (completing.obstacle_of, completing.can_complete, completing.least_completion, completing.lacks_of,
                 completing.completion, completing.extra_pairs):
        yield call, {"told": told}
    yield completing.fits_sizes, {"told": told, "sizes": sizes}
    for value in (None, ("past", "has", "far", "x")):
        yield completing.is_obstacle, {"told": told, "value": value}
        yield completing.is_completion, {"told": told, "value": value}
    for link in told.model.links():
        for end in ("near", "far"):
            yield completing.cut_of, {"told": told, "sizes": sizes, "link": link, "end": end}
            yield completing.is_cut, {"told": told, "sizes": sizes, "link": link, "end": end, "value": ((), True)}


def claim_questions(model, other, told):
    sizes = {kind: 0 for kind in model.kinds()}
    kind = model.kinds()[0]
    for claim in (("full", model, kind), ("empty", model, kind), ("let", model, sizes), ("parted", model, other),
                  ("at least", model, sizes, kind, 0), ("completes", told), ("lacking", told), ("lacking", model)):
        yield claims.is_claim, {"value": claim}
        yield claims.certificate_of, {"claim": claim}
        yield claims.is_certificate, {"claim": claim, "value": None}


class Repeated(Checks, unittest.TestCase):
    def test_each_query_twice_and_by_position(self):
        models = [shop(), sick(), Model(["a", "b"], {"l": ("a", ONE, "b", Many(5, 6))}), Model(["x"])]
        for model in models:
            for other in (model, model.with_many("has", "near", Many(0, 4)) if "order" in model else shop()):
                told = Told(model)
                told += (model.kinds()[-1], "x")
                for questions in (model_questions(model, other), told_questions(told), claim_questions(model, other, told)):
                    for call, named in questions:
                        before = copied(named)
                        first = outcome(call, named)
                        self.assertEqual(outcome(call, named), first)
                        self.assertEqual(outcome(call, {name: named[name] for name in reversed(list(named))}), first)
                        if call is not numbers.sizes_from:
                            self.assertEqual(outcome(lambda call=call, named=named: call(*named.values()), {}), first)
                        self.assertEqual(named, before)


class History(Checks, unittest.TestCase):
    def setUp(self):
        self.kept = []

    def keep(self, call, *values):
        """Ask something, and ask it again at the end."""
        found = call(*values)
        self.kept.append((call, values, copied(found)))
        return found

    def test_a_long_history(self):
        draft = Draft()
        models = []
        for deed in (self.begin, self.bill, self.bind, self.loosen):
            tried = draft.tried_by(lambda given, deed=deed: [deed(given), given.made()][1])
            deed(draft)
            self.assertEqual(draft.made(), tried)
            models.append(draft.made())
        for model in models:
            self.ask(model)
        self.assertEqual(models[1], shop())
        tolds = [self.lead(model) for model in models]
        desk = Desk()
        for at, model in enumerate(models):
            desk.do(f"model {'abcd'[at]} {told_text(model)}")
        self.desk(desk, models)
        for told in tolds:
            self.keep(state, told)
            for call in (completing.lacks_of, completing.extra_pairs):
                self.keep(call, told)
        draft -= "spare"
        draft.drop("bound")
        before = whole(desk)
        desk.do_all("drop a", "drop b", "told new c", "undo", "undo")
        desk.do("undo")
        self.assertEqual(whole(desk), before)
        for call, values, found in self.kept:
            self.assertEqual(call(*values), found)
        self.assertGreater(len(self.kept), 60)

    def begin(self, draft):
        draft["has"] = ("order", Many(1, 6), "line", ONE)

    def bill(self, draft):
        draft["paid"] = ("order", ONE, "bill", Many(2, 3))

    def bind(self, draft):
        draft["bound"] = ("bill", Many.just(3), "line", ONE)
        draft += "spare"

    def loosen(self, draft):
        draft["has"] = ("order", Many(0, 3), "line", ONE)
        with draft.trying():
            draft.drop("has")
            draft -= "spare"

    def ask(self, model):
        told = {kind: 2 for kind in model.kinds()}
        for call in (rings.groups_of, rings.empty_kinds, normal.normal_form, normal.idle_numbers, texts.model_text):
            self.keep(call, model)
        least = self.keep(bounding.least_sizes, model, told)
        self.assertTrue(self.keep(bounding.is_let, model, least))
        for factor in (1, 2, 10 ** 20):
            self.assertEqual(bounding.greatest_sizes(model, least * factor), least * factor)
        database = Database.of_sizes(model, least)
        self.assertTrue((database + database).keeps())
        for kind in model.kinds():
            self.keep(numbers.gaps_of, model, kind)
            self.assertTrue(self.keep(numbers.is_size, model, kind, least[kind]))
            self.keep(claims.certificate_of, ("full", model, kind))

    def lead(self, model):
        told = Told(model)
        told += ("order", "first")
        told += ("line", "x")
        told["has"] = [("first", "x")]
        database = completing.completion(told)
        self.keep(completing.is_completion, told.copy(), database)
        for name in "yz":
            told += ("line", name)
            told["has"] = told["has"] + [("first", name)]
        told.wished = completing.least_completion(told) * 3
        with told.trying():
            told -= ("order", "first")
            self.assertEqual(told["has"], [])
        self.assertIs(completing.is_completion(told, database), is_right(told, database))
        self.assertTrue(completing.is_completion(told, completing.completion(told)))
        return told

    def desk(self, desk, models):
        desk.do_all(*[f"told t{name} {name}" for name in "abcd"])
        for at, name in enumerate("abcd"):
            desk.do_all(f"row t{name} order x", f"row t{name} line y", f"pair t{name} has x y")
            self.assertEqual(desk.model_named(name), models[at])
            told = desk.told_named(f"t{name}")
            lacks = [f"{kind}={number}" for kind, number in completing.lacks_of(told).items() if number]
            self.assertEqual(desk.do(f"lacks t{name}"), " ".join(lacks) or "-")
        self.assertEqual([desk.do("alike c d"), desk.do("alike a b"), desk.do("alike b b")], ["no", "other", "yes"])
        least = bounding.least_sizes(models[2], {"order": 5, "line": 0, "bill": 0, "spare": 1})
        self.assertEqual(desk.do("least c order=5 spare=1"), " ".join(f"{kind}={least[kind]}" for kind in least.kinds()))
        self.assertEqual(Sizes.of(order=5, line=6, bill=2, spare=1), least)


if __name__ == "__main__":
    unittest.main()
