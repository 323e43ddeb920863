"""The examples of the document, and those of README.md."""

import contextlib
import doctest
import io
import pathlib
import re
import unittest

README = pathlib.Path(__file__).parent.parent / "README.md"

DOCUMENT = """
>>> from howmanyeach.manys import Many
>>> from howmanyeach.ratios import Ratio
>>> [str(Many(1, 6) & Many(2)), str(Many(1, 2) * Many(0)), str(3 * Many(1, 2)), 4 in Many(2)]
['2..6', '0..*', '3..6', True]
>>> Many.just(2).is_within(Many(1, 6))
True
>>> [Ratio(6, 4), Ratio(2, 3).is_below(Ratio(3, 4)), Ratio(2, 3).least_at(10), 2 * Ratio(1, 2) == Ratio(1)]
[Ratio(3, 2), True, 7, True]
>>> from howmanyeach.models import Model
>>> from howmanyeach.texts import model_text
>>> has, paid = ("order", Many(1, 6), "line", Many.just(1)), ("order", Many.just(1), "bill", Many(2, 3))
>>> shop = Model(["order", "line", "bill"], {"has": has, "paid": paid})
>>> model_text(shop).split("\\n")[3:5]
['link has order 1..6 line 1', 'link paid order 1 bill 2..3']
>>> from howmanyeach.tables import Table, totals
>>> table = Table(4, 6, 10)
>>> [table(0), table(9), table.degree("near", 1), table.degree("near", 2)]
[(0, 0), (3, 3), 3, 2]
>>> [list(table.each_partner("far", 1)), table.number_of(3, 0)]
[[0, 2], None]
>>> totals(4, Many(1, 6), 6, Many.just(1))
(6, 6)
>>> from howmanyeach.databases import Database
>>> Database.of_sizes(shop, {"order": 2, "line": 2, "bill": 1}).pairs("paid")
[(0, 0), (1, 0)]
>>> from howmanyeach.rings import empty_kinds, groups_of, ratio_of
>>> [str(ratio_of(shop, "order", "line")), str(ratio_of(shop, "order", "bill")), str(ratio_of(shop, "bill", "line"))]
['1..6', '1/3..1/2', '2..18']
>>> empty_kinds(shop)
[]
>>> l, m = ("a", Many(2, 5), "b", Many(1, 2)), ("a", Many.just(1), "b", Many.just(1))
>>> [groups_of(Model(["a", "b"], {"l": l, "m": m})), groups_of(shop)[:1]]
[[(('a', 'b'), (1, 1))], [(('bill',), (1,))]]
>>> from howmanyeach.bounding import first_gap, greatest_sizes, least_sizes, raises_for
>>> least_sizes(shop, {"order": 10, "line": 0, "bill": 0})
Sizes({'bill': 4, 'line': 10, 'order': 10})
>>> raises_for(shop, {"order": 1, "line": 0, "bill": 0})
[('has', 0, 1), ('paid', 0, 1), ('paid', 1, 2), ('has', 0, 2)]
>>> [first_gap(shop, {"order": 1, "line": 6, "bill": 1}), greatest_sizes(shop, {"order": 9, "line": 3, "bill": 9})]
[('paid', 1), Sizes({'bill': 1, 'line': 3, 'order': 3})]
>>> from howmanyeach.normal import idle_numbers, occurring
>>> from howmanyeach.parting import least_with, parting_of
>>> pairs = Model(["a", "b"], {"l": l, "m": m})
>>> [str(occurring(pairs, "l", "near")), str(occurring(pairs, "l", "far")), idle_numbers(pairs)[:2]]
['2', '2', [('l', 'far', 'least'), ('l', 'near', 'most')]]
>>> [least_with(shop, "paid", "far", 3), parting_of(shop, shop.with_many("has", "near", Many(1, 4)))]
[Sizes({'bill': 1, 'line': 3, 'order': 3}), ('has', 'near', 5, Sizes({'bill': 1, 'line': 6, 'order': 2}))]
>>> from howmanyeach.numbers import gaps_of, is_size, many_below, size_at, sizes_from
>>> fives = Model(["a", "b"], {"l": ("a", Many.just(1), "b", Many(5, 6))})
>>> [gaps_of(fives, "a")[-3:], list(sizes_from(fives, "a", 1, many=5)), is_size(fives, "a", 10 ** 40)]
[[13, 14, 19], [5, 6, 10, 11, 12], True]
>>> [many_below(fives, "a", 20), size_at(fives, "a", 7)]
[10, 16]
>>> from howmanyeach.completing import can_complete, lacks_of, least_completion, obstacle_of
>>> from howmanyeach.told import Told
>>> told = Told(shop)
>>> told += ("order", "mine")
>>> told += ("line", "x")
>>> told["has"] = [("mine", "x")]
>>> [least_completion(told), lacks_of(told), can_complete(told)]
[Sizes({'bill': 1, 'line': 2, 'order': 2}), {'bill': 1, 'line': 1, 'order': 1}, True]
>>> told += ("order", "yours")
>>> told["has"] = [("mine", "x"), ("yours", "x")]
>>> obstacle_of(told)
('past', 'has', 'far', 'x')
>>> from howmanyeach.desk import Desk
>>> desk = Desk()
>>> desk.do("model m kind a | kind b | link l a 1 b 5..6")
'done'
>>> [desk.do("least m a=7"), desk.do("ratio m a b"), desk.do("sizes m a 19")]
['a=10 b=2', '1/6 1/5', 'no']
>>> desk.do_all("told t m", "row t a x", "lacks t")
['done', 'done', 'a=4 b=1']
"""


class Examples(unittest.TestCase):
    def test_the_document(self):
        found = doctest.DocTestParser().get_doctest(DOCUMENT, {}, "DOC.md", None, 0)
        self.assertGreater(len(found.examples), 5)
        told = io.StringIO()
        result = doctest.DocTestRunner().run(found, out=told.write)
        self.assertEqual(result.failed, 0, told.getvalue())

    def test_the_readme(self):
        code = "\n".join(re.findall(r"```python\n(.*?)```", README.read_text(), re.DOTALL))
        told = io.StringIO()
        with contextlib.redirect_stdout(told):
            exec(compile(code, "README.md", "exec"), {})
        self.assertGreater(len(told.getvalue().splitlines()), 20)


if __name__ == "__main__":
    unittest.main()
