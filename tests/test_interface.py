"""The names of the interface: each stands in its own file, and has its own parameters."""

import ast
import pathlib
import unittest

PACKAGE = pathlib.Path(__file__).parent.parent / "howmanyeach"

# For each file its functions, with their parameters.
FUNCTIONS = {
    "values.py": {"is_integer": "value", "is_count": "value", "is_name": "value", "is_end": "value",
                  "other_end": "end"},
    "texts.py": {"model_text": "model", "read_model": "text"},
    "tables.py": {"totals": "near near_many far far_many"},
    "leads.py": {"steps_of": "model", "factor_of": "model link end", "is_broken": "model link end",
                 "goal_of": "model kind way", "product_of": "model kind way", "is_way": "model kind goal value",
                 "is_ring": "model kind value"},
    "rings.py": {"is_full": "model kind", "empty_kinds": "model", "empty_paper": "model kind",
                 "is_empty_paper": "model kind value", "ratio_of": "model kind other",
                 "greatest_way": "model kind other", "is_stiff": "model link end", "stiff_ring": "model link end",
                 "groups_of": "model"},
    "bounding.py": {"is_let": "model sizes", "first_gap": "model sizes", "totals_of": "model sizes",
                    "least_sizes": "model sizes", "raises_for": "model sizes",
                    "raise_paper": "model sizes kind number", "is_raise_paper": "model sizes kind number value",
                    "greatest_sizes": "model room", "lowerings_for": "model room"},
    "normal.py": {"occurring": "model link end", "normal_form": "model", "are_comparable": "one other",
                  "are_alike": "one other", "is_below": "one other", "idle_numbers": "model", "join_of": "one other"},
    "parting.py": {"can_have_row": "model sizes link end number", "least_with": "model link end number",
                   "parting_of": "one other"},
    "numbers.py": {"unit_of": "model kind", "is_size": "model kind number", "size_from": "model kind number",
                   "gaps_of": "model kind", "sizes_from": "model kind number * many",
                   "many_below": "model kind number", "size_at": "model kind place"},
    "completing.py": {"obstacle_of": "told", "is_obstacle": "told value", "can_complete": "told",
                      "least_completion": "told", "lacks_of": "told", "fits_sizes": "told sizes",
                      "cut_of": "told sizes link end", "is_cut": "told sizes link end value", "completion": "told",
                      "is_completion": "told value", "extra_pairs": "told"},
    "claims.py": {"is_claim": "value", "certificate_of": "claim", "is_certificate": "claim value"},
}

# For each file its classes, with the parameters of their methods.
CLASSES = {
    "manys.py": {
        "Many": {"__init__": "self least most", "least": "self", "most": "self", "just": "number", "read": "text",
                 "is_within": "self other", "__contains__": "self value", "__and__": "self other",
                 "__or__": "self other", "__add__": "self other", "__mul__": "self other",
                 "__rmul__": "self other", "__bool__": "self", "__lt__": "self other", "__le__": "self other",
                 "__gt__": "self other", "__ge__": "self other", "__eq__": "self other", "__str__": "self",
                 "__repr__": "self"},
    },
    "ratios.py": {
        "Ratio": {"__init__": "self top bottom", "top": "self", "bottom": "self", "over": "self other",
                  "is_below": "self other", "is_at_most": "self other", "least_at": "self count",
                  "most_at": "self count", "__add__": "self other", "__radd__": "self other",
                  "__mul__": "self other", "__rmul__": "self other", "__eq__": "self other", "__bool__": "self",
                  "__str__": "self", "__repr__": "self"},
        "Span": {"__init__": "self low is_had high", "low": "self", "is_had": "self", "high": "self",
                 "__contains__": "self value", "__eq__": "self other", "__str__": "self", "__repr__": "self"},
    },
    "models.py": {
        "Model": {"__init__": "self kinds links", "kinds": "self", "links": "self", "kind_at": "self link end",
                  "many_at": "self link end", "__contains__": "self value", "__len__": "self",
                  "__eq__": "self other", "__repr__": "self", "with_many": "self link end many",
                  "without": "self *links", "only": "self *kinds", "turned": "self link", "__or__": "self other"},
    },
    "drafts.py": {
        "Draft": {"__init__": "self model", "__setitem__": "self link ends", "__getitem__": "self link",
                  "__iadd__": "self kind", "__isub__": "self kind", "drop": "self link", "made": "self",
                  "copy": "self", "__contains__": "self value", "__len__": "self", "trying": "self",
                  "tried_by": "self deed"},
    },
    "tables.py": {
        "Table": {"__init__": "self near far total", "near": "self", "far": "self", "total": "self",
                  "__call__": "self number", "number_of": "self near far", "__contains__": "self value",
                  "degree": "self end row", "partner": "self end row place", "each_partner": "self end row",
                  "__eq__": "self other", "__repr__": "self"},
    },
    "sizes.py": {
        "Sizes": {"__init__": "self counts", "__getitem__": "self kind", "kinds": "self", "counts": "self",
                  "__contains__": "self value", "__len__": "self", "__add__": "self other", "__and__": "self other",
                  "__or__": "self other", "__mul__": "self times", "__rmul__": "self times",
                  "is_within": "self other", "with_count": "self kind count", "__bool__": "self",
                  "__eq__": "self other", "__repr__": "self", "of": "**counts"},
    },
    "databases.py": {
        "Database": {"__init__": "self model sizes pairs", "model": "self", "sizes": "self", "pairs": "self link",
                     "partners": "self link end row", "fault": "self", "keeps": "self", "keeps_of": "self model",
                     "__add__": "self other", "__mul__": "self times", "__rmul__": "self times",
                     "__eq__": "self other", "of_sizes": "cls model sizes * most"},
    },
    "told.py": {
        "Told": {"__init__": "self model", "model": "self", "__iadd__": "self row", "__isub__": "self row",
                 "__setitem__": "self link pairs", "__getitem__": "self link", "rows": "self kind",
                 "degree": "self link end name", "__contains__": "self value", "__len__": "self",
                 "set_wished": "self sizes", "copy": "self", "trying": "self", "tried_by": "self deed"},
    },
    "desk.py": {
        "Desk": {"__init__": "self", "do": "self command", "do_all": "self *commands", "undo": "self",
                 "names": "self", "model_named": "self name", "told_named": "self name", "log": "self",
                 "trial": "self", "tried_by": "self deed", "__len__": "self", "__contains__": "self value"},
    },
}


def defined_in(body, kind):
    return {node.name: node for node in body if isinstance(node, kind)}


def parameters(function):
    told = function.args
    words = [parameter.arg for parameter in told.args]
    if told.vararg:
        words.append("*" + told.vararg.arg)
    elif told.kwonlyargs:
        words.append("*")
    words.extend(parameter.arg for parameter in told.kwonlyargs)
    if told.kwarg:
        words.append("**" + told.kwarg.arg)
    return " ".join(words)


class Interface(unittest.TestCase):
    def check(self, told, body):
        functions = defined_in(body, ast.FunctionDef)
        for name, wanted in told.items():
            self.assertEqual(parameters(functions[name]), wanted, name)

    def test_functions(self):
        for file, told in FUNCTIONS.items():
            self.check(told, ast.parse((PACKAGE / file).read_text()).body)

    def test_classes(self):
        for file, classes in CLASSES.items():
            defined = defined_in(ast.parse((PACKAGE / file).read_text()).body, ast.ClassDef)
            for name, told in classes.items():
                self.check(told, defined[name].body)


if __name__ == "__main__":
    unittest.main()
