"""The section "The interface": what stands in which file, with which arguments; and what arguments stay."""

import ast
import unittest
from pathlib import Path

PACKAGE = Path(__file__).resolve().parent.parent / "marktruly"
FUNCTIONS = {
    "shares": {
        "read_share": ("text",), "lesser_of": ("share", "other"), "sum_of": ("shares",),
    },
    "sources": {
        "table_of": ("source",), "mixed": ("source", "other", "part"), "behind": ("source", "other"),
        "led": ("source", "changes"), "alike": ("source", "other"),
    },
    "changes": {
        "unchanged": ("texts",), "exchanged": ("texts", "alphabet", "most"), "struck": ("texts", "most"),
        "put_in": ("texts", "alphabet", "most"), "after": ("first", "second"), "together": ("one", "other"),
        "parting": ("changes",), "classes": ("changes",),
    },
    "packing": {
        "worth": ("source", "changes", "level"), "best_row": ("source", "changes", "level"),
        "prices": ("source", "changes", "level"), "row_fault": ("source", "changes", "level", "row"),
        "price_fault": ("source", "changes", "paper"), "cost": ("source", "level", "paper"), "row_sum": ("row",),
    },
    "levels": {
        "plain_worth": ("source", "level"), "class_worth": ("source", "changes", "level"), "bends": ("source",),
        "least_level": ("source", "found"),
    },
    "markings": {
        "written_table": ("marking",), "best_marking": ("source", "changes", "level"),
        "marking_of_row": ("source", "changes", "row"),
    },
    "judges": {
        "seen_at": ("source", "marking"), "accused_most": ("marking",), "accused_at": ("marking", "level"),
        "found_share": ("changes", "marking"), "gap": ("source", "changes", "level", "marking"),
        "blind_share": ("changes", "marking"),
    },
    "writers": {
        "best_writer": ("source", "changes", "finder"), "lot_bound": ("source", "changes", "finder", "lot"),
    },
    "makers": {"shared_at": ("source", "shared"), "shared_of": ("makers",)},
    "again": {
        "times": ("share", "many"), "often": ("share", "many", "level"), "again_worth": ("source", "many", "level"),
        "row_seen_at": ("source", "rows"), "again_marking": ("source", "many", "level"),
    },
    "letters": {
        "letter_write": ("machine", "key"), "hits": ("alphabet", "unit", "key", "text"),
        "hit_least": ("q", "length", "level"), "hit_tail": ("q", "length", "least"),
        "hit_found": ("machine", "level", "most"), "hit_shares": ("machine",),
    },
    "papers": {
        "write_table": ("source",), "write_changes": ("changes",), "write_marking": ("marking",),
        "write_prices": ("paper",), "read_table": ("text",), "read_changes": ("text",), "read_marking": ("text",),
        "read_prices": ("text",),
    },
    "desk": {"answer": ("state", "line")},
}
SOURCE_METHODS = {"texts": (), "weight_of": ("text",), "share_of": ("text",), "drawn": ("number",)}
CLASSES = {
    "errors": {
        "MarkError": {}, "InvalidNumber": {"__init__": ("number",)}, "InvalidPair": {"__init__": ("at",)},
        "InvalidKey": {"__init__": ("key",)}, "UnknownText": {"__init__": ("text",)},
        "NotClasses": {"__init__": ("text", "other")}, "Seen": {"__init__": ("text",)},
        "Accuses": {"__init__": ("text",)}, "InvalidText": {"__init__": ("text", "at")},
        "NoTicket": {"__init__": ("ticket",)}, "NoMaker": {"__init__": ("maker",)},
    },
    "shares": {
        "Share": {
            "__init__": ("over", "under"), "__add__": ("other",), "__sub__": ("other",), "__mul__": ("other",),
            "__eq__": ("other",), "by": ("other",), "is_below": ("other",), "written": (),
        },
    },
    "sources": {
        "Table": {"__init__": ("pairs",), **SOURCE_METHODS},
        "Machine": {"__init__": ("alphabet", "start", "rows", "length"), **SOURCE_METHODS},
    },
    "changes": {
        "Changes": {"__init__": ("rows",), "__eq__": ("other",), "texts": (), "of": ("text",), "readable": ()},
    },
    "markings": {
        "Marking": {
            "__init__": ("entries",), "__len__": (), "key_of": ("number",), "write": ("key",),
            "accuses": ("key", "text"), "texts": (), "written_share": ("text",), "accused_share": ("text",),
        },
    },
    "makers": {
        "Makers": {
            "__init__": ("source", "many", "level"), "arcs": (), "write": ("maker", "key"), "who": ("key", "text"),
            "credited": ("maker", "other", "text"),
        },
        "Shared": {
            "__init__": ("entries",), "written_share": ("maker", "text"), "found_share": ("maker",),
            "named_share": ("text",), "mean_found": (),
        },
    },
    "again": {
        "RowMarking": {
            "__init__": ("entries",), "__len__": (), "row_share": ("row",), "accused_share": ("text",),
            "found_share": (),
        },
    },
    "far": {
        "Far": {"__init__": ("weights", "length"), "share_of": ("text",), "worth_at": ("level",)},
        "FarMarking": {
            "__init__": ("far", "level"), "write": ("key",), "accuses": ("key", "text"), "arc_of": ("text",),
            "rest_of": ("text",),
        },
    },
    "ledger": {
        "Ledger": {
            "__init__": ("marking",), "come_back": ("marking", "journal"), "__len__": (), "issue": ("number",),
            "key_of": ("ticket",), "text_of": ("ticket",), "withdraw": ("ticket",), "restore": ("ticket",),
            "asked": ("text",), "journal": (), "chance": ("text",),
        },
    },
}
# What stands over a method; over all others stands nothing.
DECORATED = {("Makers", "arcs"): "property", ("Ledger", "come_back"): "classmethod"}


def body_of(module):
    return ast.parse((PACKAGE / (module + ".py")).read_text()).body


def arguments_of(function):
    return tuple(argument.arg for argument in function.args.args)


class InterfaceTest(unittest.TestCase):

    def test_functions(self):
        for module, functions in FUNCTIONS.items():
            found = {part.name: arguments_of(part) for part in body_of(module) if isinstance(part, ast.FunctionDef)}
            for name, arguments in functions.items():
                self.assertEqual(found[name], arguments, name)

    def test_classes(self):
        for module, kinds in CLASSES.items():
            found = {part.name: part for part in body_of(module) if isinstance(part, ast.ClassDef)}
            for name, methods in kinds.items():
                told = {part.name: part for part in found[name].body if isinstance(part, ast.FunctionDef)}
                for method, arguments in methods.items():
                    self.assertEqual(arguments_of(told[method])[1:], arguments, (name, method))
                    over = [part.id for part in told[method].decorator_list]
                    self.assertEqual(over, [DECORATED[name, method]] if (name, method) in DECORATED else [])


if __name__ == "__main__":
    unittest.main()
