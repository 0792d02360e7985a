import unittest

from unbrokenrows import errors
from unbrokenrows.errors import RowsError

ATTRIBUTES = {
    "RowsError": {
        "Unknown": None, "Impossible": None,
        "BadShare": [], "BadForm": [], "NotLayout": [], "OtherColumns": [],
        "BadTable": ["part", "index"], "BadMeetings": ["part", "index"],
        "BadOrder": ["index"], "BadStep": ["index"], "BadPair": ["index"], "BadQuestion": ["index"],
        "BadSpan": ["index"], "BadYears": ["index"], "BrokenSpan": ["index"], "BadWindow": ["index"],
        "BadRound": ["index"], "BadWorths": ["index"],
        "BadText": ["line"], "BadNumber": ["number"], "InUse": ["number"], "RunStopped": ["number"],
        "TooMany": ["many"], "BadKind": ["kind", "size"],
        "SameColumn": ["name"], "BadWeight": ["name"], "Taken": ["name"],
        "BadSharing": ["one", "other"], "BadLine": ["place"],
    },
    "Unknown": {"UnknownColumn": ["name"], "UnknownGuest": ["name"], "UnknownRow": ["number"]},
    "Impossible": {
        "NoLayout": ["number"], "NoRing": ["number"], "NoCommon": [], "Clash": ["kind", "blocks", "pairs"],
        "NotSure": ["order"], "NotBefore": ["order"], "NoDating": ["less", "more"], "NoDates": ["one", "other"],
        "NoStays": ["kind", "guests", "ways"], "NoMend": ["cases"],
        "NoAgreement": ["table", "sets", "pairs", "sources"], "NoWorld": ["word"], "Hindered": ["word"],
    },
}
SAMPLES = {
    "blocks": (("a", "b"), ("c",)), "pairs": (("a", "c"),), "order": ["a", "b"], "less": (0, 2), "more": (1,),
    "guests": ("ann", "bo"), "ways": (("ann",), ("bo", "cy")), "cases": (None, ()), "sets": ((0, ("a", "b")),),
    "sources": (0, 1), "kind": "ring", "part": "column", "name": "a", "word": "clash", "table": None,
}


def classes():
    """Each error class with its base and its attributes (None for the classes that group others)."""
    return [(name, base, told) for base in ATTRIBUTES for name, told in ATTRIBUTES[base].items()]


class ErrorTest(unittest.TestCase):
    def test_each_class_is_under_its_own_base_alone(self):
        self.assertEqual(RowsError.__bases__, (ValueError,))
        for name, base, _ in classes():
            self.assertEqual(getattr(errors, name).__bases__, (getattr(errors, base),), name)

    def test_attributes_come_in_their_order(self):
        for name, _, told in classes():
            values = {key: SAMPLES.get(key, at + 7) for at, key in enumerate(told or [])}
            error = getattr(errors, name)(*values.values())
            self.assertEqual(vars(error), values, name)

    def test_values_of_any_kind_are_kept(self):
        for name, _, told in classes():
            values = {key: f"value {at}" for at, key in enumerate(told or [])}
            self.assertEqual(vars(getattr(errors, name)(*values.values())), values, name)

    def test_there_are_no_other_classes(self):
        found = [name for name, value in vars(errors).items() if isinstance(value, type)]
        self.assertEqual(sorted(found), sorted(["RowsError"] + [name for name, _, _ in classes()]))

    def test_lists_are_copied(self):
        order = ["a", "b"]
        errors_made = [errors.NotSure(order), errors.NotBefore(order)]
        blocks = [["a"], ["b"]]
        clash = errors.Clash("ring", blocks, [])
        order.append("c")
        blocks[0].append("d")
        self.assertEqual([error.order for error in errors_made], [["a", "b"], ["a", "b"]])
        self.assertEqual((clash.blocks, clash.pairs), ((("a",), ("b",)), ()))
        self.assertEqual(errors.NotSure(("a", "b")).order, ["a", "b"])


if __name__ == "__main__":
    unittest.main()
