"""The interface: names, arguments, and the files in which they are defined."""

import importlib
import inspect
import unittest

FUNCTIONS = {
    "laidviews.pictures": {
        "is_name": ["value"],
        "is_reading": ["value"],
        "is_view": ["value"],
        "size": ["view"],
        "readings": ["view"],
        "moved_light": ["view", "light"],
    },
    "laidviews.album": {"is_link": ["value"], "album_of": ["text"], "show_album": ["album"]},
    "laidviews.laying": {
        "groups": ["album"],
        "lay": ["album"],
        "lay_group": ["album", "names"],
        "ring_sum": ["album", "ring"],
        "keeps": ["laying", "link"],
    },
    "laidviews.ground": {
        "gather": ["album", "laying", "group"],
        "picture_of": ["view", "place"],
        "bounds": ["ground"],
        "values_at": ["ground", "cell"],
    },
    "laidviews.sure": {
        "cost": ["ground", "cell", "value"],
        "least_cost": ["ground"],
        "best": ["ground", "cell"],
        "other": ["ground", "cell"],
        "sure": ["ground", "faults"],
        "plain_ground": ["ground"],
        "two_grounds": ["ground", "faults", "cell"],
        "false_readings": ["ground", "values"],
    },
    "laidviews.shifts": {
        "overlap": ["one", "two", "dx", "dy"],
        "fits": ["one", "two", "reach", "errors", "least"],
        "link_of": ["one", "two", "fit"],
    },
    "laidviews.flow": {
        "check_net": ["count", "edges"],
        "greatest_flow": ["count", "edges"],
        "worth": ["edges", "flow"],
        "is_flow": ["count", "edges", "flow"],
        "side_cost": ["edges", "side"],
        "narrow_side": ["count", "edges", "flow"],
        "wide_side": ["count", "edges", "flow"],
    },
    "laidviews.seam": {
        "overlap": ["base", "over"],
        "difference": ["base", "over", "cell"],
        "neighbours": ["base", "over"],
        "cost": ["base", "over", "choice"],
        "net_of": ["base", "over", "bound"],
        "narrow_seam": ["base", "over", "bound"],
        "wide_seam": ["base", "over", "bound"],
        "seam_paper": ["base", "over", "bound", "choice"],
        "shown": ["base", "over", "choice"],
    },
    "laidviews.quilt": {
        "quilt": ["layers"],
        "values": ["lying"],
        "shares": ["lying"],
        "quilt_rows": ["lying"],
    },
    "laidviews.judge": {
        "judges": ["album", "value"],
        "judges_cell": ["ground", "faults", "value"],
        "cell_paper": ["ground", "faults", "cell"],
    },
    "laidviews.seam_judge": {
        "accepts_seam": ["base", "over", "bound", "value"],
        "bad_seam": ["base", "over", "bound", "value"],
        "accepts_quilt": ["layers", "steps"],
    },
}

# The arguments that are given by keyword only, of those functions that have some.
BY_KEYWORD = {"laidviews.shifts": {"fits": ["reach", "errors", "least"]}}

# The arguments that may be left out, with what then stands for them.
LEFT_OUT = {"laidviews.seam": {"narrow_seam": {"bound": ()}, "wide_seam": {"bound": ()}}}

CLASSES = {
    "laidviews.errors": {
        "Refused": {},
        "Malformed": {"__init__": ["self", "at"]},
        "Unknown": {"__init__": ["self", "name"]},
        "Clashing": {"__init__": ["self", "name"]},
        "Oversized": {"__init__": ["self", "limit"]},
        "Misused": {"__init__": ["self", "why"]},
    },
    "laidviews.album": {
        "Album": {
            "__init__": ["self"],
            "add_view": ["self", "view"],
            "add_link": ["self", "link"],
            "remove_link": ["self", "number"],
            "remove_view": ["self", "name"],
            "view": ["self", "name"],
            "index": ["self", "name"],
            "views": ["self"],
            "names": ["self"],
            "links": ["self"],
            "twin": ["self"],
        },
    },
    "laidviews.edits": {
        "Keeper": {
            "__init__": ["self", "album"],
            "album": ["self"],
            "answer": ["self"],
            "put_view": ["self", "view"],
            "put_link": ["self", "link"],
            "take_link": ["self", "number"],
            "take_view": ["self", "name"],
        },
    },
}


def arguments_of(function):
    return list(inspect.signature(function).parameters)


def by_keyword(function):
    parameters = inspect.signature(function).parameters.values()
    return [parameter.name for parameter in parameters if parameter.kind is parameter.KEYWORD_ONLY]


def left_out(function):
    parameters = inspect.signature(function).parameters.values()
    return {parameter.name: parameter.default for parameter in parameters if parameter.default is not parameter.empty}


class Interface(unittest.TestCase):
    def test_functions(self):
        for module, functions in FUNCTIONS.items():
            for name, arguments in functions.items():
                function = getattr(importlib.import_module(module), name)
                self.assertTrue(inspect.isfunction(function), name)
                self.assertEqual(function.__module__, module)
                self.assertEqual(arguments_of(function), arguments, name)
                self.assertEqual(by_keyword(function), BY_KEYWORD.get(module, {}).get(name, []), name)
                self.assertEqual(left_out(function), LEFT_OUT.get(module, {}).get(name, {}), name)

    def test_classes(self):
        for module, classes in CLASSES.items():
            for name, methods in classes.items():
                kind = getattr(importlib.import_module(module), name)
                self.assertTrue(inspect.isclass(kind), name)
                self.assertEqual(kind.__module__, module)
                for method, arguments in methods.items():
                    self.assertEqual(arguments_of(vars(kind)[method]), arguments, (name, method))


if __name__ == "__main__":
    unittest.main()
