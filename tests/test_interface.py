"""The interface: each name stands in its own file, with the arguments that the document writes."""

import ast
import importlib
import inspect
import pathlib
import unittest

FOLDER = pathlib.Path(__file__).resolve().parent.parent / "lesserhall"
FUNCTIONS = {
    "rules": {"is_rule": "many thing", "seen_by": "rule", "told_of": "rule lot", "most_of": "rule"},
    "halls": {"is_standing": "hall thing"},
    "turns": {"lot_of": "hall standing person", "turned": "hall standing persons", "restless": "hall standing",
              "is_rest": "hall standing"},
    "beats": {"history": "hall standing many", "rest_by_beats": "hall standing"},
    "orders": {"rest_by": "hall standing order", "rest_by_lots": "hall standing lots"},
    "levels": {"tower_of": "standing", "is_sound": "hall thing", "next_levels": "hall tower", "plain_rest": "hall",
               "rests_of": "hall"},
    "firm": {"is_line": "hall standing thing", "waterline": "hall standing", "firm_of": "hall standing"},
    "ways": {"come_to": "hall standing", "rests_come_to": "hall standing", "least_turns": "hall standing other",
             "most_shown": "hall standing person"},
    "waycheck": {"shows_never": "hall standing person number thing"},
    "webs": {"round_in": "hall", "shows_round": "hall thing", "seen_first": "hall", "late_of": "hall"},
    "sweeps": {"stops_of": "hall standing person", "swept": "hall standing", "rests_on": "hall"},
    "rows": {"row_hall": "many", "row_stops": "rest", "is_row_rest": "thing", "row_swept": "standing",
             "row_counts": "many", "row_rest": "many number", "row_number": "rest", "brackets_of": "rest",
             "rest_of": "text", "row_falls": "standing"},
    "lines": {"line_hall": "many *ring=False", "line_counts": "many *ring=False", "line_rest": "many number *ring=False",
              "line_number": "rest *ring=False", "all_hall": "many", "all_counts": "many"},
    "windows": {"window_hall": "many wide", "window_counts": "many wide"},
    "alike": {"are_alike": "hall thing", "lists_of": "hall standing", "lesser": "hall lists",
              "told_small": "standing lists", "told_wide": "standing lists"},
    "over": {"scaled": "hall times", "called": "hall order", "beside": "one other", "held_at": "hall person number",
             "tied": "hall person other weight"},
    "texts": {"hall_text": "hall", "hall_in": "text"},
    "desk": {"answers": "text"},
}
CLASSES = {
    ("halls", "Hall"): {"__init__": "rules", "rules": "", "rule": "person", "sees": "person", "seers": "person",
                        "__len__": "", "__eq__": "other", "__repr__": ""},
    ("house", "House"): {"__init__": "hall standing", "turn": "persons", "beat": "many=1", "rest": "",
                         "show": "person number", "hold": "person", "loose": "person", "rule": "person rule", "undo": "",
                         "do": "deeds *whole=True", "hall": "", "standing": "", "held": "", "turns": "", "firm": "",
                         "line": "", "deeds": "", "log": "", "twin": "", "__len__": "", "__eq__": "other"},
}


def written(parameter):
    """A parameter as the tables here write it: a star ahead of who is handed in by name alone, = behind a default."""
    star = {inspect.Parameter.POSITIONAL_OR_KEYWORD: "", inspect.Parameter.KEYWORD_ONLY: "*"}[parameter.kind]
    default = "" if parameter.default is inspect.Parameter.empty else f"={parameter.default!r}"
    return star + parameter.name + default


def arguments_of(function):
    """The arguments of a function, as the tables here write them."""
    return " ".join(written(parameter) for parameter in inspect.signature(function).parameters.values())


class InterfaceTest(unittest.TestCase):
    def test_functions(self):
        for file, functions in FUNCTIONS.items():
            module = importlib.import_module("lesserhall." + file)
            tree = ast.parse((FOLDER / (file + ".py")).read_text("ascii"))
            defined = {part.name for part in tree.body if isinstance(part, ast.FunctionDef)}
            for name, arguments in functions.items():
                with self.subTest(file=file, name=name):
                    self.assertIn(name, defined)
                    self.assertEqual(arguments_of(getattr(module, name)), arguments)

    def test_classes(self):
        for (file, name), methods in CLASSES.items():
            made = getattr(importlib.import_module("lesserhall." + file), name)
            self.assertEqual(made.__module__, "lesserhall." + file)
            for method, arguments in methods.items():
                with self.subTest(name=name, method=method):
                    # In the body of the class itself: not only in one above it.
                    self.assertIn(method, vars(made))
                    self.assertEqual(arguments_of(vars(made)[method]), f"self {arguments}".strip())


if __name__ == "__main__":
    unittest.main()
