"""Each name of the interface stands in its file, with the parameters that the document shows (promises 2 and 17)."""

import importlib
import inspect
import unittest

FUNCTIONS = {
    "plain": {"is_kind": ["thing"]},
    "books": {"alike": ["book", "one", "other"], "classes": ["book"], "shortened": ["book"], "knots": ["book"],
              "peaces": ["book"]},
    "patterns": {
        "third": ["book"], "bent": ["book"], "four": ["book"], "paw": ["book"], "pair_and_three": ["book"],
        "is_third": ["book", "thing"], "is_bent": ["book", "thing"], "is_four": ["book", "thing"],
        "is_paw": ["book", "thing"], "is_pair_and_three": ["book", "thing"]},
    "trees": {
        "has_tree": ["book"], "tree_of": ["book"], "is_tree": ["thing"], "tree_kinds": ["tree"], "book_of": ["tree"],
        "meeting_word": ["tree", "one", "other"], "turned_tree": ["tree"], "tree_text": ["tree"], "tree_in": ["text"],
        "least_out": ["book"]},
    "sorts": {"is_of": ["sort", "book"], "sorts_of": ["book"], "how_many": ["sort", "number"],
              "books_of": ["sort", "kinds"]},
    "crowds": {
        "is_crowd": ["book", "thing"], "crowd_of": ["kinds"], "together": ["one", "other"], "jobs_in": ["crowd"],
        "need": ["book", "crowd"], "lot": ["book", "crowd"], "is_lot": ["book", "crowd", "thing"],
        "placing": ["book", "crowd"], "is_placing": ["book", "crowd", "thing"], "hosts_in": ["placing"],
        "room": ["book", "crowd", "kind"], "weighty": ["book", "crowd"], "sets_by_need": ["book"],
        "is_row": ["book", "thing"], "there": ["row"], "crowds_along": ["row"], "needs": ["book", "row"],
        "peaks": ["book", "row"]},
    "forced": {
        "is_sense": ["thing"], "sort_of": ["sense"], "never": ["book", "sense"], "all_never": ["book"],
        "follows": ["one", "other"], "parting_book": ["one", "other"], "row_against": ["book", "sense"],
        "how_long": ["book", "sense"], "beats": ["book", "sense", "row"], "least_waste": ["book", "row", "measure"]},
    "keepers": {
        "kinds_of": ["row"], "hosts_behind": ["row", "run", "deeds"], "opens": ["row", "run"],
        "wastes": ["book", "row", "run", "measure"], "first_waste": ["book", "row", "run", "measure"],
        "is_run": ["book", "row", "thing"], "not_lazy_at": ["book", "row", "run"], "is_lazy": ["book", "row", "run"],
        "not_by": ["book", "row", "run", "word"]},
    "runs": {
        "how_many_runs": ["book", "row"], "runs": ["book", "row", "most"], "run_at": ["book", "row", "number"],
        "number_of_run": ["book", "row", "thing"], "opens_counted": ["book", "row"], "least_open": ["book", "row"],
        "most_open": ["book", "row"], "wasting": ["book", "row", "measure"],
        "beating": ["book", "who", "measure", "goings", "most"]},
    "most": {
        "pieces": ["book"], "tallest": ["book"], "most_hosts": ["book"], "is_spread": ["book", "thing"],
        "is_pile": ["book", "thing"], "row_of": ["pile"], "most_waste": ["book"], "wasting_row": ["book"]},
    "ranks": {"bad_four": ["book", "order"], "fine_order": ["book"], "how_many_fine": ["book"]},
    "game": {"promise": ["book", "spread"], "best_hosts": ["book", "spread", "kind"], "comers": ["book", "spread"],
             "value": ["book"]},
    "changes": {"changed": ["book", "pairs"], "all_changes": ["book", "sort", "way"],
                "least_change": ["book", "sort", "way"]},
    "arrangements": {
        "is_arrangement": ["book", "thing"], "put_first": ["book", "arrangement", "kind"], "filled": ["book", "kinds"],
        "stray": ["book", "arrangement"], "stuck": ["book", "arrangement"], "opening": ["book", "arrangement"],
        "how_many_rows": ["book", "arrangement"], "how_many_lazy": ["book", "arrangement"],
        "nth_row": ["book", "arrangement", "number"], "nth_lazy": ["book", "arrangement", "number"],
        "rank_row": ["book", "arrangement", "kinds"], "all_filled": ["book", "kinds"], "hosts_range": ["book", "kinds"]},
    "logs": {
        "is_log": ["thing"], "log_kinds": ["log"], "log_of": ["book", "row"], "first_wrong": ["book", "log"],
        "fits": ["book", "log"], "broken": ["log"], "told_peaces": ["log"], "wants": ["log"], "told_clashes": ["log"],
        "verdict": ["log", "one", "other"], "most_clashes": ["log"], "how_many_fit": ["log"],
        "nth_fit": ["log", "number"], "fewest_clashes": ["log"], "next_hosts": ["log", "kind"], "telling_row": ["kinds"]},
    "growth": {"need_at": ["book", "base", "more", "number"], "rises": ["book", "base", "more"],
               "most_steps": ["book", "base", "more", "hosts"]},
    "texts": {"crowd_text": ["crowd"], "crowd_in": ["text"], "board_text": ["board"], "board_in": ["text"]},
    "desk": {"answers": ["text"]},
}
# The arguments that are passed by name alone, with what they are if nothing is said.
BY_NAME = {("runs", "runs"): {"most": 2000}, ("runs", "beating"): {"goings": True, "most": 5}}
METHODS = {
    ("books", "Book"): {
        "__init__": ["kinds", "clashes"], "clash": ["one", "other"], "clashing": ["kind"], "peaceful": ["kind"],
        "within": ["other"], "only": ["kinds"], "without": ["kind"], "with_kind": ["kind", "clashing"],
        "copied": ["kind", "new"], "turned": [], "beside": ["other"], "against": ["other"],
        "__len__": [], "__contains__": ["kind"], "__eq__": ["other"]},
    ("keepers", "Keeper"): {"__init__": ["word"], "__eq__": ["other"], "choice": ["book", "hosts", "kind"],
                            "run": ["book", "row"]},
    ("board", "Board"): {
        "__init__": ["kinds"], "__len__": [], "__contains__": ["name"], "__getitem__": ["name"], "__eq__": ["other"],
        "__iter__": [], "hosts": ["name"], "used": ["name"], "spare": ["name"], "above": ["name"], "doubled": [],
        "effect": ["name", "book"], "come": ["kind"], "go": ["job"], "__setitem__": ["name", "book"], "leave": ["name"],
        "__iadd__": ["other"], "frame": ["name", "low", "high"], "lift": ["name"], "attempt": ["deeds"], "undo": [],
        "twin": []},
}
STATIC = {("books", "Book"): {"of": ["text"]}}
PROPERTIES = {("books", "Book"): ["kinds", "clashes", "selfish", "text"], ("keepers", "Keeper"): ["word"],
              ("board", "Board"): ["kinds", "jobs", "crowd", "row", "names", "frames"]}


def the_class(place):
    return getattr(importlib.import_module("onehostmore." + place[0]), place[1])


class Interface(unittest.TestCase):

    def test_functions(self):
        for file, names in FUNCTIONS.items():
            module = importlib.import_module("onehostmore." + file)
            for name, parameters in names.items():
                found = getattr(module, name)
                self.assertEqual(found.__module__, "onehostmore." + file)
                self.assertEqual(list(inspect.signature(found).parameters), parameters, name)

    def test_arguments_by_name_alone(self):
        for file, names in FUNCTIONS.items():
            module = importlib.import_module("onehostmore." + file)
            for name in names:
                found = {part.name: part.default for part in inspect.signature(getattr(module, name)).parameters.values()
                         if part.kind is part.KEYWORD_ONLY}
                self.assertEqual(found, BY_NAME.get((file, name), {}))

    def test_methods_stand_in_the_class_itself(self):
        for place, names in METHODS.items():
            for name, parameters in names.items():
                found = vars(the_class(place))[name]
                self.assertEqual(list(inspect.signature(found).parameters)[1:], parameters, name)

    def test_called_off_the_class(self):
        for place, names in STATIC.items():
            for name, parameters in names.items():
                self.assertIn(name, vars(the_class(place)))
                self.assertEqual(list(inspect.signature(getattr(the_class(place), name)).parameters), parameters)

    def test_properties_without_setters(self):
        for place, names in PROPERTIES.items():
            for name in names:
                found = vars(the_class(place))[name]
                self.assertIsInstance(found, property)
                self.assertIsNone(found.fset)

    def test_classes_stand_in_their_files(self):
        for place in METHODS:
            self.assertEqual(the_class(place).__module__, "onehostmore." + place[0])


if __name__ == "__main__":
    unittest.main()
