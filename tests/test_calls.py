"""Calls: lists for tuples, arguments by their names, arguments that stay as they are, new lists (promise 2)."""

import copy
import importlib
import inspect
import unittest

from onehostmore.board import Board
from onehostmore.books import Book
from onehostmore.texts import board_in, board_text
from test_interface import FUNCTIONS
from things import lists_for

CHAIN = Book.of("a b c d; a-b b-c c-d")
PORTS = Book.of("db log web; db-db db-log")
TREE = ("against", ("one", "d", 0), ("side", ("one", "a", 0), ("one", "b", 1)))
CROWD = (("db", 3), ("log", 2), ("web", 9))
PLACED = (((("db", 1),), 2), ((("log", 2),), 1))
ROW = (("come", "a"), ("come", "d"), ("go", 0), ("come", "b"), ("come", "c"))
SENSE = ("goings", "peak", "lazy")
RUN = (0, 0, 1, 2)
PILE = (("a", "d"), ("b",), ("c",))
STANDING = (("a", "d"), ("b",), ("c", "c"))
LOG = (("come", "a", 0), ("come", "b", 0), ("come", "c", 1), ("go", "b", 0), ("come", "c", 1))
BOARD_TEXT = "kinds a b\nrow a b -0 a\nold: a b; a-b\nold from * .. a b; a-a a-b\nend"

CALLS = {
    "has_tree": (CHAIN,), "tree_of": (PORTS,), "is_tree": (TREE,), "tree_kinds": (TREE,), "book_of": (TREE,),
    "meeting_word": (TREE, "a", "b"), "turned_tree": (TREE,), "tree_text": (TREE,), "tree_in": ("[d (a b*)]",),
    "least_out": (CHAIN,),
    "is_of": ("peak", PORTS), "sorts_of": (PORTS,), "how_many": ("lazy", 4), "books_of": ("moment", ("a", "b")),
    "is_crowd": (PORTS, CROWD), "crowd_of": (("b", "a", "b"),), "together": (CROWD, (("a", 1), ("db", 2))),
    "jobs_in": (CROWD,), "need": (PORTS, CROWD), "lot": (PORTS, CROWD),
    "is_lot": (PORTS, CROWD, (("db", 3), ("log", 1))), "placing": (PORTS, CROWD),
    "is_placing": (PORTS, (("db", 2), ("log", 2)), PLACED), "hosts_in": (PLACED,), "room": (PORTS, CROWD, "log"),
    "weighty": (PORTS, CROWD), "sets_by_need": (PORTS,), "is_row": (CHAIN, ROW), "there": (ROW,), "crowds_along": (ROW,),
    "needs": (CHAIN, ROW), "peaks": (CHAIN, ROW),
    "is_sense": (SENSE,), "sort_of": (SENSE,), "never": (CHAIN, SENSE), "all_never": (PORTS,),
    "follows": (SENSE, ("comings", "peak", "some")), "parting_book": (("comings", "peak", "some"), SENSE),
    "row_against": (CHAIN, SENSE), "how_long": (CHAIN, SENSE), "beats": (CHAIN, SENSE, ROW),
    "least_waste": (CHAIN, ROW, "peak"),
    "kinds_of": (ROW,), "hosts_behind": (ROW, RUN, 3), "opens": (ROW, RUN), "wastes": (CHAIN, ROW, RUN, "moment"),
    "first_waste": (CHAIN, ROW, RUN, "moment"), "is_run": (CHAIN, ROW, (0, 0, 1, 2)), "not_lazy_at": (CHAIN, ROW, RUN),
    "is_lazy": (CHAIN, ROW, RUN), "not_by": (CHAIN, ROW, RUN, "last"),
    "how_many_runs": (CHAIN, ROW), "runs": (CHAIN, ROW), "run_at": (CHAIN, ROW, 0),
    "number_of_run": (CHAIN, ROW, (0, 0, 0, 1)), "opens_counted": (CHAIN, ROW), "least_open": (CHAIN, ROW),
    "most_open": (CHAIN, ROW), "wasting": (CHAIN, ROW, "moment"), "beating": (CHAIN, "alike", "peak"),
    "pieces": (CHAIN,), "tallest": (CHAIN,), "most_hosts": (CHAIN,), "is_spread": (CHAIN, PILE), "is_pile": (CHAIN, PILE),
    "row_of": (PILE,), "most_waste": (CHAIN,), "wasting_row": (CHAIN,),
    "bad_four": (CHAIN, ("a", "d", "b", "c")), "fine_order": (CHAIN,), "how_many_fine": (CHAIN,),
    "promise": (CHAIN, (("a",), ("d",))), "best_hosts": (CHAIN, (("a",),), "d"), "comers": (CHAIN, (("a",),)),
    "value": (CHAIN,),
    "changed": (CHAIN, (("d", "a"), ("b", "b"))), "all_changes": (CHAIN, "tree", "both"),
    "least_change": (CHAIN, "moment", "give"),
    "is_arrangement": (CHAIN, STANDING), "put_first": (CHAIN, STANDING, "b"), "filled": (CHAIN, ("a", "d", "b", "c")),
    "stray": (CHAIN, (("a",), ("d", "b"))), "stuck": (CHAIN, (("a",), ("c",), ("b",))), "opening": (CHAIN, STANDING),
    "how_many_rows": (CHAIN, STANDING), "how_many_lazy": (CHAIN, STANDING), "nth_row": (CHAIN, STANDING, 2),
    "nth_lazy": (CHAIN, STANDING, 2), "rank_row": (CHAIN, STANDING, ("a", "d", "b", "c", "c")),
    "all_filled": (CHAIN, ("a", "d", "b")), "hosts_range": (CHAIN, ("a", "d", "b", "c")),
    "is_log": (LOG,), "log_kinds": (LOG,), "log_of": (CHAIN, ROW), "first_wrong": (CHAIN, LOG), "fits": (CHAIN, LOG),
    "broken": (LOG,), "told_peaces": (LOG,), "wants": (LOG,), "told_clashes": (LOG,), "verdict": (LOG, "c", "a"),
    "most_clashes": (LOG,), "how_many_fit": (LOG,), "nth_fit": (LOG, 1), "fewest_clashes": (LOG,),
    "next_hosts": (LOG, "b"), "telling_row": (("a", "b", "c"),),
    "need_at": (PORTS, CROWD, (("db", 1), ("log", 2)), 4), "rises": (PORTS, CROWD, (("db", 1), ("log", 2))),
    "most_steps": (PORTS, CROWD, (("db", 1), ("log", 2)), 9),
    "crowd_text": (CROWD,), "crowd_in": ("db 3, log 2",), "board_text": (board_in(BOARD_TEXT),), "board_in": (BOARD_TEXT,),
    "answers": ("kinds a b\ncome a\nbook x a-a\nhosts x",),
}
EARLIER = ("plain", "books", "patterns")
FOUND = {name: getattr(importlib.import_module("onehostmore." + file), name)
         for file, names in FUNCTIONS.items() if file not in EARLIER for name in names}


def told(value):
    """A value as a text, Books and Boards by theirs; tuples and lists, numbers and bools are told apart."""
    if isinstance(value, Board):
        return board_text(value)
    return repr(value) if not isinstance(value, Book) else value.text


def told_deep(value):
    if isinstance(value, (list, tuple)):
        return (type(value).__name__, [told_deep(part) for part in value])
    return told(value)


class Calls(unittest.TestCase):

    def parameters(self, name):
        return list(inspect.signature(FOUND[name]).parameters)

    def test_each_function_is_called(self):
        self.assertEqual(sorted(CALLS), sorted(FOUND))

    def test_by_names(self):
        for name, given in CALLS.items():
            act = FOUND[name]
            named = dict(zip(self.parameters(name), given))
            self.assertEqual(told_deep(act(*given)), told_deep(act(**named)), name)
            self.assertEqual(told_deep(act(*given)), told_deep(act(**dict(list(named.items())[::-1]))), name)

    def test_lists_for_tuples(self):
        for name, given in CALLS.items():
            act = FOUND[name]
            listed = [value if parameter == "thing" else lists_for(value)
                      for parameter, value in zip(self.parameters(name), given)]
            self.assertEqual(told_deep(act(*listed)), told_deep(act(*given)), name)

    def test_lists_for_things(self):
        for name, given in CALLS.items():
            if "thing" in self.parameters(name):
                right, wrong = FOUND[name](*given), FOUND[name](*given[:-1], lists_for(given[-1]))
                self.assertEqual((right, wrong), (0, None) if name == "number_of_run" else (True, False), name)

    def test_arguments_stay_as_they_are(self):
        for name, given in CALLS.items():
            listed = [lists_for(value) for value in given]
            before = told_deep(listed)
            FOUND[name](*listed)
            self.assertEqual(told_deep(listed), before, name)

    def test_lists_that_are_changed_behind_a_call(self):
        for name, given in CALLS.items():
            listed = [value if parameter == "thing" else lists_for(value)
                      for parameter, value in zip(self.parameters(name), given)]
            found = FOUND[name](*listed)
            before = told_deep(found)
            for value in listed:
                if isinstance(value, list):
                    for part in value:
                        if isinstance(part, list):
                            part.clear()
                    value.clear()
            self.assertEqual(told_deep(found), before, name)

    def test_new_lists(self):
        for name, given in CALLS.items():
            found = FOUND[name](*given)
            if isinstance(found, list):
                before = copy.copy(found)
                found.append("more")
                self.assertEqual(FOUND[name](*given), before, name)

    def test_results_hold_no_lists_within(self):
        for name, given in CALLS.items():
            found = FOUND[name](*given)
            for part in found if isinstance(found, list) else [found]:
                self.assertNotIn("'list'", repr(told_deep(part)), name)


if __name__ == "__main__":
    unittest.main()
