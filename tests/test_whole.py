"""What the document promises over the whole program, in small drawn cases (promises 1 and 2)."""

import itertools
import random
import unittest

from onehostmore.arrangements import (
    all_filled, filled, hosts_range, how_many_lazy, how_many_rows, is_arrangement, nth_lazy, nth_row, opening, rank_row, stray,
    stuck)
from onehostmore.board import Board
from onehostmore.books import Book
from onehostmore.changes import all_changes, changed
from onehostmore.crowds import crowd_of, crowds_along, hosts_in, is_placing, jobs_in, lot, need, needs, peaks, placing, room
from onehostmore.desk import answers
from onehostmore.forced import all_never, beats, how_long, never, row_against, sort_of
from onehostmore.game import promise, value
from onehostmore.growth import most_steps, need_at, rises
from onehostmore.keepers import Keeper, first_waste, hosts_behind, is_lazy, is_run, opens, wastes
from onehostmore.logs import broken, fits, how_many_fit, is_log, log_of, most_clashes, next_hosts, nth_fit, told_clashes, told_peaces
from onehostmore.most import most_hosts, most_waste, row_of, tallest, wasting_row
from onehostmore.ranks import bad_four, fine_order
from onehostmore.runs import how_many_runs, least_open, most_open, runs
from onehostmore.sorts import is_of, sorts_of
from onehostmore.texts import board_in, board_text, crowd_in, crowd_text
from onehostmore.trees import book_of, has_tree, tree_in, tree_of, tree_text
from models import SENSES
from things import all_books, some_books, some_row

KINDS = ("a", "b", "c", "d")
BOOKS = [*list(all_books(("a", "b", "c")))[::4], *some_books(KINDS, 25, 1), Book.of("a b c d; a-b b-c c-d"),
         Book.of("a b c d; a-d b-c b-d c-d"), Book.of("a b c; b-c"), Book.of("a b c d; a-b c-d")]


def board_of(book, row):
    """A Board with this BOOK, called x, behind these deeds."""
    board = Board(book.kinds)
    board["x"] = book
    for word, what in row:
        board.come(what) if word == "come" else board.go(what)
    return board


def cases(seed, length, many=3):
    source = random.Random(seed)
    for book in BOOKS:
        for _ in range(many):
            yield source, book, some_row(source, book.kinds, source.randint(0, length))


class Sorts(unittest.TestCase):
    """(a) and (b): what is told for ALL rows, and the rows that beat."""

    def test_rows_that_beat_or_do_not(self):
        met = {}
        for book in BOOKS:
            for sense in SENSES:
                self.assertIs(never(book, sense), is_of(sort_of(sense), book))
                row = row_against(book, sense)
                self.assertEqual((row is None, how_long(book, sense)), (never(book, sense), row and len(row)))
                if row is not None:
                    self.assertTrue(beats(book, sense, row))
                    self.assertFalse(beats(book, sense, row[:-1]))
                met[sense, row is None] = True
            self.assertEqual(all_never(book), tuple(sense for sense in sorted(SENSES) if never(book, sense)))
        self.assertEqual(len(met), 2 * len(SENSES))

    def test_no_row_beats_where_none_can(self):
        for _, book, row in cases(2, 10):
            for sense in SENSES:
                if never(book, sense):
                    self.assertFalse(beats(book, sense, row), (book.text, sense, row))
                    short = tuple(deed for deed in row if deed[0] == "come")[:6]
                    self.assertFalse(beats(book, sense, short))

    def test_a_row_against_first_free_on_a_board(self):
        for book in BOOKS:
            for measure in ("moment", "peak"):
                row = row_against(book, ("goings", measure, "first"))
                if row is not None and has_tree(book):
                    spares = [board_of(book, row[:deeds]).spare("x") for deeds in range(len(row) + 1)]
                    most = peaks(book, row) if measure == "peak" else needs(book, row)
                    used = [board_of(book, row[:deeds]).used("x") for deeds in range(len(row) + 1)]
                    self.assertTrue(any(many > bound for many, bound in zip(used, most)))
                    self.assertGreater(max(spares), 0)

    def test_no_row_against_first_free_on_a_board(self):
        for _, book, row in cases(3, 20):
            if never(book, ("goings", "moment", "first")):
                self.assertEqual(board_of(book, row).spare("x"), 0)

    def test_changes_lead_to_a_sort_of_which_never_is_so(self):
        for book in BOOKS[::3]:
            for sense in SENSES[::3]:
                for pairs in all_changes(book, sort_of(sense), "both")[:3]:
                    self.assertTrue(never(changed(book, pairs), sense))

    def test_trees(self):
        for book in BOOKS:
            if sorts_of(book):
                self.assertEqual(book_of(tree_in(tree_text(tree_of(book)))), book)
            self.assertIs(has_tree(book), "tree" in sorts_of(book))
            if has_tree(book) and not book.selfish:
                self.assertEqual(value(book), 0)


class Crowds(unittest.TestCase):
    """(c): CROWDs against Boards."""

    def test_a_board_and_its_crowd(self):
        for _, book, row in cases(4, 16):
            board = board_of(book, row)
            self.assertEqual(board.crowd, crowds_along(row)[-1])
            self.assertEqual(board.crowd, crowd_of([kind for _, kind in board.jobs]))
            self.assertEqual(jobs_in(board.crowd), len(board.jobs))
            self.assertEqual(crowd_in(crowd_text(board.crowd)), board.crowd)
            if has_tree(book):
                self.assertEqual(board.spare("x"), board.used("x") - need(book, board.crowd))
                self.assertGreaterEqual(board.spare("x"), 0)
                self.assertEqual(jobs_in(lot(book, board.crowd)), hosts_in(placing(book, board.crowd)))
            hosts = [tuple(dict(board.jobs)[job] for job in jobs) for _, jobs in board.hosts("x")]
            placed = crowd_of([crowd_of(kinds) for kinds in hosts])
            self.assertTrue(is_placing(book, board.crowd, placed))
            self.assertEqual(hosts_in(placed), board.used("x"))

    def test_room_on_a_board(self):
        for _, book, row in cases(5, 8, 1):
            for kind in book.kinds if has_tree(book) else ():
                board = board_of(book, row)
                more = room(book, board.crowd, kind)
                for _ in range(20 if more is None else more):
                    board.come(kind)
                self.assertEqual(need(book, board.crowd), need(book, crowds_along(row)[-1]))
                board.come(kind)
                self.assertEqual(need(book, board.crowd) == need(book, crowds_along(row)[-1]), more is None)

    def test_growing_crowds_on_a_board(self):
        for source, book, row in cases(6, 8, 1):
            if not has_tree(book) or not len(book):
                continue
            board = board_of(book, row)
            base, more = board.crowd, crowd_of(source.choices(book.kinds, k=3))
            found = []
            for number in range(6):
                found.append(need(book, board.crowd))
                self.assertEqual(need_at(book, base, more, number), found[-1])
                board.attempt([("come", kind) for kind, many in more for _ in range(many)])
            for first, low, rise in rises(book, base, more):
                if first < 5:
                    self.assertEqual(found[first:first + 2], [low, low + rise])
            steps = most_steps(book, base, more, found[3])
            self.assertTrue(steps is None or steps >= 3)

    def test_comings_alone_in_books_with_a_tree(self):
        for _, book, row in cases(7, 14):
            comings = tuple(deed for deed in row if deed[0] == "come")
            if has_tree(book):
                self.assertEqual(board_of(book, comings).spare("x"), 0)


class Runs(unittest.TestCase):
    """(d) and (e): keepers, their runs, what they waste, and the most hosts."""

    def test_a_board_does_what_the_keeper_does(self):
        for _, book, row in cases(8, 16):
            board, run = board_of(book, row), Keeper("first").run(book, row)
            self.assertTrue(is_run(book, row, run) and is_lazy(book, row, run))
            told = hosts_behind(row, run, len(row))
            kinds = dict(board.jobs)
            self.assertEqual(tuple((host, tuple(sorted(kinds[job] for job in jobs))) for host, jobs in board.hosts("x")), told)
            self.assertEqual([board_of(book, row[:deeds + 1]).used("x") for deeds in range(len(row))], list(opens(row, run)))
            if row and has_tree(book):
                self.assertEqual(wastes(book, row, run, "moment")[-1], board.spare("x"))

    def test_lazy_runs(self):
        for _, book, row in cases(9, 8):
            first = Keeper("first").run(book, row)
            found = runs(book, row)
            self.assertEqual(first, found[0])
            used = board_of(book, row).used("x")
            self.assertTrue(least_open(book, row) <= used <= most_open(book, row))
            for sense in (("goings", "moment", "lazy"), ("goings", "peak", "lazy")):
                wasted = any(first_waste(book, row, run, sense[1]) is not None for run in found)
                self.assertIs(beats(book, sense, row), wasted)

    def test_the_most_hosts(self):
        for source, book, _ in cases(10, 0, 2):
            if book.selfish:
                continue
            board = board_of(book, [("come", kind) for kind in row_of(tallest(book))])
            self.assertEqual(board.used("x"), most_hosts(book))
            wasted = [("come", kind) for kind in wasting_row(book)]
            self.assertEqual(board_of(book, wasted).used("x") - need(book, crowd_of(wasting_row(book))), most_waste(book))
            kinds = source.choices(book.kinds, k=9) if len(book) else []
            self.assertLessEqual(board_of(book, [("come", kind) for kind in kinds]).used("x"), most_hosts(book))
            self.assertLessEqual(value(book), most_waste(book))
            self.assertEqual(promise(book, ()), value(book))

    def test_fine_orders(self):
        for source, book, _ in cases(11, 0, 1):
            order = fine_order(book)
            if order is not None:
                self.assertIsNone(bad_four(book, order))
                kinds = [kind for kind in order for _ in range(source.randint(0, 2))]
                board = board_of(book, [("come", kind) for kind in kinds])
                self.assertEqual(board.used("x"), need(book, board.crowd))


class Logs(unittest.TestCase):
    """(f): LOGs against ARRANGEMENTs, RUNs and Boards."""

    def test_logs_of_comings_and_goings(self):
        for source, book, row in cases(12, 14):
            log = log_of(book, row)
            self.assertTrue(is_log(log) and fits(book, log))
            self.assertIsNone(broken(log))
            run = Keeper("first").run(book, row)
            self.assertEqual(tuple(host for word, _, host in log if word == "come"), run)
            self.assertFalse([pair for pair in told_peaces(log) if book.clash(*pair)])
            self.assertTrue(all(book.clash(*pair) for pair in told_clashes(log)))
            self.assertEqual(log_of(most_clashes(log), row), log)
            other = nth_fit(log, source.randrange(how_many_fit(log)))
            self.assertEqual(log_of(other, row), log)
            self.assertEqual(Keeper("first").run(other, row), run)
            if len(book):
                kind = source.choice(book.kinds)
                longer = (*row, ("come", kind))
                self.assertIn(log_of(book, longer)[-1][2], next_hosts(log, kind))

    def test_arrangements_of_comings(self):
        for _, book, row in cases(13, 9):
            kinds = tuple(what for word, what in row if word == "come")
            comings = tuple(("come", kind) for kind in kinds)
            made = filled(book, kinds)
            board = board_of(book, comings)
            self.assertEqual(tuple(tuple(sorted(dict(board.jobs)[job] for job in jobs)) for _, jobs in board.hosts("x")), made)
            self.assertTrue(is_arrangement(book, made))
            self.assertEqual((stray(book, made), stuck(book, made)), (None, ()))
            self.assertEqual(sorted(opening(book, made)), list(range(len(made))))
            number = rank_row(book, made, kinds)
            self.assertEqual(nth_row(book, made, number), kinds)
            self.assertLess(number, how_many_rows(book, made))
            self.assertLessEqual(how_many_rows(book, made), how_many_lazy(book, made))
            self.assertIn(made, all_filled(book, kinds[:7]) if len(kinds) < 8 else [made])
            for word, kind, host in log_of(book, comings):
                self.assertIn(kind, made[host])

    def test_lazy_rows_are_the_lazy_runs_of_all_orders(self):
        for source, book, _ in cases(14, 0, 1):
            kinds = source.choices(book.kinds, k=4) if len(book) else []
            orders = set(itertools.permutations(kinds))
            found, hosts = {}, set()
            for order in orders:
                row = tuple(("come", kind) for kind in order)
                for run in runs(book, row):
                    arrangement = tuple(kinds for _, kinds in hosts_behind(row, run, len(row)))
                    found.setdefault(arrangement, []).append(tuple(zip(order, run)))
                hosts.add(len(filled(book, order)))
            self.assertEqual(sum(how_many_lazy(book, arrangement) for arrangement in found),
                             sum(how_many_runs(book, [("come", kind) for kind in order]) for order in orders))
            for arrangement, rows in found.items():
                self.assertEqual([nth_lazy(book, arrangement, at) for at in range(len(rows))], sorted(rows))
                self.assertIsNotNone(opening(book, arrangement))
            self.assertEqual(hosts_range(book, kinds), (min(hosts), max(hosts)))


class Boards(unittest.TestCase):
    """(f): a board keeps its frames, and texts and the desk tell what it tells."""

    def test_frames_are_kept(self):
        for seed in range(30):
            source = random.Random(seed)
            board = Board(("a", "b", "c"))
            books = list(some_books(("a", "b", "c"), 12, seed))
            low, high = books[0], books[0].turned()
            for book in books:
                pairs = [pair for pair in low.clashes if pair in book.clashes]
                deed = source.choice([("set", "x", book), ("frame", "x", Book(book.kinds, pairs), book), ("add", "x", ("b", "a")),
                                      ("frame", "x", None, high), ("come", "b"), ("lift", "x")])
                try:
                    board.attempt([deed, source.choice([("come", "a"), ("go", 7)])])
                except ValueError:
                    pass
                if source.random() < 0.2:
                    board.undo()
                for name, under, over in board.frames:
                    self.assertTrue(under is None or Book.of(under).within(board[name]))
                    self.assertTrue(over is None or board[name].within(Book.of(over)))
                self.assertEqual(board_in(board_text(board)), board)

    def test_the_desk(self):
        for _, book, row in cases(15, 20, 1):
            board = board_of(book, row)
            clashes = book.text.partition("; ")[2] or "-"
            lines = [" ".join(["kinds", *book.kinds]), "book x " + clashes, *[" ".join(map(str, deed)) for deed in row],
                     "used x", "crowd"]
            self.assertEqual(answers("\n".join(lines))[-2:], [str(board.used("x")), crowd_text(board.crowd)])


if __name__ == "__main__":
    unittest.main()
