"""Points 134 to 136: undo, redo, run_lines and replay."""

import random
import unittest

from tests.helpers import WebCase
from tests.test_desk import DeskCase, desk_of, texts, told
from webnumbers.codes import code_of
from webnumbers.desk import Desk, replay
from webnumbers.errors import (
    Circular, HasLoops, InvalidExpression, InvalidKind, InvalidName, InvalidText, NameInUse, NothingToUndo, TooLarge,
    UnknownName, WebError,
)
from webnumbers.products import sum_webs
from webnumbers.shapes import full, full_with_loops, path, ring
from webnumbers.webs import EDGE, EMPTY, LOOP, ONE

WRONG_LINES = [
    "", " ", "web", "web ", "web a", "web a 2", "web a 2 ", "web a 2 2 ", "web a 2 2 2", " web a 2 2", "web  a 2 2",
    "web a  2 2", "web a 2  2", "Web a 2 2", "web 1a 2 2", "web abcdefghijklm 2 2", "web a +2 2", "web a 2 +2",
    "web a -2 2", "web a 2 -2", "web a 02 2", "web a 2 02", "web a 2 00", "web a 2 x", "web a x 2", "web a 65 0",
    "web a 99 0", "web a 100 0", "web a 064 0", "web a 2 8", "web a 0 1", "web a 1 2", "web a 3 64", "web a 2 2.0",
    "web a\t2 2", "web a 2 2\n", "web a: 2 2", "web a 2 \u0662", "web a 64 " + str(2 ** 2080), "web a 64 " + "9" * 628,
    "web a 2 " + "1" * 5000, "web a 64 " + "9" * 5000, "web a " + "2" * 5000 + " 0", "web a 2 " + "0" * 5000,
    "formula", "formula ", "formula a", "formula a:", "formula a:1", "formula a : 1", "formula : 1", "formula  a: 1",
    "formula 1: 1", "formula a b: 1", "formula a:b: 1", "formula abcdefghijklm: 1", "Formula a: 1", "formula: a: 1",
    " formula a: 1", "formula a_: 1", "equation", "equation a", "equation a: ", "equation a: 1", "equation a: 1=1",
    "equation a: 1 =1", "equation a: 1= 1", "equation a:1 = 1", "equation a: = 1", "equation a: 1 =", "equation 2: 1 = 1",
    "equation  a: 1 = 1", "equation a b: 1 = 1", "Equation a: 1 = 1", "drop", "drop ", "drop 1", "drop a ", "drop  a",
    "drop a b", "drop abcdefghijklm", "Drop a", "dropa", "undo", "a", "a = 1", "formula\ta: 1", "drop a\n",
]


class UndoTest(DeskCase):
    def check_undo_and_redo(self, desk, change, *args):
        """Check that the change can be taken back and made again, several times."""
        before = told(desk)
        change(*args)
        after = told(desk)
        for _ in range(3):
            self.assertEqual(after[3][-1], desk.undo())
            self.assertEqual(before, told(desk))
            self.assertEqual(after[3][-1], desk.redo())
            self.assertEqual(after, told(desk))

    def test_each_kind_of_change(self):
        desk = Desk("box")
        self.check_undo_and_redo(desk, desk.set_web, "a", EDGE)
        self.check_undo_and_redo(desk, desk.set_formula, "f", "a + 1")
        self.check_undo_and_redo(desk, desk.set_equation, "x", "x + a", "f*f + a")
        self.check_undo_and_redo(desk, desk.set_web, "a", ring(3))
        self.check_undo_and_redo(desk, desk.set_formula, "f", "7")
        self.check_undo_and_redo(desk, desk.set_equation, "x", "x*2", "f")
        self.check_undo_and_redo(desk, desk.drop, "x")
        self.check_undo_and_redo(desk, desk.__setitem__, "x", "a^2")
        self.check_undo_and_redo(desk, desk.run_lines, ["formula g: x"])

    def test_several_in_a_row(self):
        desk = Desk("box")
        lines = ["web a 2 2", "formula b: a + 1", "equation c: c*a = b*a", "drop c", "web b 3 26", "formula a: 5"]
        states = [told(desk)]
        for line in lines:
            desk.run_lines([line])
            states.append(told(desk))
        for _ in range(2):
            for k in range(5, -1, -1):
                self.assertEqual(lines[k], desk.undo())
                self.assertEqual(states[k], told(desk))
            for k in range(6):
                self.assertEqual(lines[k], desk.redo())
                self.assertEqual(states[k + 1], told(desk))

    def test_a_new_change_forgets(self):
        desk = desk_of("formula a: 1", "formula b: 2", "formula c: 3")
        desk.undo()
        desk.undo()
        self.assertEqual("formula b: 2", desk.redo())
        desk.set_formula("d", "4")
        self.check_refused(NothingToUndo, {}, desk, desk.redo)
        self.assertEqual(("formula a: 1", "formula b: 2", "formula d: 4"), desk.journal)
        for call, args in [(desk.set_web, ("e", EDGE)), (desk.set_equation, ("e", "e", "1")), (desk.drop, ("a",))]:
            desk.undo()
            call(*args)
            self.check_refused(NothingToUndo, {}, desk, desk.redo)

    def test_a_refused_change_does_not_forget(self):
        desk = desk_of("web a 2 2", "formula b: a", "formula c: 3")
        desk.undo()
        for call, args, error in [(desk.drop, ("a",), NameInUse), (desk.drop, ("q",), UnknownName),
                                  (desk.set_formula, ("a", "b"), Circular), (desk.set_formula, ("1", "b"), InvalidName),
                                  (desk.set_web, ("a", LOOP), HasLoops), (desk.set_formula, ("d", "2^17"), TooLarge),
                                  (desk.set_equation, ("d", "1", "+"), InvalidExpression),
                                  (desk.run_lines, (["formula d: 1", "formula e: +"],), InvalidExpression),
                                  (desk.run_lines, (["formula d: 1", "x"],), InvalidText)]:
            with self.assertRaises(error):
                call(*args)
        self.assertEqual("formula c: 3", desk.redo())
        self.assertEqual({"a": "p0", "b": "p0", "c": "3"}, texts(desk))

    def test_nothing_to_undo(self):
        desk = Desk("box")
        self.check_refused(NothingToUndo, {}, desk, desk.undo)
        self.check_refused(NothingToUndo, {}, desk, desk.redo)
        desk.set_formula("a", "1")
        self.check_refused(NothingToUndo, {}, desk, desk.redo)
        desk.undo()
        self.check_refused(NothingToUndo, {}, desk, desk.undo)
        desk.redo()
        self.check_refused(NothingToUndo, {}, desk, desk.redo)

    def test_primes_remain(self):
        desk = desk_of("web a 2 2", "web b 3 18")
        desk.undo()
        desk.undo()
        self.assertEqual((EDGE, (3, ((0, 1), (1, 2)))), desk.book.primes)
        desk.set_web("c", path(3))
        desk.set_web("d", EDGE)
        self.assertEqual({"c": "p1", "d": "p0"}, texts(desk))

    def test_values_after_new_primes(self):
        desk = desk_of("web a 2 2", "equation x: x + 1 = a + 3")
        before = told(desk)
        desk.set_web("b", sum_webs(ring(3), ring(5)))
        desk.undo()
        self.assertEqual(before, told(desk))
        desk.undo()
        desk.redo()
        self.assertEqual(before, told(desk))


class RunLinesTest(DeskCase):
    def test_right_lines(self):
        desk = Desk("box")
        self.assertIsNone(desk.run_lines(["web a 2 2", "formula b:  a +1 ", "equation c: c = b", "drop c"]))
        self.assertEqual(("web a 2 2", "formula b: a + 1", "equation c: c = b", "drop c"), desk.journal)
        desk.run_lines(("web e 0 0", "web g 64 0", "web a 3 26"))
        self.assertEqual({"a": "p1", "b": "p1 + 1", "e": "0", "g": "64"}, texts(desk))

    def test_each_line_is_a_change(self):
        desk = Desk("box")
        desk.run_lines(["formula a: 1", "formula b: 2"])
        self.assertEqual("formula b: 2", desk.undo())
        self.assertEqual(["a"], list(desk))
        self.assertEqual("formula a: 1", desk.undo())

    def test_wrong_lines(self):
        for wrong in WRONG_LINES:
            desk = desk_of("formula a: 1")
            self.check_refused(InvalidText, {"line": 1}, desk, desk.run_lines, [wrong])
            self.check_refused(InvalidText, {"line": 3}, desk, desk.run_lines, ["formula b: 1", "drop b", wrong])

    def test_the_first_wrong_line_is_named_before_any_change(self):
        desk = desk_of("formula a: 1")
        self.check_refused(InvalidText, {"line": 2}, desk, desk.run_lines, ["drop q", "x", "y"])
        self.check_refused(InvalidText, {"line": 4}, desk, desk.run_lines,
                           ["formula b: +", "web c 1 1", "formula a: a", "x", "y"])

    def test_codes(self):
        for size in (0, 1, 2, 5, 9, 63, 64):
            great = 2 ** (size * (size + 1) // 2)
            desk = Desk("direct")
            self.check_refused(InvalidText, {"line": 1}, desk, desk.run_lines, [f"web a {size} {great}"])
            line = f"web a {size} {great - 1}"
            if size < 10:
                desk.run_lines([line])
                self.assertEqual(full_with_loops(size)[0], desk.built("a")[0])
            else:
                # A right line, whose web is full; 63 nodes have small factors.
                self.assertEqual(line, f"web a {size} {code_of(full_with_loops(size))}")
                desk.run_lines([line])
            self.assertEqual((line,), desk.journal)

    def test_lines_that_only_the_changes_refuse(self):
        for line, error, more in [
            ("formula a: ", InvalidExpression, {"position": 0}), ("formula a:  = ", InvalidExpression, {"position": 1}),
            ("formula a: b: c", InvalidExpression, {"position": 1}), ("formula a: q", UnknownName, {"name": "q"}),
            ("equation a:  = ", InvalidExpression, {"position": 0}), ("equation a: a = ", InvalidExpression, {"position": 0}),
            ("equation a: 1 = 2 = 3", InvalidExpression, {"position": 2}),
            ("equation a: 1 = = 3", InvalidExpression, {"position": 0}), ("drop b", UnknownName, {"name": "b"}),
            ("equation a:  = 1", InvalidExpression, {"position": 0}), ("formula a: \n", InvalidExpression, {"position": 0}),
            ("equation a: : = 1", InvalidExpression, {"position": 0}), ("web a 1 1", HasLoops, {"node": 0}),
            ("formula a: a", Circular, {"name": "a"}), ("formula a: " + "(" * 21, TooLarge, {"limit": 20}),
            ("formula a: " + "a" * 401, TooLarge, {"limit": 400}),
        ]:
            desk = Desk("box")
            self.check_refused(error, more, desk, desk.run_lines, [line])
            self.check_refused(error, more, desk, desk.run_lines, ["formula c: 5", "formula d: c", line, "drop z"])

    def test_a_change_that_fails_in_the_middle(self):
        desk = desk_of("web a 2 2", "formula b: a", "formula c: b", "formula d: 4")
        desk.undo()
        lines = ["formula e: 1", "drop c", "web a 3 26", "formula b: 2", "formula b: q", "drop a"]
        self.check_refused(UnknownName, {"name": "q"}, desk, desk.run_lines, lines)
        # The web was read, and what was taken back before can be made again.
        self.assertEqual(2, len(desk.book.primes))
        self.assertEqual("formula d: 4", desk.redo())
        self.check_refused(NothingToUndo, {}, desk, desk.redo)
        self.assertEqual("formula d: 4", desk.undo())
        self.assertEqual("formula c: b", desk.undo())

    def test_what_can_be_made_again_after_success(self):
        desk = desk_of("formula a: 1", "formula b: 2")
        desk.undo()
        desk.run_lines(["formula c: 3"])
        self.check_refused(NothingToUndo, {}, desk, desk.redo)

    def test_no_lines(self):
        desk = desk_of("formula a: 1", "formula b: 2")
        desk.undo()
        before = told(desk)
        desk.run_lines([])
        desk.run_lines(())
        self.assertEqual(before, told(desk))
        self.assertEqual("formula b: 2", desk.redo())

    def test_the_lines_are_not_changed(self):
        lines = ["formula a: 1", "formula b: a"]
        Desk("box").run_lines(lines)
        self.assertEqual(["formula a: 1", "formula b: a"], lines)

    def test_twenty_entries(self):
        desk = Desk("box")
        lines = [f"formula a{k}: {k}" for k in range(20)]
        self.check_refused(TooLarge, {"limit": 20}, desk, desk.run_lines, [*lines, "formula b: 1"])
        desk.run_lines([*lines, "drop a3", "formula b: 1"])
        self.assertEqual(20, len(list(desk)))


class ReplayTest(DeskCase):
    def test_kinds(self):
        self.check_error(InvalidKind, {"kind": "levels"}, replay, "levels", ["x"])
        self.check_error(InvalidText, {"line": 1}, replay, "box", ["x"])
        self.assertEqual(([], {}, [], ()), told(replay("strong", [])))
        self.check_error(UnknownName, {"name": "a"}, replay, "box", ["drop a"])

    def test_the_same_entries_and_journal(self):
        desk = Desk("box")
        desk.set_web("q", ring(5))
        desk.undo()
        desk.run_lines(["web a 2 2", "formula b: (a + (a+1))*2^3", "equation x: x*a + 1 = a*b + 1", "web c 3 26", "drop c"])
        desk.undo()
        desk.undo()
        other = replay(desk.kind, desk.journal)
        self.assertEqual([told(desk)[0], *told(desk)[2:]], [told(other)[0], *told(other)[2:]])
        self.assertEqual("p1", texts(desk)["a"])
        self.assertEqual("p0", texts(other)["a"])
        self.assertEqual(desk.built("a"), other.built("a"))
        self.check_refused(NothingToUndo, {}, other, other.redo)


class ModelTest(WebCase):
    """Many changes in any order, compared with a model that keeps all states as replayed lines."""

    WEBS = {"box": [EMPTY, ONE, EDGE, ring(3), path(3), (2, ())], "strong": [EMPTY, ONE, full(2), full(3), full(6), (3, ())],
            "direct": [EMPTY, LOOP, ring(3), full_with_loops(2), full_with_loops(6), ring(5)]}

    def random_line(self, chooser, desk):
        names = ["a", "b", "c", "d", "e", "f"]
        name = chooser.choice(names)
        one, other = chooser.choice(names + ["1", "2"]), chooser.choice(names + ["0", "3"])
        word = chooser.choice(["web", "web", "formula", "formula", "formula", "equation", "equation", "drop", "wrong"])
        if word == "web":
            web = chooser.choice(self.WEBS[desk.kind])
            return f"web {name} {web[0]} {code_of(web)}"
        if word == "formula":
            return f"formula {name}: {one} + {other}*{chooser.choice(names)}^2"
        if word == "equation":
            return f"equation {name}: {name}*{one} + {other} = {chooser.choice(names)} + {chooser.choice(names)}"
        if word == "drop":
            return f"drop {name}"
        return chooser.choice(["formula a: (b + 1)^17", "web a 12 0", "formula b: a +", "x", "formula q: zz"])

    def check_model(self, seed):
        chooser = random.Random(seed)
        desk = Desk(chooser.choice(["box", "strong", "direct"]))
        made, undone = [], []
        for _ in range(60):
            choice = chooser.random()
            if choice < 0.15:
                if made:
                    undone.append(made.pop())
                    self.assertEqual(undone[-1], desk.undo())
                else:
                    self.check_error(NothingToUndo, {}, desk.undo)
            elif choice < 0.3:
                if undone:
                    made.append(undone.pop())
                    self.assertEqual(made[-1], desk.redo())
                else:
                    self.check_error(NothingToUndo, {}, desk.redo)
            else:
                lines = [self.random_line(chooser, desk) for _ in range(chooser.choice([1, 1, 1, 2, 3]))]
                try:
                    desk.run_lines(lines)
                except WebError as error:
                    with self.assertRaises(error.__class__):
                        replay(desk.kind, [*made, *lines])
                else:
                    made = list(desk.journal)
                    undone = []
            self.check_same(desk, made)

    def check_same(self, desk, made):
        """Check that the desk is as the one on which the lines are made, but for the numbers of the primes."""
        other = replay(desk.kind, made)
        self.assertEqual([told(desk)[0], *told(desk)[2:]], [told(other)[0], *told(other)[2:]])
        self.assertEqual(list(other.steps()), list(desk.steps()))
        for name in desk:
            if desk[name] is None:
                self.assertIsNone(other[name])
                continue
            self.assertEqual((other[name].total, other[name].height), (desk[name].total, desk[name].height))
            try:
                web = desk.built(name)
            except TooLarge:
                continue
            self.assertEqual(desk[name].terms, desk.book.read(other.built(name)).terms)
            self.assertEqual(desk[name].terms, desk.book.read(web).terms)

    def test_many_changes(self):
        for seed in range(30):
            self.check_model(seed)


if __name__ == "__main__":
    unittest.main()
