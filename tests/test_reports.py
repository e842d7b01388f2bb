"""Point 137: reports."""

import unittest

from tests.helpers import WebCase
from tests.test_desk import told
from webnumbers.codes import code_of
from webnumbers.desk import Desk, replay
from webnumbers.measuring import measure_poly
from webnumbers.products import sum_webs
from webnumbers.reports import report
from webnumbers.shapes import full, ring
from webnumbers.webs import ONE

HEADER = "name         form     terms       pieces  nodes value"


class ReportTest(WebCase):
    def rows(self, *lines, kind="box"):
        """Return the lines of the report behind the header."""
        found = report(replay(kind, list(lines)))
        self.assertIs(list, found.__class__)
        self.assertEqual(HEADER, found[0])
        return found[1:]

    def test_example(self):
        self.assertEqual([
            "name         form     terms       pieces  nodes value",
            "a            web          1            1      2 p0",
            "b            formula      1        1,000   2000 1000*p0",
        ], report(replay("box", ["web a 2 2", "formula b: 1000*a"])))

    def test_an_empty_desk(self):
        for kind in ("box", "strong", "direct"):
            self.assertEqual([HEADER], report(Desk(kind)))

    def test_columns(self):
        line = self.rows("equation x: x + 1 = 8")[0]
        self.assertEqual(["x" + " " * 11, "equation", "    1", " " * 11 + "7", "     7", "7"],
                         [line[:12], line[13:21], line[22:27], line[28:40], line[41:47], line[48:]])
        self.assertEqual([" "] * 5, [line[12], line[21], line[27], line[40], line[47]])

    def test_values_none(self):
        self.assertEqual(["a            web          1            1      2 p0",
                          "f            formula      -            -      - none",
                          "x            equation     -            -      - none"],
                         self.rows("web a 2 2", "equation x: 2*x = 3", "formula f: x"))

    def test_zero(self):
        self.assertEqual(["a            web          0            0      0 0"], self.rows("web a 0 0"))

    def test_long_names(self):
        self.assertEqual(["abcdefghijkl formula      1            1      1 1",
                          "b            formula      1            2      2 2"],
                         self.rows("formula b: 2", "formula abcdefghijkl: 1"))

    def test_the_order(self):
        lines = self.rows("formula b: 1", "formula B: 2", "formula a1: 3", "formula a: 4")
        self.assertEqual(["B", "a", "a1", "b"], [line.split(" ")[0] for line in lines])

    def test_totals(self):
        for text, written in [("999", "999"), ("1000", "1,000"), ("9999", "9,999"), ("999999", "999,999"),
                              ("1000000", "1,000,000"), ("123456789", "123,456,789"), ("1234567890", "1,234,567,890")]:
            line = self.rows(f"formula a: {text}")[0]
            nodes = str(int(text) % 1000000)
            self.assertEqual(f"a            formula      1 {written.rjust(12)} {nodes.rjust(6)} {text}", line)

    def test_nodes(self):
        for count, nodes in [(999999, "999999"), (1000000, "     0"), (1000001, "     1"), (12345678, "345678")]:
            self.assertEqual(nodes, self.rows(f"formula a: {count}")[0].split(" formula      1 ")[1][13:19])
        line = self.rows("web a 2 2", "formula b: a^" + "9" * 30)[1]
        desk = replay("box", ["web a 2 2", "formula b: a^" + "9" * 30])
        expected = pow(2, int("9" * 30), 1000000)
        self.assertEqual(expected, measure_poly(desk.book, desk["b"], 1000000)[0])
        self.assertEqual(f"b            formula      1            1 {str(expected).rjust(6)} p0^" + "9" * 30, line)

    def test_long_contents_make_their_column_wider(self):
        great = "1" + "0" * 29
        line = self.rows(f"formula a: {great}")[0]
        self.assertEqual("a            formula      1 100,000,000,000,000,000,000,000,000,000      0 " + great, line)
        lines = self.rows(f"formula a: {great}*{great}*{great}*{great}", "formula b: 1")
        expected = f"{10 ** 116:,}"
        self.assertEqual(f"a            formula      1 {expected}      0 1" + "0" * 39, lines[0])
        self.assertEqual("b            formula      1            1      1 1", lines[1])

    def test_the_first_40_characters(self):
        for digits in (29, 30):
            text = "1" * digits
            self.assertTrue(self.rows(f"formula a: {text}")[0].endswith(" " + text))
        whole = "p0^5 + p0^4 + p0^3 + p0^2 + 1234567890123456"
        for count, shown in [("123", "p0^5 + p0^4 + p0^3 + p0^2 + 123"), ("123456789012", whole[:40]),
                             ("1234567890123", whole[:40]), ("1234567890123456", whole[:40])]:
            line = self.rows("web a 2 2", "formula b: a^5 + a^4 + a^3 + a^2 + " + count)[1]
            self.assertEqual(shown, line[line.index("p0"):])
        self.assertEqual(40, len(whole[:40]))

    def test_a_space_among_the_first_40_characters(self):
        # The forty characters may end with a space, which is one of them.
        text = "a^10 + a^9 + a^8 + a^7 + a^6 + 10*a^2 + a"
        line = self.rows("web a 2 2", "formula b: " + text)[1]
        shown = text.replace("a", "p0")[:40]
        self.assertEqual(shown, line[48:])
        exact = self.rows("web a 2 2", "formula b: a^10 + a^9 + a^8 + a^7 + 1000*a + 1")[1]
        self.assertEqual("p0^10 + p0^9 + p0^8 + p0^7 + 1000*p0 + 1", exact[48:])
        ending = self.rows("web a 2 2", "formula b: a^10 + a^9 + a^8 + a^7 + 10000*a + 1")[1]
        self.assertEqual("p0^10 + p0^9 + p0^8 + p0^7 + 10000*p0 + ", ending[48:])

    def test_terms(self):
        many = " + ".join(f"a^{k}" for k in range(1, 65))
        lines = self.rows("web a 2 2", f"formula b: {many[:many.index(' + a^41')]}")
        self.assertEqual("b            formula     40           40", lines[1][:40])

    def test_all_kinds(self):
        line = f"web a 12 {2 ** 78 - 1}"
        self.assertEqual(["a            web          1            1     12 p0^2*p1"], self.rows(line, kind="direct"))
        line = f"web a 8 {code_of(sum_webs(full(6), ONE, ONE))}"
        self.assertEqual(["a            web          2            3      8 p0*p1 + 2"], self.rows(line, kind="strong"))

    def test_the_desk_is_not_changed(self):
        desk = replay("box", ["web a 2 2", "formula b: a + 1", "equation x: 2*x = 3"])
        desk.undo()
        before = (told(desk), desk.book.primes)
        self.assertEqual(3, len(report(desk)))
        self.assertEqual(before, (told(desk), desk.book.primes))
        self.assertEqual("equation x: 2*x = 3", desk.redo())
        desk["r"] = ring(5)
        self.assertEqual(5, len(report(desk)))


if __name__ == "__main__":
    unittest.main()
