"""Points 18 and 19: the texts of webs."""

import unittest

from tests.helpers import WebCase, random_web, small_webs
from webnumbers.errors import InvalidText
from webnumbers.shapes import full_with_loops, path, ring, star
from webnumbers.texts import read_web, write_web
from webnumbers.webs import EMPTY, LOOP, ONE


class WriteTest(WebCase):
    def test_example(self):
        self.assertEqual("web 3\n0: 2\n1: 1", write_web((3, ((0, 2), (1, 1)))))

    def test_small(self):
        self.assertEqual("web 0", write_web(EMPTY))
        self.assertEqual("web 1", write_web(ONE))
        self.assertEqual("web 1\n0: 0", write_web(LOOP))
        self.assertEqual("web 64", write_web((64, ())))
        self.assertEqual("web 3\n0: 0 1 2\n1: 1 2\n2: 2", write_web(full_with_loops(3)))

    def test_only_neighbours_from_the_node_on(self):
        self.assertEqual("web 12\n0: 1 11\n1: 3\n9: 10", write_web((12, ((0, 1), (0, 11), (1, 3), (9, 10)))))


class ReadTest(WebCase):
    def check_line(self, line, text):
        self.check_error(InvalidText, {"line": line}, read_web, text)

    def test_there_and_back(self):
        webs = small_webs(3) + [random_web(k, size) for k in range(3) for size in (10, 11, 64)]
        webs += [(64, ()), path(64), ring(64), star(64), full_with_loops(64)]
        for web in webs:
            text = write_web(web)
            self.assertEqual(web, read_web(text))
            self.check_web(read_web(text))

    def test_no_other_text_with_few_changes(self):
        # Every text that is read is the one that is written, so each change is refused or gives another web.
        text = write_web((12, ((0, 1), (0, 11), (1, 3), (9, 10), (11, 11))))
        for place in range(len(text) + 1):
            for character in " :\n-+0129aw~":
                for changed in (text[:place] + character + text[place:], text[:place] + character + text[place + 1:]):
                    self.check_read_or_refused(changed)
            self.check_read_or_refused(text[:place] + text[place + 1:])
            self.check_read_or_refused(text[:place])

    def check_read_or_refused(self, text):
        try:
            web = read_web(text)
        except InvalidText:
            return
        self.check_web(web)
        self.assertEqual(text, write_web(web))

    def test_first_line(self):
        for line in ["", "web", "web ", "web  3", "web 3 ", " web 3", "Web 3", "WEB 3", "web3", "web 03", "web 00",
                     "web +3", "web -1", "web 65", "web 99", "web 100", "web 064", "web 3:", "web a", "web 3 4",
                     "0: 1", "3", "web 1000000000000000000000"]:
            self.check_line(1, line)
            self.check_line(1, line + "\n0: 0")
        self.assertEqual((64, ()), read_web("web 64"))
        self.assertEqual((0, ()), read_web("web 0"))

    def test_the_empty_text_and_line_feeds(self):
        self.check_line(1, "")
        self.check_line(1, "\n")
        self.check_line(1, "\nweb 3")
        self.check_line(2, "web 3\n")
        self.check_line(3, "web 3\n0: 1\n")
        self.check_line(2, "web 3\n\n0: 1")
        self.check_line(3, "web 3\n0: 1\n\n1: 2")

    def test_form_of_later_lines(self):
        for line in ["0", "0:", "0: ", "0:1", "0 :1", "0 : 1", " 0: 1", "0:  1", "0: 1 ", "0: 1  2", "00: 1", "0: 01",
                     "+0: 1", "-0: 1", "0: +1", "0: -1", "0: 001", "0: 100", "000: 1", "100: 1", "a: 1", "0: a",
                     "0: 1,2", "0: 1: 2", ": 1", "0; 1", "web 3", "0: 1\t2", "0:\t1", "0: 1 x"]:
            self.check_line(2, "web 3\n" + line)
            self.check_line(2, "web 3\n" + line + "\n9: 9")
            self.check_line(3, "web 64\n0: 0\n" + line)

    def test_nodes_that_do_not_exist(self):
        self.check_line(2, "web 0\n0: 0")
        self.check_line(2, "web 3\n3: 3")
        self.check_line(2, "web 3\n0: 3")
        self.check_line(2, "web 3\n0: 1 2 3")
        self.check_line(3, "web 3\n0: 1\n2: 3")
        self.check_line(2, "web 64\n0: 64")
        self.assertEqual((64, ((0, 63), (63, 63))), read_web("web 64\n0: 63\n63: 63"))

    def test_neighbours_below_the_node(self):
        self.check_line(2, "web 3\n1: 0")
        self.check_line(2, "web 3\n1: 0 1 2")
        self.check_line(3, "web 3\n0: 1\n2: 1 2")

    def test_order_of_neighbours(self):
        self.check_line(2, "web 3\n0: 1 1")
        self.check_line(2, "web 3\n0: 2 1")
        self.check_line(3, "web 4\n0: 1 2 3\n1: 1 3 2")

    def test_order_of_lines(self):
        self.check_line(3, "web 3\n0: 1\n0: 2")
        self.check_line(3, "web 3\n1: 1\n0: 2")
        self.check_line(4, "web 4\n0: 1\n2: 2\n1: 2")

    def test_the_first_wrong_line(self):
        self.check_line(1, "web 65\n0:\n")
        self.check_line(3, "web 5\n0: 1\n1: 0\n0: 9\n")


if __name__ == "__main__":
    unittest.main()
