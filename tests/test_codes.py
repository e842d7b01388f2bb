"""Points 20 and 21: codes."""

import unittest

from tests.helpers import WebCase, every_web, plain_code, random_web, small_webs
from webnumbers.codes import bit_of, code_of, web_of_code
from webnumbers.errors import InvalidCode, TooLarge
from webnumbers.shapes import full_with_loops
from webnumbers.webs import EMPTY, LOOP


class CodesTest(WebCase):
    def test_example(self):
        self.assertEqual(12, code_of((3, ((0, 2), (1, 1)))))

    def test_bits(self):
        expected = {(0, 0): 0, (0, 1): 1, (1, 1): 2, (0, 2): 3, (1, 2): 4, (2, 2): 5, (0, 3): 6, (3, 3): 9}
        for (first, second), bit in expected.items():
            self.assertEqual(bit, bit_of(first, second))
            self.assertEqual(bit, bit_of(second, first))
        self.assertEqual(list(range(64 * 65 // 2)), [bit_of(u, v) for v in range(64) for u in range(v + 1)])

    def test_each_bit_of_a_small_web(self):
        pairs = [(0, 0), (0, 1), (1, 1), (0, 2), (1, 2), (2, 2)]
        for bit, pair in enumerate(pairs):
            self.assertEqual(2 ** bit, code_of((3, (pair,))))
            self.assertEqual((3, (pair,)), web_of_code(3, 2 ** bit))

    def test_there_and_back(self):
        for web in small_webs(3) + every_web(4)[::9] + [random_web(k, 64) for k in range(3)]:
            self.assertEqual(plain_code(web), code_of(web))
            self.assertEqual(web, web_of_code(web[0], code_of(web)))
            self.check_web(web_of_code(web[0], code_of(web)))

    def test_all_codes_of_three_nodes(self):
        self.assertEqual(list(range(64)), [code_of(web_of_code(3, code)) for code in range(64)])

    def test_greatest_codes(self):
        for size in (0, 1, 2, 5, 64):
            many = 2 ** (size * (size + 1) // 2)
            self.assertEqual(full_with_loops(size), web_of_code(size, many - 1))
            self.assertEqual(many - 1, code_of(full_with_loops(size)))
            self.check_error(InvalidCode, {"code": many}, web_of_code, size, many)

    def test_sizes(self):
        self.assertEqual(EMPTY, web_of_code(0, 0))
        self.assertEqual(LOOP, web_of_code(1, 1))
        self.assertEqual((64, ()), web_of_code(64, 0))
        self.assertEqual(0, code_of(EMPTY))

    def test_errors(self):
        self.check_error(InvalidCode, {"code": -1}, web_of_code, 3, -1)
        self.check_error(InvalidCode, {"code": -1}, web_of_code, 0, -1)
        self.check_error(InvalidCode, {"code": -(10 ** 50)}, web_of_code, 64, -(10 ** 50))
        self.check_error(InvalidCode, {"code": 10 ** 9000}, web_of_code, 3, 10 ** 9000)
        self.check_error(TooLarge, {"limit": 64}, web_of_code, 65, 0)
        self.check_error(TooLarge, {"limit": 64}, web_of_code, 65, -1)
        self.check_error(TooLarge, {"limit": 64}, web_of_code, 10 ** 30, 0)


if __name__ == "__main__":
    unittest.main()
