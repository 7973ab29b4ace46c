import unittest

from pointsure.flow import Flow
from pointsure.reader import read_program


class FlowTest(unittest.TestCase):
    def check(self, rows, first, behind, otherwise):
        flow = Flow(read_program("func f\nend\nmain\n" + "".join(row + "\n" for row in rows) + "end"))
        self.assertEqual(flow.first, {"f": None, "main": first})
        self.assertEqual([flow.behind[number] for number in range(len(behind))], behind)
        self.assertEqual([flow.otherwise[number] for number in range(len(behind))], otherwise)
        self.assertEqual(len(flow.behind), len(behind))

    def test_no_rows(self):
        self.check([], None, [], [])

    def test_one_behind_the_other(self):
        self.check(["rest", "rest"], 0, [1, None], [1, None])

    def test_if(self):
        self.check(["if choose", "rest", "end", "rest"], 0, [1, 2, None], [2, 2, None])
        self.check(["if choose", "rest", "end"], 0, [1, None], [None, None])
        self.check(["if choose", "end", "rest"], 0, [1, None], [1, None])
        self.check(["if choose", "end"], 0, [None], [None])

    def test_else(self):
        self.check(["if choose", "rest", "else", "rest", "end", "rest"], 0, [1, 3, 3, None], [2, 3, 3, None])
        self.check(["if choose", "else", "rest", "end", "rest"], 0, [2, 2, None], [1, 2, None])
        self.check(["if choose", "rest", "else", "end"], 0, [1, None], [None, None])
        self.check(["if choose", "else", "end", "rest"], 0, [1, None], [1, None])

    def test_while(self):
        self.check(["while choose", "rest", "rest", "end", "rest"], 0, [1, 2, 0, None], [3, 2, 0, None])
        self.check(["while choose", "end"], 0, [0], [None])
        self.check(["rest", "while choose", "end", "rest"], 0, [1, 1, None], [1, 2, None])

    def test_blocks_within_blocks(self):
        rows = ["while choose", "if choose", "while choose", "end", "else", "if choose", "rest", "end", "end", "end"]
        self.check(rows, 0, [1, 2, 2, 4, 0], [None, 3, 0, 0, 0])


if __name__ == "__main__":
    unittest.main()
