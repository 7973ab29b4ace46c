import unittest

from pointsure.tables import add_to, known_of


class TablesTest(unittest.TestCase):
    def test_known_of(self):
        ones = [3, (1, "a"), 3, "x"]
        self.assertEqual(known_of(ones), {3: True, (1, "a"): True, "x": True})
        self.assertEqual(list(known_of(ones)), [3, (1, "a"), "x"])
        self.assertEqual(ones, [3, (1, "a"), 3, "x"])
        self.assertEqual(known_of([]), {})

    def test_add_to(self):
        table = {}
        add_to(table, "a", 1)
        add_to(table, "b", 2)
        add_to(table, "a", 1)
        self.assertEqual(table, {"a": [1, 1], "b": [2]})


if __name__ == "__main__":
    unittest.main()
