import unittest

from samples import BARE, EVERY, WORDS

from pointsure.programs import Program
from pointsure.rows import Row, body_names, given_name_of, is_letters, is_name, is_row

PARTS = ("condition", "x", "y", "kind", "field", "method", "function")

# Of each form: the row, its parts, its A, its names.
FORMS = [
    ("new a b", {"x": "a", "kind": "b"}, "", "a"),
    ("row a", {"x": "a"}, "", "a"),
    ("func a b", {"x": "a", "function": "b"}, "", "a"),
    ("func a b c d c", {"x": "a", "function": "b"}, "c d c", "a c d c"),
    ("copy a b", {"x": "a", "y": "b"}, "", "a b"),
    ("take a b c", {"x": "a", "y": "b", "field": "c"}, "", "a b"),
    ("put a b c", {"y": "a", "field": "b", "x": "c"}, "", "a c"),
    ("push a b", {"y": "a", "x": "b"}, "", "a b"),
    ("pull a b", {"x": "a", "y": "b"}, "", "a b"),
    ("do a b", {"x": "a", "y": "b"}, "", "a b"),
    ("do a b c", {"x": "a", "y": "b"}, "c", "a b c"),
    ("ask a b c", {"x": "a", "y": "b", "method": "c"}, "", "a b"),
    ("ask a b c d e", {"x": "a", "y": "b", "method": "c"}, "d e", "a b d e"),
    ("straight a b c d", {"x": "a", "y": "b", "kind": "c", "method": "d"}, "", "a b"),
    ("straight a b c d e", {"x": "a", "y": "b", "kind": "c", "method": "d"}, "e", "a b e"),
    ("give a", {"x": "a"}, "", "a"),
    ("tell a", {"x": "a"}, "", "a"),
    ("rest", {}, "", ""),
    ("check a b", {"y": "a", "field": "b"}, "", "a"),
    ("fresh a b", {"x": "a", "kind": "b"}, "", "a"),
    ("own a b c", {"x": "a", "y": "b", "field": "c"}, "", "a b"),
    ("place a b c", {"y": "a", "field": "b", "x": "c"}, "", "a c"),
    ("if choose", {"condition": "choose"}, "", ""),
    ("if some a", {"condition": "some", "x": "a"}, "", "a"),
    ("if same a b", {"condition": "same", "x": "a", "y": "b"}, "", "a b"),
    ("while choose", {"condition": "choose"}, "", ""),
    ("while some a", {"condition": "some", "x": "a"}, "", "a"),
    ("while same a b", {"condition": "same", "x": "a", "y": "b"}, "", "a b"),
    # Words of the language as names, kinds, fields, methods and functions.
    ("new new of", {"x": "new", "kind": "of"}, "", "new"),
    ("row row", {"x": "row"}, "", "row"),
    ("func func main func rest", {"x": "func", "function": "main"}, "func rest", "func func rest"),
    ("func end func keeps keeps", {"x": "end", "function": "func"}, "keeps keeps", "end keeps keeps"),
    ("copy if else", {"x": "if", "y": "else"}, "", "if else"),
    ("take take some same", {"x": "take", "y": "some", "field": "same"}, "", "take some"),
    ("put end if choose", {"y": "end", "field": "if", "x": "choose"}, "", "end choose"),
    ("push some same", {"y": "some", "x": "same"}, "", "some same"),
    ("pull some same", {"x": "some", "y": "same"}, "", "some same"),
    ("do end do main", {"x": "end", "y": "do"}, "main", "end do main"),
    ("ask rest of end if", {"x": "rest", "y": "of", "method": "end"}, "if", "rest of if"),
    ("straight of fields of fields of", {"x": "of", "y": "fields", "kind": "of", "method": "fields"}, "of",
     "of fields of"),
    ("give main", {"x": "main"}, "", "main"),
    ("tell end", {"x": "end"}, "", "end"),
    ("check else keeps", {"y": "else", "field": "keeps"}, "", "else"),
    ("fresh of keeps", {"x": "of", "kind": "keeps"}, "", "of"),
    ("own main rest func", {"x": "main", "y": "rest", "field": "func"}, "", "main rest"),
    ("place if end else", {"y": "if", "field": "end", "x": "else"}, "", "if else"),
    ("if some some", {"condition": "some", "x": "some"}, "", "some"),
    ("while same same choose", {"condition": "same", "x": "same", "y": "choose"}, "", "same choose"),
]

GIVING = ("new", "row", "func", "copy", "take", "pull", "do", "ask", "straight", "fresh", "own")


class FormsTest(unittest.TestCase):
    def test_what_each_word_is(self):
        for text, parts, handed, names in FORMS:
            with self.subTest(row=text):
                row = Row(text.split(" "))
                self.assertEqual(row.word, text.split(" ")[0])
                self.assertEqual({part: getattr(row, part) for part in PARTS}, {**dict.fromkeys(PARTS), **parts})
                self.assertEqual(row.handed, handed.split())
                self.assertEqual(row.names, names.split())

    def test_each_form_is_one(self):
        for text, parts, handed, names in FORMS:
            with self.subTest(row=text):
                self.assertTrue(is_row(text.split(" ")))

    def test_which_name_is_given_a_value(self):
        for text, parts, handed, names in FORMS:
            with self.subTest(row=text):
                row = Row(text.split(" "))
                wanted = parts["x"] if row.word in GIVING else None
                self.assertEqual(given_name_of(row), wanted)

    def test_a_word_too_few_or_too_many(self):
        for text, parts, handed, names in FORMS:
            words = text.split(" ")
            open_end = words[0] in ("func", "do", "ask", "straight")
            with self.subTest(row=text):
                self.assertEqual(is_row(words + ["more"]), open_end)
                self.assertEqual(is_row(words[:-1]), open_end and handed != "")

    def test_no_form_at_all(self):
        for text in ("", "else", "end", "kind a", "method a b", "main", "keeps a", "choose", "some a", "same a b", "a",
                     "if", "while", "if a", "if if choose", "while a b", "if choose a", "New a b", "do a", "func a"):
            with self.subTest(row=text):
                self.assertFalse(is_row(text.split(" ")))

    def test_words_that_are_no_names(self):
        for word in ("", "A", "a1", "a.b", "abcdefghi", "a-b", "self.f", "*"):
            for text in ("new {} b", "new a {}", "func a b {}", "take a b {}", "ask a b c {}", "if some {}", "{}"):
                with self.subTest(row=text, word=word):
                    self.assertFalse(is_row(text.replace("{}", word).split(" ")))

    def test_words_handed_in_stay_as_they_were(self):
        words = ["do", "a", "b", "c"]
        row = Row(words)
        words[3] = "other"
        self.assertEqual(row.handed, ["c"])
        row.handed.append("d")
        row.names.append("e")
        self.assertEqual(words, ["do", "a", "b", "other"])


class NamesTest(unittest.TestCase):
    def test_one_to_eight_letters(self):
        for word in ("a", "z", "straight", "abcdefgh", "self", "end"):
            self.assertTrue(is_name(word))
        for word in ("", "abcdefghi", "A", "aB", "a b", " a", "a1", "`", "{", "a~"):
            self.assertFalse(is_name(word))

    def test_letters(self):
        for word in ("a", "abcdefghijklmnopqrstuvwxyz"):
            self.assertTrue(is_letters(word))
        for word in ("", "aZ", "a.", "0", "a`", "{a"):
            self.assertFalse(is_letters(word))


class BodyNamesTest(unittest.TestCase):
    def test_names_of_each_body(self):
        program = Program(EVERY)
        self.assertEqual(sorted(body_names(program, "pair")),
                         sorted("one other more most made list again".split()))
        self.assertEqual(sorted(body_names(program, "tree.grow")), sorted("much self spot".split()))
        self.assertEqual(body_names(program, "leaf.fall"), ["self"])
        self.assertEqual(body_names(program, "lone"), [])
        self.assertEqual(sorted(body_names(program, "main")), ["f", "g"])

    def test_words_of_the_language(self):
        program = Program(WORDS)
        self.assertEqual(sorted(body_names(program, "of.keeps")), ["keeps", "self"])
        self.assertEqual(sorted(body_names(program, "rest")), ["end"])
        self.assertEqual(sorted(body_names(program, "end")), sorted(
            "if else keeps while new row func end take put same some choose do ask main fields of give".split()))

    def test_main_without_rows(self):
        self.assertEqual(body_names(Program(BARE), "main"), [])

    def test_each_once_and_the_askers_own(self):
        program = Program("func f a keeps b\ncopy a b\ncopy a a\nend\nmain\nend")
        names = body_names(program, "f")
        self.assertEqual(sorted(names), ["a", "b"])
        names.clear()
        self.assertEqual(sorted(body_names(program, "f")), ["a", "b"])


if __name__ == "__main__":
    unittest.main()
