import unittest

from pointsure.kinds import elder_of, fields_of, finds, kept_of, kind_names, params_of
from pointsure.programs import Program


def program_of(rows):
    return Program("\n".join(rows))


FOREST = program_of([
    "kind tree fields right left",
    "kind stone",
    "kind leaf of tree fields seed",
    "kind bud of leaf",
    "kind bloom of bud fields color age",
    "kind moss of stone fields wet",
    "func join one other",
    "if some one",
    "while choose",
    "func x join",
    "end",
    "else",
    "func make x",
    "end",
    "give one",
    "end",
    "method tree grow much",
    "end",
    "method tree fall",
    "end",
    "method bud grow often much",
    "func grow make often much",
    "end",
    "func make b a keeps d c",
    "give a",
    "end",
    "method bloom fall",
    "end",
    "method stone roll",
    "end",
    "func x",
    "end",
    "func lone keeps a",
    "end",
    "main",
    "if choose",
    "end",
    "func join make x y",
    "end",
])

# Words of the language as names: they are told apart by their place alone.
WORDS = program_of([
    "kind of fields of fields",
    "kind fields of of fields kind",
    "kind kind of fields",
    "kind end of of",
    "kind method fields end",
    "func keeps keeps keeps",
    "end",
    "func func if while keeps keeps end main",
    "if same end end",
    "give end",
    "else",
    "func end func method main x",
    "end",
    "while some while",
    "end",
    "end",
    "func kind func",
    "end",
    "method of main keeps func",
    "give keeps",
    "end",
    "method fields keeps keeps",
    "end",
    "method method end",
    "end",
    "main",
    "end",
])

BARE = program_of(["main", "end"])


class KindsTest(unittest.TestCase):
    def test_kind_names_as_they_stand(self):
        self.assertEqual(kind_names(FOREST), ["tree", "stone", "leaf", "bud", "bloom", "moss"])
        self.assertEqual(kind_names(BARE), [])

    def test_elder(self):
        self.assertEqual(elder_of(FOREST, "leaf"), "tree")
        self.assertEqual(elder_of(FOREST, "bud"), "leaf")
        self.assertEqual(elder_of(FOREST, "bloom"), "bud")
        self.assertEqual(elder_of(FOREST, "moss"), "stone")

    def test_no_elder(self):
        self.assertIsNone(elder_of(FOREST, "tree"))
        self.assertIsNone(elder_of(FOREST, "stone"))

    def test_own_fields_as_they_stand(self):
        self.assertEqual(fields_of(FOREST, "tree"), ["right", "left"])

    def test_no_fields(self):
        self.assertEqual(fields_of(FOREST, "stone"), [])

    def test_the_eldests_fields_first(self):
        self.assertEqual(fields_of(FOREST, "leaf"), ["right", "left", "seed"])
        self.assertEqual(fields_of(FOREST, "bud"), ["right", "left", "seed"])
        self.assertEqual(fields_of(FOREST, "bloom"), ["right", "left", "seed", "color", "age"])

    def test_an_elder_without_fields(self):
        self.assertEqual(fields_of(FOREST, "moss"), ["wet"])

    def test_words_of_the_language_as_kinds_and_fields(self):
        self.assertEqual(kind_names(WORDS), ["of", "fields", "kind", "end", "method"])
        self.assertEqual([elder_of(WORDS, kind) for kind in kind_names(WORDS)], [None, "of", "fields", "of", None])
        self.assertEqual(fields_of(WORDS, "of"), ["of", "fields"])
        self.assertEqual(fields_of(WORDS, "fields"), ["of", "fields", "kind"])
        self.assertEqual(fields_of(WORDS, "kind"), ["of", "fields", "kind"])
        self.assertEqual(fields_of(WORDS, "end"), ["of", "fields"])
        self.assertEqual(fields_of(WORDS, "method"), ["end"])

    def test_sixteen_kinds_each_the_elder_of_the_other(self):
        letters = "abcdefghijklmnop"
        rows = ["kind a fields fa"]
        for elder, kind in zip(letters, letters[1:]):
            rows.append(f"kind {kind} of {elder} fields f{kind}")
        program = program_of(rows + ["method a get", "end", "main", "end"])
        self.assertEqual(kind_names(program), list(letters))
        self.assertEqual(fields_of(program, "p"), ["f" + kind for kind in letters])
        self.assertEqual(finds(program, "p", "get"), "a.get")
        self.assertIsNone(finds(program, "p", "put"))


class FindsTest(unittest.TestCase):
    def test_own_method(self):
        self.assertEqual(finds(FOREST, "tree", "grow"), "tree.grow")
        self.assertEqual(finds(FOREST, "stone", "roll"), "stone.roll")

    def test_elders_method(self):
        self.assertEqual(finds(FOREST, "leaf", "grow"), "tree.grow")
        self.assertEqual(finds(FOREST, "moss", "roll"), "stone.roll")

    def test_method_of_an_elders_elder(self):
        self.assertEqual(finds(FOREST, "bud", "fall"), "tree.fall")

    def test_younger_method_in_the_place_of_an_elders(self):
        self.assertEqual(finds(FOREST, "bud", "grow"), "bud.grow")
        self.assertEqual(finds(FOREST, "bloom", "grow"), "bud.grow")
        self.assertEqual(finds(FOREST, "bloom", "fall"), "bloom.fall")

    def test_found_nowhere(self):
        self.assertIsNone(finds(FOREST, "tree", "roll"))
        self.assertIsNone(finds(FOREST, "bloom", "roll"))
        self.assertIsNone(finds(FOREST, "moss", "grow"))
        self.assertIsNone(finds(FOREST, "stone", "nothing"))

    def test_a_younger_kinds_method_is_not_found(self):
        program = program_of(["kind a", "kind b of a", "method b get", "end", "main", "end"])
        self.assertIsNone(finds(program, "a", "get"))
        self.assertEqual(finds(program, "b", "get"), "b.get")

    def test_functions_and_main_are_no_methods(self):
        for name in ("join", "make", "main"):
            self.assertIsNone(finds(FOREST, "tree", name))

    def test_words_of_the_language_as_methods(self):
        self.assertEqual(finds(WORDS, "kind", "main"), "of.main")
        self.assertEqual(finds(WORDS, "kind", "keeps"), "fields.keeps")
        self.assertIsNone(finds(WORDS, "end", "keeps"))
        self.assertEqual(finds(WORDS, "method", "end"), "method.end")


class HeadsTest(unittest.TestCase):
    def test_parameters_of_functions_as_they_stand(self):
        self.assertEqual(params_of(FOREST, "join"), ["one", "other"])
        self.assertEqual(params_of(FOREST, "make"), ["b", "a"])

    def test_no_parameters(self):
        self.assertEqual(params_of(FOREST, "x"), [])
        self.assertEqual(params_of(FOREST, "lone"), [])
        self.assertEqual(params_of(FOREST, "tree.fall"), [])

    def test_parameters_of_methods_without_self(self):
        self.assertEqual(params_of(FOREST, "tree.grow"), ["much"])
        self.assertEqual(params_of(FOREST, "bud.grow"), ["often", "much"])

    def test_kept_names_as_they_stand(self):
        self.assertEqual(kept_of(FOREST, "make"), ["d", "c"])
        self.assertEqual(kept_of(FOREST, "lone"), ["a"])

    def test_functions_that_keep_nothing(self):
        self.assertEqual(kept_of(FOREST, "join"), [])
        self.assertEqual(kept_of(FOREST, "x"), [])

    def test_methods_keep_nothing(self):
        self.assertEqual(kept_of(FOREST, "tree.grow"), [])
        self.assertEqual(kept_of(FOREST, "bud.grow"), [])

    def test_main_has_and_keeps_nothing(self):
        for program in (FOREST, WORDS, BARE):
            self.assertEqual(params_of(program, "main"), [])
            self.assertEqual(kept_of(program, "main"), [])

    def test_words_of_the_language_as_functions_and_names(self):
        self.assertEqual(params_of(WORDS, "keeps"), [])
        self.assertEqual(kept_of(WORDS, "keeps"), ["keeps"])
        self.assertEqual(params_of(WORDS, "func"), ["if", "while"])
        self.assertEqual(kept_of(WORDS, "func"), ["keeps", "end", "main"])
        self.assertEqual(params_of(WORDS, "kind"), ["func"])
        self.assertEqual(kept_of(WORDS, "kind"), [])

    def test_a_function_called_keeps_may_keep_nothing(self):
        program = program_of(["func keeps a", "end", "main", "end"])
        self.assertEqual(params_of(program, "keeps"), ["a"])
        self.assertEqual(kept_of(program, "keeps"), [])

    def test_keeps_is_a_parameter_of_a_method(self):
        self.assertEqual(params_of(WORDS, "of.main"), ["keeps", "func"])
        self.assertEqual(kept_of(WORDS, "of.main"), [])
        self.assertEqual(params_of(WORDS, "fields.keeps"), ["keeps"])
        self.assertEqual(kept_of(WORDS, "fields.keeps"), [])

    def test_eight_ifs_within_one_another(self):
        rows = ["func f a"] + ["if choose"] * 8 + ["func g f"] + ["end"] * 9
        program = program_of(rows + ["func g b keeps c", "end", "main", "end"])
        self.assertEqual(params_of(program, "f"), ["a"])
        self.assertEqual(params_of(program, "g"), ["b"])
        self.assertEqual(kept_of(program, "g"), ["c"])


class OwnListsTest(unittest.TestCase):
    def check_own(self, ask):
        first = ask()
        wanted = list(first)
        self.assertTrue(wanted)
        second = ask()
        first.append("other")
        first[0] = "other"
        self.assertEqual(second, wanted)
        self.assertEqual(ask(), wanted)
        second.clear()
        self.assertEqual(ask(), wanted)

    def test_told_lists_are_the_askers_own(self):
        self.check_own(lambda: kind_names(FOREST))
        self.check_own(lambda: fields_of(FOREST, "tree"))
        self.check_own(lambda: fields_of(FOREST, "bloom"))
        self.check_own(lambda: params_of(FOREST, "make"))
        self.check_own(lambda: params_of(FOREST, "bud.grow"))
        self.check_own(lambda: kept_of(FOREST, "make"))

    def test_empty_lists_are_the_askers_own(self):
        for ask in (fields_of, params_of, kept_of):
            place = "stone" if ask == fields_of else "main"
            ask(FOREST, place).append("other")
            self.assertEqual(ask(FOREST, place), [])
        kind_names(BARE).append("other")
        self.assertEqual(kind_names(BARE), [])

    def test_a_list_of_an_elder_changes_nothing_of_the_younger(self):
        fields_of(FOREST, "tree").append("other")
        self.assertEqual(fields_of(FOREST, "leaf"), ["right", "left", "seed"])
        fields_of(FOREST, "leaf").append("other")
        self.assertEqual(fields_of(FOREST, "bud"), ["right", "left", "seed"])

    def test_programs_do_not_mix(self):
        one = program_of(["kind a fields x", "func f p", "end", "main", "end"])
        other = program_of(["kind a fields y", "func f q keeps k", "end", "main", "end"])
        told = [fields_of(one, "a"), params_of(one, "f"), kept_of(one, "f")]
        self.assertEqual([fields_of(other, "a"), params_of(other, "f"), kept_of(other, "f")], [["y"], ["q"], ["k"]])
        self.assertEqual(told, [["x"], ["p"], []])


if __name__ == "__main__":
    unittest.main()
