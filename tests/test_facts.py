import itertools
import unittest

from pointsure.facts import (
    each_name, field_name, given_name, goes_fact, holds_fact,
    kept_name, local_name, own_field, reach_fact, sorted_once, thing_at)

# All forms of point 12, written out, as they stand when sorted.
SORTED = [
    ("goes", 2, (), "leaf.get", (2,)),
    ("goes", 2, (), "tree.get", (2,)),
    ("goes", 10, (2, 4), "f", (4, 10)),
    ("holds", ("each", 3, ()), (1, ())),
    ("holds", ("each", 3, (2,)), (1, ())),
    ("holds", ("field", 1, (), "left"), (1, ())),
    ("holds", ("field", 1, (), "left"), (3, (2,))),
    ("holds", ("field", 1, (), "right"), (1, ())),
    ("holds", ("given", "f", (10,)), (5, (10,))),
    ("holds", ("given", "leaf.get", ()), (5, ())),
    ("holds", ("kept", 6, (), "a"), (1, ())),
    ("holds", ("kept", 6, (2, 4), "a"), (1, ())),
    ("holds", ("local", "f", (), "x"), (1, ())),
    ("holds", ("local", "f", (), "x.left"), (1, ())),
    ("holds", ("local", "main", (), "x"), (1, ())),
    ("holds", ("local", "main", (), "x"), (10, ())),
    ("reach", "f", (2,)),
    ("reach", "f", (2, 4)),
    ("reach", "f", (10,)),
    ("reach", "leaf.get", ()),
    ("reach", "main", ()),
]


class FormsTest(unittest.TestCase):
    def test_thing(self):
        self.assertEqual(thing_at(7, ()), (7, ()))
        self.assertEqual(thing_at(7, (2, 4)), (7, (2, 4)))

    def test_names(self):
        self.assertEqual(local_name("main", (), "x"), ("local", "main", (), "x"))
        self.assertEqual(local_name("leaf.get", (4,), "self"), ("local", "leaf.get", (4,), "self"))
        self.assertEqual(given_name("f", (4,)), ("given", "f", (4,)))
        self.assertEqual(field_name(3, (4,), "left"), ("field", 3, (4,), "left"))
        self.assertEqual(each_name(3, (4,)), ("each", 3, (4,)))
        self.assertEqual(kept_name(3, (4,), "k"), ("kept", 3, (4,), "k"))

    def test_own_field_is_a_local(self):
        self.assertEqual(own_field("x", "f"), "x.f")
        self.assertEqual(local_name("main", (), own_field("x", "left")), ("local", "main", (), "x.left"))

    def test_facts(self):
        self.assertEqual(reach_fact("main", ()), ("reach", "main", ()))
        self.assertEqual(reach_fact("tree.get", (1, 2)), ("reach", "tree.get", (1, 2)))
        self.assertEqual(goes_fact(5, (2,), "f", (2, 5)), ("goes", 5, (2,), "f", (2, 5)))
        self.assertEqual(
            holds_fact(local_name("f", (5,), "x"), thing_at(0, ())),
            ("holds", ("local", "f", (5,), "x"), (0, ())))

    def test_calls_are_tuples_and_a_list_of_them_is_not_kept(self):
        calls = [2, 4]
        made = [
            thing_at(1, calls), local_name("f", calls, "x"), given_name("f", calls), field_name(1, calls, "f"),
            each_name(1, calls), kept_name(1, calls, "k"), reach_fact("f", calls), goes_fact(1, calls, "f", calls)]
        before = list(made)
        self.assertEqual(calls, [2, 4])
        calls.append(6)
        self.assertEqual(made, before)
        self.assertEqual(made[0], (1, (2, 4)))
        self.assertEqual(made[7], ("goes", 1, (2, 4), "f", (2, 4)))
        for one in made:
            hash(one)


class SortedOnceTest(unittest.TestCase):
    def test_none(self):
        self.assertEqual(sorted_once([]), [])

    def test_each_form_sorted(self):
        self.assertEqual(sorted_once(list(reversed(SORTED))), SORTED)
        self.assertEqual(sorted_once(SORTED[7:] + SORTED[:7]), SORTED)

    def test_each_once(self):
        self.assertEqual(sorted_once(SORTED + SORTED[::-1] + SORTED[::2]), SORTED)

    def test_any_two_forms_stand_beside_each_other(self):
        for one, other in itertools.combinations(SORTED, 2):
            self.assertEqual(sorted_once([other, one, other]), [one, other])

    def test_list_handed_in_stays_as_it_was(self):
        facts = [SORTED[4], SORTED[1], SORTED[4]]
        sorted_once(facts)
        self.assertEqual(facts, [SORTED[4], SORTED[1], SORTED[4]])

    def test_told_list_is_the_askers_own(self):
        facts = list(SORTED)
        told = sorted_once(facts)
        told.append(("reach", "z", ()))
        told[0] = None
        self.assertEqual(facts, SORTED)
        self.assertEqual(sorted_once(facts), SORTED)

    def test_told_list_does_not_change_with_the_list_handed_in(self):
        facts = list(SORTED)
        told = sorted_once(facts)
        facts.clear()
        self.assertEqual(told, SORTED)

    def test_instances_are_told_likewise(self):
        reach = ("reach", "main", ())
        held = ("holds", ("local", "main", (), "x"), (0, ()))
        goes = ("goes", 4, (), "f", (4,))
        instances = [
            (("reach", "f", (4,)), 4, [reach, goes]),
            (reach, -1, []),
            (held, 0, [reach]),
            (held, 2, [reach, held]),
            (held, 2, [reach, goes, held]),
        ]
        wanted = [instances[2], instances[4], instances[3], instances[0], instances[1]]
        self.assertEqual(sorted_once(instances + instances[::-1]), wanted)


if __name__ == "__main__":
    unittest.main()
