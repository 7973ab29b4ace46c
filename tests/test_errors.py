import unittest

from pointsure.errors import NoChange, NoFact, NoProgram, NoRow, PointError, TooGreat

PLAIN = [TooGreat, NoFact, NoRow]
REFUSALS = [TooGreat("w"), NoFact("w"), NoRow("w"), NoProgram(4), NoChange((3, "apart", ""))]
ABOVE = (ValueError, Exception, BaseException, object)


class ErrorsTest(unittest.TestCase):
    def test_point_error_is_a_value_error_alone(self):
        self.assertEqual(PointError.__mro__, (PointError,) + ABOVE)

    def test_each_refusal_stands_right_under_point_error(self):
        for refusal in REFUSALS:
            own = type(refusal)
            self.assertEqual(own.__mro__, (own, PointError) + ABOVE)

    def test_no_refusal_is_taken_as_another(self):
        classes = [type(refusal) for refusal in REFUSALS]
        for refusal in REFUSALS:
            taken = [one for one in classes if isinstance(refusal, one)]
            self.assertEqual(taken, [type(refusal)])

    def test_each_refusal_is_raised_and_taken_by_its_own_name_and_those_above(self):
        for refusal in REFUSALS:
            for taken in (type(refusal), PointError, ValueError):
                with self.assertRaises(taken):
                    raise refusal

    def test_plain_refusals_may_have_words_or_none(self):
        for one in PLAIN + [PointError]:
            self.assertEqual(str(one("some words")), "some words")
            self.assertIsInstance(one(), PointError)

    def test_line_is_what_was_handed_in(self):
        for line in (0, 1, 17, 460):
            self.assertEqual(NoProgram(line).line, line)

    def test_change_is_what_was_handed_in(self):
        for change in ((0, "straight", "leaf"), (-1, "no such word", ""), (12, "apart", "")):
            self.assertEqual(NoChange(change).change, change)

    def test_fields_are_each_objects_own(self):
        one, other = NoProgram(1), NoProgram(2)
        self.assertEqual((one.line, other.line), (1, 2))
        first, second = NoChange((1, "unread", "")), NoChange((2, "apart", ""))
        self.assertEqual((first.change[0], second.change[0]), (1, 2))

    def test_fields_are_there_where_the_error_is_taken(self):
        try:
            raise NoProgram(9)
        except PointError as taken:
            self.assertEqual(taken.line, 9)
        try:
            raise NoChange((5, "apart", ""))
        except PointError as taken:
            self.assertEqual(taken.change, (5, "apart", ""))

    def test_only_their_own_class_has_the_fields(self):
        for refusal in REFUSALS:
            self.assertEqual(hasattr(refusal, "line"), isinstance(refusal, NoProgram))
            self.assertEqual(hasattr(refusal, "change"), isinstance(refusal, NoChange))


if __name__ == "__main__":
    unittest.main()
