"""Promises 2 and 3: words, integers and crowds."""

import unittest

from ownmarks.crowds import Crowd
from ownmarks.errors import BadCrowd, NotThere
from tests.helping import ODD, crowd_of, odd_without

EIGHT = ["abcdefgh", "zyxwvuts", "aaaaaaaa", "aaaaaaab", "bbbbbbbb", "mmmmmmmm", "qqqqqqqq", "zzzzzzzz"]
NO_WORDS = ["", "ninesigns", "A", "aB", "a1", "1", "a b", " a", "a ", "a\n", "a-b", "a_b", "\u00e4", "\u00df", "\u0131", "\u0430",
            "\uff41", "a\u0301", None, True, 1, b"a", ["a"], ("a",), {}, object()]


class CrowdTest(unittest.TestCase):
    def test_ordinary(self):
        crowd = Crowd(["cy", "al", "bo"], 5)
        self.assertEqual(crowd.people, ["cy", "al", "bo"])
        self.assertEqual(crowd.most, 5)
        self.assertEqual(len(crowd), 3)
        self.assertEqual(list(crowd), ["cy", "al", "bo"])
        self.assertEqual([crowd.place(person) for person in crowd], [0, 1, 2])
        self.assertEqual(crowd.pairs(), [("cy", "al"), ("cy", "bo"), ("al", "cy"), ("al", "bo"), ("bo", "cy"), ("bo", "al")])

    def test_one_person(self):
        crowd = Crowd(("a",), 1)
        self.assertEqual((crowd.people, crowd.most, len(crowd), crowd.pairs(), crowd.place("a")), (["a"], 1, 1, [], 0))
        self.assertFalse(crowd.is_pair(("a", "a")))

    def test_greatest(self):
        crowd = Crowd(EIGHT, 10)
        self.assertEqual(crowd.people, EIGHT)
        self.assertEqual((len(crowd), crowd.most, len(crowd.pairs())), (8, 10, 56))
        self.assertEqual(crowd.place("zzzzzzzz"), 7)

    def test_every_greatest_mark(self):
        for most in range(1, 11):
            self.assertEqual(Crowd(["a", "b"], most).most, most)

    def test_in(self):
        crowd = crowd_of(3, 2)
        for person in "abc":
            self.assertIs(person in crowd, True)
        for value in ODD + ["d", ("a", "b")]:
            self.assertIs(value in crowd, False)

    def test_is_pair(self):
        crowd = Crowd(["b", "a", "c"], 2)
        for pair in crowd.pairs():
            self.assertIs(crowd.is_pair(pair), True)
            self.assertIs(crowd.is_pair(list(pair)), False)
        for value in ODD + [("a", "d"), ("d", "a"), ("a", "b", "c"), ("b", "b"), ("a", None), "ab"]:
            self.assertIs(crowd.is_pair(value), False)

    def test_place_refused(self):
        crowd = crowd_of(3, 2)
        for value in ODD + ["d"]:
            with self.assertRaises(NotThere) as caught:
                crowd.place(value)
            self.assertIs(caught.exception.word, value)

    def test_lists_belong_to_the_caller(self):
        given = ["a", "b", "c"]
        crowd = Crowd(given, 2)
        given.append("d")
        given[0] = "z"
        crowd.people.append("e")
        crowd.pairs().clear()
        self.assertEqual(crowd, crowd_of(3, 2))
        self.assertEqual((list(crowd), len(crowd.pairs()), "z" in crowd), (["a", "b", "c"], 6, False))

    def test_equal(self):
        crowd = Crowd(["a", "b"], 2)
        self.assertTrue(crowd == Crowd(("a", "b"), 2))
        self.assertFalse(crowd != Crowd(("a", "b"), 2))
        for other in [Crowd(["b", "a"], 2), Crowd(["a", "b"], 3), Crowd(["a"], 2), Crowd(["a", "b", "c"], 2)]:
            self.assertFalse(crowd == other)
            self.assertTrue(crowd != other)
        for value in ODD + [["a", "b"], ("a", "b"), 2]:
            self.assertIs(crowd == value, False)

    def test_by_name(self):
        crowd = Crowd(most=2, people=["a", "b"])
        self.assertEqual(crowd, Crowd(["a", "b"], 2))
        self.assertEqual(crowd.place(person="b"), 1)
        self.assertTrue(crowd.is_pair(value=("a", "b")))

    def test_repr(self):
        crowd = crowd_of(2, 1)
        self.assertIsInstance(repr(crowd), str)
        self.assertEqual(repr(crowd), repr(crowd))


class CrowdRefusedTest(unittest.TestCase):
    def refused(self, people, most, part):
        with self.assertRaises(BadCrowd) as caught:
            Crowd(people, most)
        self.assertEqual(caught.exception.part, part)

    def test_people(self):
        good = [["a"], ["a", "b"], ("a",), ("a", "b", "c"), ("a", "zz"), ("zz", "a")]
        for people in odd_without(*good):
            self.refused(people, 2, "people")
        for people in [[], (), list("abcdefghi"), ["a", "b", "a"], "ab", {"a": 1, "b": 2}, {"a", "b"}, iter(["a"])]:
            self.refused(people, 2, "people")

    def test_words(self):
        for word in NO_WORDS:
            self.refused([word], 2, "people")
            self.refused(["a", word], 2, "people")
            self.refused((word, "b"), 2, "people")

    def test_most(self):
        for most in ODD + [0, 11, -5, "2", (1,), [2], 2.0, 10 ** 30]:
            self.refused(["a", "b"], most, "most")

    def test_people_ahead_of_most(self):
        for most in [0, 11, True, None, "x"]:
            self.refused([], most, "people")
            self.refused(["a", "A"], most, "people")


if __name__ == "__main__":
    unittest.main()
