"""Section 18, its beginning: how many words terms take."""

import random
import unittest

from arrivalmill.errors import BadTerm
from arrivalmill.words import flat_words
from tests.values import NO_TERMS, term

FAR = ("fun", "m", "f", 1, 0, ())


class Words(unittest.TestCase):
    def test_each_kind(self):
        for one, wanted in (
                (0, 0), (-1, 0), (2 ** 59 - 1, 0), (2 ** 59, 2), (-2 ** 59, 0), (-2 ** 59 - 1, 2), (2 ** 64 - 1, 2), (2 ** 64, 3), (-2 ** 64 + 1, 2), (-2 ** 64, 3), (2 ** 128 - 1, 3), (2 ** 128, 4), (10 ** 300, 1 + 16),
                ("a", 0), ("true", 0), (("list",), 0), (("pid", ()), 1), (("pid", (1,)), 2), (("pid", (1, 2, 3)), 4), (("ref", (), 1), 2), (("ref", (1, 2), 9), 4), (("tuple",), 1), (("tuple", 1), 2), (("tuple", 1, "a", ("list",)), 4),
                (("bytes",), 1), (("bytes", 0), 2), (("bytes", *range(8)), 2), (("bytes", *range(9)), 3), (("bytes", *range(16)), 3), (("bytes", *range(17)), 4), (("map",), 1), (("map", (1, 2)), 3), (("map", (1, 2), ("a", ("tuple",))), 6), (("map", (("tuple", 1), ("list", 1))), 7),
                (FAR, 2), (("fun", "m", 0, 1, 1, ()), 2), (("fun", "m", 0, 1, 1, (1, ("tuple",))), 5), (("list", 1), 2), (("list", 1, 2, 3), 6), (("list", ("list", 1), 2), 6), (("odd", 1, 2), 2), (("odd", 1, 2, ("tuple", 5)), 6), (("odd", 2 ** 60, ("pid", ())), 5), (("list", FAR, FAR), 8)):
            self.assertEqual(wanted, flat_words(one), one)

    def test_parts_are_counted_as_often_as_they_stand(self):
        one = ("tuple", 1, 2)
        self.assertEqual((3, 3 + 2 * 3, 3 + 2 * 9), (flat_words(one), flat_words(("tuple", one, one)), flat_words(("tuple", *[("tuple", one, one)] * 2))))

    def test_by_the_sum_of_parts(self):
        rng = random.Random(7)
        for _ in range(400):
            parts = [term(rng, 3) for _ in range(rng.randint(1, 3))]
            flat = sum(flat_words(part) for part in parts)
            self.assertEqual(flat + len(parts) + 1, flat_words(("tuple", *parts)))
            self.assertEqual(flat + 2 * len(parts), flat_words(("list", *parts)))
            self.assertEqual(flat + 2 + len(parts), flat_words(("fun", "m", 0, 1, 1, tuple(parts))))
            self.assertEqual(flat_words(parts[0]) + 3, flat_words(("map", ("a", parts[0]))))

    def test_long_lists(self):
        self.assertEqual(40000, flat_words(("list", *range(20000))))

    def test_what_is_no_term(self):
        for value in NO_TERMS:
            with self.assertRaises(BadTerm) as caught:
                flat_words(value)
            self.assertIs(value, caught.exception.value)


if __name__ == "__main__":
    unittest.main()
