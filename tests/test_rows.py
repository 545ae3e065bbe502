import unittest

from tests.helper import SIZES, WRONG, row_of
from voteclashes.errors import BadRow, BadSize
from voteclashes.rows import beats_all, place_sums, rankings, rows

WRONG_ROWS = WRONG + (
    0, 2, "012 210",
    ((0, 1),),
    ((0, 1), (0, 1), (0, 1), (0, 1)),
    ((0,), (0,)),
    ((0, 1, 2), (0, 1, 2), (0, 1, 2)),
    ((0, 1, 2, 3), (0, 1, 2, 3)),
    ((0, 1), (0, 1, 2)),
    ((0, 1, 2), (0, 1)),
    ((0, 0), (0, 1)),
    ((0, 1), (1, 1)),
    ((0, 1), (1, 2)),
    ((0, 1), (-1, 0)),
    ((0, 1), (0, True)),
    ((False, True), (0, 1)),
    ((0, 1), (0, None)),
    ((0, 1), ("0", "1")),
    ((0, 1), "01"),
    ("01", "10"),
    ((0, 1), ((0,), 1)),
    ((0, 1), ()),
    ((), (0, 1)),
    [(0, 1), (1, 0)],
    ((0, 1), [1, 0]),
    ([0, 1], (1, 0)),
    ((0, 1), {0: 0, 1: 1}),
    {(0, 1): (0, 1)},
    0, 3,
)


class RankingTests(unittest.TestCase):
    def test_whole(self):
        self.assertEqual(rankings(2), ((0, 1), (1, 0)))
        self.assertEqual(rankings(3), ((0, 1, 2), (0, 2, 1), (1, 0, 2), (1, 2, 0), (2, 0, 1), (2, 1, 0)))

    def test_wrong_numbers(self):
        for things in WRONG + (0, 1, 4, "2", "3", (2,), [2], {2: 3}, (2, 3), -2, 2.0, 3.0):
            with self.subTest(things=things):
                self.assertRaises(BadSize, rankings, things)


class RowsTests(unittest.TestCase):
    def test_two_things(self):
        self.assertEqual(rows(2, 2), tuple(row_of(text) for text in ("01 01", "01 10", "10 01", "10 10")))
        self.assertEqual(rows(3, 2), tuple(row_of(text) for text in (
            "01 01 01", "01 01 10", "01 10 01", "01 10 10", "10 01 01", "10 01 10", "10 10 01", "10 10 10",
        )))

    def test_three_things(self):
        words = ("012", "021", "102", "120", "201", "210")
        self.assertEqual(rows(2, 3), tuple(row_of(f"{one} {two}") for one in words for two in words))
        self.assertEqual(rows(2, 3)[7], ((0, 2, 1), (0, 2, 1)))

    def test_ascending_tuples_of_tuples(self):
        for size in SIZES:
            found = rows(*size)
            self.assertIsInstance(found, tuple)
            self.assertEqual(found, tuple(sorted(set(found))))
            self.assertEqual({(len(row), len(ranking)) for row in found for ranking in row}, {size})

    def test_other_numbers(self):
        for people in range(-1, 6):
            for things in range(-1, 6):
                if (people, things) not in SIZES:
                    with self.subTest(people=people, things=things):
                        self.assertRaises(BadSize, rows, people, things)

    def test_wrong_values(self):
        for value in WRONG + ("2", (2,), [2], {2: 2}, 2.0):
            with self.subTest(value=value):
                self.assertRaises(BadSize, rows, value, 2)
                self.assertRaises(BadSize, rows, 2, value)
                self.assertRaises(BadSize, rows, value, value)


class BeatsAllTests(unittest.TestCase):
    def test_two_people_two_things(self):
        self.assertEqual([beats_all(row) for row in rows(2, 2)], [0, None, None, 1])

    def test_three_people(self):
        self.assertEqual([beats_all(row) for row in rows(3, 2)], [0, 0, 0, 1, 0, 1, 1, 1])

    def test_three_things(self):
        # Of two people more than half are both, so both must have it first.
        for row in rows(2, 3):
            with self.subTest(row=row):
                same = row[0][0] == row[1][0]
                self.assertEqual(beats_all(row), row[0][0] if same else None)

    def test_examples(self):
        self.assertEqual(beats_all(((1, 0), (0, 1), (1, 0))), 1)
        self.assertIsNone(beats_all(((0, 1, 2), (1, 2, 0))))

    def test_wrong_rows(self):
        for row in WRONG_ROWS:
            with self.subTest(row=row):
                self.assertRaises(BadRow, beats_all, row)


class PlaceSumsTests(unittest.TestCase):
    def test_two_things(self):
        self.assertEqual([place_sums(row) for row in rows(2, 2)], [(0, 2), (1, 1), (1, 1), (2, 0)])
        self.assertEqual(
            [place_sums(row) for row in rows(3, 2)],
            [(0, 3), (1, 2), (1, 2), (2, 1), (1, 2), (2, 1), (2, 1), (3, 0)],
        )

    def test_three_things(self):
        told = {
            "012 012": (0, 2, 4), "012 021": (0, 3, 3), "012 120": (2, 1, 3), "012 201": (1, 3, 2),
            "012 210": (2, 2, 2), "102 201": (2, 2, 2), "210 210": (4, 2, 0), "201 120": (3, 2, 1),
            "120 201": (3, 2, 1), "012 102": (1, 1, 4),
        }
        for text, sums in told.items():
            with self.subTest(text):
                self.assertEqual(place_sums(row_of(text)), sums)

    def test_every_row_has_all_places(self):
        for people, things in SIZES:
            for row in rows(people, things):
                sums = place_sums(row)
                self.assertIsInstance(sums, tuple)
                self.assertEqual(len(sums), things)
                self.assertEqual(sum(sums), people * sum(range(things)))

    def test_example(self):
        self.assertEqual(place_sums(((0, 1, 2), (1, 2, 0))), (2, 1, 3))

    def test_wrong_rows(self):
        for row in WRONG_ROWS:
            with self.subTest(row=row):
                self.assertRaises(BadRow, place_sums, row)


if __name__ == "__main__":
    unittest.main()
