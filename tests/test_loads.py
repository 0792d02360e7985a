import unittest
from itertools import combinations
from random import Random
from time import perf_counter

from guests import all_meetings, companies_of, meetings_of_stays
from helpers import TWELVE, check_raises, layouts_of, small_tables, table_of_form, table_with_layout
from unbrokenrows.errors import BadNumber, BadWorths, NoLayout, NoStays
from unbrokenrows.loads import Load, best
from unbrokenrows.meetings import company_table
from unbrokenrows.stays import stays, strangers
from unbrokenrows.tables import Table

SECONDS = 5
NO_LAYOUT = Table(["a", "b", "c"], [["a", "b"], ["b", "c"], ["c", "a"], []])


def is_choice(table, chosen, rooms):
    return all(sum(name in table[number] for number in chosen) <= rooms for name in table.columns)


def best_worth(table, worths, rooms):
    """The greatest sum of worths, all choices of rows being tried."""
    numbers = range(len(table))
    choices = [chosen for many in range(len(table) + 1) for chosen in combinations(numbers, many)]
    return max(sum(worths[number] for number in chosen) for chosen in choices if is_choice(table, chosen, rooms))


class BestTest(unittest.TestCase):
    def check_load(self, table, worths, rooms):
        """All that [56] says of a load; by the equation no choice has a greater sum."""
        load = best(table, worths, rooms)
        self.assertIsInstance(load, Load)
        self.assertIsInstance(load.chosen, tuple)
        self.assertEqual(list(load.chosen), sorted(set(load.chosen)))
        self.assertTrue(all(0 <= number < len(table) for number in load.chosen))
        self.assertTrue(is_choice(table, load.chosen, rooms))
        self.assertEqual(load.worth, sum(worths[number] for number in load.chosen))
        self.assertIsInstance(load.prices, dict)
        self.assertEqual(list(load.prices), list(table.columns))
        self.assertTrue(all(isinstance(price, int) and price >= 0 for price in load.prices.values()))
        excess = [worth - sum(load.prices[name] for name in row) for worth, row in zip(worths, table.rows)]
        self.assertEqual(load.worth, rooms * sum(load.prices.values()) + sum(one for one in excess if one > 0))
        return load

    def test_all_choices(self):
        random = Random(400)
        for table in small_tables(401, 250, 6, 7):
            if layouts_of(table):
                for most in (3, 999):
                    worths = [random.randint(0, most) for _ in table]
                    for rooms in range(5):
                        load = self.check_load(table, worths, rooms)
                        self.assertEqual(load.worth, best_worth(table, worths, rooms))

    def test_tables_of_forms(self):
        random = Random(402)
        for _ in range(60):
            table = table_of_form(random, 8)
            table = table.plus(*[row for row in table.rows if random.random() < 0.5])
            worths = [random.choice([0, 1, 2, 50, 998, 999]) for _ in table]
            for rooms in range(5):
                load = self.check_load(table, worths, rooms)
                if len(table) <= 9:
                    self.assertEqual(load.worth, best_worth(table, worths, rooms))

    def test_great_tables(self):
        random = Random(403)
        begun = perf_counter()
        for _ in range(12):
            table = table_with_layout(random, TWELVE, 48)
            for most in (1, 20, 999):
                worths = [random.randint(0, most) for _ in table]
                for rooms in range(5):
                    self.check_load(table, worths, rooms)
        self.assertLess(perf_counter() - begun, SECONDS)

    def test_equal_rows(self):
        table = Table(["a", "b", "c"], [["a", "b"]] * 5 + [["b", "c"]] * 5 + [["c"]])
        for rooms, worth in [(0, 0), (1, 16), (2, 25), (3, 33), (4, 41)]:
            self.assertEqual(self.check_load(table, [9, 8, 7, 6, 5, 9, 8, 7, 6, 5, 7], rooms).worth, worth)

    def test_empty_rows_are_free(self):
        table = Table(["a", "b"], [[], ["a", "b"], [], ["a"]])
        for rooms, worth in [(0, 1002), (1, 1007), (2, 1011)]:
            load = self.check_load(table, [3, 5, 999, 4], rooms)
            self.assertEqual((load.worth, {0, 2} <= set(load.chosen)), (worth, True))
        self.assertEqual(self.check_load(Table([], [[], []]), [5, 6], 0).worth, 11)
        self.assertEqual(self.check_load(Table([], []), [], 4).worth, 0)
        self.assertEqual(self.check_load(Table(["a", "b"], []), [], 1).prices, {"a": 0, "b": 0})

    def test_worths_of_zero_and_of_999(self):
        table = Table(["a", "b", "c"], [["a", "b", "c"], ["a"], ["b"], ["c"]])
        for worths, worth in [([0, 0, 0, 0], 0), ([999, 0, 0, 0], 999), ([999, 999, 0, 0], 999),
                              ([999, 333, 333, 334], 1000), ([999, 333, 333, 333], 999), ([999] * 4, 2997)]:
            self.assertEqual(self.check_load(table, worths, 1).worth, worth)
            self.assertEqual(self.check_load(table, tuple(worths), 0).worth, 0)
            self.assertEqual(self.check_load(table, worths, 2).worth, sum(worths))

    def test_returned_prices_are_new(self):
        table, worths = Table(["a", "b"], [["a"], ["a", "b"]]), [2, 3]
        before = dict(best(table, worths, 1).prices)
        best(table, worths, 1).prices.clear()
        self.assertEqual(best(table, worths, 1).prices, before)
        self.assertEqual(worths, [2, 3])


class ErrorTest(unittest.TestCase):
    def test_no_layout_comes_first(self):
        for worths, rooms in [([1, 1, 1, 1], 1), ([], 9), ([1000], -1)]:
            check_raises(self, NoLayout, {"number": 2}, best, NO_LAYOUT, worths, rooms)

    def test_bad_worths(self):
        table = Table(["a", "b"], [["a"], ["b"], []])
        for worths, index in [([], 0), ([1], 1), ([1, 2], 2), ([1, 2, 3, 4], 3), ([-1, 2, 3], 0), ([1, 1000, 3], 1),
                              ([1, 2, 10 ** 9], 2), ([1, 2, -10 ** 9, 4], 2), ([1, 2, 3, -1], 3), ([1000], 0)]:
            check_raises(self, BadWorths, {"index": index}, best, table, worths, 1)
            check_raises(self, BadWorths, {"index": index}, best, table, tuple(worths), 9)
        check_raises(self, BadWorths, {"index": 0}, best, Table.empty(), [1], 1)

    def test_bad_number(self):
        table = Table(["a"], [["a"]])
        for rooms in (-1, 5, 10 ** 9, -10 ** 9):
            check_raises(self, BadNumber, {"number": rooms}, best, table, [3], rooms)
        self.assertEqual([best(table, [3], rooms).worth for rooms in range(5)], [0, 3, 3, 3, 3])


class GuestsTest(unittest.TestCase):
    """Point [78]."""

    def has_stays(self, meetings):
        try:
            stays(meetings)
        except NoStays:
            return False
        return True

    def test_loads_of_guests(self):
        random = Random(404)
        some = [meetings for meetings in all_meetings(5) if self.has_stays(meetings)]
        some += [meetings_of_stays(random, random.randint(6, 10))[0] for _ in range(60)]
        for meetings in some:
            table, ones = company_table(meetings), [1] * len(meetings.guests)
            self.assertEqual(best(table, ones, 1).worth, len(strangers(meetings)[0]))
            largest = max([len(company) for company in companies_of(meetings)], default=0)
            for rooms in range(5):
                self.assertIs(best(table, ones, rooms).worth == len(meetings.guests), largest <= rooms)


if __name__ == "__main__":
    unittest.main()
