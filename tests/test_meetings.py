import unittest
from itertools import combinations
from random import Random
from time import perf_counter

from guests import GUESTS, all_meetings, companies_of, have_met, random_meetings
from helpers import TWELVE, check_new_lists, check_raises
from unbrokenrows.errors import BadMeetings, TooMany, UnknownColumn, UnknownGuest
from unbrokenrows.meetings import Meetings, company_table

SECONDS = 5


def all_met(many):
    return Meetings(GUESTS[:many], list(combinations(GUESTS[:many], 2)))


def crowd(sizes):
    """Guests in groups of these sizes; those have met who are in different groups."""
    group = [at for at, size in enumerate(sizes) for _ in range(size)]
    pairs = [(GUESTS[a], GUESTS[b]) for a, b in combinations(range(len(group)), 2) if group[a] != group[b]]
    return Meetings(GUESTS[:len(group)], pairs)


class MakingTest(unittest.TestCase):
    def check_bad(self, part, index, guests, pairs):
        check_raises(self, BadMeetings, {"part": part, "index": index}, Meetings, guests, pairs)
        check_raises(self, BadMeetings, {"part": part, "index": index}, Meetings, tuple(guests), tuple(pairs))

    def test_too_many_guests(self):
        self.check_bad("guests", 0, TWELVE[:11], [])
        self.check_bad("guests", 0, ["", *TWELVE], [("x",)])
        self.assertEqual(len(Meetings(TWELVE[:10], []).guests), 10)

    def test_wrong_guests(self):
        for guests, index in [([""], 0), (["a", "B"], 1), (["a", "b", "a"], 2), (["a", "abcdefghi"], 1),
                              (["a", "b c"], 1), (["a", "a", ""], 1), ([*TWELVE[:9], "1"], 9)]:
            self.check_bad("guest", index, guests, [])
            self.check_bad("guest", index, guests, [("x", "y")])

    def test_wrong_pairs(self):
        guests = ["a", "b", "c"]
        for pairs, index in [([()], 0), ([("a",)], 0), ([("a", "b", "c")], 0), ([("a", "a")], 0), ([("a", "x")], 0),
                             ([("x", "a")], 0), ([("a", "b"), ("a", "b")], 1), ([("a", "b"), ("b", "a")], 1),
                             ([("a", "b"), ("c", "b"), ("b", "c")], 2), ([("a", "b"), ("a", ""), ("b", "a")], 1),
                             ([("a", "b"), ("a", "c"), ("b", "c"), ("c", "a")], 3), ([("a", "b", "a")], 0)]:
            self.check_bad("pair", index, guests, pairs)
            self.check_bad("pair", index, guests, [list(pair) for pair in pairs])
        self.check_bad("pair", 0, [], [("a", "b")])

    def test_attributes(self):
        for guests, pairs in [([], []), (["a"], []), (["b", "a", "c"], [("c", "b"), ("a", "c")])]:
            meetings = Meetings(guests, [list(pair) for pair in pairs])
            self.assertEqual((meetings.guests, meetings.pairs), (tuple(guests), tuple(pairs)))
            self.assertTrue(all(isinstance(pair, tuple) for pair in meetings.pairs))

    def test_lists_are_copied(self):
        guests, pairs = ["a", "b", "c"], [["a", "b"], ["c", "b"]]
        meetings = Meetings(guests, pairs)
        pairs[0].reverse()
        pairs.pop()
        guests.clear()
        self.assertEqual((meetings.guests, meetings.pairs), (("a", "b", "c"), (("a", "b"), ("c", "b"))))
        self.assertEqual(meetings.companies(), [("a", "b"), ("b", "c")])


class MetTest(unittest.TestCase):
    def test_all_pairs(self):
        for meetings in all_meetings(4):
            for a in meetings.guests:
                for b in meetings.guests:
                    self.assertIs(meetings.met(a, b), have_met(meetings, a, b))
                    self.assertIs(meetings.met(a, b), meetings.met(b, a))

    def test_same_guest(self):
        self.assertIs(all_met(3).met("ann", "ann"), False)

    def test_unknown_guest(self):
        for a, b, name in [("x", "ann", "x"), ("ann", "x", "x"), ("x", "y", "x"), ("", "y", ""), ("x", "x", "x")]:
            check_raises(self, UnknownGuest, {"name": name}, all_met(2).met, a, b)
        check_raises(self, UnknownGuest, {"name": "ann"}, all_met(0).met, "ann", "ann")
        self.assertFalse(issubclass(UnknownGuest, UnknownColumn))


class CompaniesTest(unittest.TestCase):
    def test_all_meetings_of_five_guests(self):
        for meetings in all_meetings(5):
            self.assertEqual(meetings.companies(), companies_of(meetings))

    def test_random_meetings(self):
        random = Random(330)
        for _ in range(40):
            meetings = random_meetings(random, random.randint(6, 10))
            self.assertEqual(meetings.companies(), companies_of(meetings))

    def test_few_guests(self):
        self.assertEqual(all_met(0).companies(), [])
        self.assertEqual(all_met(1).companies(), [("ann",)])
        self.assertEqual(Meetings(["b", "a"], []).companies(), [("b",), ("a",)])

    def test_ten_guests(self):
        begun = perf_counter()
        self.assertEqual(all_met(10).companies(), [tuple(GUESTS)])
        self.assertEqual(Meetings(GUESTS, []).companies(), [(guest,) for guest in GUESTS])
        self.assertEqual(len(crowd([3, 3, 4]).companies()), 36)
        self.assertEqual(len(crowd([2, 2, 2, 2, 2]).companies()), 32)
        self.assertEqual(crowd([3, 3, 4]).companies(), companies_of(crowd([3, 3, 4])))
        self.assertLess(perf_counter() - begun, SECONDS)

    def test_returned_lists_are_new(self):
        check_new_lists(self, crowd([2, 2]).companies)
        self.assertTrue(all(isinstance(company, tuple) for company in crowd([2, 2]).companies()))


class CompanyTableTest(unittest.TestCase):
    def test_all_meetings_of_five_guests(self):
        for meetings in all_meetings(5):
            self.check_table(meetings)

    def check_table(self, meetings):
        companies, table = companies_of(meetings), company_table(meetings)
        self.assertEqual(list(table.columns), TWELVE[:len(companies)])
        self.assertEqual(len(table), len(meetings.guests))
        for guest, row in zip(meetings.guests, table.rows):
            self.assertEqual([company for name, company in zip(TWELVE, companies) if name in row],
                             [company for company in companies if guest in company])

    def test_up_to_twelve_companies(self):
        for sizes in ([3, 4], [2, 2, 3], [1, 3, 4], [2, 3, 2], [10], [3, 2, 2]):
            self.check_table(crowd(sizes))

    def test_too_many(self):
        for sizes, many in [([2, 7], 14), ([3, 5], 15), ([4, 4], 16), ([3, 3, 4], 36), ([2, 2, 2, 2], 16),
                            ([1, 3, 5], 15), ([2, 2, 2, 2, 2], 32)]:
            check_raises(self, TooMany, {"many": many}, company_table, crowd(sizes))


if __name__ == "__main__":
    unittest.main()
