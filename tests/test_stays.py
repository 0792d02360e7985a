import unittest
from itertools import combinations, permutations, product
from random import Random
from time import perf_counter

from guests import GUESTS, all_meetings, companies_of, have_met, meeting_pairs, meetings_of_stays, random_meetings
from helpers import block_of, check_clash, check_raises, in_one_piece
from unbrokenrows.errors import BadPair, Clash, NoStays, UnknownGuest
from unbrokenrows.meetings import Meetings, company_table
from unbrokenrows.stays import rooms, stays, strangers
from unbrokenrows.trees import Tree

SECONDS = 5
RING = Meetings(GUESTS[:4], [("ann", "bo"), ("bo", "cy"), ("cy", "di"), ("ann", "di")])
STAR = Meetings(GUESTS[:7], [("ann", "bo"), ("bo", "cy"), ("ann", "di"), ("di", "ed"), ("ann", "flo"), ("flo", "gus")])
# Three guests on the corners of a triangle of triangles: no two of them have met, and there is no ring.
SUN = Meetings(GUESTS[:6], [("ann", "bo"), ("bo", "cy"), ("cy", "ann"), ("di", "ann"), ("di", "bo"), ("ed", "bo"),
                            ("ed", "cy"), ("flo", "cy"), ("flo", "ann")])


def strange_pairs(meetings):
    return [pair for pair in permutations(meetings.guests, 2) if not have_met(meetings, *pair)]


def company_orders(meetings):
    """All sequences of the full companies in which each guest stands in one piece."""
    companies = companies_of(meetings)
    return [order for order in permutations(companies)
            if all(in_one_piece([company for company in companies if guest in company], order)
                   for guest in meetings.guests)]


def is_left(order, a, b):
    """True if all companies with a come before all those with b."""
    return max(at for at, company in enumerate(order) if a in company) < min(
        at for at, company in enumerate(order) if b in company)


def possible_meetings(many):
    """For each meetings of so many guests that some stays have, the sets of pairs of which one left the other."""
    guests = GUESTS[:many]
    spells = [(first, last) for first in range(many) for last in range(first, many)]
    found = {}
    for laid in product(spells, repeat=many):
        told = dict(zip(guests, laid))
        left = {(a, b) for a in guests for b in guests if told[a][1] < told[b][0]}
        found.setdefault(frozenset(meeting_pairs(told)), set()).add(frozenset(left))
    return found


class CheckStays(unittest.TestCase):
    def check_stays(self, meetings, found, left=()):
        self.assertIsInstance(found, dict)
        self.assertEqual(list(found), list(meetings.guests))
        for guest in found:
            self.assertIsInstance(found[guest], tuple)
            first, last = found[guest]
            self.assertLessEqual(first, last)
        for a, b in combinations(meetings.guests, 2):
            common = found[a][0] <= found[b][1] and found[b][0] <= found[a][1]
            self.assertIs(common, have_met(meetings, a, b))
        moments = sorted({moment for first, last in found.values() for moment in range(first, last + 1)})
        self.assertEqual(moments, list(range(len(companies_of(meetings)))))
        for a, b in left:
            self.assertLess(found[a][1], found[b][0])

    def check_no_stays(self, meetings, kind, guests, ways):
        self.assertTrue(isinstance(guests, tuple) and isinstance(ways, tuple))
        self.assertTrue(set(guests) <= set(meetings.guests))
        self.assertEqual(len(set(guests)), len(guests))
        if kind == "ring":
            self.assertGreaterEqual(len(guests), 4)
            self.assertEqual(ways, ())
            for one, other in combinations(range(len(guests)), 2):
                follow = other - one in (1, len(guests) - 1)
                self.assertIs(have_met(meetings, guests[one], guests[other]), follow)
            return
        self.assertEqual((kind, len(guests), len(ways)), ("three", 3, 3))
        a, b, c = guests
        self.assertFalse(have_met(meetings, a, b) or have_met(meetings, b, c) or have_met(meetings, c, a))
        for way, (x, y, z) in zip(ways, [(a, b, c), (b, c, a), (c, a, b)]):
            self.assertIsInstance(way, tuple)
            self.assertEqual((way[0], way[-1]), (x, y))
            self.assertTrue(all(have_met(meetings, one, other) for one, other in zip(way, way[1:])))
            self.assertFalse(any(guest == z or have_met(meetings, guest, z) for guest in way))

    def check_either(self, meetings):
        """Stays, or what shows that there are none. Returns whether there are stays."""
        try:
            found = stays(meetings)
        except NoStays as error:
            self.check_no_stays(meetings, error.kind, error.guests, error.ways)
            for call in (rooms, strangers):
                with self.assertRaises(NoStays) as caught:
                    call(meetings)
                self.check_no_stays(meetings, **vars(caught.exception))
            return False
        self.check_stays(meetings, found)
        return True


class StaysTest(CheckStays):
    def test_all_meetings_of_four_guests_against_all_stays(self):
        possible = possible_meetings(4)
        for meetings in all_meetings(4)[-64:]:
            found = possible.get(frozenset(tuple(sorted(pair)) for pair in meetings.pairs), set())
            self.assertIs(self.check_either(meetings), bool(found))
            for left in [[pair] for pair in strange_pairs(meetings)] + [strange_pairs(meetings)[1::3]]:
                if found and any(set(left) <= told for told in found):
                    self.check_stays(meetings, stays(meetings, left), left)
                elif found:
                    self.assertRaises(Clash, stays, meetings, left)

    def test_all_meetings_of_five_guests(self):
        some = [self.check_either(meetings) for meetings in all_meetings(5)]
        orders = [bool(company_orders(meetings)) for meetings in all_meetings(5)]
        self.assertEqual(some, orders)
        self.assertTrue(100 < some.count(False) < len(some) - 100)

    def test_random_meetings(self):
        random = Random(340)
        seen = [self.check_either(random_meetings(random, random.randint(6, 10))) for _ in range(300)]
        self.assertTrue(20 < seen.count(True) < 280)

    def test_meetings_of_stays(self):
        random = Random(341)
        for _ in range(150):
            meetings, laid = meetings_of_stays(random, random.randint(6, 10))
            left = [(a, b) for a, b in permutations(meetings.guests, 2) if laid[a][1] < laid[b][0]]
            left = random.sample(left, random.randint(0, len(left)))
            self.check_stays(meetings, stays(meetings), [])
            self.check_stays(meetings, stays(meetings, left), left)
            self.check_stays(meetings, stays(meetings, [[b, a] for a, b in left]), [(b, a) for a, b in left])

    def test_few_guests(self):
        self.assertEqual(stays(Meetings([], [])), {})
        self.assertEqual(stays(Meetings(["a"], []), []), {"a": (0, 0)})
        self.assertEqual(stays(Meetings(["a", "b"], [("b", "a")]), ()), {"a": (0, 0), "b": (0, 0)})
        self.assertEqual(stays(Meetings(["a", "b"], []), [("b", "a")]), {"a": (1, 1), "b": (0, 0)})

    def test_ten_guests(self):
        begun = perf_counter()
        pairs = list(combinations(GUESTS, 2))
        self.assertEqual(stays(Meetings(GUESTS, pairs)), {guest: (0, 0) for guest in GUESTS})
        alone = stays(Meetings(GUESTS, []))
        self.check_stays(Meetings(GUESTS, []), alone)
        told = pairs * 10
        self.check_stays(Meetings(GUESTS, []), stays(Meetings(GUESTS, []), told), told)
        self.assertRaises(Clash, stays, Meetings(GUESTS, []), told + [("jo", "ann")] * 300)
        for sizes in ([3, 3, 4], [2, 2, 2, 2, 2], [5, 5]):
            group = [at for at, size in enumerate(sizes) for _ in range(size)]
            crowd = Meetings(GUESTS, [(GUESTS[a], GUESTS[b]) for a, b in combinations(range(10), 2)
                                      if group[a] != group[b]])
            self.assertFalse(self.check_either(crowd))
        self.assertLess(perf_counter() - begun, SECONDS)

    def test_the_dict_is_new(self):
        meetings = Meetings(["a", "b", "c"], [("a", "b")])
        for call in (stays, rooms):
            found = call(meetings)
            before = dict(found)
            found.clear()
            self.assertEqual(call(meetings), before)


class LeftTest(CheckStays):
    def test_all_meetings_of_five_guests(self):
        random = Random(342)
        seen = {"ring": 0, "turn": 0, "stays": 0}
        for meetings in all_meetings(5):
            orders = company_orders(meetings)
            strange = strange_pairs(meetings)
            for many in (2, 3, 5) if orders and strange else ():
                left = random.choices(strange, k=many)
                if any(all(is_left(order, a, b) for a, b in left) for order in orders):
                    seen["stays"] += 1
                    self.check_stays(meetings, stays(meetings, left), left)
                else:
                    seen[self.check_clash_of(meetings, left)] += 1
        self.assertTrue(min(seen.values()) > 50, seen)

    def test_random_meetings(self):
        random = Random(343)
        for _ in range(100):
            meetings, _ = meetings_of_stays(random, random.randint(6, 10))
            strange = strange_pairs(meetings)
            left = random.choices(strange, k=random.randint(1, 4)) if strange else []
            try:
                self.check_stays(meetings, stays(meetings, left), left)
            except Clash as error:
                self.check_great_clash(meetings, left, error)

    def check_clash_of(self, meetings, left):
        with self.assertRaises(Clash) as caught:
            stays(meetings, left)
        error = caught.exception
        check_clash(self, company_table(meetings), self.column_pairs(meetings, left), **vars(error))
        self.check_choice(meetings, left, error.pairs)
        return error.kind

    def column_pairs(self, meetings, left):
        """All pairs of a column with the first guest and one with the second guest of a told pair."""
        table = company_table(meetings)
        row = dict(zip(meetings.guests, table.rows))
        return [pair for a, b in left for pair in product(row[a], row[b])]

    def check_choice(self, meetings, left, pairs):
        """Not more pairs of columns come from the told pairs than there are of these."""
        self.assertLessEqual(len(set(pairs)), len(set(left)))

    def check_great_clash(self, meetings, left, error):
        tree = Tree.of(company_table(meetings))
        self.assertTrue(all(tree.is_sure(block) and block for block in error.blocks))
        names = [name for block in error.blocks for name in block]
        self.assertEqual(len(names), len(set(names)))
        self.assertTrue(set(error.pairs) <= set(self.column_pairs(meetings, left)))
        ways = [(block_of(error.blocks, a), block_of(error.blocks, b)) for a, b in error.pairs]
        if error.kind == "ring":
            self.assertEqual(ways, [(at, (at + 1) % len(ways)) for at in range(len(error.blocks))])
        else:
            self.assertTrue(all(tree.is_sure([*one, *other]) for one, other in zip(error.blocks, error.blocks[1:])))
            self.assertTrue(-1 < ways[0][0] < ways[0][1] and ways[1][0] > ways[1][1] > -1 and len(ways) == 2)

    def test_single_pairs_go_both_ways(self):
        """Point [78]."""
        random = Random(344)
        some = [meetings for meetings in all_meetings(5) if company_orders(meetings)]
        some += [meetings_of_stays(random, 10)[0] for _ in range(20)]
        for meetings in some:
            for pair in strange_pairs(meetings):
                self.check_stays(meetings, stays(meetings, [pair]), [pair])


class ErrorTest(CheckStays):
    def test_bad_pairs(self):
        meetings = Meetings(["a", "b", "c", "d"], [("a", "b"), ("c", "b")])
        for left, index in [([()], 0), ([("a",)], 0), ([("a", "c", "d")], 0), ([("a", "a")], 0), ([("a", "x")], 0),
                            ([("x", "a")], 0), ([("a", "b")], 0), ([("b", "a")], 0), ([("a", "c"), ("c", "b")], 1),
                            ([("a", "c"), ("c", "a"), ("d", "d"), ("a", "b")], 2), ([("a", "d")] * 250 + [("",)], 250)]:
            check_raises(self, BadPair, {"index": index}, stays, meetings, left)
            check_raises(self, BadPair, {"index": index}, stays, meetings, tuple(list(pair) for pair in left))

    def test_bad_pairs_come_first(self):
        check_raises(self, BadPair, {"index": 1}, stays, RING, [("ann", "cy"), ("ann", "bo")])
        with self.assertRaises(NoStays):
            stays(RING, [("ann", "cy"), ("cy", "ann")])
        with self.assertRaises(Clash):
            stays(Meetings(["a", "b"], []), [("a", "b"), ("b", "a")])
        self.assertFalse(issubclass(BadPair, UnknownGuest))

    def test_both_kinds(self):
        for meetings, kind in [(RING, "ring"), (STAR, "three"), (SUN, "three")]:
            with self.assertRaises(NoStays) as caught:
                stays(meetings)
            self.assertEqual(caught.exception.kind, kind)
            self.check_no_stays(meetings, **vars(caught.exception))

    def test_rings_of_all_lengths(self):
        for many in range(4, 11):
            pairs = [(GUESTS[at], GUESTS[(at + 1) % many]) for at in range(many)]
            self.assertFalse(self.check_either(Meetings(GUESTS[:many], pairs)))
            self.assertTrue(self.check_either(Meetings(GUESTS[:many], pairs[1:])))

    def test_other_guests_beside_the_star(self):
        pairs = [*STAR.pairs, ("hal", "ann"), ("ivy", "gus"), ("jo", "ivy")]
        self.assertFalse(self.check_either(Meetings(GUESTS, pairs)))
        self.assertFalse(self.check_either(Meetings(GUESTS[::-1], pairs[::-1])))


class RoomsTest(unittest.TestCase):
    def some_meetings(self):
        random = Random(345)
        found = [meetings for meetings in all_meetings(5) if company_orders(meetings)]
        return found + [meetings_of_stays(random, random.randint(6, 10))[0] for _ in range(200)]

    def test_rooms(self):
        for meetings in self.some_meetings():
            found = rooms(meetings)
            self.assertIsInstance(found, dict)
            self.assertEqual(list(found), list(meetings.guests))
            for a, b in meetings.pairs:
                self.assertNotEqual(found[a], found[b])
            many = max([len(company) for company in companies_of(meetings)], default=0)
            self.assertEqual(sorted(set(found.values())), list(range(many)))

    def test_strangers(self):
        for meetings in self.some_meetings():
            found = strangers(meetings)
            self.assertIsInstance(found, tuple)
            guests, companies = found
            self.assertTrue(isinstance(guests, tuple) and isinstance(companies, tuple))
            self.assertTrue(set(guests) <= set(meetings.guests))
            self.assertEqual((len(set(guests)), len(companies)), (len(guests), len(guests)))
            self.assertFalse(any(have_met(meetings, a, b) for a, b in combinations(guests, 2)))
            self.assertTrue(all(company in companies_of(meetings) for company in companies))
            self.assertEqual({guest for company in companies for guest in company}, set(meetings.guests))

    def test_few_guests(self):
        self.assertEqual((rooms(Meetings([], [])), strangers(Meetings([], []))), ({}, ((), ())))
        self.assertEqual((rooms(Meetings(["a"], [])), strangers(Meetings(["a"], []))),
                         ({"a": 0}, (("a",), (("a",),))))

    def test_no_stays(self):
        for meetings in (RING, STAR, SUN):
            for call in (rooms, strangers):
                with self.assertRaises(NoStays):
                    call(meetings)


if __name__ == "__main__":
    unittest.main()
