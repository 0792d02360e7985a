"""What holds for many calls about rings and guests.

Points [71], [72] and [77]: other names, columns in another sequence, lines and rings. Points [2] and [3]: arguments
stay as they are, a tuple may stand for a list, and what is returned can be changed freely.
"""

import unittest
from copy import deepcopy
from itertools import permutations
from random import Random

from guests import GUESTS, all_meetings, have_met
from helpers import TWELVE, check_raises, layouts_of, small_tables, subsets, table_with_layout
from unbrokenrows.errors import NoLayout, NoRing, NoStays, RowsError
from unbrokenrows.meetings import Meetings, company_table
from unbrokenrows.rings import Ring, cut_table, is_ring_layout, ring_pattern, split
from unbrokenrows.rounds import Round
from unbrokenrows.stays import rooms, stays, strangers
from unbrokenrows.tables import Table
from unbrokenrows.trees import Tree

NEW_NAMES = {"a": "loose", "b": "firm", "c": "a", "d": "zebra", "e": "ring"}


def new(names):
    return [NEW_NAMES[name] for name in names]


def number_of(error, call, table):
    try:
        call(table)
    except error as found:
        return found.number
    return None


def tables(seed, many):
    """Small tables, most of them with ring layouts, some with rows turned inside out."""
    random = Random(seed)
    found = small_tables(seed, many) + small_tables(seed + 1, many // 2, 5, 12)
    for _ in range(many):
        columns = random.sample(TWELVE[:5], random.randint(1, 5))
        found.append(table_with_layout(random, columns, 3).turned(columns[-1]))
    return found


class NamesAndSequenceTest(unittest.TestCase):
    def test_renamed(self):
        for table in tables(350, 80):
            other = table.renamed(**{name: NEW_NAMES[name] for name in table.columns})
            number = number_of(NoRing, Ring.of, table)
            self.assertEqual(number_of(NoRing, Ring.of, other), number)
            if number is None:
                ring, renamed = Ring.of(table), Ring.of(other)
                self.assertEqual(list(renamed.ring_layouts()), [new(order) for order in ring.ring_layouts()])
                self.assertEqual(renamed.rank(new(ring.kth(ring.count() - 1))), ring.count() - 1)
                for names in subsets(table.columns):
                    self.assertIs(renamed.is_sure(new(names)), ring.is_sure(names))
                for four in permutations(table.columns, 4):
                    self.assertEqual(split(renamed, *new(four)).word, split(ring, *four).word)

    def test_reordered(self):
        random = Random(352)
        for table in tables(353, 80):
            moved = table.reordered(random.sample(table.columns, len(table.columns)))
            number = number_of(NoRing, Ring.of, table)
            self.assertEqual(number_of(NoRing, Ring.of, moved), number)
            if number is None:
                ring, other = Ring.of(table), Ring.of(moved)
                self.assertEqual(other.count(), ring.count())
                for order in ring.ring_layouts():
                    self.assertTrue(any(list(Round(order) << steps) in other for steps in range(max(1, len(order)))))
                for names in subsets(table.columns):
                    self.assertIs(other.is_sure(names), ring.is_sure(names))
                for four in permutations(table.columns, 4):
                    self.assertEqual(split(other, *four).word, split(ring, *four).word)

    def test_meetings_with_other_names(self):
        for meetings in all_meetings(4):
            told = {guest: GUESTS[::-1][at] for at, guest in enumerate(meetings.guests)}
            other = Meetings([told[guest] for guest in meetings.guests],
                             [(told[a], told[b]) for a, b in meetings.pairs[::-1]])
            self.assertEqual(other.companies(), [tuple(told[guest] for guest in one) for one in meetings.companies()])
            self.assertTrue(company_table(other) == company_table(meetings))


class LinesAndRingsTest(unittest.TestCase):
    """Point [77]."""

    def check_wide(self, table):
        wide = Table.empty("z") | table
        number = number_of(NoLayout, Tree.of, table)
        self.assertEqual(number_of(NoRing, Ring.of, wide), number)
        if number is None:
            self.assertTrue(Ring.of(wide).cut("z") == Tree.of(table))
        else:
            self.assertIsNotNone(ring_pattern(wide, "z"))

    def test_small_tables(self):
        for table in tables(354, 150):
            self.check_wide(table)
            if layouts_of(table):
                wide = Table.empty("z") | table
                self.assertEqual([order[1:] for order in Ring.of(wide).ring_layouts()], layouts_of(table))

    def test_greater_tables(self):
        random = Random(355)
        for _ in range(30):
            columns = random.sample(TWELVE[:11], 11)
            self.check_wide(table_with_layout(random, columns, random.randint(0, 48)))
            self.check_wide(Table(columns, [random.sample(columns, random.randint(1, 4)) for _ in range(6)]))

    def test_turned(self):
        random = Random(356)
        greater = [table_with_layout(random, TWELVE, random.randint(1, 12)) for _ in range(20)]
        for table in tables(357, 60) + greater:
            number = number_of(NoRing, Ring.of, table)
            for other in [~table, *[table.turned(name) for name in table.columns]]:
                self.assertEqual(number_of(NoRing, Ring.of, other), number)
                if number is None:
                    self.assertTrue(Ring.of(other) == Ring.of(table))


class ArgumentTest(unittest.TestCase):
    """Calls with all their lists at once."""

    TABLE = Table(["a", "b", "c", "d"], [["a", "b"], ["b", "c"], ["d", "a"]])
    MEETINGS = Meetings(["ann", "bo", "cy", "di"], [("bo", "ann"), ("cy", "bo")])

    def calls(self):
        table, ring, order = self.TABLE, Ring.of(self.TABLE), ["a", "d", "c", "b"]
        return [
            (lambda names: list(Round(names)), [order]), (lambda names: Round(names).cut("c"), [order]),
            (lambda told: is_ring_layout(table, told), [order]), (lambda told: told in ring, [order]),
            (lambda told: ring.rank(told), [order]), (lambda names: ring.is_sure(names), [["b", "a", "b"]]),
            (lambda guests, pairs: Meetings(guests, pairs).pairs, [["ann", "bo"], [("bo", "ann")]]),
            (lambda guests, pairs: Meetings(guests, pairs).companies(), [["ann", "bo", "cy"], [("bo", "ann")]]),
            (lambda left: stays(self.MEETINGS, left), [[("cy", "ann"), ("bo", "di")]]),
        ]

    def test_lists_stay_and_tuples_stand_for_them(self):
        for call, told in self.calls():
            passed = deepcopy(told)
            found = call(*passed)
            self.assertEqual(passed, told)
            self.assertEqual(call(*[tuple(one) for one in told]), found)
            inner = [[list(part) if isinstance(part, tuple) else part for part in one] for one in told]
            self.assertEqual(call(*inner), found)

    def test_objects_stay(self):
        table, ring, one = self.TABLE, Ring.of(self.TABLE), Round(["c", "a", "b", "d"])
        meetings = self.MEETINGS

        def shown():
            return (table.columns, table.rows, ring.columns, ring.count(), list(ring.ring_layouts()), list(one),
                    meetings.guests, meetings.pairs, meetings.companies(), stays(meetings), rooms(meetings))
        before = shown()
        found = [one << 3, one >> 1, ~one, one.cut("a"), one[5], one.splits("a", "b", "c", "d"), ring.cut("b"),
                 ring.is_sure(["a", "c"]), split(ring, "a", "b", "c", "d").yes, cut_table(table, "c"), ~table,
                 ring_pattern(table, "d"), strangers(meetings), company_table(meetings), meetings.met("ann", "cy")]
        self.assertEqual(len(found), 15)
        self.assertEqual(shown(), before)

    def test_returned_answers_can_be_changed(self):
        ring = Ring.of(Table.empty("a", "b", "c", "d"))
        for name in ("yes", "no"):
            before = list(getattr(split(ring, "a", "b", "c", "d"), name))
            getattr(split(ring, "a", "b", "c", "d"), name).clear()
            self.assertEqual(getattr(split(ring, "a", "b", "c", "d"), name), before)

    def test_errors_change_nothing(self):
        ring, one, meetings = Ring.of(self.TABLE), Round(["a", "b", "c"]), self.MEETINGS
        calls = [lambda: ring.kth(99), lambda: ring.rank(["a"]), lambda: ring.rank(["a", "c", "b", "d"]),
                 lambda: ring.cut("x"), lambda: one.cut("x"), lambda: one.splits("a", "a", "b", "x"),
                 lambda: meetings.met("x", "ann"), lambda: stays(meetings, [("ann", "bo")]),
                 lambda: stays(meetings, [("ann", "cy"), ("cy", "ann")]), lambda: split(ring, "a", "b", "c", "c")]
        for call in calls:
            with self.assertRaises(RowsError):
                call()
            self.assertEqual((ring.count(), list(one), len(meetings.companies())), (2, ["a", "b", "c"], 3))

    def test_no_stays_keeps_its_values(self):
        ring = Meetings(GUESTS[:4], [("ann", "bo"), ("bo", "cy"), ("cy", "di"), ("ann", "di")])
        with self.assertRaises(NoStays) as caught:
            stays(ring)
        self.assertTrue(have_met(ring, *caught.exception.guests[:2]))
        check_raises(self, NoStays, vars(caught.exception), stays, ring)


if __name__ == "__main__":
    unittest.main()
