"""What the tests of meetings and stays use: all meetings of a few guests, and those of random stays."""

from functools import lru_cache
from itertools import combinations

from unbrokenrows.meetings import Meetings

GUESTS = ["ann", "bo", "cy", "di", "ed", "flo", "gus", "hal", "ivy", "jo"]


def all_meetings(most):
    """All meetings of up to so many guests."""
    found = []
    for many in range(most + 1):
        pairs = list(combinations(GUESTS[:many], 2))
        for mask in range(1 << len(pairs)):
            told = [pair if at % 2 else pair[::-1] for at, pair in enumerate(pairs) if mask >> at & 1]
            found.append(Meetings(GUESTS[:many], told))
    return found


def random_meetings(random, many):
    """Any pairs of so many guests, some of the time few of them and some of the time nearly all."""
    guests = random.sample(GUESTS, many)
    part = random.choice([0.2, 0.4, 0.6, 0.85])
    return Meetings(guests, [pair for pair in combinations(guests, 2) if random.random() < part])


def meetings_of_stays(random, many):
    """The meetings of so many guests with random stays, and these stays."""
    guests = random.sample(GUESTS, many)
    laid = {guest: sorted([random.randint(0, 12), random.randint(0, 12)]) for guest in guests}
    return Meetings(guests, meeting_pairs(laid)), laid


def meeting_pairs(laid):
    """The pairs of guests whose stays have a moment in common."""
    return [(a, b) for a, b in combinations(laid, 2) if laid[a][0] <= laid[b][1] and laid[b][0] <= laid[a][1]]


def have_met(meetings, a, b):
    return (a, b) in meetings.pairs or (b, a) in meetings.pairs


def companies_of(meetings):
    """All full companies, all sets of guests being tried."""
    return list(_companies(meetings.guests, frozenset(frozenset(pair) for pair in meetings.pairs)))


@lru_cache(maxsize=None)
def _companies(guests, pairs):
    sets = [numbers for size in range(1, len(guests) + 1) for numbers in combinations(range(len(guests)), size)]
    found = [numbers for numbers in sets
             if all({guests[one], guests[other]} in pairs for one, other in combinations(numbers, 2))]
    full = [numbers for numbers in found if not any(set(numbers) < set(other) for other in found)]
    return tuple(tuple(guests[number] for number in numbers) for numbers in sorted(full))
