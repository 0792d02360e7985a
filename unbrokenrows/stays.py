"""Stays: from which moment to which one each guest was there, by who has met whom."""

from unbrokenrows.clashes import shortest_path
from unbrokenrows.errors import BadPair, NoLayout, NoStays, TooMany
from unbrokenrows.keeping import kept_leads
from unbrokenrows.meetings import company_table
from unbrokenrows.names import first_stray
from unbrokenrows.orders import extent
from unbrokenrows.parts import named
from unbrokenrows.trees import Tree


def stays(meetings, left=()):
    """A stay for each guest, such that those have a moment in common who have met."""
    _check_left(meetings, left)
    table, tree = _table_and_tree(meetings)
    leads = kept_leads(tree, [_columns_apart(meetings, table, pair) for pair in left])
    order = named(leads.first(), table.columns)
    return {guest: extent(table, order, number) for number, guest in enumerate(meetings.guests)}


def _check_left(meetings, left):
    for index, pair in enumerate(left):
        if len(pair) != 2 or first_stray(meetings.guests, pair) is not None or meetings.met(pair[0], pair[1]):
            raise BadPair(index)


def _table_and_tree(meetings):
    """The table of the companies and its tree. Raises NoStays."""
    try:
        table = company_table(meetings)
        return table, Tree.of(table)
    except (TooMany, NoLayout):
        kind, guests, ways = _ring_of_guests(meetings) or _three_guests(meetings)
        raise NoStays(kind, guests, ways) from None


# All companies of one guest lie on the same side of all those of another one whom they have not met.
def _columns_apart(meetings, table, pair):
    one, other = [table[meetings.guests.index(guest)] for guest in pair]
    return one[0], other[0]


def _ring_of_guests(meetings):
    """Four or more guests on a ring who have met their neighbours alone, None if there are none."""
    for guest in meetings.guests:
        friends = [other for other in meetings.guests if meetings.met(guest, other)]
        for one, other in _strange_pairs(meetings, friends):
            barred = [friend for friend in [guest, *friends] if friend not in (one, other)]
            way = _way(meetings, one, other, barred)
            if way is not None:
                return "ring", (guest, *way), ()
    return None


def _strange_pairs(meetings, guests):
    """The pairs of these guests who have not met, each once."""
    return [(one, other) for at, one in enumerate(guests) for other in guests[at + 1:]
            if not meetings.met(one, other)]


def _way(meetings, start, end, barred):
    """A shortest way from guest to guest who have met, with nobody on it who is barred, None if there is none."""
    pairs = [pair for pair in meetings.pairs if pair[0] not in barred and pair[1] not in barred]
    return shortest_path([*pairs, *[(other, one) for one, other in pairs]], start, end)


def _three_guests(meetings):
    """Three guests, each two of whom a way joins that is away from the third one."""
    for a, b in _strange_pairs(meetings, meetings.guests):
        for c in meetings.guests:
            if c not in (a, b):
                ways = [_way_away(meetings, a, b, c), _way_away(meetings, b, c, a), _way_away(meetings, c, a, b)]
                if None not in ways:
                    return "three", (a, b, c), tuple([tuple(way) for way in ways])
    return None


def _way_away(meetings, start, end, third):
    """A way on which nobody is a third guest or has met them, None if there is none."""
    friends = [guest for guest in meetings.guests if meetings.met(guest, third)]
    return _way(meetings, start, end, [third, *friends])


def rooms(meetings):
    """A room for each guest, such that those who have met have different rooms, with as few as possible."""
    found = stays(meetings)
    given = {}
    # Friends who came earlier and have a room are all still there, so they are in one company with this guest.
    for _, number in sorted([(found[guest][0], number) for number, guest in enumerate(meetings.guests)]):
        guest = meetings.guests[number]
        taken = [given[other] for other in given if meetings.met(guest, other)]
        given[guest] = min([room for room in range(len(taken) + 1) if room not in taken])
    return {guest: given[guest] for guest in meetings.guests}


def strangers(meetings):
    """Guests no two of whom have met, and as many full companies that hold all guests."""
    found = stays(meetings)
    chosen = []
    companies = []
    # Whoever is still there when a chosen guest leaves is in one company with this guest.
    for last, number in sorted([(found[guest][1], number) for number, guest in enumerate(meetings.guests)]):
        guest = meetings.guests[number]
        if not any([meetings.met(guest, other) for other in chosen]):
            chosen.append(guest)
            companies.append(_company_at(meetings, found, last))
    return tuple(chosen), tuple(companies)


def _company_at(meetings, found, moment):
    return tuple([guest for guest in meetings.guests if found[guest][0] <= moment <= found[guest][1]])
