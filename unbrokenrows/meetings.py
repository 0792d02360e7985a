"""Meetings: guests, and who of them have met."""

from unbrokenrows.errors import BadMeetings, TooMany, UnknownGuest
from unbrokenrows.names import first_bad_name, first_stray
from unbrokenrows.parts import named, numbers_in
from unbrokenrows.tables import Table

MOST_GUESTS = 10
COLUMN_NAMES = "abcdefghijkl"


class Meetings:
    """At most 10 guests, and the pairs of guests who have met."""

    def __init__(self, guests, pairs):
        _check_guests(guests)
        _check_pairs(guests, pairs)
        self.guests = tuple(guests)
        self.pairs = tuple([tuple(pair) for pair in pairs])

    def met(self, a, b):
        """True if these two guests have met."""
        for name in (a, b):
            if name not in self.guests:
                raise UnknownGuest(name)
        return (a, b) in self.pairs or (b, a) in self.pairs

    def companies(self):
        """All full companies, sorted by the numbers of their guests."""
        known = [self._known_by(guest) for guest in self.guests]
        full = [numbers_in(mask) for mask in range(1, 1 << len(known)) if _is_full(mask, known)]
        return [tuple(named(numbers, self.guests)) for numbers in sorted(full)]

    def _known_by(self, guest):
        """The set of the guests whom a guest has met, as a mask."""
        return sum([1 << number for number, other in enumerate(self.guests) if self.met(guest, other)])


def _check_guests(guests):
    if len(guests) > MOST_GUESTS:
        raise BadMeetings("guests", 0)
    index = first_bad_name(guests)
    if index is not None:
        raise BadMeetings("guest", index)


def _check_pairs(guests, pairs):
    earlier = []
    for index, pair in enumerate(pairs):
        if len(pair) != 2 or first_stray(guests, pair) is not None or sorted(pair) in earlier:
            raise BadMeetings("pair", index)
        earlier.append(sorted(pair))


# Exactly the guests of a full company have met all others of it: not more, since nobody can join it.
def _is_full(company, known):
    return company == sum([1 << number for number, mask in enumerate(known)
                           if company & ~(1 << number) & ~mask == 0])


def company_table(meetings):
    """The table with a column for each full company and a row for each guest."""
    companies = meetings.companies()
    if len(companies) > Table.MOST_COLUMNS:
        raise TooMany(len(companies))
    columns = list(COLUMN_NAMES[:len(companies)])
    return Table(columns, [_companies_with(guest, companies, columns) for guest in meetings.guests])


def _companies_with(guest, companies, columns):
    return [name for name, company in zip(columns, companies) if guest in company]
