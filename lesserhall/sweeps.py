"""Stops: the numbers at which a person stays; halls without rounds swept, and all their rests, by these."""

from lesserhall.errors import TooMany
from lesserhall.limits import MOST_RESTS
from lesserhall.rules import told_of
from lesserhall.turns import lot_below, told_at
from lesserhall.webs import others_seen, seen_first


def told_by_others(hall, standing, person, bound):
    """The number that person's rule tells of those others it sees who show less than the bound."""
    lot = [pair for pair in lot_below(hall, standing, person, bound) if pair[0] != person]
    return told_of(hall.rule(person), lot)


def stops_of(hall, standing, person):
    """The rising list of the numbers that person's rule tells of those others it sees who show less than that."""
    shown = [standing[other] for other in others_seen(hall, person)]
    # Below any number just those show less who do below one of these: so no other number can be told.
    bounds = [*shown, max(shown, default=0) + 1]
    told = [told_by_others(hall, standing, person, bound) for bound in bounds]
    return [number for number in sorted(set(told)) if told_by_others(hall, standing, person, number) == number]


def nearest_stop(stops, shown, told):
    """The stop that who shows a number comes to, where a turn tells it another one: up to more, down to less."""
    if told > shown:
        return min([stop for stop in stops if stop > shown])
    return max([stop for stop in stops if stop <= shown])


def shown_by(standing, person, number):
    """The standing in which that person shows that number."""
    return standing[:person] + (number,) + standing[person + 1:]


def swept(hall, standing):
    """The standing in which, person by person, each has come to its nearest stop."""
    here = standing
    for person in seen_first(hall):
        stops = stops_of(hall, here, person)
        told = told_at(hall, here, person)
        here = shown_by(here, person, nearest_stop(stops, here[person], told))
    return here


def rests_on(hall):
    """The rising list of all rests of a hall without rounds."""
    rests = [(0,) * len(hall)]
    for person in seen_first(hall):
        rests = [shown_by(one, person, stop) for one in rests for stop in stops_of(hall, one, person)]
        # Each person has a stop, whatever the others show: so they never become fewer again.
        if len(rests) > MOST_RESTS:
            raise TooMany(MOST_RESTS)
    return sorted(rests)
