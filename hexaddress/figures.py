"""Reckoning with figures and addresses."""

from hexaddress.addresses import address, centre, great, place_of, rest
from hexaddress.places import added, taken, turned


def figure_sum(one, other):
    total = added(place_of([one]), place_of([other]))
    # Two rests lie so near the middle that the centre of their sum is a rest itself.
    return (rest(centre(total)), rest(total))


def address_sum(one, other):
    return address(added(place_of(one), place_of(other)))


def address_less(one, other):
    return address(taken(place_of(one), place_of(other)))


def place_product(one, other):
    across = one[1] * other[1]
    return (one[0] * other[0] - across, one[0] * other[1] + one[1] * other[0] + across)


def address_product(one, other):
    return address(place_product(place_of(one), place_of(other)))


def address_turned(figures, sixths):
    return address(turned(place_of(figures), sixths))


def address_great(figures):
    return address(great(place_of(figures)))
