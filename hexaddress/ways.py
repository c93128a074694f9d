"""Ways from place to place within a region."""

from hexaddress.errors import Apart, NoCell
from hexaddress.places import neighbours


def refuse_outside(region, place):
    if not region.holds(place):
        raise NoCell("the region does not hold the place")


def levels(region, place):
    refuse_outside(region, place)
    inside = {}
    for cell in region.cells():
        inside[cell] = True
    steps_to = {place: 0}
    reached = [place]
    walked = 0
    while walked < len(reached):
        now = reached[walked]
        walked += 1
        for beside in neighbours(now):
            if beside in inside and beside not in steps_to:
                steps_to[beside] = steps_to[now] + 1
                reached.append(beside)
    return steps_to


def first_one_nearer(place, steps_left):
    nearer = [beside for beside in neighbours(place) if steps_left.get(beside) == steps_left[place] - 1]
    return nearer[0]


def way(region, one, other):
    refuse_outside(region, one)
    # Told from the far end, the steps that are left show at each place which
    # neighbours lie on a shortest way.
    steps_left = levels(region, other)
    if one not in steps_left:
        raise Apart("no way leads from the one place to the other")
    places = [one]
    now = one
    while now != other:
        now = first_one_nearer(now, steps_left)
        places.append(now)
    return places
