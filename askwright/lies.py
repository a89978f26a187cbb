"""Lies: kept ways that the machine of their rule and name does not do."""

from askwright.machine import Machine, asks_that_stand, does


def lie_place(rule, own, run):
    if does(rule, own, run):
        return None
    return asks_that_stand(Machine(rule, own), run[0])


def lies_of(keep):
    found = []
    for rule, own, run, givers in keep.all_ways():
        place = lie_place(rule, own, run)
        if place is not None:
            found.append((rule, own, run, place, givers))
    return tuple(found)


def cleared(keep):
    honest = keep.copy()
    for rule, own, run, place, givers in lies_of(keep):
        honest.take_out(rule, own, run)
    return honest


def liars(keep):
    found = []
    for lie in lies_of(keep):
        found.extend(lie[4])
    return tuple(sorted(set(found)))
