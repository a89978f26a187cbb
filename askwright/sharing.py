"""Sharing: the ways of one keep put to another one, all of them or by their givers."""

from askwright.errors import Clash
from askwright.keeps import Keep


def put_all(keep, other):
    both = keep.copy()
    left = []
    for rule, own, run, givers in other.all_ways():
        try:
            both.lay(rule, own, run, givers)
        except Clash:
            left.append((rule, own, run))
    return (both, tuple(left))


def trusted(keep, givers):
    return ways_given(keep, givers, True)


def shunned(keep, givers):
    return ways_given(keep, givers, False)


def ways_given(keep, givers, by_one):
    # The ways that have one of the givers, or those that have none of them.
    found = Keep()
    for rule, own, run, own_givers in keep.all_ways():
        if any([giver in givers for giver in own_givers]) == by_one:
            found.lay(rule, own, run, own_givers)
    return found
