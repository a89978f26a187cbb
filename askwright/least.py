"""The ways that answers use, and the least keep that serves them."""

from askwright.house import way_in
from askwright.keeps import Keep
from askwright.plain import order_over


def ways_used(project, names):
    order = order_over(project, names)
    ways = [way_in(order, name) for name in sorted(order.full_runs)]
    return tuple([way for way in ways if way is not None])


def least_keep(states):
    keep = Keep()
    for project, names in states:
        for rule, own, run in ways_used(project, names):
            keep.lay(rule, own, run, ())
    return keep
