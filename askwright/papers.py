"""Papers: the full runs of all that an answer came by, told step by step."""

from askwright.plain import order_from


def paper_of(project, name):
    full_runs = order_from(project, name).full_runs
    return tuple([(met, run[0], run[1]) for met, run in full_runs.items()])


def put_together(paper, other):
    first_steps = {}
    for step in paper + other:
        first_steps.setdefault(step[0], step)
    return tuple(first_steps.values())
