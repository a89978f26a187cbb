"""What an answer hangs on: the foot of a name, and the reason why it stands unlike in two projects."""

from askwright.papers import paper_of
from askwright.plain import order_from


def foot_of(project, name):
    names = [name]
    asks = []
    for step in paper_of(project, name):
        # That at which a step is stuck is a step itself.
        names.append(step[0])
        names.extend([ask[1] for ask, answer in step[1] if ask[0] in ("thing", "rule")])
        asks.extend([ask for ask, answer in step[1] if ask[0] in ("has", "names")])
    return (tuple(sorted(set(names))), tuple(sorted(set(asks))))


def stands(project, name):
    return standing(order_from(project, name), name)


def standing(order, name):
    # A thing that the order has gone through.
    answer = order.answer_yet(name)
    return answer if answer[0] in ("value", "lack") else ("none",)


def reason(project, other, name):
    one = order_from(project, name)
    two = order_from(other, name)
    if standing(one, name) == standing(two, name):
        return None
    names = [name]
    places = []
    # In the project in which the name has a value each name of the way has one, too, earlier than the one ahead of it.
    while project.source_of(names[-1]) == other.source_of(names[-1]):
        asks = one.full_runs[names[-1]][0]
        others = two.full_runs[names[-1]][0]
        place = first_unlike(asks, others)
        # Where the one is stuck the other one tells what is asked for.
        ask = (asks[place:] + others[place:])[0][0]
        if ask[0] in ("has", "names"):
            return (tuple(names), tuple(places), ("ask", ask))
        places.append(place)
        names.append(ask[1])
    return (tuple(names), tuple(places), ("source",))


def first_unlike(asks, others):
    place = 0
    while asks[place:place + 1] == others[place:place + 1]:
        place += 1
    return place


def reason_holds(project, other, name, told):
    # Just one is right, so there is no need to look at it part by part.
    return reason(project, other, name) == told
