"""Trees of asks: all kept runs of one rule and name, laid into one tree."""

from askwright.asks import is_run
from askwright.errors import BadKeep, Clash
from askwright.trees import tree_key

MOST_GIVER = 99


class Node:
    # An ask with an edge for each of its answers, or an end with the way that ends there.

    def __init__(self, there):
        self.there = there
        self.edges = {}
        self.way = None
        self.givers = ()


class AskTree:
    def __init__(self):
        self.beginning = None

    def put(self, run, givers):
        if not is_run(run):
            raise BadKeep("what is put is no run")
        if not are_givers(givers):
            raise BadKeep("givers are a rising tuple of numbers from 0 to 99")
        self.lay(run, givers)

    def lay(self, run, givers):
        # What is known to be a run is not looked at again; nor is the number of a house, which nothing bounds.
        if self.beginning is None:
            self.beginning = branch(run, givers, 0)
            return
        node = self.beginning
        for place, pair in enumerate(run[0]):
            if node.there != ("asks", pair[0]):
                raise Clash("the run asks where the tree has something else")
            if pair[1] not in node.edges:
                node.edges[pair[1]] = branch(run, givers, place + 1)
                return
            node = node.edges[pair[1]]
        if node.there != run[1]:
            raise Clash("the run ends where the tree has something else")
        node.givers = tuple(sorted(set(node.givers) | set(givers)))

    def ways(self):
        found = []
        waiting = [] if self.beginning is None else [self.beginning]
        while waiting:
            node = waiting.pop()
            if node.way is not None:
                found.append((node.way, node.givers))
            # The least answer goes onto the stack last, so that it is taken first.
            for answer in sorted(node.edges, key=answer_key, reverse=True):
                waiting.append(node.edges[answer])
        return tuple(found)

    def walk(self, answers):
        gone = []
        node = self.beginning
        for answer in answers:
            if node is None or node.there[0] != "asks":
                break
            if answer not in node.edges:
                return (tuple(gone), None)
            gone.append((node.there[1], answer))
            node = node.edges[answer]
        return (tuple(gone), None if node is None else node.there)

    def first_way(self, answers):
        # The least way by these answers, with its givers; they are such as a walk takes all of.
        node = self.beginning
        for answer in answers:
            node = node.edges[answer]
        while node.way is None:
            node = node.edges[min(node.edges, key=answer_key)]
        return (node.way, node.givers)

    def take_out(self, run):
        if not is_run(run):
            raise BadKeep("what is taken out is no run")
        node = self.beginning
        parting = None
        edge = None
        for ask, answer in run[0]:
            if node is None or node.there != ("asks", ask):
                raise BadKeep("the run is no way of the tree")
            # Behind the last node with other edges the way goes alone: all of that goes with it.
            if len(node.edges) > 1:
                parting = node
                edge = answer
            node = node.edges.get(answer)
        if node is None or node.there != run[1]:
            raise BadKeep("the run is no way of the tree")
        if parting is None:
            self.beginning = None
        else:
            parting.edges.pop(edge)

    def copy(self):
        other = AskTree()
        if self.beginning is not None:
            other.beginning = copied(self.beginning)
        return other


def are_givers(value):
    if not isinstance(value, tuple):
        return False
    last = -1
    for giver in value:
        if not isinstance(giver, int) or isinstance(giver, bool) or not last < giver <= MOST_GIVER:
            return False
        last = giver
    return True


def answer_key(answer):
    # None goes ahead of all trees, whose keys begin with greater numbers.
    return (0,) if answer is None else tree_key(answer)


def branch(run, givers, place):
    # The nodes of a run from that place on.
    node = Node(run[1])
    node.way = run
    node.givers = givers
    for pair in reversed(run[0][place:]):
        above = Node(("asks", pair[0]))
        above.edges[pair[1]] = node
        node = above
    return node


def twin(node):
    other = Node(node.there)
    other.way = node.way
    other.givers = node.givers
    return other


def copied(node):
    # Node by node: a way may be longer than calls may stand within one another.
    top = twin(node)
    waiting = [(node, top)]
    while waiting:
        pair = waiting.pop()
        below = [(answer, deeper, twin(deeper)) for answer, deeper in pair[0].edges.items()]
        pair[1].edges = dict([(answer, other) for answer, deeper, other in below])
        waiting.extend([(deeper, other) for answer, deeper, other in below])
    return top


def clash_of(run, other):
    return first_clash_below(branch(run, (), 0), branch(other, (), 0))


def first_clash(tree, other):
    if tree.beginning is None or other.beginning is None:
        return None
    return first_clash_below(tree.beginning, other.beginning)


def first_clash_below(node, other):
    # Level by level, each in the order of its answers: so the first clash met is the one to be told.
    level = [((), node, other)]
    while level:
        below = []
        for asks, one, two in level:
            if one.there != two.there:
                return (asks, one.there, two.there)
            for answer in sorted(one.edges, key=answer_key):
                if answer in two.edges:
                    further = asks + ((one.there[1], answer),)
                    below.append((further, one.edges[answer], two.edges[answer]))
        level = below
    return None
