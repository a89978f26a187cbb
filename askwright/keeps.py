"""Keeps: a tree of asks for each of some keys, a key being a rule and its own name."""

from askwright.asktree import AskTree, first_clash
from askwright.errors import BadName, BadRule
from askwright.rules import is_rule
from askwright.trees import is_name, tree_key


class Keep:
    def __init__(self):
        # Never an empty tree: a key stands here just where a way of it is kept.
        self.trees = {}

    def put(self, rule, own, run, givers):
        if not is_rule(rule):
            raise BadRule("a key has a rule")
        if not is_name(own):
            raise BadName("a key has the name that its rule runs for")
        tree = self.tree_at(rule, own)
        tree.put(run, givers)
        self.trees[(rule, own)] = tree

    def lay(self, rule, own, run, givers):
        # As put, of what another keep has or a machine has done.
        tree = self.tree_at(rule, own)
        tree.lay(run, givers)
        self.trees[(rule, own)] = tree

    def tree_at(self, rule, own):
        # The kept tree itself; an empty one is not kept yet, so that a refused deed leaves none behind.
        return self.trees.get((rule, own), AskTree())

    def tree_of(self, rule, own):
        return self.tree_at(rule, own).copy()

    def kept_keys(self):
        return tuple(sorted(self.trees, key=key_order))

    def all_ways(self):
        # Each way as (rule, own, run, givers), in order of keys and ways.
        found = []
        for rule, own in self.kept_keys():
            found.extend([(rule, own, run, givers) for run, givers in self.trees[(rule, own)].ways()])
        return tuple(found)

    def walk(self, rule, own, answers):
        return self.tree_at(rule, own).walk(answers)

    def first_way(self, rule, own, answers):
        return self.tree_at(rule, own).first_way(answers)

    def take_out(self, rule, own, run):
        tree = self.tree_at(rule, own)
        tree.take_out(run)
        if tree.walk(())[1] is None:
            self.trees.pop((rule, own))

    def many(self):
        return sum([len(tree.ways()) for tree in self.trees.values()])

    def copy(self):
        other = Keep()
        other.trees = dict([(key, tree.copy()) for key, tree in self.trees.items()])
        return other


def key_order(key):
    return (tree_key(key[0]), key[1])


def laid_on(keep, other):
    both = keep.copy()
    for rule, own, run, givers in other.all_ways():
        both.lay(rule, own, run, givers)
    return both


def clashes(keep, other):
    found = []
    for rule, own in keep.kept_keys():
        clash = first_clash(keep.tree_at(rule, own), other.tree_at(rule, own))
        if clash is not None:
            found.append((rule, own, clash))
    return tuple(found)
