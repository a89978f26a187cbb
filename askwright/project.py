"""Projects: what things there are, and where each comes from."""

from askwright.asks import is_pair
from askwright.errors import BadName, BadThing, NoThing
from askwright.trees import is_name, is_tree

MOST_NAMES = 60


def is_source(value):
    if not is_pair(value):
        return False
    if value[0] == "made":
        return is_name(value[1])
    return value[0] in ("leaf", "rule") and is_tree(value[1])


class Project:
    def __init__(self, sources):
        by_name = {}
        for name, source in sources:
            if not is_name(name):
                raise BadName("a source is put to a name alone")
            if not is_source(source):
                raise BadThing("what is put to a name is no source")
            if name in by_name:
                raise BadThing("a name has one source at most")
            if len(by_name) == MOST_NAMES:
                raise BadThing("a project has sources for too many names")
            by_name[name] = source
        self.by_name = dict([(name, by_name[name]) for name in sorted(by_name)])

    def sources(self):
        return tuple(self.by_name.items())

    def source_of(self, name):
        return self.by_name.get(name)

    def looked_up(self, ask):
        if ask[0] == "has":
            return "yes" if ask[1] in self.by_name else "no"
        return longest_row([name for name in self.by_name if name.startswith(ask[1])])


def longest_row(names):
    # As many from the first on as make a tree.
    row = ()
    for name in names:
        if not is_tree(row + (name,)):
            break
        row = row + (name,)
    return row


def with_source(project, name, source):
    others = [pair for pair in project.sources() if pair[0] != name]
    return Project(tuple(others) + ((name, source),))


def without(project, name):
    if project.source_of(name) is None:
        raise NoThing("the name has no source")
    return Project(tuple([pair for pair in project.sources() if pair[0] != name]))


def unlike_names(project, other):
    names = [name for name, source in project.sources() + other.sources()]
    return tuple([name for name in sorted(set(names)) if project.source_of(name) != other.source_of(name)])


def alike_on(project, other, names, asks):
    for name in names:
        if project.source_of(name) != other.source_of(name):
            return False
    for ask in asks:
        if project.looked_up(ask) != other.looked_up(ask):
            return False
    return True
