"""What several tests make their projects, rules and runs with."""

from askwright.errors import Clash
from askwright.house import way_of
from askwright.keeps import Keep
from askwright.plain import full_run
from askwright.project import Project, with_source, without
from askwright.rules import is_rule

NO_NAMES = ("", "A", "1a", "a b", "x" * 25, None, 4, True, ["a"], ("a",))


def asks_for(*names):
    """A rule that asks for each of these and says the row of what it got."""
    lines = ["row a"]
    for name in names:
        lines += [f"text b {name}", "ask c b", "put a c"]
    return ("rule", tuple(lines) + ("say a",))


def passes_on(name):
    return ("rule", (f"text b {name}", "ask a b", "say a"))


def project_of(**sources):
    return Project(tuple(sources.items()))


def some_project(chance):
    names = [f"n{number}" for number in range(chance.randrange(2, 9))]
    pairs = [(name, some_source(chance, names)) for name in names if chance.random() < 0.9]
    return names, Project(tuple(pairs))


def some_source(chance, names):
    kind = chance.choice(("leaf", "leaf rule", "made", "rule", "rule", "rule"))
    if kind == "made":
        return ("made", chance.choice(names))
    if kind == "leaf rule":
        return ("leaf", some_rule(chance, names))
    if kind == "leaf":
        return ("leaf", chance.choice(("", "x", (), ("x",), names[0])))
    return ("rule", some_rule(chance, names))


def some_rule(chance, names):
    lines = []
    for step in range(chance.randrange(1, 4)):
        name = chance.choice(names)
        lines.append(f"text b {name}")
        lines.append(chance.choice(("ask a b", "ask c b", "has a b", "names a b")))
        lines.append(chance.choice(("row d", "none a 1", "rowed a 3", "size c a", "ask a a", "self b")))
    return tuple(lines) + (chance.choice(("say a", "say a", "say c", "fault", "nothing")),)


def some_change(chance, project, names):
    """Another project: a name's source put otherwise, or taken from it."""
    name = chance.choice(names)
    if project.source_of(name) is not None and chance.random() < 0.2:
        return without(project, name)
    return with_source(project, name, some_source(chance, names))


def layered_project(chance):
    """A project most of whose things ask for earlier ones, so that most have values."""
    names = [f"n{number}" for number in range(chance.randrange(4, 10))]
    return names, Project(tuple((name, layered_source(chance, names, name)) for name in names if chance.random() < 0.9))


def layered_source(chance, names, name):
    earlier = names[:names.index(name)]
    if not earlier or chance.random() < 0.2:
        return ("leaf", chance.choice(("", "x", "y", ("x",), ("say a",), ("self a", "say a"), names[0])))
    if chance.random() < 0.15:
        return ("made", chance.choice(earlier))
    return ("rule", layered_rule(chance, earlier if chance.random() < 0.9 else names))


def layered_rule(chance, names):
    lines = ["row a"]
    for step in range(chance.randrange(1, 4)):
        lines.append(f"text b {chance.choice(names)}")
        lines.append(chance.choice(("ask c b", "ask c b", "ask c b", "has c b", "names c b")))
        lines.append(chance.choice(("put a c", "put a c", "size d c", "none c END", "rowed c END", "put a b")))
    lines.append(chance.choice(("say a", "say a", "say c", "fault", "self a")))
    lines.append("say a")
    return tuple(line.replace("END", str(len(lines))) for line in lines)


def layered_change(chance, project, names):
    name = chance.choice(names)
    if project.source_of(name) is not None and chance.random() < 0.2:
        return without(project, name)
    return with_source(project, name, layered_source(chance, names, name))


def run_of(end, *asks):
    return (asks, end)


def keep_of(*ways):
    keep = Keep()
    for rule, own, run, givers in ways:
        keep.put(rule, own, run, givers)
    return keep


def runs_in(tree):
    return tuple(run for run, givers in tree.ways())


def ways_in(keep):
    """All that a keep has, as (rule, own, run, givers), by its keys and ways."""
    return tuple((rule, own, run, givers) for rule, own in keep.kept_keys()
                 for run, givers in keep.tree_of(rule, own).ways())


def key_and_run(project, name):
    """A thing's key, None where it has none, and its full run without the ask for its rule."""
    asks, end = full_run(project, name)
    kind, tree = project.source_of(name)
    if kind == "made":
        tree = asks[0][1] if asks else None
        asks = asks[1:]
    return ((tree, name) if is_rule(tree) else None), (asks, end)


def plain_deed(project, name, keep):
    """What a house with this keep of honest ways does for a thing, told by its full run."""
    key, (asks, end) = key_and_run(project, name)
    if key is None:
        return ("none", name)
    kept = runs_in(keep.tree_of(*key))
    gone = 0
    while kept and gone < len(asks):
        gone += 1
        kept = [run for run in kept if run[0][:gone] == asks[:gone]]
    if kept:
        return ("stuck" if end[0] == "stuck" else "used", name, gone)
    return ("left" if end[0] == "stuck" else "done", name, gone, len(asks))


def has_rule(project, name):
    """Whether a thing goes on by stretches: a rule's or made one."""
    return (project.source_of(name) or ("none",))[0] in ("rule", "made")


def next_news(project, name, ended):
    """What a thing's stretch tells where just these have ended, told by its full run."""
    asks, end = full_run(project, name)
    wanted = [ask[1] for ask, answer in asks if ask[0] in ("thing", "rule")]
    if end[0] == "stuck":
        wanted.append(end[1])
    for other in wanted:
        if has_rule(project, other) and other not in ended:
            return ("waits", other)
    return ("ended", end)


def turned_run(chance, run, names):
    """A run put otherwise at some place, still one that may be kept; perhaps a lie."""
    asks, end = run
    place = chance.randrange(len(asks) + 1)
    name = chance.choice(names)
    fresh = chance.choice(((("thing", name), chance.choice((None, "x", ("x",)))), (("has", name), "no"),
                           (("names", name), (name,))))
    end = chance.choice((end, end, ("said", "lie"), ("fault", "told")))
    return chance.choice(((asks, ("said", "lie")), (asks[:place], end), (asks[:place] + (fresh,) + asks[place:], end),
                          (asks[:place] + (fresh,) + asks[place + 1:], end), (asks[:place] + asks[place + 1:], end),
                          (asks + (fresh,), end), (asks[:place] + asks[place:][::-1], end)))


def some_keep(chance, project, names):
    """Ways of a project's things, honest ones and others, with some givers; what clashes is left out."""
    keep = Keep()
    for name in chance.choices(names, k=3 * len(names)):
        way = way_of(project, name)
        if way is None:
            continue
        rule, own, run = way
        if chance.random() < 0.6:
            run = turned_run(chance, run, names)
        try:
            keep.put(rule, own, run, tuple(sorted(chance.sample(range(100), chance.randrange(3)))))
        except Clash:
            pass
    return keep
