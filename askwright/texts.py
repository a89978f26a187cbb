"""Texts: projects, papers and keeps written as lines, and read back."""

from askwright.project import Project
from askwright.readers import KeepReader, PaperReader, ProjectReader, read_by
from askwright.trees import tree_text


def project_text(project):
    return with_line_ends([source_line(name, source) for name, source in project.sources()])


def read_project(text):
    return Project(tuple(read_by(ProjectReader(), text).pairs))


def paper_text(paper):
    return with_line_ends(paper_lines(paper))


def read_paper(text):
    return tuple(read_by(PaperReader(), text).steps)


def keep_text(keep):
    lines = []
    for rule, own in keep.kept_keys():
        lines.append(" ".join(["key", own, tree_text(rule)]))
        for run, givers in keep.tree_of(rule, own).ways():
            lines.append(" ".join(["way", givers_text(givers)]))
            lines.extend(run_lines(run[0], run[1]))
    return with_line_ends(lines)


def read_keep(text):
    return read_by(KeepReader(), text).kept


def with_line_ends(lines):
    return "".join([f"{line}\n" for line in lines])


def source_line(name, source):
    return " ".join([source[0], name, source[1] if source[0] == "made" else tree_text(source[1])])


def paper_lines(paper):
    lines = []
    for name, asks, end in paper:
        lines.append(f"step {name}")
        lines.extend(run_lines(asks, end))
    return lines


def run_lines(asks, end):
    return [ask_line(ask, answer) for ask, answer in asks] + [word_line(end)]


def ask_line(ask, answer):
    return " ".join([ask[0], tree_text(ask[1]), "none" if answer is None else tree_text(answer)])


def word_line(told):
    # An end or an answer: a word, and perhaps what it is of.
    if told[0] in ("said", "value"):
        return " ".join([told[0], tree_text(told[1])])
    return " ".join(told)


def givers_text(givers):
    return "." if givers == () else ",".join([str(giver) for giver in givers])
