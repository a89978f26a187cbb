"""Reports: what each of some names comes to, a line each."""

from askwright.papers import paper_of
from askwright.plain import answer_of, chain_of
from askwright.rounds import rounds_of
from askwright.texts import word_line


def report(project, names):
    lines = [name_line(project, name) for name in names]
    count = len(rounds_of(project, names))
    return tuple(lines) + (f"rounds {count}",)


def name_line(project, name):
    words = [name, word_line(answer_of(project, name)), "paper", str(len(paper_of(project, name)))]
    chain = chain_of(project, name)[0]
    if chain != ():
        words.append("chain")
        words.extend(chain)
    return " ".join(words)
