"""The desk: one house, told what to do line by line."""

from askwright.errors import BadThing, NoDeed, NoThing
from askwright.feet import foot_of
from askwright.house import House
from askwright.keeps import Keep
from askwright.papers import paper_of
from askwright.plain import chain_of
from askwright.project import Project, with_source, without
from askwright.readers import source_in
from askwright.rounds import rounds_of
from askwright.sharing import put_all
from askwright.texts import paper_lines, word_line
from askwright.trees import is_name

OF_NO_NAME = ("deeds", "keep", "back")
OF_ONE_NAME = ("out", "paper", "chain", "foot", "shelve", "take")
OF_NAMES = ("build", "rounds")


# What is told of a project and the names of a line.

def paper_told(project, names):
    return "\n".join(paper_lines(paper_of(project, names[0])))


def chain_told(project, names):
    chain = chain_of(project, names[0])
    ring = ("ring",) + chain[1] if chain[1] != () else ()
    return " ".join(chain[0] + ring)


def rounds_told(project, names):
    return "\n".join([" ".join(those) for those in rounds_of(project, names)])


def foot_told(project, names):
    return " ".join(foot_of(project, names[0])[0])


TOLD_OF_PROJECTS = {
    "paper": paper_told,
    "chain": chain_told,
    "rounds": rounds_told,
    "foot": foot_told,
}


class Desk:
    def __init__(self):
        self.house = House(Project(()), Keep(), 0)
        # The deeds of the last build that stands.
        self.built = ()
        self.shelf = {}
        # The house and those deeds ahead of each deed that stands; each deed is done by another house.
        self.past = []

    def run(self, text):
        return tuple([self.asked(line) for line in text.split("\n")[:-1]])

    def asked(self, line):
        try:
            return self.answered(line)
        except NoThing:
            return "refused NoThing"
        except BadThing:
            return "refused BadThing"
        except NoDeed:
            return "refused NoDeed"

    def answered(self, line):
        pair = source_in(line)
        if pair is not None:
            return self.set_out(with_source(self.house.project(), pair[0], pair[1]))
        pieces = line.split(" ")
        word = pieces[0]
        names = tuple(pieces[1:])
        if not is_line(word, names):
            return "refused line"
        if word in TOLD_OF_PROJECTS:
            return TOLD_OF_PROJECTS[word](self.house.project(), names)
        return self.done_with_names(word, names) if names else self.done_alone(word)

    def done_with_names(self, word, names):
        if word == "out":
            return self.set_out(without(self.house.project(), names[0]))
        if word == "build":
            return self.build(names)
        if word == "take":
            return self.take(names[0])
        self.shelf[names[0]] = self.house.keep()
        return "done"

    def done_alone(self, word):
        if word == "keep":
            return str(self.house.keep().many())
        if word == "deeds":
            return "\n".join([" ".join([str(part) for part in deed]) for deed in self.built])
        return self.go_back()

    def set_out(self, project):
        house = self.another_house()
        house.set_project(project)
        self.do(house, self.built)
        return "done"

    def build(self, names):
        house = self.another_house()
        answers = house.answers(names)
        self.do(house, house.deeds())
        return "\n".join([word_line(answer) for answer in answers])

    def take(self, name):
        if name not in self.shelf:
            raise NoThing("nothing of that name is on the shelf")
        house = self.another_house()
        house.set_keep(put_all(house.keep(), self.shelf[name])[0])
        self.do(house, self.built)
        return str(self.shelf[name].many())

    def go_back(self):
        if not self.past:
            raise NoDeed("no deed stands")
        ahead = self.past.pop()
        self.house = ahead[0]
        self.built = ahead[1]
        return "done"

    def do(self, house, built):
        self.past.append((self.house, self.built))
        self.house = house
        self.built = built

    def another_house(self):
        # One that stands alike and has told no deeds yet.
        house = House(self.house.project(), self.house.keep(), 0)
        house.found = dict(self.house.found)
        house.full_runs = dict(self.house.full_runs)
        return house


def is_line(word, names):
    if not all([is_name(name) for name in names]):
        return False
    if word in OF_NO_NAME:
        return names == ()
    if word in OF_ONE_NAME:
        return len(names) == 1
    return word in OF_NAMES and names != ()
