"""Streets: houses that take one another's keeps."""

from askwright.errors import NoThing
from askwright.house import House, runs_done
from askwright.keeps import Keep
from askwright.sharing import put_all, shunned, trusted
from askwright.wary import WaryHouse


class Street:
    def __init__(self, projects, wary):
        self.houses = []
        for number, project in enumerate(projects):
            self.houses.append(house_of(project, wary[number:number + 1] == (True,), number))

    def build(self, i, names):
        return self.house_at(i).answers(names)

    def give(self, i, project):
        self.house_at(i).set_project(project)

    def take(self, i, j):
        return put_to(self.house_at(i), self.house_at(j).keep())

    def take_trusted(self, i, j, givers):
        return put_to(self.house_at(i), trusted(self.house_at(j).keep(), givers))

    def take_shunned(self, i, j, givers):
        return put_to(self.house_at(i), shunned(self.house_at(j).keep(), givers))

    def lay(self, i, keep):
        return put_to(self.house_at(i), keep)

    def keep_of(self, i):
        return self.house_at(i).keep()

    def deeds_of(self, i):
        return self.house_at(i).deeds()

    def done_in_all(self):
        return sum([runs_done(house.deeds()) for house in self.houses])

    def house_at(self, i):
        if not 0 <= i < len(self.houses):
            raise NoThing("the street has no house of that number")
        return self.houses[i]


def house_of(project, is_wary, number):
    return WaryHouse(project, Keep(), number) if is_wary else House(project, Keep(), number)


def put_to(house, keep):
    # What was left, as it is told.
    both = put_all(house.keep(), keep)
    house.set_keep(both[0])
    return both[1]
