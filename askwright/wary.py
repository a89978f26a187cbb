"""Wary houses: a way of others is run over its own answers before it is gone by."""

from askwright.house import House
from askwright.keeps import Keep
from askwright.lies import lie_place


class WaryHouse(House):
    def __init__(self, project, keep, number):
        House.__init__(self, project, keep, number)
        # What it found stays found, whatever keep it is given: the ways known, and the places of the lies.
        self.honest = Keep()
        self.lie_places = {}
        self.thrown_out = []

    def thrown(self):
        return tuple(self.thrown_out)

    def trust(self, rule, own, run):
        self.honest.lay(rule, own, run, ())

    def kept_there(self, rule, own, answers):
        there = self.held.walk(rule, own, answers)[1]
        # Both walks took these answers, so where they come to the same an honest way goes through there.
        while there is not None and there != self.honest.walk(rule, own, answers)[1]:
            self.try_first(rule, own, answers)
            there = self.held.walk(rule, own, answers)[1]
        return there

    def try_first(self, rule, own, answers):
        # No way by these answers is known, so the first of them is either not tried yet or found a lie before.
        way = self.held.first_way(rule, own, answers)
        run = way[0]
        if (rule, own, run) not in self.lie_places:
            place = lie_place(rule, own, run)
            self.told.append(("tried", own, run, place))
            if place is None:
                self.trust(rule, own, run)
                return
            self.lie_places[(rule, own, run)] = place
        self.held.take_out(rule, own, run)
        self.thrown_out.append((rule, own, run, self.lie_places[(rule, own, run)], way[1]))
