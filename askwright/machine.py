"""Machines: a rule that runs for its own name, and waits where it asks."""

from askwright.asks import is_answer
from askwright.errors import BadAnswer, BadName, NoAsk
from askwright.rules import ASKING, BOXES, rule_rows
from askwright.trees import is_name, is_tree

MOST_DONE = 300


# What a line's first box gets, of the boxes as held ahead; None where a box does not hold what the line needs.

def text_made(boxes, own, parts):
    return parts[1]


def self_made(boxes, own, parts):
    return own


def copy_made(boxes, own, parts):
    return boxes[parts[1]]


def row_made(boxes, own, parts):
    return ()


def put_made(boxes, own, parts):
    row = boxes[parts[0]]
    if not isinstance(row, tuple):
        return None
    return row + (boxes[parts[1]],)


def join_made(boxes, own, parts):
    one = boxes[parts[0]]
    other = boxes[parts[1]]
    if not isinstance(one, str) or not isinstance(other, str):
        return None
    return one + other


def first_made(boxes, own, parts):
    whole = boxes[parts[1]]
    return whole[0] if len(whole) > 0 else None


def rest_made(boxes, own, parts):
    whole = boxes[parts[1]]
    return whole[1:] if len(whole) > 0 else None


def size_made(boxes, own, parts):
    return str(len(boxes[parts[1]]))


def cut_made(boxes, own, parts):
    whole = boxes[parts[1]]
    between = boxes[parts[2]]
    if not isinstance(whole, str) or not isinstance(between, str) or between == "":
        return None
    return tuple(whole.split(between))


def glue_made(boxes, own, parts):
    row = boxes[parts[1]]
    between = boxes[parts[2]]
    if not isinstance(row, tuple) or not isinstance(between, str):
        return None
    if not all([isinstance(part, str) for part in row]):
        return None
    return between.join(row)


MAKERS = {
    "text": text_made,
    "self": self_made,
    "copy": copy_made,
    "row": row_made,
    "put": put_made,
    "join": join_made,
    "first": first_made,
    "rest": rest_made,
    "size": size_made,
    "cut": cut_made,
    "glue": glue_made,
}


def is_jump_taken(boxes, word, parts):
    if word == "like":
        return boxes[parts[0]] == boxes[parts[1]]
    if word == "rowed":
        return isinstance(boxes[parts[0]], tuple)
    if word == "none":
        return len(boxes[parts[0]]) == 0
    return True


def asked_or_fault(word, held):
    # What a line that asks comes to, of what its second box holds.
    if word == "names":
        return ("asks", ("names", held)) if isinstance(held, str) else ("fault", "kind")
    if not is_name(held):
        return ("fault", "name")
    return ("asks", ("thing" if word == "ask" else "has", held))


class Machine:
    def __init__(self, rule, own):
        self.rows = rule_rows(rule)
        if not is_name(own):
            raise BadName("a rule runs for a name")
        self.rule = rule
        self.own = own
        self.boxes = dict([(box, "") for box in BOXES])
        self.place = 1
        self.done = 0
        self.given = []
        # Where it stands still, as now() tells it; None only while lines are done.
        self.there = None
        self.go_on()

    def now(self):
        return self.there

    def answer(self, tree):
        if not self.is_waiting():
            raise NoAsk("the machine has ended")
        ask = self.there[1]
        if not is_answer(ask, tree):
            raise BadAnswer("what is handed in is no answer to the ask")
        self.given.append((ask, tree))
        self.done += 1
        if tree is None:
            self.there = ("fault", "lack")
            return
        self.boxes[self.rows[self.place - 1][1][0]] = tree
        self.place += 1
        self.there = None
        self.go_on()

    def asked(self):
        return tuple(self.given)

    def lines(self):
        return self.done

    def copy(self):
        other = Machine(self.rule, self.own)
        other.boxes = dict(self.boxes)
        other.place = self.place
        other.done = self.done
        other.given = list(self.given)
        other.there = self.there
        return other

    def go_on(self):
        while self.there is None:
            if self.place > len(self.rows):
                self.there = ("fault", "silent")
            elif self.done == MOST_DONE:
                self.there = ("fault", "long")
            else:
                self.do_row(self.rows[self.place - 1])
                # A line that waits for its answer is not done yet.
                if not self.is_waiting():
                    self.done += 1

    def is_waiting(self):
        return self.there is not None and self.there[0] == "asks"

    def do_row(self, row):
        word = row[0]
        parts = row[1]
        if word in MAKERS:
            self.hold(parts[0], MAKERS[word](self.boxes, self.own, parts))
        elif word in ASKING:
            self.there = asked_or_fault(word, self.boxes[parts[1]])
        elif word == "say":
            self.there = ("said", self.boxes[parts[0]])
        elif word == "fault":
            self.there = ("fault", "told")
        elif is_jump_taken(self.boxes, word, parts):
            self.place = parts[-1]
        else:
            self.place += 1

    def hold(self, box, tree):
        if tree is None:
            self.there = ("fault", "kind")
        elif not is_tree(tree):
            self.there = ("fault", "big")
        else:
            self.boxes[box] = tree
            self.place += 1


def replayed(rule, own, answers):
    machine = Machine(rule, own)
    used = 0
    while used < len(answers) and machine.is_waiting():
        machine.answer(answers[used])
        used += 1
    return (machine.asked(), machine.now(), len(answers) - used)


def asks_that_stand(machine, asks):
    # How many of these asks, from the first on, the machine asks and takes their answers; it goes on by them.
    for count, pair in enumerate(asks):
        if machine.now() != ("asks", pair[0]):
            return count
        try:
            machine.answer(pair[1])
        except BadAnswer:
            return count
    return len(asks)


def does(rule, own, run):
    machine = Machine(rule, own)
    if asks_that_stand(machine, run[0]) < len(run[0]):
        return False
    # A machine that still waits has no end, whatever the run says.
    return not machine.is_waiting() and machine.now() == run[1]
