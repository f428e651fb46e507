"""A RINGING gone through minute by minute, for tests to hold the program against; it shares nothing with the package.

It keeps a tree of nodes, and by each happening what is known of each node. Only what can be done is handed in.
"""

from random import Random

from tests.samples import NAMES


class Node:
    def __init__(self, name, talk, there=True):
        self.name = name
        self.talk = talk
        self.there = there
        self.over = None
        self.under = []
        self.line = []
        self.busy = None


class Known:
    """What is known of one node by one happening."""

    def __init__(self, word="waiting"):
        self.word = word
        self.by = None
        self.handed = False
        self.told_by = None
        self.minute = None


class Model:
    def __init__(self, tree, away=()):
        self.wait, _, people = tree
        self.now = 0
        self.bell = Node("", 0)
        self.nodes = {"": self.bell}
        self.rung = []
        self.known = {}
        self.ended = []
        self.told = {}
        for name, caller, talk in people:
            self.add(name, caller, talk, len(self.nodes[caller].under), name not in away)

    def add(self, name, caller, talk, place, there=True):
        node = Node(name, talk, there)
        node.over = self.nodes[caller]
        node.over.under.insert(place, node)
        self.nodes[name] = node
        return node

    def walk(self, node=None):
        found = []
        for each in (node or self.bell).under:
            found += [each] + self.walk(each)
        return found

    def tree(self):
        return (self.wait, 0, tuple((node.name, node.over.name, node.talk) for node in self.walk()))

    def holder(self, happening, node):
        known = self.known[happening]
        while node is not self.bell and not (known[node].word == "told" and node.there):
            node = known[node].by
        return node

    def line_up(self, happening, nodes, holder, place=None):
        rows = [(happening, node) for node in nodes]
        at = len(holder.line) if place is None else place
        holder.line[at:at] = rows
        for node in nodes:
            self.known[happening][node].word = "in line"

    def waiting_under(self, happening, node):
        return [each for each in node.under if self.known[happening][each].word == "waiting"]

    def place_one(self, happening, node):
        over = node.over
        if over is self.bell or self.known[happening][over].handed:
            self.line_up(happening, [node], self.holder(happening, over))

    def ring(self, happening):
        self.rung.append((self.now, happening))
        self.told[happening] = []
        self.known[happening] = {node: Known() for node in self.nodes.values()}
        self.known[happening][self.bell].word = "told"
        self.line_up(happening, self.bell.under, self.bell)

    def join(self, name, caller, talk, place):
        node = self.add(name, caller, talk, place)
        for _, happening in self.rung:
            self.known[happening][node] = Known()
            self.place_one(happening, node)

    def drop_row(self, happening, node):
        for each in self.nodes.values():
            if (happening, node) in each.line:
                place = each.line.index((happening, node))
                each.line.pop(place)
                return each, place
        return None

    def leave(self, name):
        node = self.nodes[name]
        self.hand_on(node)
        for _, happening in self.rung:
            known = self.known[happening]
            out = self.drop_row(happening, node)
            if out and known[node].by is None:
                self.line_up(happening, self.waiting_under(happening, node), *out)
            for each in known.values():
                if each.by is node:
                    each.by = known[node].by
        place = node.over.under.index(node)
        node.over.under[place:place + 1] = node.under
        for each in node.under:
            each.over = node.over
        del self.nodes[name]

    def move(self, name, caller, place):
        node = self.nodes[name]
        node.over.under.remove(node)
        node.over = self.nodes[caller]
        node.over.under.insert(place, node)
        for _, happening in self.rung:
            known = self.known[happening][node]
            if known.by is None:
                self.drop_row(happening, node)
                known.word = "waiting"
                self.place_one(happening, node)

    def set_talk(self, name, talk):
        self.nodes[name].talk = talk

    def set_wait(self, wait):
        self.wait = wait

    def hand_on(self, node):
        rows, node.line = node.line, []
        for happening, each in rows:
            self.holder(happening, self.known[happening][node].by).line.append((happening, each))

    def go_away(self, name):
        node = self.nodes[name]
        self.hand_on(node)
        node.there = False

    def come_back(self, name):
        node = self.nodes[name]
        node.there = True
        for _, happening in self.rung:
            known = self.known[happening][node]
            if known.word == "missed":
                self.line_up(happening, [node], self.holder(happening, known.by))

    def begin(self):
        for name in sorted(self.nodes):
            node = self.nodes[name]
            if node.there and node.busy is None:
                free = [row for row in node.line if row[1].busy is None]
                if free:
                    self.call(node, *free[0])

    def call(self, node, happening, callee):
        node.line.remove((happening, callee))
        end = self.now + (callee.talk if callee.there else self.wait)
        node.busy = callee.busy = (self.now, end, node, callee, callee.there, happening)
        self.known[happening][callee].word = "called"
        self.known[happening][callee].by = node

    def ends(self):
        for name in sorted(self.nodes):
            node = self.nodes[name]
            if node.busy is not None and node.busy[1] == self.now and node.busy[2] is node:
                self.end(*node.busy)

    def end(self, start, end, caller, callee, answered, happening):
        caller.busy = callee.busy = None
        self.ended.append((start, end, caller.name, callee.name, answered, happening))
        known = self.known[happening][callee]
        known.handed = True
        waiting = self.waiting_under(happening, callee)
        if answered:
            known.word, known.told_by, known.minute = "told", caller.name, end
            self.told[happening].append((end, callee.name))
            self.line_up(happening, waiting, callee)
        else:
            known.word = "missed"
            self.line_up(happening, waiting, caller, 0)
            if callee.there:
                self.line_up(happening, [callee], caller)

    def go(self, minutes=1):
        for _ in range(minutes):
            self.begin()
            self.now += 1
            self.ends()

    def is_quiet(self):
        return all(node.busy is None and not node.line for node in self.nodes.values())

    def going(self):
        calls = [node.busy for node in self.nodes.values() if node.busy is not None and node.busy[2] is node]
        return sorted((start, end, caller.name, callee.name, answered, happening)
                      for start, end, caller, callee, answered, happening in calls)

    def line(self, name):
        return [(happening, node.name) for happening, node in self.nodes[name].line]

    def chain(self, happening, name):
        """By all who ever were known of."""
        by_names = {node.name: known for node, known in self.known[happening].items()}
        rows = []
        while name != "":
            if by_names[name].minute is None:
                return []
            rows.insert(0, (by_names[name].minute, name))
            name = by_names[name].told_by
        return [([minute for minute, each in self.rung if each == happening][0], "")] + rows


def all_told(model):
    """All that a model tells, in the words of the interface."""
    happenings = [happening for _, happening in model.rung]
    names = [node.name for node in model.walk()]
    here = {happening: {name: model.known[happening][model.nodes[name]].word for name in names}
            for happening in happenings}
    return {
        "now": model.now, "tree": model.tree(), "is_quiet": model.is_quiet(), "happenings": model.rung,
        "away": tuple(sorted(name for name in names if not model.nodes[name].there)),
        "standings": here, "told": model.told,
        "missed": {each: sorted(name for name in names if here[each][name] == "missed") for each in happenings},
        "lines": {name: model.line(name) for name in [""] + names},
        "going": sorted(model.going(), key=lambda call: call[2]), "calls": model.ended,
        "chains": {each: {name: model.chain(each, name) for name in names} for each in happenings},
        "len": len(model.ended),
    }


def all_asked(ringing):
    """The same of a Ringing."""
    happenings = [happening for _, happening in ringing.happenings()]
    names = [row[0] for row in ringing.tree()[2]]
    return {
        "now": ringing.now(), "tree": ringing.tree(), "is_quiet": ringing.is_quiet(),
        "happenings": ringing.happenings(), "away": ringing.away(),
        "standings": {each: {name: ringing.standing(each, name) for name in names} for each in happenings},
        "told": {each: ringing.told(each) for each in happenings},
        "missed": {each: ringing.missed(each) for each in happenings},
        "lines": {name: ringing.line(name) for name in [""] + names},
        "going": ringing.going(), "calls": ringing.calls(),
        "chains": {each: {name: ringing.chain(each, name) for name in names} for each in happenings},
        "len": len(ringing),
    }


WORDS = ("fire", "flood", "ants", "snow", "bees", "hail")


def some_deed(dice, model):
    """A deed that can be done to a model as it stands, if nobody is on a phone who mustn't be; None for none."""
    names = [node.name for node in model.walk()]
    word = dice.choice(("ring", "join", "leave", "move", "move", "set_talk", "set_wait", "go_away", "go_away",
                        "come_back", "come_back", "come_back"))
    if word == "ring":
        left = [each for each in WORDS if each not in model.told]
        return ("ring", left[0]) if left else None
    if word == "set_wait":
        return ("set_wait", dice.randint(1, 6))
    if word == "join":
        return ("join", dice.choice((fresh_name(model), fresh_name(model, "z"))), *some_place(dice, model, None, 5))
    if not names:
        return None
    name = dice.choice(names)
    node = model.nodes[name]
    if word == "move":
        caller, place = some_place(dice, model, node)
        return ("move", name, caller, place)
    if word == "set_talk":
        return ("set_talk", name, dice.randint(1, 8))
    if word == "go_away":
        return ("go_away", name) if node.there else None
    if word == "come_back":
        return ("come_back", name) if not node.there else None
    return (word, name)


def fresh_name(model, before=""):
    """A name that nobody ever had there: the model counts them itself."""
    model.fresh = getattr(model, "fresh", 0) + 1
    return before + NAMES[model.fresh % 16] + NAMES[model.fresh // 16]


def some_place(dice, model, node, talk=None):
    barred = [] if node is None else [node] + model.walk(node)
    caller = dice.choice([each for each in model.nodes.values() if each not in barred])
    place = dice.randint(0, len([each for each in caller.under if each is not node]))
    return (caller.name, place) if talk is None else (caller.name, dice.randint(1, talk), place)


def done_by_model(model, deed):
    getattr(model, deed[0])(*deed[1:])


def on_phone(model, name):
    """Till when one is on a phone, or None."""
    call = model.nodes[name].busy
    return None if call is None else call[1]


def mixed_story(seed, many_deeds, many_people, dense):
    """(MODEL, a list of deeds and of minutes that go by), the same each time the tests run."""
    dice = Random(seed)
    people = []
    for at in range(many_people):
        people.append((NAMES[at], dice.choice(("",) + NAMES[:at]), dice.randint(1, 8)))
    away = tuple(name for name in NAMES[:many_people] if dice.random() < 0.3)
    return dice, (dice.randint(1, 6), 0, tuple(people)), away, [dice.random() < dense for _ in range(many_deeds)]
