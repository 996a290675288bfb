"""A second reading of what one tick does, for comparison.

Every frame is a generator that goes through the statements of its body, so
there is nothing here that could go on from the middle of a body: a world is
always led from its beginning on.
"""

from itertools import combinations


class MoreWays(Exception):
    """The ways of a choice are used up too early."""


class Impossible(Exception):
    """A choice is not possible."""


def run_numbers(body, path=()):
    """The paths of all run statements of a body, in the order of the text."""
    found = []
    for at, statement in enumerate(body):
        if statement[0] == "run":
            found.append((*path, at))
        for part, inner in enumerate(statement[1:]):
            if isinstance(inner, tuple):
                found.extend(run_numbers(inner, (*path, at, part)))
    return found


class Frame:
    def __init__(self, name, body):
        self.name = name
        self.body = body
        self.place = None
        self.left = 0
        self.mask = 0
        self.loops = []
        self.steps = None

    def text(self):
        loops = ".".join(str(one) for one in self.loops) or "-"
        return f"{self.name}:{self.place}:{self.left}:{self.mask}:{loops}"


class World:
    """A machine in the middle of a run."""

    def __init__(self, program, overruns=0, early=0):
        self.program = program
        self.sources = {source.name: source for source in program.sources}
        self.tasks = dict(program.tasks)
        self.most = dict(program.counters)
        self.kept = {name: 0 for name in self.sources}
        self.owed = {name: 0 for name in self.sources}
        self.age = {name: source.gap for name, source in self.sources.items()}
        self.timer = {}
        self.queue = []
        self.value = {name: 0 for name in self.most}
        self.overruns = overruns
        self.early = early
        self.events = []
        self.offset = 0
        self.frames = []
        self.ways = None
        self.begin("main", program.background)

    # The ways are None at the beginning, when all of them are True.
    def way(self):
        if self.ways is None:
            return True
        if not self.ways:
            raise MoreWays
        return self.ways.pop(0)

    def event(self, kind, name):
        self.events.append((self.offset, kind, name))

    def ask(self, name, kind):
        self.event(kind, name)
        if self.kept[name] >= self.sources[name].keep or self.owed[name] >= 6:
            self.event("lost", name)
            return
        self.kept[name] += 1
        self.owed[name] += 1

    def begin(self, name, body):
        frame = Frame(name, body)
        self.frames.append(frame)
        self.follow(frame)

    def follow(self, frame):
        """Let the body of the top frame begin or go on."""
        if frame.steps is None:
            frame.steps = self.perform(frame, frame.body, ())
        if next(frame.steps, "ended") != "ended":
            return
        if frame.name == "main":
            self.frames.pop()
            self.begin("main", frame.body)
        elif frame.name in self.tasks:
            self.frames.pop()
            self.event("end", frame.name)
        elif self.sources[frame.name].leave:
            frame.place, frame.left = "out", self.sources[frame.name].leave
            frame.mask, frame.loops = 0, []
        else:
            self.frames.pop()
            self.event("leave", frame.name)

    def perform(self, frame, body, path):
        for at, statement in enumerate(body):
            kind, parts = statement[0], statement[1:]
            if kind == "run":
                frame.place = run_numbers(frame.body).index((*path, at))
                frame.left = parts[0]
                yield "run"
            elif kind == "either":
                chosen = 0 if self.way() else 1
                yield from self.perform(frame, parts[chosen], (*path, at, chosen))
            elif kind == "when":
                chosen = 1 if self.value[parts[0]] > 0 else 2
                yield from self.perform(frame, parts[chosen], (*path, at, chosen))
            elif kind == "loop":
                frame.loops.append(parts[0])
                while frame.loops[-1] > 0 and self.way():
                    frame.loops[-1] -= 1
                    yield from self.perform(frame, parts[1], (*path, at, 1))
                frame.loops.pop()
            else:
                self.effect(frame, kind, parts)

    def effect(self, frame, kind, parts):
        if kind == "mask":
            frame.mask = parts[0]
        elif kind == "unmask":
            frame.mask = 0
        elif kind == "answer":
            self.event("answer", parts[0])
            if self.owed[parts[0]] > 0:
                self.owed[parts[0]] -= 1
        elif kind == "raise":
            self.ask(parts[0], "raise")
        elif kind == "arm":
            self.timer[parts[0]] = parts[1]
        elif kind == "post":
            if len(self.queue) < 4:
                self.queue.append(parts[0])
                self.event("post", parts[0])
            else:
                self.event("full", parts[0])
        elif kind == "add":
            if self.value[parts[0]] < self.most[parts[0]]:
                self.value[parts[0]] += 1
        elif kind == "take":
            if self.value[parts[0]] > 0:
                self.value[parts[0]] -= 1
        else:
            raise AssertionError(kind)

    def level(self):
        frame = self.frames[-1]
        level = self.sources[frame.name].level if frame.name in self.sources else 0
        return max(level, frame.mask)

    def tick(self, choice):
        """Use one tick; return its events, the depth and the height."""
        requests, over, ways = choice
        self.ways = list(ways)
        self.events = []
        self.offset = 0
        for name, source in self.sources.items():
            if self.age[name] < source.gap:
                self.age[name] += 1
        for name in self.sources:
            if self.timer.get(name) == 0:
                del self.timer[name]
                self.ask(name, "timer")
        for name in requests:
            if self.age[name] == self.sources[name].gap:
                kind = "request"
            elif self.early > 0:
                kind = "early"
                self.early -= 1
            else:
                raise Impossible
            self.age[name] = 0
            self.ask(name, kind)
        self.enter()
        told = len(self.frames), self.level()
        self.timer = {name: left - 1 for name, left in self.timer.items()}
        self.offset = 1
        self.use(over)
        if self.ways:
            raise Impossible
        return self.events, *told

    def enter(self):
        ready = [one for one in self.sources.values() if self.kept[one.name] > 0]
        ready = [one for one in ready if one.level > self.level()]
        if ready:
            best = max(one.level for one in ready)
            source = [one for one in ready if one.level == best][0]
            self.kept[source.name] -= 1
            self.event("enter", source.name)
            if source.enter:
                frame = Frame(source.name, source.body)
                frame.place, frame.left = "in", source.enter
                self.frames.append(frame)
            else:
                self.begin(source.name, source.body)
        elif len(self.frames) == 1 and self.frames[0].mask == 0 and self.queue:
            name = self.queue.pop(0)
            self.event("begin", name)
            self.begin(name, self.tasks[name])

    def use(self, over):
        frame = self.frames[-1]
        frame.left -= 1
        if frame.left > 0:
            if over:
                raise Impossible
        elif over:
            if frame.place in ("in", "out") or self.overruns == 0:
                raise Impossible
            frame.left = 1
            self.overruns -= 1
            self.event("over", frame.name)
        elif frame.place == "out":
            self.frames.pop()
            self.event("leave", frame.name)
        else:
            self.follow(frame)

    def text(self):
        def row(values):
            return ",".join(str(value) for value in values) or "-"

        return " ".join([
            "/".join(frame.text() for frame in self.frames),
            row(self.kept.values()),
            row(self.owed.values()),
            row(self.age.values()),
            row(self.timer.get(name, "x") for name in self.sources),
            row(self.queue),
            row(self.value.values()),
            f"{self.overruns},{self.early}",
        ])


def world_behind(program, faults, choices):
    """The world behind some choices, and what the last tick told."""
    world = World(program, *faults)
    told = None
    for choice in choices:
        told = world.tick(choice)
    return world, told


def possible_choices(program, faults, choices):
    """The sorted list of the choices that are possible behind some others."""
    names = [source.name for source in program.sources]
    open_choices = [
        (requests, over, ())
        for many in range(len(names) + 1)
        for requests in combinations(names, many)
        for over in (False, True)
    ]
    found = []
    while open_choices:
        choice = open_choices.pop()
        try:
            world_behind(program, faults, [*choices, choice])
            found.append(choice)
        except MoreWays:
            for way in (False, True):
                open_choices.append((*choice[:2], (*choice[2], way)))
        except Impossible:
            pass
    return sorted(found)
