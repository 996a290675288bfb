"""One tick, on the parts of states.

Nothing is looked at here that makes a state one for the program: see states.
"""

from interruptruns.programs import BACKGROUND
from interruptruns.states import MOST_OWED, MOST_QUEUE, frame_level


class Work:
    """A state while a tick is used.

    Where the ways are used up, the usual way is taken, and put behind them.
    """

    def __init__(self, plan, parts, ways, usual):
        frames, pending, owed, ages, timers, queue, counters, spare = parts
        self.plan = plan
        self.stack = list(frames)
        self.kept = list(pending)
        self.debts = list(owed)
        self.since = list(ages)
        self.alarms = list(timers)
        self.waiting = list(queue)
        self.amounts = list(counters)
        self.rest = list(spare)
        self.ways = list(ways)
        self.usual = usual
        self.taken = 0
        self.offset = 0
        self.happened = []

    def result(self):
        """Return the parts of the state that is there now."""
        return (
            tuple(self.stack), tuple(self.kept), tuple(self.debts), tuple(self.since),
            tuple(self.alarms), tuple(self.waiting), tuple(self.amounts), tuple(self.rest),
        )

    def note(self, kind, name):
        """Put an event behind the others."""
        self.happened.append((self.offset, kind, name))

    def next_way(self):
        """Take the next way."""
        if self.taken == len(self.ways):
            self.ways.append(self.usual)
        self.taken += 1
        return self.ways[self.taken - 1]

    def ask(self, at, kind):
        """Ask a source, with an event of this kind."""
        source = self.plan.sources[at]
        self.note(kind, source.name)
        if self.kept[at] == source.keep or self.debts[at] == MOST_OWED:
            self.note("lost", source.name)
        else:
            self.kept[at] += 1
            self.debts[at] += 1

    def pass_time(self):
        """Let the ages grow, and the timers that are 0 ask their sources."""
        for at, source in enumerate(self.plan.sources):
            if self.since[at] < source.gap:
                self.since[at] += 1
            if self.alarms[at] == 0:
                self.alarms[at] = None
                self.ask(at, "timer")

    def request(self, name):
        """Let a source request."""
        at = self.plan.order[name]
        kind = "request"
        if self.since[at] < self.plan.sources[at].gap:
            kind = "early"
            self.rest[1] -= 1
        self.since[at] = 0
        self.ask(at, kind)

    def enter_next(self):
        """Let a source enter, or otherwise a task begin, if one can."""
        best = None
        level = frame_level(self.plan, self.stack[-1])
        for source, kept in zip(self.plan.sources, self.kept):
            if kept > 0 and source.level > level:
                best = source
                level = source.level
        if best is not None:
            self.put_source(best)
        elif len(self.stack) == 1 and self.stack[0][3] == 0 and self.waiting:
            name = self.waiting.pop(0)
            self.note("begin", name)
            self.go_on(name, 0, 0, ())

    def put_source(self, source):
        """Put the frame of a source that enters on top."""
        self.kept[self.plan.order[source.name]] -= 1
        self.note("enter", source.name)
        if source.enter > 0:
            self.stack.append((source.name, "in", source.enter, 0, ()))
        else:
            self.go_on(source.name, 0, 0, ())

    def use(self):
        """Let the top frame use its tick, and the timers go down."""
        name, place, left, mask, loops = self.stack.pop()
        self.stack.append((name, place, left - 1, mask, loops))
        self.alarms = [None if timer is None else timer - 1 for timer in self.alarms]
        self.offset = 1

    def finish(self, over):
        """Do what follows the tick, and return whether it is possible."""
        name, place, left, mask, loops = self.stack[-1]
        if left > 0:
            return not over
        self.stack.pop()
        if over:
            return self.overrun(name, place, mask, loops)
        if place == "in":
            self.go_on(name, 0, 0, ())
        elif place == "out":
            self.note("leave", name)
        else:
            self.go_on(name, self.plan.flat[name][1][place][1], mask, loops)
        return True

    def overrun(self, name, place, mask, loops):
        """Let a `run` take one more tick, and return whether this is possible."""
        if isinstance(place, str) or self.rest[0] == 0:
            return False
        self.rest[0] -= 1
        self.stack.append((name, place, 1, mask, loops))
        self.note("over", name)
        return True

    def go_on(self, name, at, mask, loops):
        """Perform the instructions of a body from one on, up to the next `run` or the end."""
        rows, places = self.plan.flat[name]
        passes = list(loops)
        while at < len(rows):
            words = rows[at]
            at += 1
            if words[0] == "run":
                self.stack.append((name, words[1], places[words[1]][0], mask, tuple(passes)))
                return
            if words[0] in ("jump", "either", "when", "loop", "again"):
                at = self.turn(words, at, passes)
            elif words[0] in ("mask", "unmask"):
                mask = words[1] if words[0] == "mask" else 0
            else:
                self.act(words)
        self.end_body(name)

    def turn(self, words, at, passes):
        """Return the index of the instruction that is next, which is otherwise the one at."""
        if words[0] == "jump":
            return words[1]
        if words[0] == "either":
            return at if self.next_way() else words[1]
        if words[0] == "when":
            return at if self.amounts[self.plan.order[words[1]]] > 0 else words[2]
        if words[0] == "loop":
            passes.append(words[1])
            return at
        if passes[-1] > 0 and self.next_way():
            passes[-1] -= 1
            return at
        passes.pop()
        return words[1]

    def act(self, words):
        """Perform a statement that has an effect outside of its frame."""
        kind, name = words[:2]
        if kind == "post":
            self.post(name)
            return
        at = self.plan.order[name]
        if kind == "answer":
            self.note(kind, name)
            self.debts[at] = max(self.debts[at] - 1, 0)
        elif kind == "raise":
            self.ask(at, kind)
        elif kind == "arm":
            self.alarms[at] = words[2]
        elif kind == "add":
            self.amounts[at] = min(self.amounts[at] + 1, self.plan.counters[at][1])
        else:
            self.amounts[at] = max(self.amounts[at] - 1, 0)

    def post(self, name):
        """Put a task at the end of the queue, unless it is full."""
        if len(self.waiting) == MOST_QUEUE:
            self.note("full", name)
        else:
            self.note("post", name)
            self.waiting.append(name)

    def end_body(self, name):
        """Do what follows the end of a body."""
        if name == BACKGROUND:
            self.go_on(name, 0, 0, ())
        elif name not in self.plan.levels:
            self.note("end", name)
        elif self.plan.edges[name, "out"] > 0:
            self.stack.append((name, "out", self.plan.edges[name, "out"], 0, ()))
        else:
            self.note("leave", name)


def first_parts(program, spare):
    """Return the parts of the first state, with these overruns and early requests."""
    none = tuple([0 for source in program.sources])
    gaps = tuple([source.gap for source in program.sources])
    timers = tuple([None for source in program.sources])
    counters = tuple([0 for counter in program.counters])
    work = Work(program, ((), none, none, gaps, timers, (), counters, spare), (), True)
    work.go_on(BACKGROUND, 0, 0, ())
    return work.result()


def one_tick(program, parts, requests, over, ways):
    """Use a tick by a choice whose requests are possible.

    Return a tuple of the choice, with just the ways that are taken, and the
    parts, the events, the depth and the height; instead of these four, None if
    over is not possible.
    """
    work = Work(program, parts, ways, False)
    work.pass_time()
    for name in requests:
        work.request(name)
    work.enter_next()
    depth = len(work.stack)
    height = frame_level(program, work.stack[-1])
    work.use()
    possible = work.finish(over)
    choice = (requests, over, tuple(work.ways[:work.taken]))
    if not possible:
        return choice, None
    return choice, (work.result(), tuple(work.happened), depth, height)


def all_ticks(program, parts):
    """Return the list of (choice, parts, events, depth, height) of all possible choices.

    It is sorted by the choices.
    """
    found = []
    for requests in possible_requests(program, parts):
        found.extend(ticks_with(program, parts, requests))
    return found


def ticks_with(program, parts, requests):
    """Return the part of the list of all ticks that has these requests, which are possible."""
    overs = (False, True) if parts[7][0] > 0 else (False,)
    found = []
    for over in overs:
        ways = ()
        while ways is not None:
            choice, told = one_tick(program, parts, requests, over, ways)
            if told is not None:
                found.append((choice, *told))
            ways = ways_behind(choice[2])
    return found


def ways_behind(ways):
    """Return how the ways begin that come next behind these, or None if there are none."""
    last = len(ways)
    while last > 0 and ways[last - 1]:
        last -= 1
    return (*ways[:last - 1], True) if last > 0 else None


def possible_requests(program, parts):
    """Return the sorted list of the tuples of the names that can request together."""
    found = [((), 0)]
    for source, age in zip(program.sources, parts[3]):
        early = 0 if age + 1 >= source.gap else 1
        more = [((*names, source.name), many + early) for names, many in found]
        found.extend([one for one in more if one[1] <= parts[7][1]])
    return sorted([names for names, many in found])
