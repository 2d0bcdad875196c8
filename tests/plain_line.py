"""A slow but plain line, and what a line tells, for the tests of lines."""

from anyshift.lines import Logged


class PlainLine:
    """A line that only keeps its deeds, and works out all that it tells anew, tick by tick."""

    def __init__(self, group, stopping):
        self.group, self.stopping, self.done = group, stopping, []

    def told(self):
        """All that the line tells."""
        began, log = {}, []
        for name, number in self.done:
            if name == "start":
                began[number] = len(log)
            elif name == "stop":
                del began[number]
            else:
                for _ in range(number):
                    log.append(self.heard(began, len(log)))
                    if self.stopping and log[-1] >= 0:
                        del began[log[-1]]
        return {
            "group": self.group, "now": len(log), "active": tuple(sorted(began)),
            "through": tuple(log.count(who) for who in range(len(self.group))), "collisions": log.count(-2),
            "deeds": len(self.done), "began": [began.get(who) for who in range(len(self.group))],
            "next": [self.next(began, who, len(log)) for who in range(len(self.group))], "log": log,
        }

    def loud(self, began, who, tick):
        """Whether a sender sends in the tick."""
        period, slots = self.group[who]
        return who in began and (tick - began[who]) % period in slots

    def heard(self, began, tick):
        """What is heard in the tick."""
        loud = [who for who in range(len(self.group)) if self.loud(began, who, tick)]
        return -1 if not loud else loud[0] if len(loud) == 1 else -2

    def next(self, began, who, now):
        """In how many ticks from now a sender sends next, None if it is not active."""
        if who not in began:
            return None
        ticks = 0
        while not self.loud(began, who, now + ticks):
            ticks += 1
        return ticks

    def run(self, ticks):
        """What is heard in so many ticks, as one deed."""
        self.done.append(("run", ticks))
        return tuple(self.told()["log"][-ticks:])


def same_deed(line, plain, choices):
    """Do the next deed on both, if it can be done; returns what the line returned, and what it should have."""
    kind = choices.below(12)
    who = choices.below(len(line.group))
    if kind < 5 and who not in line:
        plain.done.append(("start", who))
        return (line.start(who), None)
    if kind == 5 and who in line:
        plain.done.append(("stop", who))
        return (line.stop(who), None)
    if kind < 9:
        ticks = 1 + choices.below(7)
        return (line.run(ticks), plain.run(ticks))
    if kind == 9:
        return (line.tick(), plain.run(1)[0])
    if line.deeds:
        plain.done.pop()
        return (line.undo(), None)
    return (None, None)


def told(line):
    """The text of all that a line tells."""
    numbers = range(len(line.group))
    log = list(line.log) if isinstance(line, Logged) else None
    return repr((
        line.group, line.now, line.active, line.through, line.collisions, line.deeds, len(line), repr(line),
        [line[who] for who in numbers], [line(who) for who in numbers], [who in line for who in range(-2, 6)], log,
    ))


def wanted(plain, made):
    """The text of all that a line of the class is to tell, by a plain line."""
    found = plain.told()
    many = len(found["active"])
    log = found["log"] if issubclass(made, Logged) else None
    return repr((
        found["group"], found["now"], found["active"], found["through"], found["collisions"], found["deeds"], many,
        f"{made.__name__}(tick {found['now']}, {many} active)", found["began"], found["next"],
        [who in found["active"] for who in range(-2, 6)], log,
    ))
