"""A RING gone through minute by minute, for tests to hold the program against.

It knows nothing of the program: each caller has a line of names, and at each minute first the calls that end there
are ended, then those who are on no phone begin the next one.
"""


def level(people, name):
    callers = {each: caller for each, caller, _ in people}
    count = 0
    while name != "":
        name = callers[name]
        count += 1
    return count


def listed(people, name):
    return [each for each, caller, _ in people if caller == name]


def end_call(tree, away, lines, caller, callee):
    _, deep, people = tree
    if callee not in away:
        lines[callee] = listed(people, callee)
        return
    for each in reversed(listed(people, callee)):
        if deep == 0 or level(people, each) - level(people, caller) <= deep:
            lines[caller].insert(0, each)


def calls_by_minutes(tree, away):
    wait, _, people = tree
    talks = {name: talk for name, _, talk in people}
    lines = {"": listed(people, "")}
    going = {}
    calls = []
    minute = 0
    while going or any(lines.values()):
        for caller in sorted(going):
            end, callee = going[caller]
            if end == minute:
                del going[caller]
                end_call(tree, away, lines, caller, callee)
        for caller in sorted(lines):
            if caller not in going and lines[caller]:
                callee = lines[caller].pop(0)
                end = minute + (wait if callee in away else talks[callee])
                going[caller] = (end, callee)
                calls.append((minute, end, caller, callee, callee not in away))
        minute += 1
    return calls


def measure_by_minutes(tree, away, which, name=""):
    calls = calls_by_minutes(tree, away)
    told = {call[3]: call[1] for call in calls if call[4]}
    if which == "last":
        return max(told.values(), default=0)
    if which == "quiet":
        return max((call[1] for call in calls), default=0)
    if which == "lost":
        return len(tree[2]) - len(away) - len(told)
    return told.get(name)
