"""What the scripts of deeds are made of: requests, asks, ends and changes.

A script is a function of a deed and of what the houses have told so far, a dict from keys to answers.
"""


def see(key):
    return (key, "see", 0)


def own(key):
    return (key, "own", 0)


def add(key):
    return (key, "add", 0)


def take(key, many):
    return (key, "take", many)


def next_ask(requests, known):
    """The ask for the first house at which some of these requests have no answer yet; None if all have one."""
    missing = sorted([request for request in requests if request[0] not in known])
    if len(missing) == 0:
        return None
    house = missing[0][0][0]
    return ("ask", house, tuple([request for request in missing if request[0][0] == house]))


def done(writes, answer):
    """The end with these writes, given in any order."""
    return ("done", tuple(sorted(writes)), answer)


def refused(word):
    return ("done", (), ("refused", word))


def moving(source, target, many):
    """The changes that bring so much from one amount to another; none if there is nothing to bring."""
    if many == 0:
        return []
    return [(source, -many), (target, many)]


def after_adds(changes, records, answer, known):
    """The next ask for what is to be changed; when all is asked for, the end with these changes and records."""
    step = next_ask([add(key) for key, _ in changes], known)
    if step is not None:
        return step
    return done(records + changes, answer)
