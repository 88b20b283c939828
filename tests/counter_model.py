"""A counter written down once more, rule by rule, to compare the program with; and asks at random."""

import collections


class Clerk:

    def __init__(self, house, start=()):
        self.house = house
        self.values = {key: value for key, value in start if key[0] == house}
        self.row = []                                   # the waiting asks
        self.grants = collections.defaultdict(list)     # by key: [deed_id, mode, answer]
        self.log = []

    def value(self, key):
        return self.values.get(key, None if key[1] in ("price", "coupon", "order", "road") else 0)

    def free_for_take(self, key):
        return self.value(key) - sum([answer for _, mode, answer in self.grants[key] if mode == "ample"])

    def lets(self, key, mode, many):
        """How the request would stand on its key: (mode, answer), or None."""
        there = sorted([mode for _, mode, _ in self.grants[key]])
        gentle = not set(there) - {"add", "ample"}
        if mode == "see" and not set(there) - {"see"}:
            return ("see", self.value(key))
        if mode == "own" and not there:
            return ("own", self.value(key))
        if mode == "add" and gentle:
            return ("add", None)
        if mode == "take" and gentle and many <= self.free_for_take(key):
            return ("ample", many)
        if mode == "take" and not there:
            return ("short", self.value(key))
        return None

    def look_through(self):
        answers, at = [], 0
        while at < len(self.row):
            deed_id, requests = self.row[at]
            earlier = {key for _, others in self.row[:at] for key, _, _ in others}
            found = [self.lets(*request) for request in requests]
            if None in found or earlier & {key for key, _, _ in requests}:
                at += 1
                continue
            del self.row[at]
            for (key, _, _), (mode, answer) in zip(requests, found):
                self.grants[key].append((deed_id, mode, answer))
            self.log.append(("granted", deed_id))
            answers.append((deed_id, tuple([answer for _, answer in found])))
        return tuple(answers)

    def ask(self, deed_id, requests):
        self.row.append((deed_id, requests))
        return self.look_through()

    def end(self, deed_id, writes):
        for key, what in writes:
            self.values[key] = what if key[1] in ("price", "rate", "coupon", "order", "road") else self.value(key) + what
        for key in self.grants:
            self.grants[key] = [row for row in self.grants[key] if row[0] != deed_id]
        self.log.append(("ended", deed_id))
        return self.look_through()

    def pairs(self):
        return tuple(sorted([(key, value) for key, value in self.values.items()
                             if value is not None and (value != 0 or key[1] == "price")]))

    def standing(self):
        """The ids with grants, and by id what stands there for it."""
        found = collections.defaultdict(dict)
        for key, rows in self.grants.items():
            for deed_id, mode, answer in rows:
                found[deed_id][key] = (mode, answer)
        return found


KEYS = {
    1: ((1, "away", "tea"), (1, "coupon", "gift"), (1, "price", "cup"), (1, "price", "tea"), (1, "rate")),
    3: ((3, "came", "tea"), (3, "free", "cup"), (3, "free", "tea"), (3, "held", "tea")),
    5: ((5, "kept"), (5, "paid"), (5, "purse", 1), (5, "purse", 2)),
}


def some_requests(draw, house):
    """One to four requests at this house."""
    found = []
    for key in sorted(draw.sample(KEYS[house], draw.choice((1, 1, 2, 2, 3, 4)))):
        if house == 1 and key[1] != "away":
            found.append((key, draw.choice(("see", "see", "own")), 0))
        else:
            mode = draw.choice(("see", "add", "add", "take", "take", "take"))
            found.append((key, mode, draw.choice((1, 2, 3, 5, 9)) if mode == "take" else 0))
    return tuple(found)


def some_writes(draw, standing):
    """Writes that are in order for these grants, a dict from keys to pairs (mode, answer)."""
    found = []
    for key, (mode, answer) in sorted(standing.items()):
        if mode == "own" and draw.random() < 0.7:
            found.append((key, ("unused", draw.randrange(9)) if key[1] == "coupon" else draw.randrange(4)))
        if mode in ("ample", "short") and answer > 0 and draw.random() < 0.7:
            found.append((key, -draw.randint(1, answer)))
        if mode == "add" and draw.random() < 0.7:
            least = 1 if key[1] in ("free", "purse") else -4
            found.append((key, draw.choice([change for change in range(least, 7) if change != 0])))
    return tuple(found)
