"""Papers: the order in which one plain book could have done the deeds, worked out from what was written."""

from oncecoin.errors import NoOrder
from oncecoin.forms import is_id
from oncecoin.plain import PlainBook


def edges(traces, decisions):
    """The pairs (a, b) of decided ids, ascending, such that a must stand ahead of b."""
    decided = _decided(decisions)
    found = {}
    for trace in traces:
        for pair in _pairs_of_trace(trace, decided):
            found[pair] = True
    for rows in decisions:
        for pair in _pairs_of_desk(rows):
            found[pair] = True
    return tuple(sorted(found))


def order_paper(traces, decisions):
    """All decided ids, always the least one next for which all that must stand ahead of it is there."""
    left = sorted(_decided(decisions))
    missing = {deed_id: 0 for deed_id in left}
    behind = {deed_id: [] for deed_id in left}
    for a, b in edges(traces, decisions):
        missing[b] += 1
        behind[a].append(b)
    paper = []
    while len(left) > 0:
        ready = [deed_id for deed_id in left if missing[deed_id] == 0]
        if len(ready) == 0:
            raise NoOrder(tuple(left))
        first = ready[0]
        paper.append(first)
        left.remove(first)
        for deed_id in behind[first]:
            missing[deed_id] -= 1
    return tuple(paper)


def apart(traces, decisions):
    """The pairs (a, b) of decided ids, a below b, ascending, that may stand in either order."""
    paper = order_paper(traces, decisions)
    before = {deed_id: [] for deed_id in paper}
    for a, b in edges(traces, decisions):
        before[b].append(a)
    ahead = {}
    for deed_id in paper:
        # All of these stand earlier in the paper, so what is ahead of them is known.
        found = {a: True for a in before[deed_id]}
        for a in before[deed_id]:
            for other in ahead[a]:
                found[other] = True
        ahead[deed_id] = found
    ids = sorted(paper)
    return tuple([(a, b) for at, a in enumerate(ids) for b in ids[at + 1:] if a not in ahead[b] and b not in ahead[a]])


def paper_holds(paper, traces, decisions, *, start=()):
    """Whether the paper has all decided ids, keeps all edges, and gives each deed its answer; for any value."""
    decided = _decided(decisions)
    if not _has_all_ids(paper, decided) or not _keeps(paper, edges(traces, decisions)):
        return False
    book = PlainBook(start=start)
    for deed_id in paper:
        deed, answer = decided[deed_id]
        if book.do(deed_id, deed) != answer:
            return False
    return True


def traces_of(net):
    """The traces of the houses of this net."""
    return tuple([house.trace() for house in net.houses()])


def decisions_of(net):
    """The decisions of the desks of this net."""
    return tuple([desk.decisions() for desk in net.desks()])


def paper_of(net):
    """The paper of all that the houses and desks of this net have written."""
    return order_paper(traces_of(net), decisions_of(net))


def _decided(decisions):
    """By decided id: its deed and its answer."""
    return {deed_id: (deed, answer) for rows in decisions for deed_id, deed, answer in rows}


def _pairs_of_trace(trace, decided):
    """Pairs (a, b) of decided ids such that a has ended ahead of the place where b is granted."""
    ended = []
    pairs = []
    for word, deed_id in trace:
        if deed_id in decided:
            if word == "ended":
                ended.append(deed_id)
            else:
                pairs.extend([(a, deed_id) for a in ended if a != deed_id])
    return pairs


def _pairs_of_desk(rows):
    """Pairs (a, b) of ids such that a is decided ahead of b."""
    ids = [deed_id for deed_id, _, _ in rows]
    return [(a, b) for at, b in enumerate(ids) for a in ids[:at]]


def _has_all_ids(paper, decided):
    # Only ids can be sorted, whatever else the paper may hold.
    if not isinstance(paper, tuple) or not all([is_id(deed_id) for deed_id in paper]):
        return False
    return sorted(paper) == sorted(decided)


def _keeps(paper, pairs):
    """Whether in the paper a stands ahead of b for each of these pairs (a, b)."""
    places = {deed_id: at for at, deed_id in enumerate(paper)}
    return all([places[a] < places[b] for a, b in pairs])
