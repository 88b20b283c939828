import itertools
import random
import unittest

from oncecoin.errors import NoOrder
from oncecoin.nets import Net
from oncecoin.papers import apart, decisions_of, edges, order_paper, paper_holds, paper_of, traces_of
from tests.helper import ODD_VALUES, kinds
from tests.walks import START, walks

A, B, C, D = (1, 1), (1, 2), (2, 1), (3, 1)


def trace(*words):
    """A trace in which +A is told by ("+", A): granted, and ("-", A): ended."""
    return tuple([("granted" if sign == "+" else "ended", deed_id) for sign, deed_id in words])


def serial(*ids):
    """A trace in which each of these ids is granted and ends ahead of the next one."""
    return trace(*[(sign, deed_id) for deed_id in ids for sign in "+-"])


def decided(*desks):
    """Decisions in which each of these desks decided these ids."""
    return tuple([tuple([(deed_id, ("purse",), ("coins", 0)) for deed_id in ids]) for ids in desks])


def orders_that_keep(ids, pairs):
    return [order for order in itertools.permutations(ids) if all(order.index(a) < order.index(b) for a, b in pairs)]


def drawn_order(draw, ids, pairs):
    """One order of the ids that keeps all edges."""
    left, found = list(ids), []
    while left:
        bound = {b for a, b in pairs if a in left}
        found.append(draw.choice([deed_id for deed_id in left if deed_id not in bound]))
        left.remove(found[-1])
    return tuple(found)


class EdgeTest(unittest.TestCase):

    def finds(self, traces, decisions, *pairs):
        for make in (tuple, list):
            passed = make([make([make(row) for row in rows]) for rows in traces])
            given = make([make(rows) for rows in decisions])
            before = kinds((passed, given))
            self.assertEqual(kinds(edges(passed, given)), kinds(pairs))
            self.assertEqual(kinds((passed, given)), before)

    def test_nothing(self):
        self.finds((), ())
        self.finds(((), (), ()), ((), ()))
        self.finds((), decided((A,)))

    def test_an_end_ahead_of_a_grant(self):
        self.finds((serial(A, C),), decided((A,), (C,)), (A, C))
        self.finds((serial(C, A),), decided((A,), (C,)), (C, A))
        self.finds((trace(("+", A), ("+", C), ("-", A), ("-", C)),), decided((A,), (C,)))
        self.finds((trace(("+", A), ("-", A), ("+", C)),), decided((A,), (C,)), (A, C))
        self.finds((trace(("+", A), ("+", C), ("-", C), ("+", D)),), decided((A, C), (D,)), (A, C), (C, D))

    def test_all_later_grants(self):
        self.finds((serial(D, C, A),), decided((A,), (C,), (D,)), (C, A), (D, A), (D, C))

    def test_several_traces(self):
        self.finds((serial(A, C), serial(C, D), serial(A, C)), decided((A,), (C,), (D,)), (A, C), (C, D))

    def test_unlike_traces_are_not_joined(self):
        self.finds((serial(A), serial(C)), decided((A,), (C,)))

    def test_decisions_of_one_desk(self):
        self.finds((), decided((D, A, C)), (A, C), (D, A), (D, C))
        self.finds((), decided((A,), (), (D, C)), (D, C))
        self.finds((serial(D, C),), decided((D, C)), (D, C))

    def test_ids_that_are_not_decided(self):
        self.finds((serial(A, B, C),), decided((A,), (C,)), (A, C))
        self.finds((serial(A, B, C),), decided((A,),))
        self.finds((serial(B, A), serial(A, B)), decided((A,)))

    def test_rings(self):
        self.finds((serial(A, C), serial(C, A)), decided((A,), (C,)), (A, C), (C, A))
        self.finds((serial(A, C),), decided((C, A)), (A, C), (C, A))

    def test_no_id_is_beside_itself(self):
        self.finds((serial(A), serial(A), trace(("-", A), ("+", A))), decided((A,)))


class OrderTest(unittest.TestCase):

    def raises_no_order(self, traces, decisions, *ids):
        for function in (order_paper, apart):
            with self.assertRaises(NoOrder) as caught:
                function(traces, decisions)
            self.assertEqual(kinds(caught.exception.ids), kinds(ids))

    def test_nothing(self):
        self.assertEqual(kinds(order_paper((), ())), kinds(()))
        self.assertEqual(kinds(order_paper((), ((), ()))), kinds(()))

    def test_the_least_id_that_is_ready(self):
        for traces, decisions, paper in (
                ((), decided((D,), (C,), (A,)), (A, C, D)),
                ((serial(D, A),), decided((A,), (C,), (D,)), (C, D, A)),
                ((serial(C, A),), decided((A,), (C,), (D,)), (C, A, D)),
                ((serial(D, C, A),), decided((A,), (C,), (D,)), (D, C, A)),
                ((), decided((D, A), (C,)), (C, D, A)),
                ((serial(D, A), serial(B, D)), decided((A,), (D,), (B,)), (B, D, A)),
                ((serial(A, B, C),), decided((A,), (C,)), (A, C)),
                ((serial((10 - 1, 1), (2, 10), (2, 9)),), decided(((2, 9),), ((2, 10),), ((9, 1),)),
                 ((9, 1), (2, 10), (2, 9)))):
            for make in (tuple, list):
                self.assertEqual(kinds(order_paper(make(traces), make(decisions))), kinds(paper))

    def test_rings(self):
        self.raises_no_order((serial(A, C), serial(C, A)), decided((A,), (C,)), A, C)
        self.raises_no_order((serial(A, C),), decided((C, A)), A, C)
        self.raises_no_order((serial(D, C), serial(C, B), serial(B, D)), decided((D,), (B,), (C,)), B, C, D)

    def test_what_is_left_beside_a_ring(self):
        # D comes ahead of the ring and is there; B comes behind it and is left.
        self.raises_no_order((serial(D, A), serial(A, C), serial(C, A), serial(C, B)),
                             decided((A,), (B,), (C,), (D,)), A, B, C)
        self.raises_no_order((serial(A, C), serial(C, A)), decided((A,), (B,), (C,), (D,)), A, C)

    def test_a_ring_through_an_id_that_is_not_decided(self):
        self.assertEqual(order_paper((serial(A, B), serial(B, A)), decided((A,))), (A,))

    def test_drawn_papers(self):
        for seed in range(150):
            draw = random.Random(seed)
            ids = draw.sample([(customer, number) for customer in range(4) for number in (1, 2, 3)], 6)
            traces = [serial(*draw.sample(ids, draw.choice((1, 2, 2, 3)))) for _ in range(draw.choice((1, 2, 4)))]
            desks = [[], [], []]
            for deed_id in ids:
                desks[draw.randrange(3)].append(deed_id)
            decisions = decided(*desks[:draw.choice((3, 3, 2))])
            pairs = edges(traces, decisions)
            known = sorted([row[0] for rows in decisions for row in rows])
            orders = orders_that_keep(known, pairs)
            if not orders:
                with self.assertRaises(NoOrder):
                    order_paper(traces, decisions)
                continue
            # Always the least id next: the least of all orders.
            self.assertEqual(order_paper(traces, decisions), min(orders))
            both = [(a, b) for a, b in itertools.combinations(known, 2)
                    if len({order.index(a) < order.index(b) for order in orders}) == 2]
            self.assertEqual(kinds(apart(traces, decisions)), kinds(tuple(both)))


class ApartTest(unittest.TestCase):

    def test_apart(self):
        for traces, decisions, pairs in (
                ((), (), ()),
                ((), decided((A,)), ()),
                ((), decided((D,), (A,), (C,)), ((A, C), (A, D), (C, D))),
                ((), decided((D, A), (C,)), ((A, C), (C, D))),
                ((serial(D, A),), decided((D,), (A,), (C,)), ((A, C), (C, D))),
                ((serial(A, C), serial(C, D)), decided((D,), (A,), (C,)), ()),
                ((serial(D, C), serial(C, A)), decided((D,), (A,), (C,)), ()),
                ((serial(A, C), serial(A, D)), decided((D,), (A,), (C,)), ((C, D),)),
                # The way from A to D leads over an id that is not decided.
                ((serial(A, C), serial(C, D)), decided((D,), (A,)), ((A, D),))):
            for make in (tuple, list):
                self.assertEqual(kinds(apart(make(traces), make(decisions))), kinds(pairs))


def small_net():
    """A net with deeds that were partly done side by side."""
    net = Net(3, start=START)
    for row in (
            ((7, ("pay", 30)), (2, ("purse",)), (9, ("order", (("tea", 2),), False, None)), (0, ("coupon", "bonus", 9))),
            ((7, ("purse",)), (2, ("order", (("cup", 1),), True, "gift")), (0, ("price", "cup", 8)), (4, ("draw", 5)))):
        for customer, deed in row:
            net.ask(customer, deed)
        net.calm()
    return net


class HoldTest(unittest.TestCase):

    def setUp(self):
        self.net = small_net()
        self.told = (traces_of(self.net), decisions_of(self.net))
        self.paper = paper_of(self.net)

    def holds(self, paper, lets=True):
        self.assertIs(paper_holds(paper, *self.told, start=START), lets)

    def test_what_a_net_tells(self):
        self.assertEqual(kinds(traces_of(self.net)),
                         kinds(tuple([self.net.actor(name).trace() for name in ("h1", "h2", "h3", "h4", "h5")])))
        self.assertEqual(kinds(decisions_of(self.net)),
                         kinds(tuple([self.net.actor(name).decisions() for name in ("d1", "d2", "d3")])))
        self.assertEqual(kinds(self.paper), kinds(order_paper(*self.told)))
        self.assertEqual(self.paper, ((0, 1), (2, 1), (7, 1), (9, 1), (0, 2), (2, 2), (4, 1), (7, 2)))
        self.assertEqual(apart(*self.told), (
            ((0, 1), (2, 1)), ((0, 1), (7, 1)), ((0, 2), (4, 1)), ((0, 2), (7, 2)), ((2, 1), (7, 1)),
            ((2, 2), (4, 1)), ((2, 2), (7, 2))))

    def test_nets_without_deeds(self):
        for desks in (1, 2, 3):
            net = Net(desks)
            self.assertEqual(kinds((traces_of(net), decisions_of(net), paper_of(net))),
                             kinds((((),) * 5, ((),) * desks, ())))
            self.assertIs(paper_holds((), traces_of(net), decisions_of(net)), True)
            self.assertIs(paper_holds([], traces_of(net), decisions_of(net)), False)

    def test_each_order_that_keeps_all_edges_holds(self):
        pairs = edges(*self.told)
        draw, found = random.Random(1), set()
        for _ in range(200):
            order = drawn_order(draw, self.paper, pairs)
            self.holds(order)
            found.add(order)
        self.assertGreater(len(found), 20)

    def test_each_edge_counts(self):
        for a, b in edges(*self.told):
            order = list(self.paper)
            places = order.index(a), order.index(b)
            order[places[0]], order[places[1]] = b, a
            self.holds(tuple(order), False)

    def test_papers_that_are_spoilt(self):
        paper = self.paper
        self.holds(paper)
        self.holds(list(paper), False)
        self.holds(paper + paper[-1:], False)
        self.holds(paper + ((8, 1),), False)
        self.holds(paper[::-1], False)
        self.holds(paper[:-1] + ((7, 3),), False)
        for at in range(len(paper)):
            customer, number = paper[at]
            self.holds(paper[:at] + paper[at + 1:], False)
            self.holds(paper[:at] + paper[:1] + paper[at + 1:], at == 0)
            for odd in ODD_VALUES + ([customer, number], (customer, number, 0), (customer,)):
                self.holds(paper[:at] + (odd,) + paper[at + 1:], False)
            if number == 1:
                self.holds(paper[:at] + ((customer, True),) + paper[at + 1:], False)
            if customer == 0:
                self.holds(paper[:at] + ((False, number),) + paper[at + 1:], False)

    def test_odd_papers(self):
        for paper in ODD_VALUES:
            self.holds(paper, False)
            self.assertIs(paper_holds(paper, (), ()), kinds(paper) == kinds(()))

    def test_the_start_counts(self):
        self.assertIs(paper_holds(self.paper, *self.told), False)
        self.assertIs(paper_holds(self.paper, *self.told, start=list(START)), True)
        poorer = tuple([pair for pair in START if pair[0] != (1, "rate")])
        self.assertIs(paper_holds(self.paper, *self.told, start=poorer), False)
        with self.assertRaises(TypeError):
            paper_holds(self.paper, *self.told, START)

    def test_each_answer_counts(self):
        traces, decisions = self.told
        for desk, rows in enumerate(decisions):
            for at, (deed_id, deed, answer) in enumerate(rows):
                for other in (("coins", 199), ("refused", "stock"), answer + (0,), answer[:-1]):
                    spoilt = [list(row) for row in decisions]
                    spoilt[desk][at] = (deed_id, deed, other)
                    self.assertIs(paper_holds(self.paper, traces, spoilt, start=START), False)
                    spoilt[desk][at] = (deed_id, deed, answer)
                    self.assertIs(paper_holds(self.paper, traces, spoilt, start=START), True)

    def test_a_paper_without_traces(self):
        rows = (((7, 1), ("pay", 30), ("done",)), ((7, 2), ("purse",), ("coins", 30)))
        self.assertIs(paper_holds(((7, 1), (7, 2)), (), (rows,)), True)
        self.assertIs(paper_holds(((7, 2), (7, 1)), (), (rows,)), False)
        # No edge between them: now the answer alone tells.
        apart_rows = (rows[:1], rows[1:])
        self.assertIs(paper_holds(((7, 1), (7, 2)), (), apart_rows), True)
        self.assertIs(paper_holds(((7, 2), (7, 1)), (), apart_rows), False)
        traces = (serial((7, 1), (7, 2)), serial((7, 2), (7, 1)))
        self.assertIs(paper_holds(((7, 1), (7, 2)), traces, apart_rows), False)


class WalkTest(unittest.TestCase):
    """The sentence in bold of [33]."""

    def test_papers_of_nets(self):
        unlike = 0
        for walk in walks(25):
            for _ in walk.moments():
                traces, decisions = traces_of(walk.net), decisions_of(walk.net)
                paper, pairs = paper_of(walk.net), edges(traces, decisions)
                self.assertTrue(paper_holds(paper, traces, decisions, start=walk.start))
                other = drawn_order(walk.draw, paper, pairs)
                unlike += other != paper
                self.assertTrue(paper_holds(other, traces, decisions, start=walk.start))
                for customer in range(10):
                    own = [number for one, number in paper if one == customer]
                    self.assertEqual(own, list(range(1, len(own) + 1)))
        self.assertGreater(unlike, 100)

    def test_the_order_in_which_deeds_were_decided(self):
        for walk in walks(15, first=100):
            order = []
            for _ in range(walk.steps):
                walk.step()
                rows = [row for decisions in decisions_of(walk.net) for row in decisions]
                order += [deed_id for deed_id, _, _ in rows if deed_id not in order]
            self.assertTrue(paper_holds(tuple(order), traces_of(walk.net), decisions_of(walk.net), start=walk.start))

    def test_each_customer_is_at_one_desk(self):
        for walk in walks(5):
            list(walk.moments())
            for at, rows in enumerate(decisions_of(walk.net)):
                for (customer, _), _, _ in rows:
                    self.assertEqual(at, customer % len(decisions_of(walk.net)))


if __name__ == "__main__":
    unittest.main()
