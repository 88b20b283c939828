import unittest

from oncecoin.actors import Actor
from oncecoin.desks import Desk
from oncecoin.errors import Busy, InvalidDeed, InvalidNumber, NoActor, NoLetter
from oncecoin.houses import House
from oncecoin.nets import Net
from oncecoin.plain import PlainBook
from tests.helper import ODD_VALUES, kinds
from tests.walks import START, Walk, event_of

PAY = ("pay", 30)


def told(net):
    """All that a net says of itself."""
    actors = [net.actor(name) for name in names(net)]
    return kinds((
        [(actor.name, actor.state(), actor.disk.places()) for actor in actors], list(net), len(net),
        [(net.open_deed(customer), net.answers(customer)) for customer in range(10)]))


def names(net):
    """The houses and desks of this net."""
    found = []
    for name in ("d1", "d2", "d3", "h1", "h2", "h3", "h4", "h5"):
        try:
            found.append(net.actor(name).name)
        except NoActor:
            pass
    return found


class NetTest(unittest.TestCase):

    def raises(self, error, name, given, net, call):
        before = told(net)
        with self.assertRaises(error) as caught:
            call()
        self.assertEqual(kinds(getattr(caught.exception, name)), kinds(given))
        self.assertEqual(told(net), before)

    def has(self, net, *letters):
        self.assertEqual(kinds(list(net)), kinds(list(letters)))
        self.assertEqual(kinds(len(net)), kinds(len(letters)))

    def asked(self, customer=7, deed=PAY, desks=1):
        """A net in which this customer wants a deed, and has posted it."""
        net = Net(desks)
        net.ask(customer, deed)
        net.post(f"c{customer}")
        return net


class NewNetTest(NetTest):

    def test_new_nets(self):
        for desks in (1, 2, 3):
            for start in ((), START, list(START)):
                net = Net(desks, start=start)
                self.has(net)
                self.assertEqual(names(net), ["d1", "d2", "d3"][:desks] + ["h1", "h2", "h3", "h4", "h5"])
                for name in names(net):
                    self.assertIsInstance(net.actor(name), Actor)
                    self.assertIsInstance(net.actor(name), Desk if name[0] == "d" else House)
                    self.assertIs(net.actor(name), net.actor(name))
                values = [pair for house in range(1, 6) for pair in net.actor(f"h{house}").all_values()]
                self.assertEqual(kinds(tuple(values)), kinds(PlainBook(start=start).all_values()))
                for customer in range(10):
                    self.assertIsNone(net.open_deed(customer))
                    self.assertEqual(kinds(net.answers(customer)), kinds(()))

    def test_invalid_numbers_of_desks(self):
        for desks in ODD_VALUES + (4, 999, -3, "2", (2,), [2]):
            if kinds(desks) == kinds(1):
                continue
            with self.assertRaises(InvalidNumber) as caught:
                Net(desks, start=START)
            self.assertEqual(kinds(caught.exception.number), kinds(desks))

    def test_a_start_is_passed_by_its_name_alone(self):
        with self.assertRaises(TypeError):
            Net(1, START)

    def test_later_changes_to_a_start_have_no_effect(self):
        start = [list(pair) for pair in START]
        net = Net(1, start=start)
        for pair in start:
            pair[1] = 1000
        net.blackout()
        self.assertEqual(told(net), told(Net(1, start=START)))

    def test_no_actor(self):
        for desks in (1, 2, 3):
            net = Net(desks)
            others = ("c0", "c7", "h0", "h6", "d0", "d4", ["h1"], ("d1",), 1) + ("d2", "d3")[desks - 1:]
            for name in ODD_VALUES + others:
                self.raises(NoActor, "name", name, net, lambda: net.actor(name))
                self.raises(NoActor, "name", name, net, lambda: net.fall(name))
                self.raises(NoActor, "name", name, net, lambda: net.close(name))
                self.raises(NoActor, "name", name, net, lambda: net.close(name, cut=3))
                if name not in ("c0", "c7"):
                    self.raises(NoActor, "name", name, net, lambda: net.post(name))
            self.raises(NoActor, "name", "c10", net, lambda: net.post("c10"))


class AskTest(NetTest):

    def test_ids_and_open_deeds(self):
        net = Net(2)
        for customer in range(10):
            self.assertEqual(kinds(net.ask(customer, ("purse",))), kinds((customer, 1)))
            self.assertEqual(kinds(net.open_deed(customer)), kinds(((customer, 1), ("purse",))))
            self.assertEqual(net.answers(customer), ())
        self.has(net)
        net.calm()
        for customer in range(10):
            self.assertIsNone(net.open_deed(customer))
            self.assertEqual(kinds(net.ask(customer, PAY)), kinds((customer, 2)))
            self.assertEqual(net.open_deed(customer), ((customer, 2), PAY))

    def test_answers(self):
        net = Net(3)
        for deed in (PAY, ("draw", 50), ("rate", 5), ("purse",)):
            net.ask(7, deed)
            net.calm()
        self.assertEqual(kinds(net.answers(7)), kinds((
            ("done",), ("refused", "coins"), ("refused", "right"), ("coins", 30))))

    def test_invalid_customers(self):
        net = Net(1)
        for customer in ODD_VALUES + (10, -1, "7", "c7", (7,), [7]):
            if kinds(customer) in (kinds(0), kinds(1)):
                continue
            self.raises(InvalidNumber, "number", customer, net, lambda: net.ask(customer, PAY))
            self.raises(InvalidNumber, "number", customer, net, lambda: net.ask(customer, ("pay", 0)))
            self.raises(InvalidNumber, "number", customer, net, lambda: net.open_deed(customer))
            self.raises(InvalidNumber, "number", customer, net, lambda: net.answers(customer))

    def test_invalid_deeds_ahead_of_busy(self):
        net = Net(1)
        for deed in ODD_VALUES + (("pay", 0), ["purse"], ("pay", True), ("order", [("tea", 1)], True, None)):
            self.raises(InvalidDeed, "deed", deed, net, lambda: net.ask(7, deed))
        net.ask(7, PAY)
        self.raises(InvalidDeed, "deed", ("pay", 0), net, lambda: net.ask(7, ("pay", 0)))

    def test_busy(self):
        net = Net(1)
        net.ask(7, PAY)
        for deed in (PAY, ("purse",)):
            self.raises(Busy, "customer", 7, net, lambda: net.ask(7, deed))
        self.assertEqual(net.ask(6, PAY), (6, 1))
        net.calm()
        self.assertEqual(net.ask(7, PAY), (7, 2))


class PostTest(NetTest):

    def test_customers_post_to_their_desks(self):
        for desks in (1, 2, 3):
            for customer in range(10):
                net = self.asked(customer, ("purse",), desks)
                self.has(net, (f"c{customer}", f"d{1 + customer % desks}", 1, ("deed", ("purse",))))

    def test_customers_who_do_not_wait_post_nothing(self):
        net = Net(1)
        net.post("c7")
        self.has(net)
        net.ask(7, PAY)
        net.calm()
        net.post("c7")
        self.has(net)

    def test_actors_post_what_they_have_to_say(self):
        net = Net(1)
        net.post("d1")
        net.post("h5")
        self.has(net)
        net.ask(7, PAY)
        net.post("c7")
        net.deliver(0)
        ask = ("ask", (7, 1), (((5, "paid"), "add", 0), ((5, "purse", 7), "add", 0)))
        for _ in range(2):
            net.post("d1")
        self.has(net, ("d1", "h5", 1, ask), ("d1", "h5", 1, ask))
        net.deliver(1)
        net.post("h5")
        self.has(net, ("d1", "h5", 1, ask), ("h5", "d1", 1, ("told", (7, 1), (None, None))), ("h5", "d1", 0, ("got", 1)))

    def test_letters_are_those_of_the_actor(self):
        for seed in range(6):
            walk = Walk(seed)
            walk.all_events()
            for name in walk.actors:
                before = list(walk.net)
                letters = walk.net.actor(name).letters()
                self.assertIsNone(walk.net.post(name))
                self.assertEqual(list(walk.net), before + [(name,) + letter for letter in letters])

    def test_a_full_row(self):
        self.assertEqual(kinds(Net.MOST), kinds(1000))
        net = self.asked()
        for _ in range(Net.MOST - 2):
            net.double(0)
        self.assertEqual(len(net), 999)
        net.ask(3, ("purse",))
        net.post("c3")
        self.assertEqual((len(net), list(net)[-1]), (1000, ("c3", "d1", 1, ("deed", ("purse",)))))
        before = list(net)
        net.post("c7")
        net.double(999)
        net.post("c3")
        self.assertEqual(list(net), before)
        net.put_off(0)
        self.assertEqual(list(net), before[1:] + before[:1])
        net.lose(0)
        net.lose(0)
        self.assertEqual(len(net), 998)

    def test_letters_of_one_post_for_which_there_is_no_room(self):
        net = self.asked()
        net.deliver(0)
        net.post("d1")
        net.deliver(0)
        net.ask(3, ("purse",))
        net.post("c3")
        for _ in range(Net.MOST - 2):
            net.double(0)
        self.assertEqual(len(net.actor("h5").letters()), 2)
        net.post("h5")
        self.assertEqual((len(net), list(net)[-1][2:]), (1000, (1, ("told", (7, 1), (None, None)))))

    def test_an_iteration_gives_the_letters_that_were_there_when_it_began(self):
        net = self.asked()
        net.double(0)
        found = []
        for letter in net:
            found.append(letter)
            net.lose(0)
        self.assertEqual(len(found), 2)
        self.has(net)


class LetterTest(NetTest):

    def three(self):
        """A net with letters of the customers 1, 2 and 3."""
        net = Net(1)
        for customer in (1, 2, 3):
            net.ask(customer, PAY)
            net.post(f"c{customer}")
        return net, list(net)

    def test_no_letter(self):
        for net in (Net(1), self.asked(), self.three()[0]):
            for k in ODD_VALUES + (len(net), len(net) + 1, -1, -2, 999, 1000, "0", (0,), [0]):
                if kinds(k) == kinds(0) and len(net) or kinds(k) == kinds(1) and len(net) > 1:
                    continue
                for call in (net.deliver, net.double, net.lose, net.put_off):
                    self.raises(NoLetter, "number", k, net, lambda: call(k))
                self.raises(NoLetter, "number", k, net, lambda: net.deliver(k, cut=2))

    def test_double(self):
        net, letters = self.three()
        self.assertIsNone(net.double(1))
        self.has(net, *letters, letters[1])

    def test_lose(self):
        for k in range(3):
            net, letters = self.three()
            self.assertIsNone(net.lose(k))
            self.has(net, *letters[:k], *letters[k + 1:])

    def test_put_off(self):
        for k in range(3):
            net, letters = self.three()
            self.assertIsNone(net.put_off(k))
            self.has(net, *letters[:k], *letters[k + 1:], letters[k])

    def test_deliver_takes_the_letter_out(self):
        for k in range(3):
            net, letters = self.three()
            self.assertIs(net.deliver(k), True)
            self.has(net, *letters[:k], *letters[k + 1:])
            self.assertEqual(net.actor("d1").open_deeds(), ((k + 1, 1),))

    def test_deliver_again(self):
        net = self.asked()
        net.double(0)
        self.assertIs(net.deliver(0), True)
        self.assertIs(net.deliver(0), False)
        self.has(net)

    def test_an_answer_is_taken_once(self):
        net = self.asked(7, ("rate", 5))
        net.deliver(0)
        net.post("d1")
        answer = ("d1", "c7", 1, ("answer", ("refused", "right")))
        self.has(net, answer)
        net.double(0)
        net.double(0)
        for cut, changed in ((0, True), (None, False)):
            self.assertIs(net.deliver(0, cut=cut), changed)
            self.assertEqual(net.answers(7), (("refused", "right"),))
        net.ask(7, PAY)
        self.assertIs(net.deliver(0), False)
        self.assertEqual((net.answers(7), net.open_deed(7)), ((("refused", "right"),), ((7, 2), PAY)))

    def test_deliver_with_a_cut(self):
        whole = self.asked()
        whole.deliver(0)
        length = len(whole.actor("d1").disk.records()[0])
        for cut in range(length + 3):
            net, other = self.asked(), self.asked()
            other.lose(0)
            self.assertIs(net.deliver(0, cut=cut), cut > length)
            self.assertEqual(told(net), told(whole if cut > length else other))

    def test_each_letter_brings_its_event(self):
        for seed in range(6):
            walk = Walk(seed)
            for _ in range(walk.steps):
                walk.step()
                for k, letter in enumerate(list(walk.net)[:2]):
                    if letter[1][0] != "c":
                        cls = House if letter[1][0] == "h" else Desk
                        twin = cls.come_back(letter[1], walk.net.actor(letter[1]).disk.places())
                        self.assertIs(walk.net.deliver(k), twin.handle(event_of(letter)))
                        self.assertEqual(walk.net.actor(letter[1]).state(), twin.state())
                        break


class ActorTest(NetTest):

    def busy(self):
        """A net in the middle of a deed, with a letter on the way."""
        net = self.asked()
        net.deliver(0)
        net.post("d1")
        net.deliver(0)
        net.post("h5")
        return net

    def test_fall(self):
        net, twin = self.busy(), self.busy()
        for name in names(net):
            net.actor(name).disk.write("(torn", cut=4)
            self.assertIsNone(net.fall(name))
            self.assertEqual(told(net), told(twin))

    def test_close(self):
        net = self.busy()
        for name in names(net):
            before = net.actor(name).state()
            self.assertIs(net.close(name, cut=2), False)
            self.assertEqual((net.actor(name).state(), net.actor(name).disk.book), (before, 0))
            self.assertIs(net.close(name), True)
            self.assertEqual((net.actor(name).state(), net.actor(name).disk.book), (before, 1))
            self.assertIs(net.close(name, cut=100000), True)
            self.assertEqual((net.actor(name).state(), net.actor(name).disk.book), (before, 2))
        self.assertEqual(len(net), 2)

    def test_the_cut_is_passed_by_its_name_alone(self):
        net = self.busy()
        with self.assertRaises(TypeError):
            net.deliver(0, 3)
        with self.assertRaises(TypeError):
            net.close("d1", 3)

    def test_blackout(self):
        net, twin = self.busy(), self.busy()
        for name in names(net):
            net.actor(name).disk.write("(torn", cut=4)
        self.assertIsNone(net.blackout())
        while len(twin):
            twin.lose(0)
        self.assertEqual(told(net), told(twin))
        net.calm()
        self.assertEqual(net.answers(7), (("done",),))


class CalmTest(NetTest):

    def test_nothing_to_do(self):
        net = Net(3, start=START)
        before = told(net)
        self.assertEqual(kinds(net.calm()), kinds(0))
        self.assertEqual(told(net), before)

    def test_rounds(self):
        # A refused deed: to the desk and back. Its customer got the answer in the second round.
        net = self.asked(7, ("rate", 5))
        net.lose(0)
        self.assertEqual(net.calm(), 2)
        # The letter is delivered ahead of the rounds, and the answer in the first one.
        net = self.asked(7, ("rate", 5))
        self.assertEqual(net.calm(), 1)
        # Deed; ask; told and got; end, answer and got; got.
        net = Net(1)
        net.ask(7, PAY)
        self.assertEqual(net.calm(), 5)
        self.assertEqual(net.calm(), 0)

    def test_letters_that_are_there_are_delivered_first(self):
        net = self.asked()
        for _ in range(50):
            net.double(0)
        self.assertEqual(net.calm(), 4)
        self.has(net)

    def check_calm(self, net):
        self.has(net)
        for customer in range(10):
            self.assertIsNone(net.open_deed(customer))
        for name in names(net):
            actor = net.actor(name)
            if name[0] == "d":
                self.assertEqual(actor.open_deeds(), ())
            else:
                self.assertEqual(actor.waiting(), ())
                trace = actor.trace()
                granted = [deed_id for word, deed_id in trace if word == "granted"]
                self.assertEqual(sorted(granted), sorted([deed_id for word, deed_id in trace if word == "ended"]))
        before = told(net)
        self.assertEqual(net.calm(), 0)
        self.assertEqual(told(net), before)

    def test_after_calm(self):
        """The sentence in bold of [31]: falls, closings and blackouts at drawn moments, then calm."""
        for seed in range(40):
            walk = Walk(seed)
            many = dict.fromkeys(range(10), 0)
            for at in range(walk.steps):
                walk.step()
                for customer in range(10):
                    waits = walk.net.open_deed(customer)
                    many[customer] = max(many[customer], waits[0][1] if waits else 0)
                if at % 150 == 149:
                    if walk.chance(0.3):
                        walk.net.blackout()
                    walk.net.calm()
                    self.check_calm(walk.net)
            walk.net.calm()
            self.check_calm(walk.net)
            for customer, number in many.items():
                self.assertEqual(len(walk.net.answers(customer)), number, "each deed is answered once")

    def test_a_calm_from_a_full_row(self):
        for seed in range(3):
            walk = Walk(seed)
            walk.all_events()
            while len(walk.net) < Net.MOST:
                for name in walk.names:
                    walk.net.post(name)
                if walk.net.open_deed(8) is None:
                    walk.net.ask(8, ("purse",))
            walk.net.calm()
            self.check_calm(walk.net)


if __name__ == "__main__":
    unittest.main()
