"""Point 25: nets that strangers lead."""

from itertools import product
from random import Random

from onesilent.errors import BadEvent, NoEvent, NoInputs, NoNumber
from onesilent.families import agreement, few, leader
from onesilent.folks import Folk
from onesilent.leading import is_true, led
from onesilent.making import told_folk
from onesilent.nets import Net
from onesilent.plans import plan
from onesilent.tasks import inputs_of, lot_of
from tests.cases import Case
from tests.samples import nested, oddities
from tests.test_nets import Begin, drawn, folk_of, told_by

ROW = (4, 5, 6)


def wanderer(seed):
    """A stranger's function that tells events drawn from a source."""
    source = Random(seed)

    def stranger(net):
        events = Begin.all_events(max(len(net.bag()), len(net.up())))
        return drawn(source, [event for event in events if net.is_event(event)])
    return stranger


def first_fit(net):
    """Go if any machine may, else have a letter come, else end."""
    for word in ("go", "come"):
        for k in range(max(len(net.bag()), 5)):
            if net.is_event((word, k)):
                return (word, k)
    return None


class Led(Case):
    def test_so_many_events_or_fewer(self):
        net = Net(folk_of(2), ROW)
        for most in (0, 1, 2, 5, 60, 5000):
            calls = []

            def stranger(copy):
                calls.append(copy)
                return first_fit(copy)
            found = led(net, stranger, most)
            self.assertIs(type(found), Net)
            own = Net(folk_of(2), ROW)
            count = 0
            while count < most and first_fit(own) is not None:
                own.event(first_fit(own))
                count += 1
            self.assertEqual(told_by(found), told_by(own))
            self.assertEqual(len(calls), count if count == most else count + 1)

    def test_0_events(self):
        net = Net(folk_of(2), ROW)

        def stranger(copy):
            raise KeyError("never called")
        self.assertEqual(told_by(led(net, stranger, 0)), told_by(net))

    def test_5000_events(self):
        net = Net(folk_of(1), ROW)
        turns = []

        def stranger(copy):
            turns.append(len(turns))
            return ("fall", 0) if copy.up()[0] else ("rise", 0)
        found = led(net, stranger, 5000)
        self.assertEqual((len(turns), found.up()), (5000, (True,) * 3))
        self.assertEqual(led(net, lambda copy: ("double", 0), 5000).bag(), net.bag() + [net.bag()[0]] * 5000)

    def test_the_net_that_was_handed_in_stays(self):
        for seed in range(20):
            net = Net(folk_of(3), (1, 2, 3, 4))
            before = told_by(net)
            found = led(net, wanderer(seed), 80)
            self.assertEqual(told_by(net), before)
            self.assertEqual(told_by(led(net, wanderer(seed), 80)), told_by(found))
            after = told_by(found)
            net.settled(None)
            self.assertEqual(told_by(found), after)
            found.settled(0)
            self.assertEqual(net.at(), (3,) * 4)

    def test_none_ends_at_once(self):
        net = Net(folk_of(2), ROW)
        told = iter([("fall", 0), ("rise", 0), None, ("fall", 1)])
        self.assertEqual(led(net, lambda copy: next(told), 10).up(), (True,) * 3)
        self.assertEqual(next(told), ("fall", 1))

    def test_what_is_done_to_the_copy_changes_nothing(self):
        net = Net(folk_of(2), ROW)
        kept = []

        def stranger(copy):
            kept.append(copy)
            copy.event(("fall", 2))
            copy.settled(2)
            return ("again", 0)
        found = led(net, stranger, 3)
        self.assertEqual((found.up(), found.at(), len(found.bag())), ((True,) * 3, (0,) * 3, 12))
        kept[0].event(("rise", 2))
        self.assertEqual(len({id(copy) for copy in [*kept, found, net]}), 5)

    def test_bad_events(self):
        net = Net(folk_of(2), ROW)
        before = told_by(net)
        wrong = [thing for thing in oddities() if thing is not None] + [
            ["fall", 0], ("fall", 3), ("rise", 0), ("come", 99), ("come", True), ("go", 0), "fall", False, 0, (), net]
        for thing in wrong:
            for count in (0, 1, 7):
                told = iter([("again", 0)] * count + [thing])
                self.assertEqual(self.fails(BadEvent, led, net, lambda copy: next(told), 5000).index, count)
                told = iter([("again", 0)] * count + [thing])
                self.assertEqual(len(led(net, lambda copy: next(told), count).bag()), 6 + 2 * count)
        self.assertEqual(told_by(net), before)

    def test_what_strangers_raise_goes_on(self):
        net = Net(folk_of(2), ROW)
        before = told_by(net)
        for kind in (KeyError, NoEvent, ZeroDivisionError):
            def stranger(copy):
                if len(copy.bag()) > 8:
                    raise kind
                return ("again", 1)
            with self.assertRaises(kind):
                led(net, stranger, 10)
        self.assertEqual(told_by(net), before)

        def step(me, at, heard):
            raise OSError("stranger")
        net = Net(Folk(1, lambda me, value: value, step, lambda me, memory: memory), ROW)
        before = told_by(net)
        with self.assertRaises(OSError):
            led(net, first_fit, 10)
        self.assertEqual(told_by(net), before)

    def test_no_number(self):
        net = Net(folk_of(2), ROW)
        for most in [thing for thing in oddities() if type(thing) is not int] + [-1, 5001, 10 ** 109, True, "1", (1,)]:
            self.fails(NoNumber, led, net, first_fit, most)
            self.fails(NoNumber, led, net, lambda copy: "no event", most)


class True_(Case):
    def test_by_trying_all(self):
        task = few(3, 2, 1)
        for inputs in inputs_of(task):
            net = Net(folk_of(1), inputs)
            for thing in product((None, 0, 1, 2), repeat=3):
                expected = any(all(one is None or one == two for one, two in zip(thing, row))
                               for row in lot_of(task, inputs))
                self.assertIs(is_true(task, net, thing), expected)

    def test_nothing_said_yet(self):
        for many in (3, 4, 5):
            net = Net(folk_of(1), (0,) * many)
            self.assertIs(is_true(leader(many), net, (None,) * many), True)
            self.assertIs(is_true(leader(many), net, (1,) + (None,) * (many - 2) + (1,)), False)
            self.assertIs(is_true(leader(many), net, (None,) * (many + 1)), False)
            self.assertIs(is_true(leader(many), net, (None,) * (many - 1)), False)

    def test_answers_of_folks_that_solve(self):
        for task in (leader(3), few(3, 2, 2), few(4, 2, 2)):
            folk = told_folk(task, plan(task))
            for seed, inputs in enumerate(inputs_of(task)):
                net = Net(folk, inputs)
                for _ in range(8):
                    net = led(net, wanderer(seed), 20)
                    self.assertIs(is_true(task, net, net.answers()), True)
                net.settled(seed % task.many)
                self.assertIs(is_true(task, net, net.answers()), True)

    def test_some_net_finds_out_who_does_not_solve(self):
        # There is no plan for agreement, so some net of this folk answers what is not let.
        task = agreement(3, 2)
        folk = Folk(1, lambda me, value: value, lambda me, at, heard: min(x for x in heard if x is not None),
                    lambda me, memory: memory)
        told = {is_true(task, net, net.answers()) for net in
                (led(Net(folk, inputs), wanderer(seed), 60) for inputs in inputs_of(task) for seed in range(30))}
        self.assertEqual(told, {True, False})

    def test_what_is_no_such_tuple(self):
        task, net = leader(3), Net(folk_of(1), (0, 0, 0))
        for thing in oddities() + [[0, 0, 1], (0, 0, True), (False, 0, 1), (0, 0, "1"), (0, 0, (1,)), (0, 0), None,
                                   (0, 0, 1, None), {0: 0, 1: 0, 2: 1}, "001", (None, None, [1]), (None, None, net)]:
            expected = type(thing) is tuple and thing in ((None, None, None), (0, 0, None))
            self.assertIs(is_true(task, net, thing), expected)
        self.assertIs(is_true(task, net, nested(30, lambda thing: (thing, None, None))), False)

    def test_no_inputs(self):
        for inputs in ((0, 0, 1), (0, 0, 0, 0), (0, 0, 0, 0, 0), (9, 9, 9)):
            for thing in ((None, None, None), None, [], "no", (0, 0, 1)):
                self.fails(NoInputs, is_true, leader(3), Net(folk_of(1), inputs), thing)
