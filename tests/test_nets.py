"""Point 24: nets of letters, with machines that fall and rise."""

from itertools import product
from random import Random

from onesilent.errors import NoEvent, NoMachine, NoRow
from onesilent.families import few, leader, near
from onesilent.folks import Folk, answers
from onesilent.making import told_folk
from onesilent.nets import Net
from onesilent.plans import plan
from onesilent.tasks import inputs_of, lot_of
from tests.cases import Case
from tests.plain import gatherers, knowers, others_of, random_pattern
from tests.samples import nested, oddities, silent_folk

ROW = (4, 5, 6)


class PlainNet:
    """A net told again by a record of all that happened: letters have numbers, machines have logs."""

    def __init__(self, folk, inputs):
        self.folk, self.inputs = folk, inputs
        self.many = len(inputs)
        self.first = [folk.begin(me, inputs[me]) for me in range(self.many)]
        self.log = [[] for _ in inputs]
        self.came = [[] for _ in inputs]
        self.down = set()
        self.letters = []
        if folk.rounds:
            for me in range(self.many):
                self.letters += self.letters_of(me, 0)

    def memory(self, me, at):
        return self.first[me] if at == 0 else self.log[me][at - 1][1]

    def letters_of(self, me, at):
        return [(to, me, at, self.memory(me, at)) for to in others_of(self.many, me)]

    def lacking(self, me):
        at = len(self.log[me])
        there = {letter[1] for letter in self.came[me] if letter[2] == at}
        return [by for by in others_of(self.many, me) if by not in there]

    def events(self):
        """All events that the net lets."""
        found = []
        for k, letter in enumerate(self.letters):
            found.append(("double", k))
            if letter[0] not in self.down:
                found.append(("come", k))
        for me in range(self.many):
            if me in self.down:
                found.append(("rise", me))
                continue
            found += [("fall", me), ("again", me)]
            if len(self.log[me]) < self.folk.rounds and len(self.lacking(me)) <= 1:
                found.append(("go", me))
        return found

    def let_come(self, event):
        word, k = event
        if word == "come":
            letter = self.letters[k]
            del self.letters[k]
            self.came[letter[0]].append(letter)
        elif word == "double":
            self.letters.append(self.letters[k])
        elif word == "go":
            at, lacking = len(self.log[k]), self.lacking(k)
            heard = [None] * self.many
            for letter in reversed(self.came[k]):
                if letter[2] == at:
                    heard[letter[1]] = letter[3]
            heard[k] = self.memory(k, at)
            self.log[k].append((lacking[0] if lacking else None, self.folk.step(k, at, tuple(heard))))
            if at + 1 < self.folk.rounds:
                self.letters += self.letters_of(k, at + 1)
        elif word == "fall":
            self.down.add(k)
            self.came[k] = []
        elif word == "rise":
            self.down.discard(k)
        else:
            for at in range(min(len(self.log[k]) + 1, self.folk.rounds)):
                self.letters += self.letters_of(k, at)

    def told(self):
        """All that can be asked of the net."""
        at = tuple(len(log) for log in self.log)
        said = []
        for me in range(self.many):
            value = self.folk.answer(me, self.memory(me, at[me])) if at[me] == self.folk.rounds else None
            said.append(value if type(value) is int else None)
        return (list(self.letters), tuple(me not in self.down for me in range(self.many)), at,
                tuple(tuple(missed for missed, _ in log) for log in self.log), tuple(said))


def told_by(net):
    """All that can be asked of a net."""
    return (net.bag(), net.up(), net.at(), net.missed(), net.answers())


def drawn(source, events):
    """One of some events; letters come and machines step more often than they fall."""
    weights = {"come": 4, "double": 1, "go": 30, "fall": 2, "rise": 8, "again": 1}
    counts = {word: len([event for event in events if event[0] == word]) for word in weights}
    chances = [weights[word] * (1 if word in ("go", "rise") else 10 / counts[word]) for word, _ in events]
    return source.choices(events, chances)[0]


def led_by_chance(source, net, count):
    """Lead a net and a plain one like it by so many events drawn from a source."""
    plain_net = PlainNet(net.folk, net.inputs)
    for _ in range(count):
        event = drawn(source, plain_net.events())
        net.event(event)
        plain_net.let_come(event)
    return plain_net


def folk_of(rounds):
    """Machines that remember whose inputs they know, and answer by that and by who they are."""
    return knowers(rounds, lambda me, known: sum(value * (by + 2) for by, value in known.items()) * 10 + me)


def fitting_patterns(source, many, rounds, missed, count):
    """Some patterns that tell what was missed so far."""
    for _ in range(count):
        pattern = [list(turn) for turn in random_pattern(source, many, rounds)]
        for me, gaps in enumerate(missed):
            for at, gap in enumerate(gaps):
                pattern[at][me] = gap
        yield tuple(tuple(turn) for turn in pattern)


class Begin(Case):
    def test_the_first_letters(self):
        net = Net(folk_of(2), ROW)
        memories = [((me, ROW[me]),) for me in range(3)]
        self.assertEqual(net.bag(), [(1, 0, 0, memories[0]), (2, 0, 0, memories[0]), (0, 1, 0, memories[1]),
                                     (2, 1, 0, memories[1]), (0, 2, 0, memories[2]), (1, 2, 0, memories[2])])
        self.assertEqual((net.up(), net.at(), net.missed(), net.answers()),
                         ((True,) * 3, (0,) * 3, ((),) * 3, (None,) * 3))

    def test_all_numbers_of_machines_and_rounds(self):
        for many in (3, 4, 5):
            for rounds in (0, 1, 2, 30):
                net = Net(folk_of(rounds), tuple(range(many)))
                self.assertEqual(told_by(net), PlainNet(folk_of(rounds), tuple(range(many))).told())
                self.assertEqual(len(net.bag()), many * (many - 1) if rounds else 0)

    def test_no_rounds(self):
        net = Net(folk_of(0), ROW)
        self.assertEqual(net.bag(), [])
        self.assertEqual(net.answers(), answers(folk_of(0), ROW, ()))
        self.assertEqual([event for event in self.all_events(3) if net.is_event(event)],
                         [("fall", 0), ("fall", 1), ("fall", 2), ("again", 0), ("again", 1), ("again", 2)])
        net.event(("again", 1))
        net.event(("fall", 1))
        self.assertEqual((net.bag(), net.up()), ([], (True, False, True)))
        self.assertEqual(net.answers(), answers(folk_of(0), ROW, ()))
        for silent in (None, 0, 1):
            net.settled(silent)
            self.assertEqual(net.up(), (True, False, True))

    @staticmethod
    def all_events(count):
        return [(word, k) for word in ("come", "double", "go", "fall", "rise", "again") for k in range(count)]

    def test_begin_is_asked_in_order(self):
        asked = []

        def begin(me, value):
            asked.append((me, value))
            return value
        net = Net(Folk(1, begin, lambda me, at, heard: heard[me], lambda me, memory: memory), (9, 8, 7, 6))
        self.assertEqual(asked, [(0, 9), (1, 8), (2, 7), (3, 6)])
        net.copy()
        net.settled(None)
        self.assertEqual(len(asked), 4)

    def test_no_row(self):
        for thing in oddities() + [(0, 0), (0,) * 6, [0, 0, 0], (0, 0, True), None]:
            self.fails(NoRow, Net, folk_of(1), thing)
        self.assertEqual(Net(folk_of(1), (10 ** 109, -1, 0)).at(), (0, 0, 0))


class Events(Case):
    def test_each_kind_at_machines_up_and_down(self):
        net = Net(folk_of(2), ROW)
        for event in (("come", 0), ("come", 5), ("double", 5), ("fall", 1), ("again", 2)):
            self.assertIs(net.is_event(event), True)
        for event in (("come", 6), ("come", -1), ("double", 6), ("go", 0), ("rise", 0), ("fall", 3), ("again", 3)):
            self.assertIs(net.is_event(event), False)
            self.fails(NoEvent, net.event, event)
        net.event(("fall", 1))
        # Letters to machine 1 cannot come now, those from it can.
        self.assertEqual([net.is_event(("come", k)) for k in range(6)], [False, True, True, True, True, False])
        for word, let in (("fall", False), ("again", False), ("rise", True), ("go", False)):
            self.assertIs(net.is_event((word, 1)), let)
        self.assertIs(net.is_event(("double", 0)), True)

    def test_who_may_go(self):
        net = Net(folk_of(1), (4, 5, 6, 7))
        self.assertIs(net.is_event(("go", 0)), False)
        for count, by in ((0, 3), (1, 1)):
            place = [letter[:2] for letter in net.bag()].index((0, by))
            net.event(("come", place))
            self.assertIs(net.is_event(("go", 0)), count == 1)
        missing = net.copy()
        missing.event(("go", 0))
        self.assertEqual(missing.missed()[0], (2,))
        net.event(("come", [letter[:2] for letter in net.bag()].index((0, 2))))
        net.event(("go", 0))
        self.assertEqual(net.missed()[0], (None,))
        self.assertEqual(net.answers(), (answers(folk_of(1), (4, 5, 6, 7), ((None,) * 4,))[0], None, None, None))
        self.assertIs(net.is_event(("go", 0)), False)

    def test_letters_doubled_late_old_and_of_rounds_ahead(self):
        net = Net(folk_of(3), ROW)
        net.event(("double", 0))
        self.assertEqual(net.bag()[-1], net.bag()[0])
        self.assertEqual(len(net.bag()), 7)
        # Machine 1 goes two rounds with letters of 0 alone; 2 hears of round 1 ahead of its own round 0.
        net.event(("come", 6))
        net.event(("go", 1))
        self.assertEqual((net.at(), net.missed()[1]), ((0, 1, 0), (2,)))
        place = [letter[:3] for letter in net.bag()].index((2, 1, 1))
        net.event(("come", place))
        self.assertIs(net.is_event(("go", 2)), False)
        net.event(("come", [letter[:3] for letter in net.bag()].index((2, 0, 0))))
        net.event(("go", 2))
        self.assertEqual(net.missed()[2], (1,))
        # The letter of round 1 that came early is kept for it.
        self.assertIs(net.is_event(("go", 2)), True)
        # An old letter comes, leaves the bag, and does nothing.
        old = [letter[:3] for letter in net.bag()].index((2, 1, 0))
        before = told_by(net)
        net.event(("come", old))
        self.assertEqual(net.bag(), before[0][:old] + before[0][old + 1:])
        self.assertEqual(told_by(net)[1:], before[1:])
        net.event(("go", 2))
        self.assertEqual(net.missed()[2], (1, 0))

    def test_falling_loses_letters_but_no_notes(self):
        net = Net(folk_of(2), ROW)
        for _ in range(2):
            net.event(("come", [letter[0] for letter in net.bag()].index(2)))
        net.event(("go", 2))
        for _ in range(2):
            net.event(("come", [letter[0] for letter in net.bag()].index(0)))
        self.assertIs(net.is_event(("go", 0)), True)
        net.event(("fall", 0))
        net.event(("fall", 2))
        self.assertEqual((net.up(), net.at(), net.missed()), ((False, True, False), (0, 0, 1), ((), (), (None,))))
        net.event(("rise", 0))
        self.assertIs(net.is_event(("go", 0)), False)
        net.event(("rise", 2))
        self.assertEqual(net.at(), (0, 0, 1))
        before = net.bag()
        net.event(("again", 2))
        self.assertEqual([letter[:3] for letter in net.bag()[len(before):]],
                         [(0, 2, 0), (1, 2, 0), (0, 2, 1), (1, 2, 1)])
        net.event(("again", 0))
        self.assertEqual([letter[:3] for letter in net.bag()[-2:]], [(1, 0, 0), (2, 0, 0)])

    def test_again_behind_all_rounds(self):
        net = Net(folk_of(2), ROW)
        net.settled(None)
        count = len(net.bag())
        net.event(("again", 1))
        self.assertEqual([letter[:3] for letter in net.bag()[count:]],
                         [(0, 1, 0), (2, 1, 0), (0, 1, 1), (2, 1, 1)])

    def test_of_several_letters_the_first_one_counts(self):
        # A stranger's step is handed the memory of the letter itself.
        net = Net(folk_of(1), ROW)
        for _ in range(3):
            net.event(("double", 0))
        for _ in range(4):
            net.event(("come", [letter[:2] for letter in net.bag()].index((1, 0))))
        net.event(("go", 1))
        self.assertEqual(net.missed()[1], (2,))

    def test_answers_of_machines_that_are_down(self):
        net = Net(folk_of(1), ROW)
        net.settled(None)
        told = net.answers()
        self.assertEqual(told, answers(folk_of(1), ROW, net_pattern(net)))
        for me in range(3):
            net.event(("fall", me))
            self.assertEqual((net.answers(), net.at()), (told, (1, 1, 1)))
        self.assertEqual(net.up(), (False,) * 3)
        self.assertEqual([event for event in Begin.all_events(3) if net.is_event(event) and event[0] != "double"],
                         [("rise", 0), ("rise", 1), ("rise", 2)])

    def test_answers_that_are_no_integers(self):
        for said in (True, None, "1", 1.5, (1,), [1], {1: 1}):
            net = Net(Folk(0, lambda me, value: value, lambda me, at, heard: None,
                           lambda me, memory: said if me else memory), ROW)
            self.assertEqual(net.answers(), (4, None, None))


def net_pattern(net):
    """The pattern that a net went by, all machines having done all rounds."""
    return tuple(zip(*net.missed()))


class Courses(Case):
    def test_as_the_document_tells(self):
        source = Random(241)
        for many, rounds in product((3, 4, 5), (0, 1, 2, 3, 6)):
            for _ in range(4):
                folk = folk_of(rounds)
                inputs = tuple(source.randrange(9) for _ in range(many))
                net, plain_net = Net(folk, inputs), PlainNet(folk, inputs)
                for _ in range(120):
                    events = plain_net.events()
                    size = max(len(plain_net.letters), many) + 1
                    self.assertEqual(sorted(events),
                                     sorted(event for event in Begin.all_events(size) if net.is_event(event)))
                    event = drawn(source, events)
                    self.assertIsNone(net.event(event))
                    plain_net.let_come(event)
                    self.assertEqual(told_by(net), plain_net.told())

    def test_of_thirty_rounds(self):
        source = Random(242)
        for many in (3, 5):
            net = Net(folk_of(30), tuple(range(many)))
            plain_net = PlainNet(net.folk, net.inputs)
            for _ in range(1500):
                events = plain_net.events()
                steps = [event for event in events if event[0] == "go"] or [
                    event for event in events if event[0] in ("come", "rise")]
                event = source.choice(steps if steps and source.random() < 0.95 else events)
                net.event(event)
                plain_net.let_come(event)
            self.assertEqual(told_by(net), plain_net.told())

    def test_what_strangers_are_asked(self):
        asked = []

        def step(me, at, heard):
            asked.append((me, at, heard))
            return heard[me] + 100
        source = Random(243)
        for _ in range(20):
            net = Net(Folk(3, lambda me, value: value, step, lambda me, memory: memory), (1, 2, 3, 4))
            del asked[:]
            led_by_chance(source, net, 150)
            for me, at, heard in asked:
                self.assertEqual((type(heard), len(heard)), (tuple, 4))
                self.assertEqual(heard[me], me + 1 + 100 * at)
                others = [each for by, each in enumerate(heard) if by != me and each is not None]
                self.assertGreaterEqual(len(others), 2)
                self.assertLessEqual(set(others), {by + 1 + 100 * at for by in range(4)})


class NetFact(Case):
    def test_answers_are_those_of_each_pattern_that_tells_what_was_missed(self):
        source = Random(244)
        for many, rounds in product((3, 4, 5), (1, 2, 3, 5)):
            for _ in range(4):
                folk = folk_of(rounds)
                net = Net(folk, tuple(source.randrange(9) for _ in range(many)))
                said = net.answers()
                for _ in range(12):
                    for _ in range(12):
                        events = [event for event in Begin.all_events(max(len(net.bag()), many)) if net.is_event(event)]
                        net.event(drawn(source, events))
                        # What is told never changes.
                        later = net.answers()
                        self.assertTrue(all(one is None or one == two for one, two in zip(said, later)))
                        said = later
                    for pattern in fitting_patterns(source, many, rounds, net.missed(), 5):
                        told = answers(folk, net.inputs, pattern)
                        self.assertTrue(all(one is None or one == two for one, two in zip(said, told)))

    def test_settled_leads_there_from_everywhere(self):
        source = Random(245)
        for many, rounds in product((3, 4, 5), (0, 1, 2, 4)):
            for silent in (None, *range(many)):
                for count in (0, 5, 40, 150):
                    folk = folk_of(rounds)
                    net = Net(folk, tuple(source.randrange(9) for _ in range(many)))
                    led_by_chance(source, net, count)
                    self.check_settled(net, silent, source)

    def check_settled(self, net, silent, source):
        """All others have done all rounds, the silent one is as it was, and the answers are those of a run."""
        many, rounds = len(net.inputs), net.folk.rounds
        up, at, missed, said = net.up(), net.at(), net.missed(), net.answers()
        there = all(at[me] == rounds for me in range(many) if me != silent)
        bag = net.bag()
        self.assertIsNone(net.settled(silent))
        for me in range(many):
            if me == silent:
                self.assertEqual((net.up()[me], net.at()[me], net.missed()[me]), (up[me], at[me], missed[me]))
            else:
                self.assertEqual(net.at()[me], rounds)
                self.assertEqual(net.missed()[me][:at[me]], missed[me])
                self.assertIs(type(net.answers()[me]), int)
            if said[me] is not None:
                self.assertEqual(net.answers()[me], said[me])
        if there:
            self.assertEqual((net.bag(), net.up()), (bag, up))
        if silent is not None:
            # Letters to the silent one stay; there may be more of them.
            stay = [letter for letter in bag if letter[0] == silent]
            self.assertEqual([letter for letter in net.bag() if letter[0] == silent][:len(stay)], stay)
        for pattern in fitting_patterns(source, many, rounds, net.missed(), 3):
            told = answers(net.folk, net.inputs, pattern)
            self.assertTrue(all(one is None or one == two for one, two in zip(net.answers(), told)))

    def test_settled_goes_by_events(self):
        # Each way of a net that is settled is a way of the plain one: what was missed, and the letters, fit.
        net = Net(folk_of(2), ROW)
        net.event(("fall", 0))
        net.event(("fall", 2))
        net.settled(2)
        self.assertEqual((net.up(), net.at(), net.missed()), ((True, True, False), (2, 2, 0), ((2, 2), (2, 2), ())))
        net.settled(None)
        self.assertEqual((net.up(), net.at(), net.missed()[2]), ((True,) * 3, (2,) * 3, (None, None)))

    def test_those_who_solve_answer_what_is_let_from_everywhere(self):
        source = Random(246)
        for task in (leader(3), few(3, 2, 2), near(3, 2), near(4, 2)):
            folk = told_folk(task, plan(task))
            for inputs in inputs_of(task):
                for silent in (None, *range(task.many)):
                    net = Net(folk, inputs)
                    led_by_chance(source, net, 30)
                    net.settled(silent)
                    said = net.answers()
                    self.assertTrue([row for row in lot_of(task, inputs)
                                     if all(one is None or one == two for one, two in zip(said, row))])
                    net.settled(None)
                    self.assertIn(net.answers(), lot_of(task, inputs))

    def test_thirty_rounds_and_all_machines_down(self):
        for many in (3, 5):
            net = Net(folk_of(30), tuple(range(many)))
            net.settled(1)
            for me in range(many):
                net.event(("fall", me))
            net.settled(0)
            self.assertEqual((net.up()[0], net.at()[1]), (False, 30))
            self.assertEqual(net.at()[0], 30)
            net.settled(None)
            self.assertEqual(net.at(), (30,) * many)

    def test_no_machine(self):
        net = Net(folk_of(1), ROW)
        before = told_by(net)
        for thing in [thing for thing in oddities() if thing is not None] + [3, -1, True, "0", (0,), [0]]:
            self.fails(NoMachine, net.settled, thing)
        self.fails(NoMachine, Net(folk_of(1), (0,) * 5).settled, 5)
        self.assertEqual(told_by(net), before)


class Copies(Case):
    def test_a_copy_goes_on_apart(self):
        source = Random(247)
        for rounds in (0, 1, 3):
            for _ in range(10):
                net = Net(folk_of(rounds), (1, 2, 3, 4))
                led_by_chance(source, net, 60)
                before = told_by(net)
                twin = net.copy()
                self.assertIs(type(twin), Net)
                self.assertEqual(told_by(twin), before)
                twin.settled(None)
                for event in [event for event in Begin.all_events(4) if twin.is_event(event)][-3:]:
                    twin.event(event)
                self.assertEqual(told_by(net), before)
                after = told_by(twin)
                net.settled(1)
                self.assertEqual(told_by(twin), after)

    def test_each_list_is_new(self):
        net = Net(folk_of(2), ROW)
        before = told_by(net)
        net.bag().clear()
        net.bag().append(None)
        self.assertEqual(told_by(net), before)
        # Lists and dicts within memories, too.
        loose = Folk(1, lambda me, value: {"me": [me]}, lambda me, at, heard: [[each] for each in heard],
                     lambda me, memory: len(memory))
        net = Net(loose, ROW)
        for letter in net.bag() + net.copy().bag():
            letter[3]["me"].append(7)
            letter[3].clear()
        self.assertEqual(net.bag()[0], (1, 0, 0, {"me": [0]}))
        self.assertEqual(net.bag(), net.copy().bag())
        net.settled(0)
        self.assertEqual(net.answers(), (None, 3, 3))

    def test_memories_that_grow_beyond_any_bound(self):
        # Machines that tell all that they hear: each memory holds those ahead of it many times.
        for rounds, first in ((30, lambda me, value: value), (13, lambda me, value: [value])):
            net = Net(Folk(rounds, first, lambda me, at, heard: heard, lambda me, memory: me), (1, 2, 3))
            net.settled(None)
            self.assertEqual((net.at(), net.answers()), ((rounds,) * 3, (0, 1, 2)))
            net.event(("again", 0))
            self.assertEqual(len(net.bag()), len(net.copy().bag()))


class Strangers(Case):
    def test_what_they_raise_goes_on_and_changes_nothing(self):
        raising = []

        def step(me, at, heard):
            if (me, at) in raising:
                raise KeyError("stranger")
            return heard[me]

        def answer(me, memory):
            if "answer" in raising:
                raise ZeroDivisionError("stranger")
            return memory
        net = Net(Folk(2, lambda me, value: value, step, answer), ROW)
        for k in (2, 3):
            net.event(("come", k))
        before = told_by(net)
        raising.append((0, 0))
        with self.assertRaises(KeyError):
            net.event(("go", 0))
        self.assertEqual(told_by(net), before)
        # An error late on the way takes all of settled back.
        raising[:] = [(1, 1)]
        for silent in (None, 0, 2):
            with self.assertRaises(KeyError):
                net.settled(silent)
            self.assertEqual(told_by(net), before)
        net.settled(1)
        self.assertEqual(net.at(), (2, 0, 2))
        raising[:] = ["answer"]
        with self.assertRaises(ZeroDivisionError):
            net.answers()
        raising.clear()
        self.assertEqual(net.answers(), (4, None, 6))

    def test_begin_that_raises(self):
        def begin(me, value):
            raise OSError("stranger")
        with self.assertRaises(OSError):
            Net(Folk(1, begin, lambda me, at, heard: None, lambda me, memory: None), ROW)

    def test_machines_that_remember_nothing(self):
        net = Net(silent_folk(), ROW)
        self.assertEqual({letter[3] for letter in net.bag()}, {None})
        net.settled(0)
        self.assertEqual((net.at(), net.missed()), ((0, 1, 1), ((), (0,), (0,))))
        self.assertEqual(net.answers(), (None,) * 3)


class Wrongs(Case):
    def test_what_is_no_event(self):
        net = Net(folk_of(2), ROW)
        net.event(("fall", 2))
        before = told_by(net)
        wrong = oddities() + [
            ["come", 0], ("come",), ("come", 0, 0), ("come", True), ("come", False), ("come", "0"), ("come", None),
            ("come", (0,)), ("come", [0]), ("come", 10 ** 109), ("come", -1), ("Come", 0), ("come ", 0), ("", 0),
            (0, "come"), (None, 0), (("come",), 0), (["come"], 0), ({"come": 1}, 0), ("fall", False), ("fall", True),
            ("go", True), ("again", False), ("double", True), ("rise", True), ("rise", "2"), ("stop", 0),
            {"come": 0}, "come", ("fall", 3), ("fall", 10 ** 109), ("rise", 0), (True, 0), net, (net, 0),
            ("come", net), ("x" * 20000, 0), ("go", 0),
        ]
        wrong += [("come", nested(29, lambda thing: (thing,))), (nested(29, lambda thing: [thing]), 0)]
        for thing in wrong:
            self.assertIs(net.is_event(thing), False)
            self.fails(NoEvent, net.event, thing)
        self.assertEqual(told_by(net), before)
        self.assertIs(net.is_event(("rise", 2)), True)

    def test_nothing_handed_in_is_changed(self):
        thing = ["come", [0]]
        net = Net(gatherers(1, lambda me, memory: 0), ROW)
        net.is_event(thing)
        self.assertEqual(thing, ["come", [0]])
