"""Nets: letters on their way between the machines of a folk, of which some fall and rise."""

from onesilent.checks import check_machine, check_row
from onesilent.copies import holds_loose, renewed
from onesilent.errors import NoEvent
from onesilent.folks import MOST_HELD, Folk, answer_of
from onesilent.values import is_number


class Net:
    """A net on which the machines of a folk run: where each one stands, and the bag of the letters on their way."""

    def __init__(self, folk, inputs):
        check_row(inputs, 3, 5)
        self.folk = folk
        self.inputs = inputs
        self.posts = [Post(folk.begin(me, value)) for me, value in enumerate(inputs)]
        self.letters = []
        for me in range(len(inputs)):
            self._write(me, 0)

    def is_event(self, thing):
        """Tell whether a thing is an event of the net as it is."""
        if not isinstance(thing, tuple) or len(thing) != 2 or not isinstance(thing[0], str):
            return False
        word, number = thing
        if word == "come" or word == "double":
            if not is_number(number, 0, len(self.letters) - 1):
                return False
            return word == "double" or self.posts[self.letters[number][0]].works
        if not is_number(number, 0, len(self.posts) - 1):
            return False
        if word == "go":
            return self.posts[number].works and self._may_go(number)
        if word == "fall" or word == "again":
            return self.posts[number].works
        return word == "rise" and not self.posts[number].works

    def event(self, event):
        """Let an event come."""
        if not self.is_event(event):
            raise NoEvent()
        word, number = event
        if word == "come":
            self._come(number)
        elif word == "double":
            self.letters.append(self.letters[number])
        elif word == "go":
            self._go(number)
        elif word == "fall":
            self.posts[number].fall()
        elif word == "rise":
            self.posts[number].rise()
        else:
            for at in range(self.posts[number].rounds_done() + 1):
                self._write(number, at)

    def bag(self):
        """List the letters on their way, the eldest first."""
        return [renewed(letter, MOST_HELD) if self._is_loose(letter) else letter for letter in self.letters]

    def up(self):
        """Tell for each machine whether it is up."""
        return tuple([post.works for post in self.posts])

    def at(self):
        """Tell for each machine how many rounds it has done."""
        return tuple([post.rounds_done() for post in self.posts])

    def missed(self):
        """Tell for each machine whom it missed in the rounds that it has done."""
        return tuple([tuple(post.gaps) for post in self.posts])

    def answers(self):
        """Tell the answers of the machines that have done all rounds, None for the others."""
        return tuple([self._answer(me) for me in range(len(self.posts))])

    def copy(self):
        """Tell a net like this one that goes on apart."""
        # A new net asks its folk for first memories; the copy has them, so it is made with an idle folk.
        twin = Net(Folk(0, _nothing, _nothing, _nothing), self.inputs)
        twin._take_over(self)
        return twin

    def settled(self, silent):
        """Lead the net until all machines but the silent one, which is not touched, have done all rounds."""
        if silent is not None:
            check_machine(silent, len(self.posts))
        # An error that a stranger's function raises on the way changes nothing, so a copy goes ahead.
        ahead = self.copy()
        ahead._settle([me for me in range(len(self.posts)) if me != silent])
        self._take_over(ahead)

    def _take_over(self, other):
        """Stand as another net does, whose lists and dicts stay its own."""
        self.folk = other.folk
        self.posts = [post.twin() for post in other.posts]
        self.letters = list(other.letters)

    def _write(self, me, at):
        """Have a machine write its letters of a round, if there is this round."""
        if at < self.folk.rounds:
            memory = self.posts[me].notes[at]
            self.letters.extend([(to, me, at, memory) for to in range(len(self.posts)) if to != me])

    def _come(self, place):
        """Have a letter come to its machine."""
        to, by, at, memory = self.letters.pop(place)
        self.posts[to].keep(at, by, memory)

    def _missing(self, me):
        """List the other machines of which a machine keeps no letter of the round that it has to do."""
        post = self.posts[me]
        return [by for by in range(len(self.posts)) if by != me and (post.rounds_done(), by) not in post.kept]

    def _may_go(self, me):
        """Tell whether a machine has a round to do, and misses one other machine at most."""
        return self.posts[me].rounds_done() < self.folk.rounds and len(self._missing(me)) < 2

    def _go(self, me):
        """Have a machine step, and write letters of the next round."""
        post = self.posts[me]
        at = post.rounds_done()
        missing = self._missing(me)
        heard = [post.notes[at] if by == me else post.kept.get((at, by)) for by in range(len(self.posts))]
        memory = self.folk.step(me, at, tuple(heard))
        post.note(memory, missing[0] if missing else None)
        self._write(me, at + 1)

    def _answer(self, me):
        """Tell the answer of a machine, None if it has not done all rounds."""
        post = self.posts[me]
        return answer_of(self.folk, me, post.notes[-1]) if post.rounds_done() == self.folk.rounds else None

    def _is_loose(self, letter):
        """Tell whether the memory in a letter holds lists or dicts."""
        return self.posts[letter[1]].loose[letter[2]]

    def _settle(self, others):
        """Lead the net by events that touch these machines alone until they have done all rounds."""
        if all([self.posts[me].rounds_done() == self.folk.rounds for me in others]):
            return
        for me in others:
            if not self.posts[me].works:
                self.event(("rise", me))
        for at in range(self.folk.rounds):
            # None of these machines is behind this round now, so each one noted its memory ahead of it.
            for me in [each for each in others if self.posts[each].rounds_done() == at]:
                for by in [each for each in others if each != me]:
                    self._fetch(me, by, at)
                self.event(("go", me))

    def _fetch(self, to, by, at):
        """Have a letter of a round come to a machine from another one, unless it keeps such a letter."""
        if (at, by) in self.posts[to].kept:
            return
        place = self._place(to, by, at)
        if place is None:
            self.event(("again", by))
            place = self._place(to, by, at)
        self.event(("come", place))

    def _place(self, to, by, at):
        """Tell the place in the bag of the eldest such letter, or None."""
        for place, letter in enumerate(self.letters):
            if letter[:3] == (to, by, at):
                return place
        return None


class Post:
    """What one machine of a net noted and keeps.

    Notes are its memories at first and behind each round, gaps are whom it missed. What is kept is told by round and
    machine. A note is loose if it holds lists or dicts, so that nobody else may get the very same."""

    def __init__(self, first):
        self.works = True
        self.notes = [first]
        self.loose = [holds_loose(first, MOST_HELD)]
        self.gaps = []
        self.kept = {}

    def rounds_done(self):
        """Tell how many rounds the machine has done."""
        return len(self.gaps)

    def keep(self, at, by, memory):
        """Keep a letter of a round that is not done yet, unless one like it is kept."""
        if at >= self.rounds_done():
            self.kept.setdefault((at, by), memory)

    def note(self, memory, missed):
        """Note what a round brought, and let go of its letters."""
        self.notes.append(memory)
        self.loose.append(holds_loose(memory, MOST_HELD))
        self.gaps.append(missed)
        self.kept = {key: self.kept[key] for key in self.kept if key[0] >= self.rounds_done()}

    def fall(self):
        """Be down, with nothing but the notes."""
        self.works = False
        self.kept = {}

    def rise(self):
        """Be up again."""
        self.works = True

    def twin(self):
        """Tell a post like this one."""
        post = Post(None)
        post.works = self.works
        post.notes = list(self.notes)
        post.loose = list(self.loose)
        post.gaps = list(self.gaps)
        post.kept = {key: self.kept[key] for key in self.kept}
        return post


def _nothing(me, value):
    """Tell the memory of a machine that remembers nothing."""
    return None
