"""Two programs with the same answers, each in the cells meaning under its rule."""

from armedexits.runs import answers_after, first_stand, next_stand


class Side:
    """One of the two programs, with the stands that it reaches, each known by a number."""

    def __init__(self, program, rule):
        self.program = program
        self.rule = rule
        self.stands = []
        self._numbers = {}
        self._nexts = {}
        self._number_of(first_stand(program, rule))

    def next_after(self, number, answer):
        """The number of the stand after this one."""
        if (number, answer) not in self._nexts:
            stand = next_stand(self.program, self.rule, self.stands[number], answer)
            self._nexts[number, answer] = self._number_of(stand)
        return self._nexts[number, answer]

    def _number_of(self, stand):
        if stand not in self._numbers:
            self._numbers[stand] = len(self.stands)
            self.stands.append(stand)
        return self._numbers[stand]


class Meeting:
    """Two sides, and the pairs of their stands in the order in which the shortest runs come to them."""

    def __init__(self, left, right):
        self.left = left
        self.right = right
        self.pairs = []
        # For each pair, the number of events before it.
        self.events = []
        # For each pair, the number of the one before it and the answer given there.
        self.origins = []
        # The number of the first pair in which the events differ.
        self.differing = None
        self._seen = {}
        self._add((0, 0), 0, (None, None))

    def find_all(self):
        """Find each pair that is reached."""
        at = 0
        while at < len(self.pairs):
            self._go_on(at)
            at += 1

    def answers_before(self, at):
        """The answers given before the pair."""
        answers = []
        while at is not None:
            at, answer = self.origins[at]
            if answer is not None:
                answers.append(answer)
        return tuple(answers[::-1])

    def _add(self, pair, events, origin):
        if pair not in self._seen:
            self._seen[pair] = True
            self.pairs.append(pair)
            self.events.append(events)
            self.origins.append(origin)

    def _go_on(self, at):
        one, two = self.pairs[at]
        event = self.left.stands[one][0]
        if event == self.right.stands[two][0]:
            for answer in answers_after(event):
                pair = (self.left.next_after(one, answer), self.right.next_after(two, answer))
                self._add(pair, self.events[at] + 1, (at, answer))
        elif self.differing is None:
            self.differing = at


def compare_outcomes(first, first_rule, second, second_rule):
    """The pairs of stands that both programs reach with the same answers, and where they first differ."""
    meeting = Meeting(Side(first, first_rule), Side(second, second_rule))
    meeting.find_all()
    pairs = [
        (meeting.left.stands[one], meeting.right.stands[two], events)
        for (one, two), events in zip(meeting.pairs, meeting.events)
    ]
    at = meeting.differing
    if at is None:
        return tuple(pairs), None
    return tuple(pairs), (meeting.answers_before(at), meeting.events[at])
