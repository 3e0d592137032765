"""The search for times under which sentences hold and by which one instant is as far behind another as can be."""

from lastlife.bounds import NO_BOUND
from lastlife.sentences import ALL, denied, instants_of, joined


class Search:
    """Looks for the greatest difference above a floor; stops as soon as one is enough.

    Without a pair of instants any times are found, with the difference 1.

    Each decision between the parts of a sentence has a bit. Where no better times are found, the grounds tell on
    which decisions this hangs; a decision that is not among them need not be made in another way.
    """

    def __init__(self, pair, floor=0, enough=NO_BOUND):
        self.pair = pair
        self.best = floor
        self.enough = enough
        self.bounds = None
        self.grounds = 0
        self.failures = []

    def is_done(self):
        """Return whether no further times are asked for."""
        return self.best >= self.enough

    def difference(self, bounds):
        """Return the greatest difference that the bounds leave."""
        return 1 if self.pair is None else bounds.most(self.pair[0], self.pair[1])

    def difference_grounds(self, bounds):
        """Return the grounds of this difference."""
        return 0 if self.pair is None else bounds.grounds[self.pair[0]][self.pair[1]]

    def find(self, bounds, goal, rules):
        """Look for better times within the bounds under which a goal and rules hold; return whether there are some."""
        before = self.best
        waiting = [(sentence, 0, None, source) for source, sentence in enumerate([goal, *rules])]
        self.failures = [1] * len(waiting)
        self.explore(bounds, waiting, 0)
        return self.best > before

    def explore(self, bounds, waiting, depth):
        """Look for better times within the bounds, which change; return the grounds if there are no others.

        Each sentence that must hold is told with its grounds, with the bits of its instants, None if it has not been
        judged, and with its source, the number of the goal or the rule of which it is a part; the goal has 0.
        """
        waiting = self.settled(bounds, waiting)
        if waiting is None:
            return self.grounds
        if len(waiting) == 0:
            self.best = self.difference(bounds)
            self.bounds = bounds
            return self.difference_grounds(bounds)
        at = self.next_choice(waiting)
        return self.decide(bounds, waiting[at], [*waiting[:at], *waiting[at + 1:]], depth)

    def next_choice(self, waiting):
        """Return the place of the sentence to decide next.

        The goal comes first, then what leaves few choices and has often failed. The last rules hang on the first.
        """
        prices = []
        for at, (sentence, _, _, source) in enumerate(waiting):
            price = 1000 * len(sentence[1]) // self.failures[source]
            prices.append((0, price, at, at) if source == 0 else (1, price, -at, at))
        return min(prices)[3]

    def decide(self, bounds, choice, rest, depth):
        """Look for better times under which one part of a sentence after the other holds."""
        sentence, grounds, _, source = choice
        mark = 1 << depth
        for part in sentence[1]:
            found = self.explore(bounds.copied(), [(part, mark, None, source), *rest], depth + 1)
            if self.is_done() or not found & mark:
                return found
            grounds = grounds | (found ^ mark)
            # What holds with this part has been seen, so the others are asked for without it.
            if len(part) == 3 and not self.is_added(bounds, denied(part), found ^ mark):
                return self.grounds
        return grounds

    def is_added(self, bounds, link, grounds):
        """Add a link to the bounds; return whether it can hold, and keep the grounds if it cannot."""
        clash = bounds.clash(link[0], link[1], link[2])
        if clash is not None:
            self.grounds = clash | grounds
            return False
        bounds.tighten(link[0], link[1], link[2], grounds)
        return True

    def is_worth_it(self, bounds):
        """Return whether better times can be within the bounds, and keep the grounds if they cannot."""
        if self.difference(bounds) > self.best:
            return True
        self.grounds = self.difference_grounds(bounds)
        return False

    def settled(self, bounds, waiting):
        """Put all that is sure into the bounds; return the sentences that leave a choice, None if none can hold."""
        while True:
            ones, others = bounds.taken_changes()
            waiting = self.weighed(bounds, waiting, ones, others)
            if waiting is None:
                return None
            if not self.is_worth_it(bounds):
                return None
            if not bounds.has_changed():
                return waiting

    def weighed(self, bounds, waiting, ones, others):
        """Return what the bounds leave of the sentences, and put the links among them into the bounds.

        A sentence that has been judged is judged anew only if bounds between its instants have changed.
        """
        left = []
        for row in waiting:
            sentence, grounds, instants, source = row
            if instants is not None and (instants & ones == 0 or instants & others == 0):
                left.append(row)
                continue
            self.grounds = grounds
            told = self.judged(sentence, bounds)
            parts = parts_of(told)
            if told is False or not self.are_added(bounds, parts):
                self.failures[source] += 1
                return None
            left.extend([(part, self.grounds, instants_of(part), source) for part in parts if len(part) == 2])
        return left

    def are_added(self, bounds, parts):
        """Add the links among the parts of a sentence; return whether they can hold, as is_added does."""
        for part in parts:
            if len(part) == 3 and not self.is_added(bounds, part, self.grounds):
                return False
        return True

    def judged(self, sentence, bounds):
        """Return what the bounds leave of a sentence, and add the grounds for which parts of it cannot hold."""
        if sentence is True or sentence is False:
            return sentence
        word, parts = (ALL, [sentence]) if len(sentence) == 3 else sentence
        table = bounds.table
        before = self.grounds
        left = []
        for part in parts:
            if len(part) == 2:
                told = self.judged(part, bounds)
            else:
                one, other, most = part
                told = part
                if table[one][other] <= most:
                    told = True
                elif table[other][one] + most < 0:
                    self.grounds = self.grounds | bounds.grounds[other][one]
                    told = False
            if told is True or told is False:
                # One part that does not hold decides ALL, one that holds decides SOME.
                if (told is True) != (word == ALL):
                    if told is True:
                        self.grounds = before
                    return told
            elif told[0] == word:
                left.extend(told[1])
            else:
                left.append(told)
        return joined(word, left, word == ALL)


def parts_of(sentence):
    """Return the sentences that must hold if this one must."""
    if sentence is True or sentence is False:
        return []
    return sentence[1] if sentence[0] == ALL else [sentence]
