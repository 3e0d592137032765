"""The search for times under which sentences hold and by which one instant is as far behind another as can be."""

from lastlife.bounds import NO_BOUND
from lastlife.sentences import ALL, denied, joined


class Search:
    """Looks for the greatest difference above a floor; stops as soon as one is enough.

    Without a pair of instants any times are found, with the difference 1.

    Each decision between the parts of a sentence has a bit. Where no better times are found, the grounds tell on
    which decisions this hangs; a decision that is not among them need not be made in another way.
    """

    def __init__(self, pair, floor=0, enough=NO_BOUND):
        self.pair = pair
        self.best = floor
        self.enough = enough
        self.bounds = None
        self.grounds = 0

    def is_done(self):
        """Return whether no further times are asked for."""
        return self.best >= self.enough

    def difference(self, bounds):
        """Return the greatest difference that the bounds leave."""
        return 1 if self.pair is None else bounds.most(self.pair[0], self.pair[1])

    def difference_grounds(self, bounds):
        """Return the grounds of this difference."""
        return 0 if self.pair is None else bounds.grounds[self.pair[0]][self.pair[1]]

    def explore(self, bounds, sentences, depth=0):
        """Look for better times within the bounds, which change; return the grounds if there are no others.

        Each sentence that must hold is told with its grounds and with whether it is a goal: goals stand ahead of
        the others, and they are decided first and in their order. Of the others, the last ones hang on the first.
        """
        waiting = self.settled(bounds, sentences)
        if waiting is None:
            return self.grounds
        if len(waiting) == 0:
            self.best = self.difference(bounds)
            self.bounds = bounds
            return self.difference_grounds(bounds)
        if waiting[0][2]:
            return self.decide(bounds, waiting[0], waiting[1:], depth)
        return self.decide(bounds, waiting[-1], waiting[:-1], depth)

    def decide(self, bounds, choice, rest, depth):
        """Look for better times under which one part of a sentence after the other holds."""
        sentence, grounds, is_goal = choice
        mark = 1 << depth
        for part in sentence[1]:
            found = self.explore(bounds.copied(), [(part, mark, is_goal), *rest], depth + 1)
            if self.is_done() or not found & mark:
                return found
            grounds = grounds | (found ^ mark)
            # What holds with this part has been seen, so the others are asked for without it.
            if len(part) == 3 and not self.is_added(bounds, denied(part), found ^ mark):
                return self.grounds
        return grounds

    def is_added(self, bounds, link, grounds):
        """Add a link to the bounds; return whether it can hold, and keep the grounds if it cannot."""
        clash = bounds.clash(link[0], link[1], link[2])
        if clash is not None:
            self.grounds = clash | grounds
            return False
        bounds.tighten(link[0], link[1], link[2], grounds)
        return True

    def settled(self, bounds, sentences):
        """Put all that is sure into the bounds; return the sentences that leave a choice, None if none can hold."""
        waiting = sentences
        while True:
            left = self.weighed(bounds, waiting)
            if left is None:
                return None
            if self.difference(bounds) <= self.best:
                self.grounds = self.difference_grounds(bounds)
                return None
            choices = [row for row in left if len(row[0]) == 2]
            if len(choices) == len(left):
                return left
            waiting = choices

    def weighed(self, bounds, sentences):
        """Return what the bounds leave of the sentences, and put the links among them into the bounds."""
        left = []
        for sentence, grounds, is_goal in sentences:
            self.grounds = grounds
            told = self.judged(sentence, bounds)
            if told is False:
                return None
            if told is True:
                continue
            for part in parts_of(told):
                if len(part) == 3 and not self.is_added(bounds, part, self.grounds):
                    return None
                left.append((part, self.grounds, is_goal))
        return left

    def judged(self, sentence, bounds):
        """Return what the bounds leave of a sentence, and add the grounds for which parts of it cannot hold."""
        if sentence is True or sentence is False:
            return sentence
        if len(sentence) == 3:
            one, other, most = sentence
            if bounds.table[one][other] <= most:
                return True
            if bounds.table[other][one] + most < 0:
                self.grounds = self.grounds | bounds.grounds[other][one]
                return False
            return sentence
        before = self.grounds
        told = self.judged_parts(sentence[0], sentence[1], bounds)
        if told is True:
            self.grounds = before
        return told

    def judged_parts(self, word, parts, bounds):
        """Return what the bounds leave of the parts of a sentence."""
        left = []
        for part in parts:
            told = self.judged(part, bounds)
            if told is True or told is False:
                # One part that does not hold decides ALL, one that holds decides SOME.
                if (told is True) != (word == ALL):
                    return told
            elif told[0] == word:
                left.extend(told[1])
            else:
                left.append(told)
        return joined(word, left, word == ALL)


def parts_of(sentence):
    """Return the sentences that must hold if this one must."""
    return sentence[1] if sentence[0] == ALL else [sentence]
