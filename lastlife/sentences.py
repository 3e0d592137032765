"""Sentences over the times of instants.

A sentence is True, False, a link (one, other, most), which says that the time of one is at most so much
above that of other, or a pair of a word and a list of sentences: ALL of them hold, or SOME of them.
"""

ALL = "all"
SOME = "some"


def all_of(parts):
    """Return the sentence that all parts hold."""
    left = []
    for part in parts:
        if part is False:
            return False
        if part is True:
            continue
        if part[0] == ALL:
            left.extend(part[1])
        else:
            left.append(part)
    return joined(ALL, left, True)


def some_of(parts):
    """Return the sentence that at least one part holds."""
    left = []
    for part in parts:
        if part is True:
            return True
        if part is False:
            continue
        if part[0] == SOME:
            left.extend(part[1])
        else:
            left.append(part)
    return joined(SOME, left, False)


def joined(word, parts, empty):
    """Return the sentence of a word over parts, as short as it can be."""
    if len(parts) == 0:
        return empty
    return parts[0] if len(parts) == 1 else (word, parts)


def denied(sentence):
    """Return the sentence that this one does not hold."""
    if sentence is True:
        return False
    if sentence is False:
        return True
    if len(sentence) == 3:
        return (sentence[1], sentence[0], -sentence[2] - 1)
    parts = [denied(part) for part in sentence[1]]
    return some_of(parts) if sentence[0] == ALL else all_of(parts)


def instants_of(sentence):
    """Return the instants that a sentence with parts names, as the bits of a whole number."""
    found = 0
    for part in sentence[1]:
        found = found | (1 << part[0] | 1 << part[1] if len(part) == 3 else instants_of(part))
    return found
