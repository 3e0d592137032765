"""Trees, which show that a formula holds under no times [5.14] to [5.16]."""

from lastlife.differences import Endless, greatest_kept, require_instants
from lastlife.formulas import holds_at, negative, require_formula
from lastlife.solving import Kept, Ring, ring_fault, solved_links
from lastlife.systems import path_sum


class Impossible:
    """A tree that shows that a formula holds under no times."""

    def __init__(self, tree):
        self.tree = tree


class GreatestOf:
    """The greatest difference under a formula, times that have it, and a tree that shows that none is greater."""

    def __init__(self, amount, times, tree):
        self.amount = amount
        self.times = times
        self.tree = tree


class EndlessOf:
    """Instants that can be raised as far as one likes, and times under which the formula holds."""

    def __init__(self, apart, times):
        self.apart = apart
        self.times = times


def read_on(links, waiting):
    """Read waiting formulas until a "some" is the first one or nothing waits; return the links and what waits."""
    links = list(links)
    while len(waiting) > 0 and waiting[0][0] != "some":
        first = waiting[0]
        if first[0] == "link":
            links.append(tuple(first[1:]))
            waiting = waiting[1:]
        elif first[0] == "all":
            waiting = [*first[1:], *waiting[1:]]
        else:
            waiting = [negative(first[1]), *waiting[1:]]
    return links, waiting


def possible(count, formula):
    """Return times under which the formula holds as a Kept, or an Impossible."""
    require_formula(count, formula)
    return possible_from(count, [], [formula])


def possible_from(count, links, waiting):
    """Return times that keep the links and under which all that waits holds as a Kept, or an Impossible."""
    links, waiting = read_on(links, waiting)
    answer = solved_links(count, links)
    if isinstance(answer, Ring):
        return Impossible(("ring", *answer.path))
    if len(waiting) == 0:
        return answer
    trees = []
    for part in waiting[0][1:]:
        found = possible_from(count, links, [part, *waiting[1:]])
        if isinstance(found, Kept):
            return found
        trees.append(found.tree)
    return Impossible(("some", *trees))


def possible_fault(count, formula, answer):
    """Return the word for an answer of possible, None if it is right."""
    require_formula(count, formula)
    if isinstance(answer, Kept):
        if len(answer.times) != count:
            return "count"
        return None if holds_at(formula, answer.times) else "formula"
    return tree_fault([], [formula], answer.tree)


def tree_fault(links, waiting, tree):
    """Return the word for a tree that is read along with links and waiting formulas, None if it is right."""
    if not isinstance(tree, (list, tuple)) or len(tree) == 0 or not is_tree_word(tree[0]):
        return "tree"
    links, waiting = read_on(links, waiting)
    if tree[0] == "ring":
        what = ring_fault(links, tree[1:])
        if what is not None:
            return what
        return "sum" if path_sum(links, tree[1:]) >= 0 else None
    if len(waiting) == 0 or len(waiting[0]) != len(tree):
        return "branches"
    for part, branch in zip(waiting[0][1:], tree[1:]):
        what = tree_fault(links, [part, *waiting[1:]], branch)
        if what is not None:
            return what
    return None


def is_tree_word(thing):
    """Return whether the thing is one of the words with which a tree begins."""
    return isinstance(thing, str) and thing in ("ring", "some")


def greatest_of(count, formula, one, other):
    """Return the greatest difference under the formula, as a GreatestOf, an EndlessOf or an Impossible."""
    require_formula(count, formula)
    require_instants(count, one, other)
    best = None
    for answer in greatest_in_parts(count, [], [formula], one, other):
        if isinstance(answer, Endless):
            return EndlessOf(answer.apart, answer.times)
        if best is None or answer.amount > best.amount:
            best = answer
    if best is None:
        return possible_from(count, [], [formula])
    more = ("all", formula, ("link", other, one, -best.amount - 1))
    return GreatestOf(best.amount, best.times, possible_from(count, [], [more]).tree)


def greatest_in_parts(count, links, waiting, one, other):
    """Return the greatest differences for all choices of parts that can hold together."""
    links, waiting = read_on(links, waiting)
    answer = solved_links(count, links)
    if isinstance(answer, Ring):
        return []
    if len(waiting) == 0:
        return [greatest_kept(count, links, one, other, answer.times)]
    found = []
    for part in waiting[0][1:]:
        found.extend(greatest_in_parts(count, links, [part, *waiting[1:]], one, other))
    return found
