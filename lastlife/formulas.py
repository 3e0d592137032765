"""Formulas over the times of instants [5.12] [5.13]."""

from lastlife.errors import BadFormula, BadTimes
from lastlife.systems import MOST_INSTANTS, are_times, is_instant, is_kept, is_number

DEEPEST = 12
MOST_FORMULAS = 100
MOST_CHOICES = 64


def formula_choices(count, formula):
    """Return the number of choices of a formula over so many instants."""
    require_formula(count, formula)
    return choices_of(formula)


def formula_holds(formula, times):
    """Return whether the formula holds under the times."""
    if not isinstance(times, (list, tuple)) or len(times) == 0 or len(times) > MOST_INSTANTS:
        raise BadTimes()
    if not are_times(times, len(times)):
        raise BadTimes()
    require_formula(len(times), formula)
    return holds_at(formula, times)


def holds_at(formula, times):
    """Return whether a right formula holds under the times."""
    if formula[0] == "link":
        return is_kept(formula[1:], times)
    if formula[0] == "not":
        return not holds_at(formula[1], times)
    if formula[0] == "all":
        return all([holds_at(part, times) for part in formula[1:]])
    return any([holds_at(part, times) for part in formula[1:]])


def negative(formula):
    """Return the negative of a right formula."""
    if formula[0] == "link":
        return ("link", formula[2], formula[1], -formula[3] - 1)
    if formula[0] == "not":
        return formula[1]
    word = "some" if formula[0] == "all" else "all"
    return (word, *[negative(part) for part in formula[1:]])


def choices_of(formula):
    """Return the choices of a right formula."""
    if formula[0] == "link":
        return 1
    if formula[0] == "not":
        return choices_of(negative(formula[1]))
    counts = [choices_of(part) for part in formula[1:]]
    if formula[0] == "some":
        return max(1, sum(counts))
    product = 1
    for many in counts:
        product = product * many
    return product


def require_formula(count, formula):
    """Raise BadFormula for the first thing that is wrong with the formula."""
    if not is_number(count) or not 1 <= count <= MOST_INSTANTS:
        raise BadFormula("count")
    # A stack of the formulas that wait with the number of those around them, the next one at its end.
    waiting = [(formula, 0)]
    met = 0
    while len(waiting) > 0:
        thing, around = waiting.pop()
        met += 1
        what = formula_fault(count, thing, around, met)
        if what is not None:
            raise BadFormula(what)
        if thing[0] != "link":
            waiting.extend([(part, around + 1) for part in thing[:0:-1]])
    if choices_of(formula) > MOST_CHOICES:
        raise BadFormula("choices")


def formula_fault(count, thing, around, met):
    """Return the word for a thing that stands within so many formulas and is the so many-th one, or None."""
    if around > DEEPEST:
        return "deep"
    if met > MOST_FORMULAS:
        return "many"
    if not is_formed(thing):
        return "form"
    if thing[0] == "link" and not (is_instant(thing[1], count) and is_instant(thing[2], count)):
        return "instant"
    return None


def is_formed(thing):
    """Return whether the thing begins with one of the words and has the length of this word."""
    if not isinstance(thing, (list, tuple)) or len(thing) == 0 or not isinstance(thing[0], str):
        return False
    if thing[0] == "link":
        return len(thing) == 4 and all([is_number(part) for part in thing[1:]])
    return len(thing) == 2 if thing[0] == "not" else thing[0] in ("all", "some")
