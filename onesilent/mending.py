"""What bars a task, cut down to the fewest inputs; and what mends it, down to the fewest rows."""

from itertools import combinations

from onesilent.algebra import are_offers, fewer, wider
from onesilent.errors import NoOffers, TooMany
from onesilent.plans import plan
from onesilent.tasks import inputs_of

MOST_INPUTS = 10


def kernel(task):
    """Tell the least lot of fewest inputs with just which there is no plan, None if there is a plan."""
    _check_few(task)
    return _first_of(inputs_of(task), lambda lot: _is_barred(task, lot))


def greatest(task):
    """List the lots of inputs with just which there is a plan, but none with any one more, ascending."""
    _check_few(task)
    every = inputs_of(task)
    found = []
    barred = []
    for spared in range(len(every)):
        for left_out in combinations(every, spared):
            lot = [inputs for inputs in every if inputs not in left_out]
            # With fewer inputs there is a plan whenever there is one with more; so most lots need no look.
            if any([_is_within(lot, each) for each in found]) or any([_is_within(each, lot) for each in barred]):
                continue
            if _is_barred(task, lot):
                barred.append(_cut_down(task, lot))
            else:
                found.append(tuple(lot))
    return sorted(found)


def mended(task, offers):
    """Tell the least lot of fewest of the offers with which there is a plan, or None."""
    if not are_offers(task, offers):
        raise NoOffers()
    return _first_of(list(offers), lambda lot: plan(wider(task, tuple(lot))) is not None)


def _check_few(task):
    """Raise TooMany if a task has too many inputs for all lots of them to be tried."""
    if len(task.lots) > MOST_INPUTS:
        raise TooMany(MOST_INPUTS)


def _is_barred(task, lot):
    """Tell whether there is no plan with just these inputs."""
    return len(lot) > 0 and plan(fewer(task, tuple(lot))) is None


def _cut_down(task, lot):
    """Tell inputs of a barred lot that are barred, too, while without any one of them there is a plan."""
    kept = list(lot)
    for inputs in lot:
        others = [each for each in kept if each != inputs]
        if _is_barred(task, others):
            kept = others
    return kept


def _first_of(things, is_right):
    """Tell the least lot of fewest of some ascending things that is right, or None.

    What is right has to be so with any one more."""
    hurdles = []
    for count in range(len(things) + 1):
        for lot in combinations(things, count):
            if all([_has_one_of(lot, hurdle) for hurdle in hurdles]):
                if is_right(lot):
                    return lot
                hurdles.append(_hurdle(things, lot, is_right))
    return None


def _hurdle(things, lot, is_right):
    """List things of which any lot that is right has one, none of them in this lot, which is wrong."""
    left = list(lot)
    missing = []
    for thing in things:
        if thing not in lot:
            # The fewer things a hurdle has, the more lots it spares a look.
            if is_right(sorted(left + [thing])):
                missing.append(thing)
            else:
                left.append(thing)
    return missing


def _has_one_of(lot, things):
    """Tell whether one of these things is in a lot."""
    return any([thing in lot for thing in things])


def _is_within(things, others):
    """Tell whether each thing is one of the others."""
    return all([each in others for each in things])
