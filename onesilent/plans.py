"""Choices of a task, the covers that rests have by them, and plans."""

from onesilent.errors import NoChoice, TooMany
from onesilent.lots import parts
from onesilent.solving import solve, solve_all
from onesilent.tasks import completing
from onesilent.values import is_number
from onesilent.webs import Web, homes_of

MOST_CHOICES = 4000


def is_choice(task, thing):
    """Tell whether a thing is a choice for the task."""
    return isinstance(thing, tuple) and _are_numbers(thing, [len(parts(lot)) for _, lot in task.lots])


def covers(task, choice, rest):
    """List the covers of a rest by a choice, ascending."""
    if not is_choice(task, choice):
        raise NoChoice()
    ends = completing(task, rest)
    asked = [(number, lot) for number, (inputs, lot) in zip(choice, task.lots) if inputs in ends]
    homes = [(number, homes_of(parts(lot))[rest[0]]) for number, lot in asked]
    return [cover for cover in sorted(homes[0][1]) if all([home.get(cover) == number for number, home in homes])]


def is_plan(task, thing):
    """Tell whether a thing is a plan for the task."""
    if not isinstance(thing, tuple) or len(thing) != 2:
        return False
    choice, told = thing
    if not isinstance(choice, tuple) or not isinstance(told, dict):
        return False
    web = Web(task)
    if not _are_numbers(choice, web.counts) or len(told) != len(web.rests):
        return False
    return all([rest in told and web.is_cover(choice, rest, told[rest]) for rest in web.rests])


def plan(task):
    """Tell a plan for the task, or None."""
    web = Web(task)
    choice, _ = solve(web.riddle())
    if choice is None:
        return None
    return (tuple(choice), {rest: web.cover(choice, rest) for rest in web.rests})


def choices(task):
    """List all choices by which each rest has a cover, ascending."""
    web = Web(task)
    if web.is_above(MOST_CHOICES):
        raise TooMany(MOST_CHOICES)
    return solve_all(web.riddle())


def _are_numbers(things, counts):
    """Tell whether the things are numbers, each from 0 to below its count."""
    return len(things) == len(counts) and all([is_number(each, 0, top - 1) for each, top in zip(things, counts)])
