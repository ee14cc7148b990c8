"""Reasons: entries (index, values) that lead from facts to a fact, one after the other."""

from leadalike.facts import MOST_FACTS, is_tuple
from leadalike.putting import body_with, fit, head_with, is_unlike
from leadalike.spreading import ALL_ROUNDS, plans_of, spread


def reason_for(program, facts, fact):
    """Return a reason without needless entries for the fact, or None if there is no reason."""
    return reason_by(program, plans_of(program), facts, fact)


def reason_by(program, plans, facts, fact):
    """Return a reason without needless entries for the fact by the program's plans, or None if there is no reason."""
    state = spread(plans, facts, ALL_ROUNDS, fact)
    return reason_from(program, state.entries, fact) if fact in state.ranks else None


def reason_from(program, entries, fact):
    """Return the reason for the fact that a dict of heads and entries has, each entry behind those of its body."""
    needed = facts_behind(program, entries, fact)
    return tuple([entries[head] for head in entries if head in needed])


def facts_behind(program, entries, fact):
    """Return a dict of the fact and all facts through which the entries lead to it."""
    needed = {fact: True}
    waiting = [fact]
    while waiting:
        head = waiting.pop()
        if head not in entries:
            continue
        index, values = entries[head]
        for part in body_with(program[1][index], values):
            if part not in needed:
                needed[part] = True
                waiting.append(part)
    return needed


def tidied(program, facts, fact, entries):
    """Return the reason without needless entries and without those whose head is there already."""
    given = {each: True for each in facts}
    led = {}
    for index, values in entries:
        head = head_with(program[1][index], values)
        if head not in given and head not in led:
            led[head] = (index, values)
    return reason_from(program, led, fact)


def is_reason(program, facts, fact, entries):
    """Return whether the entries, whatever they are, are a reason for the fact from the facts."""
    return has_reason_form(program, entries) and reason_fault(program, facts, fact, entries) is None


def has_reason_form(program, value):
    """Return whether value is a tuple of entries, be they of use or not."""
    return is_tuple(value, 0, MOST_FACTS) and all([has_entry_form(program, entry) for entry in value])


def has_entry_form(program, value):
    """Return whether value is a pair of the index of a rule and values for it."""
    return is_tuple(value, 2, 2) and fit(program, value[0], value[1])


def reason_fault(program, facts, fact, entries):
    """Return the first fault of the entries as a reason for the fact from the facts, or None."""
    there = {given: True for given in facts}
    # Without entries the fact itself has to be given.
    head = fact if fact in there else None
    for at, (index, values) in enumerate(entries):
        rule = program[1][index]
        if not is_unlike(rule, values) or not all([part in there for part in body_with(rule, values)]):
            return ("entry", at)
        head = head_with(rule, values)
        there[head] = True
    return None if head == fact else ("misses",)
