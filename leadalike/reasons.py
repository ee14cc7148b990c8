"""Reasons: entries (index, values) that lead from facts to a fact, one after the other."""

from leadalike.facts import MOST_FACTS, is_tuple
from leadalike.putting import body_with, fit, head_with, is_unlike
from leadalike.spreading import ALL_ROUNDS, plans_of, spread


def reason_for(program, facts, fact):
    """Return a reason without needless entries for the fact, or None if there is no reason."""
    state = spread(plans_of(program), facts, ALL_ROUNDS, fact)
    if fact not in state.ranks:
        return None
    needed = facts_behind(program, state.entries, fact)
    # The entries are in the order of the rounds, so each one comes behind those of its body.
    return tuple([state.entries[head] for head in state.entries if head in needed])


def facts_behind(program, entries, fact):
    """Return a dict of the fact and all facts through which the entries lead to it."""
    needed = {fact: True}
    waiting = [fact]
    while waiting:
        head = waiting.pop()
        if head not in entries:
            continue
        index, values = entries[head]
        for part in body_with(program[1][index], values):
            if part not in needed:
                needed[part] = True
                waiting.append(part)
    return needed


def is_reason(program, facts, fact, entries):
    """Return whether the entries, whatever they are, are a reason for the fact from the facts."""
    if not is_tuple(entries, 0, MOST_FACTS):
        return False
    if not entries:
        return fact in facts
    there = {given: True for given in facts}
    head = None
    for entry in entries:
        if not is_entry(program, entry):
            return False
        index, values = entry
        rule = program[1][index]
        if not all([part in there for part in body_with(rule, values)]):
            return False
        head = head_with(rule, values)
        there[head] = True
    return head == fact


def is_entry(program, value):
    """Return whether value is a pair of the index of a rule and values for it, whose pairs are unlike."""
    if not is_tuple(value, 2, 2):
        return False
    index, values = value
    return fit(program, index, values) and is_unlike(program[1][index], values)
