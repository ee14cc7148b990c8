"""Leading from facts to further facts, round by round, with how each of them is reached."""

from leadalike.facts import MOST_FACTS
from leadalike.joining import Plan, Shelf, joined, shelf_of

# Each round but the last one adds a fact, so this many rounds reach all of them.
ALL_ROUNDS = MOST_FACTS + 1


def plans_of(program):
    """Return pairs (index, plan): for each rule a plan that starts at each atom, or one plan for an empty body."""
    return [
        (index, Plan(rule, start, rule[0][1]))
        for index, rule in enumerate(program[1])
        for start in range(max(1, len(rule[1])))
    ]


class Spread:
    """Facts and what plans lead to from them; each fact has its rank, and, unless given, an entry that leads to it.

    The entries are in an order in which each one stands behind those of the facts of its body.
    """

    def __init__(self, plans, facts):
        self.plans = plans
        self.rank = 0
        self.ranks = {fact: 0 for fact in facts}
        self.entries = {}
        self.fresh = list(facts)
        self.older = Shelf()
        self.whole = Shelf()

    def give(self, fact):
        """Give one more fact, which has not been reached, once all is settled."""
        self.ranks[fact] = self.rank
        self.fresh = [fact]

    def settle(self):
        """Add the facts of all further rounds."""
        while not self.is_settled():
            self.go_on()

    def is_settled(self):
        """Return whether no further round adds a fact."""
        return self.rank > 0 and not self.fresh

    def go_on(self):
        """Add the facts of the next round."""
        newest = shelf_of(self.fresh)
        for fact in self.fresh:
            self.whole.put(fact)
        led = {}
        for index, plan in self.plans:
            for row in self.rows_of(plan, newest):
                head = plan.head_of(row)
                if head not in self.ranks and head not in led:
                    led[head] = (index, plan.values_of(row))
        for fact in self.fresh:
            self.older.put(fact)
        self.rank = self.rank + 1
        for head in led:
            self.ranks[head] = self.rank
            self.entries[head] = led[head]
        self.fresh = list(led)

    def rows_of(self, plan, newest):
        """Return the rows that the plan makes of the whole with a newest fact, or in the first round without any."""
        if not plan.steps:
            return [] if self.rank > 0 else joined(plan, [])
        # Where several facts are newest, the first one of them is the start, so that no row is made twice.
        before = [self.older] * plan.start
        behind = [self.whole] * (len(plan.steps) - plan.start - 1)
        return joined(plan, [*before, newest, *behind])


def spread(plans, facts, rounds, wanted):
    """Return the spread of the facts by so many rounds, or up to the round that has the wanted fact."""
    state = Spread(plans, facts)
    while state.rank < rounds and not state.is_settled() and wanted not in state.ranks:
        state.go_on()
    return state


def leads(plans, facts, fact):
    """Return whether the plans lead from the facts to the fact."""
    return fact in spread(plans, facts, ALL_ROUNDS, fact).ranks
