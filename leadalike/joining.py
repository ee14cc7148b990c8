"""Joining the atoms of a rule's body with facts, one atom after the other."""

from leadalike.programs import terms_of_atoms, terms_of_rule, variables_of

# What is asked of a kind of two things where both of them have to be the same one.
SAME = "same"


class Shelf:
    """Facts that are looked up by their kind and by those of their things that are told."""

    def __init__(self):
        self.rows = {}

    def put(self, fact):
        """Take the fact in, so that it is found by each of its things, told or not."""
        kind, things = fact
        for asked, missing in lookups(things):
            self.rows.setdefault((kind, asked), []).append(missing)

    def look_up(self, kind, asked):
        """Return the things that were not told (None) of each fact that has those that were."""
        return self.rows.get((kind, asked), ())


def shelf_of(facts):
    """Return a shelf with the facts."""
    shelf = Shelf()
    for fact in facts:
        shelf.put(fact)
    return shelf


def lookups(things):
    """Return the pairs of what may be asked to find a fact of these things, and what it is asked for."""
    pairs = [((), ())]
    for thing in things:
        told = [((*asked, thing), missing) for asked, missing in pairs]
        pairs = told + [((*asked, None), (*missing, thing)) for asked, missing in pairs]
    if len(things) == 2 and things[0] == things[1]:
        pairs.append((SAME, things[:1]))
    return pairs


class Step:
    """The joining of one atom to rows of things; its numbers are the places of things in a row."""

    def __init__(self, place, kind, sources, pairs, live):
        self.place = place
        self.kind = kind
        self.sources = sources
        self.pairs = pairs
        self.live = live

    def asked(self, row):
        """Return what the row tells of the atom."""
        if self.sources == SAME:
            return SAME
        return tuple([None if source is None else row[source] for source in self.sources])


class Plan:
    """How the atoms of a rule are joined: in which order, and where the rows have the thing of each term.

    A row begins with the things that stand in the rule; each atom adds those of its new variables.
    Rows that differ only in what does not matter to later atoms, to later pairs and to the kept terms
    are joined once, as there may be very many of them.
    """

    def __init__(self, rule, start, kept):
        head, body, unlike = rule
        self.start = start
        self.things = tuple(sorted({term for term in terms_of_rule(rule) if term >= 0}))
        self.at = {thing: index for index, thing in enumerate(self.things)}
        self.steps = []
        order = order_of(body, start)
        for done, place in enumerate(order):
            later = [body[other] for other in order[done + 1:]]
            self.steps.append(self.next_step(place, body[place], unlike, [*kept, *terms_of_atoms(later)]))
        self.head_kind = head[0]
        self.head_at = [self.at[term] for term in head[1]]
        self.values_at = [self.at[variable] for variable in variables_of(rule)]

    def next_step(self, place, atom, unlike, needed):
        """Return the step for the atom and give its new variables their places; needed terms matter later."""
        kind, terms = atom
        sources = tuple([self.at.get(term) for term in terms])
        if sources == (None, None) and terms[0] == terms[1]:
            sources = SAME
        later = [pair for pair in unlike if not self.is_placed(pair)]
        for term in terms:
            self.at.setdefault(term, len(self.at))
        due = [(self.at[one], self.at[other]) for one, other in later if self.is_placed((one, other))]
        open_terms = [term for pair in later if not self.is_placed(pair) for term in pair]
        live = [self.at[term] for term in self.at if term in needed or term in open_terms]
        variables = [term for term in self.at if term < 0]
        is_whole = all([self.at[variable] in live for variable in variables])
        return Step(place, kind, sources, due, None if is_whole else live)

    def is_placed(self, pair):
        """Return whether the rows have the things of both terms."""
        return pair[0] in self.at and pair[1] in self.at

    def head_of(self, row):
        """Return the head with the things of a whole row."""
        return (self.head_kind, tuple([row[index] for index in self.head_at]))

    def values_of(self, row):
        """Return the values of a whole row."""
        return tuple([row[index] for index in self.values_at])


def order_of(body, start):
    """Return the places of the body's atoms from the start on, next always the one that adds the least."""
    if not body:
        return []
    order = [start]
    while len(order) < len(body):
        terms = terms_of_atoms([body[place] for place in order])
        others = [place for place in range(len(body)) if place not in order]
        order.append(min(others, key=lambda place: newness(body[place], terms)))
    return order


def newness(atom, terms):
    """Return how many variables of the atom are not among the terms, and how many terms are, negative."""
    fresh = [term for term in atom[1] if term < 0 and term not in terms]
    return (len(fresh), len(fresh) - len(atom[1]))


def joined(plan, shelves):
    """Return the rows that the plan makes of facts; shelves has for each atom of the body the shelf to look in."""
    rows = [plan.things]
    for step in plan.steps:
        if not rows:
            break
        rows = longer_rows(rows, step, shelves[step.place])
    return rows


def longer_rows(rows, step, shelf):
    """Return the rows with what the step adds to each of them."""
    found = []
    seen = set()
    for row in rows:
        for missing in shelf.look_up(step.kind, step.asked(row)):
            longer = row + missing
            if step.pairs and not all([longer[one] != longer[other] for one, other in step.pairs]):
                continue
            if step.live is not None:
                mark = tuple([longer[index] for index in step.live])
                if mark in seen:
                    continue
                seen.add(mark)
            found.append(longer)
    return found
