"""What comes of a book by rules, and why."""

from askbook.errors import NoRules
from askbook.fits import all_joined, atom_fits, facts_by_name, joining_order
from askbook.puts import put_in
from askbook.things import (
    are_of_one_length, are_standing, checked_book, is_atom, is_fact, is_pair, is_tuple_of, stand_ins,
)


def is_rule(thing):
    if not is_pair(thing) or not is_atom(thing[0]) or not is_tuple_of(thing[1], 1, 4, is_atom):
        return False
    return are_standing(thing[0][1], thing[1])


def checked_rules(rules, book):
    if not isinstance(rules, list) or len(rules) > 8:
        raise NoRules("rules are a list of at most 8 rules")
    if not all([is_rule(rule) for rule in rules]):
        raise NoRules("a rule is a tuple of an atom and 1 to 4 atoms in which its stand-ins stand")
    named = list(book)
    for rule in rules:
        named.append(rule[0])
        named.extend(rule[1])
    if not are_of_one_length(named):
        raise NoRules("atoms and facts of one name have equally many terms or values")
    return rules


def made_with(rule, place, known, fresh):
    # Tuples (fact, facts): what the rule makes, and of what, where the atom of this place becomes a fresh fact.
    first = rule[0]
    atoms = rule[1]
    parts = [atom_fits(atom, fresh if at == place else known) for at, atom in enumerate(atoms)]
    order = joining_order(parts, [place])
    fits = all_joined([parts[at] for at in order], stand_ins(first[1]))
    made = []
    for row, shown in fits.rows.items():
        fact = (first[0], put_in(first[1], dict(zip(fits.columns, row))))
        made.append((fact, [shown[order.index(at)] for at in range(len(atoms))]))
    return made


def made_newly(rules, came, known, fresh):
    # Of the rule's atoms one at least has to become a fresh fact: what is made
    # of older facts alone has been made before.
    made = {}
    for number, rule in enumerate(rules):
        places = [place for place, atom in enumerate(rule[1]) if atom[0] in fresh]
        for place in places:
            for fact, facts in made_with(rule, place, known, fresh):
                if fact not in came:
                    made.setdefault(fact, (number, facts))
    return made


def all_coming(rules, book):
    # For each fact that comes its rule's number and the facts that it is made
    # of, each of which stands ahead of it; (None, []) for a fact of the book.
    came = dict([(fact, (None, [])) for fact in book])
    known = {}
    fresh = facts_by_name(book)
    while fresh:
        for name, facts in fresh.items():
            known.setdefault(name, []).extend(facts)
        made = made_newly(rules, came, known, fresh)
        came.update(made)
        fresh = facts_by_name(made)
    return came


def comes(rules, book):
    facts = checked_book(book)
    return sorted(all_coming(checked_rules(rules, facts), facts))


def why(rules, book, fact):
    facts = checked_book(book)
    came = all_coming(checked_rules(rules, facts), facts)
    if not is_fact(fact) or fact not in came:
        return None
    # From the last to the first, so that a fact is passed only when all that use it are known.
    steps = []
    asked = {fact: True}
    for made in reversed(list(came)):
        if made in asked:
            number = came[made][0]
            used = came[made][1]
            steps.append((made, number, used))
            asked.update(dict([(one, True) for one in used if came[one][0] is not None]))
    return list(reversed(steps))
