"""Terms of things, and clauses with other terms put in."""


def terms_of(library, name, kind):
    """The terms of a thing of a kind: of an integer its name, of an object those of its fields."""
    if kind == "int":
        return [name]
    return [name + "." + field for field in library.fields_of(kind)]


def put_in(clause, worths):
    """A clause with pairs (term, number) in the place of its terms; worths has the pair of each term but ""."""
    found = []
    for left, right, number in clause:
        ahead, more = ("", 0) if left == "" else worths[left]
        behind, plus = ("", 0) if right == "" else worths[right]
        found.append((ahead, behind, number + plus - more))
    return tuple(found)


def all_put_in(clauses, worths):
    """Clauses with pairs in the place of their terms, as a list."""
    return [put_in(clause, worths) for clause in clauses]


def taken_as(library, name, kind, stem):
    """The worths of the terms of a thing of a kind, if the thing is called by a stem instead of its name."""
    terms = terms_of(library, name, kind)
    return {term: (other, 0) for term, other in zip(terms, terms_of(library, stem, kind))}


def wheres_as(library, kind, stem):
    """What the wheres say of a thing of a kind that is called by a stem; nothing of an integer."""
    if kind == "int":
        return []
    return all_put_in(library.where_of(kind), taken_as(library, "self", kind, stem))


def each_once(clauses):
    """Clauses without those that are there already."""
    seen = set()
    found = []
    for clause in clauses:
        if clause not in seen:
            seen.add(clause)
            found.append(clause)
    return found
