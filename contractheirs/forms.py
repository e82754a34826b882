"""What an integer, a word, a name, a term, a literal and a clause are."""

LETTERS = "abcdefghijklmnopqrstuvwxyz"
LONGEST_WORD = 8
# Words that texts and conditions use for something else.
NO_NAMES = (
    "as", "ask", "body", "call", "class", "else", "field", "halt", "if", "int", "let", "method", "next", "none",
    "post", "pre", "result", "return", "self", "try", "where", "zero",
)


def is_integer(thing):
    """Whether a thing is an int that is not a bool."""
    return isinstance(thing, int) and not isinstance(thing, bool)


def is_word(thing):
    """Whether a thing is a string of 1 to 8 letters a to z."""
    if not isinstance(thing, str) or not 1 <= len(thing) <= LONGEST_WORD:
        return False
    return all([letter in LETTERS for letter in thing])


def is_name(thing):
    """Whether a thing is a word that may be a name."""
    return is_word(thing) and thing not in NO_NAMES


def are_names(things, most):
    """Whether a thing is a tuple of at most so many different names."""
    if not isinstance(things, tuple) or len(things) > most or not all([is_name(one) for one in things]):
        return False
    return len(set(things)) == len(things)


def is_term(thing):
    """Whether a thing is "", a word, or two words with a dot between."""
    if not isinstance(thing, str):
        return False
    if thing == "":
        return True
    words = thing.split(".")
    return len(words) <= 2 and all([is_word(word) for word in words])


def is_literal(thing):
    """Whether a thing is a tuple of two strings and an integer."""
    if not isinstance(thing, tuple) or len(thing) != 3:
        return False
    left, right, number = thing
    return isinstance(left, str) and isinstance(right, str) and is_integer(number)


def is_literal_over_terms(thing):
    """Whether a thing is a literal whose two strings are terms."""
    return is_literal(thing) and is_term(thing[0]) and is_term(thing[1])


def is_clause(thing, most):
    """Whether a thing is a tuple of one to so many literals, over any strings."""
    if not isinstance(thing, tuple) or not 1 <= len(thing) <= most:
        return False
    return all([is_literal(literal) for literal in thing])
