"""Conditions as words in postfix order: `x and not y` is `x`, `y`, `not`, `and`.

This order needs neither parentheses nor recursion, however deep a condition is nested,
and the operators cannot be taken for names, since these are other words ([1]).
"""

from noneorsome.names import RESERVED

# For each operator those operators that stand in parentheses as its operands ([4]).
ENCLOSED = {"not": ("and", "or"), "and": ("or",), "or": ()}


def names_among(words):
    """Return the names among some words, in ascending order, each once."""
    return sorted(set([word for word in words if word not in RESERVED]))


def work_out(words, worths):
    """Return what the words come to, if each operand is worth the integer in `worths`.

    Each bit stands for one set of names, so that many sets are worked out at once.
    """
    stack = []
    for word in words:
        if word == "not":
            stack.append(worths["always"] ^ stack.pop())
        elif word == "and":
            stack.append(stack.pop() & stack.pop())
        elif word == "or":
            stack.append(stack.pop() | stack.pop())
        else:
            stack.append(worths[word])
    return stack.pop()


def holds_for(words, names):
    """Return whether a condition holds for one set of names."""
    worths = {word: int(word in names) for word in words}
    worths["always"] = 1
    worths["never"] = 0
    return work_out(words, worths) == 1


def truth_columns(names):
    """Return what each operand is worth, with one bit for each set of the names."""
    worths = {"always": 1, "never": 0}
    sets = 1
    for name in names:
        full = worths["always"]
        # The sets with the new name come behind those without it.
        worths = {word: bits | (bits << sets) for word, bits in worths.items()}
        worths[name] = full << sets
        sets = sets * 2
    return worths


def are_equal(one, other):
    """Return whether two conditions hold for the same sets of names."""
    worths = truth_columns(names_among([*one, *other]))
    return work_out(one, worths) == work_out(other, worths)


def is_within(one, other):
    """Return whether `other` holds for every set of names for which `one` holds."""
    worths = truth_columns(names_among([*one, *other]))
    bits = work_out(one, worths)
    return (bits & work_out(other, worths)) == bits


def write_words(words):
    """Return the text of a condition ([4])."""
    stack = []
    for word in words:
        if word == "not":
            operand = stack.pop()
            stack.append((f"not {enclose(operand, word)}", word))
        elif word in ("and", "or"):
            right = stack.pop()
            left = stack.pop()
            stack.append((f"{enclose(left, word)} {word} {enclose(right, word)}", word))
        else:
            stack.append((word, word))
    return stack.pop()[0]


def enclose(operand, operator):
    """Return the text of an operand, a pair of its text and the last of its words."""
    text, last = operand
    if last in ENCLOSED[operator]:
        return f"({text})"
    return text
