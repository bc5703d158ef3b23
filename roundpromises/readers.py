"""Readers: forms, or anything else that judges words, as machines of states with as few states as can be.

A *reader* is a pair (marks, ways) of lists: for each state what it says of the letters so far, and the list of
the states behind one letter more, in the order of the letters. It begins in state 0. Its states are numbered by
their shortest words, those of one length by the order of letters. The marks of a form's reader tell whether the
form matches the letters so far.
"""


def explored(start, step, many):
    """All states to which steps with so many letters lead from the start, and the ways between them."""
    return explored_within(start, step, many, None)


def explored_within(start, step, many, most):
    """What explored tells; None if there are more states than a number, which may be None for no end."""
    numbers = {start: 0}
    found = [start]
    ways = []
    while len(ways) < len(found):
        state = found[len(ways)]
        behind = []
        for letter in range(many):
            then = step(state, letter)
            if then not in numbers:
                numbers[then] = len(found)
                found.append(then)
            behind.append(numbers[then])
        ways.append(behind)
        if most is not None and len(found) > most:
            return None
    return found, ways


def least_reader(marks, ways):
    """The reader that says the same of all words, with as few states as can be."""
    kinds = numbered(marks)
    many = 0
    while many < len(set(kinds)):
        many = len(set(kinds))
        kinds = numbered([(kinds[at], tuple([kinds[to] for to in behind])) for at, behind in enumerate(ways)])
    members = {kind: at for at, kind in enumerate(kinds)}
    found, least_ways = explored(kinds[0], lambda kind, letter: kinds[ways[members[kind]][letter]], len(ways[0]))
    return [marks[members[kind]] for kind in found], least_ways


def numbered(items):
    """A number for each item, the same one for equal items."""
    numbers = {}
    for item in items:
        numbers.setdefault(item, len(numbers))
    return [numbers[item] for item in items]


def reader_of(form, letters):
    """The reader of a form of these letters."""
    kind = form[0]
    if kind in ("one", "any", "empty"):
        return leaf_reader(form, letters)
    marks, ways = reader_of(form[1], letters)
    if kind == "not":
        return [not mark for mark in marks], ways
    if kind == "many":
        return many_reader(marks, ways)
    other = reader_of(form[2], letters)
    if kind == "then":
        return then_reader((marks, ways), other)
    return pair_reader(kind, (marks, ways), other)


def leaf_reader(form, letters):
    """The reader of a form without forms in it."""
    if form == ("empty",):
        return least_reader([True, False], [[1 for _ in letters], [1 for _ in letters]])
    begin = [1 if form[0] == "any" or letter == form[1] else 2 for letter in letters]
    lost = [2 for _ in letters]
    return least_reader([False, True, False], [begin, lost, lost])


def pair_reader(kind, one, other):
    """The reader of "both" or "either" of two forms."""
    found, ways = paired(one, other)
    if kind == "both":
        return least_reader([one[0][at] and other[0][place] for at, place in found], ways)
    return least_reader([one[0][at] or other[0][place] for at, place in found], ways)


def paired(one, other):
    """The pairs of states to which the same words lead, and the ways between them."""
    return explored((0, 0), lambda pair, letter: (one[1][pair[0]][letter], other[1][pair[1]][letter]), len(one[1][0]))


def then_reader(one, other):
    """The reader of a form with another one behind: the state of the first, and all that the second may be in."""
    marks, ways = one
    other_marks, other_ways = other

    def step(state, letter):
        """The state behind one letter more; the second form begins wherever the first one may end."""
        at = ways[state[0]][letter]
        begun = [0] if marks[at] else []
        return at, living(other, [other_ways[place][letter] for place in state[1]] + begun)

    found, then_ways = explored((0, living(other, [0] if marks[0] else [])), step, len(ways[0]))
    return least_reader([any([other_marks[to] for to in members]) for _, members in found], then_ways)


def many_reader(marks, ways):
    """The reader of a form again and again: whether nothing was read, and all states that it may be in."""

    def step(state, letter):
        """The state behind one letter more; the form begins anew wherever it may end."""
        places = [ways[place][letter] for place in state[1]]
        begun = [0] if any([marks[place] for place in places]) else []
        return False, living((marks, ways), places + begun)

    found, many_ways = explored((True, (0,)), step, len(ways[0]))
    return least_reader([fresh or any([marks[to] for to in members]) for fresh, members in found], many_ways)


def living(reader, places):
    """The ascending tuple of the different states from which some word is still matched."""
    marks, ways = reader
    return tuple(sorted(set([at for at in places if marks[at] or any([to != at for to in ways[at]])])))


def shortest_words(ways, letters):
    """The word that leads to each state first: the shortest one, of these the first by the order of letters."""
    words = {0: ()}
    for at, behind in enumerate(ways):
        for letter, to in zip(letters, behind):
            words.setdefault(to, words[at] + (letter,))
    return [words[at] for at in range(len(ways))]
