"""Forms: which words of letters are meant, told by what they are put together from."""

from roundpromises.checks import are_different, is_name, is_tuple_of
from roundpromises.errors import BadForm, BadLetters, BadWord
from roundpromises.readers import paired, reader_of, shortest_words

ALWAYS = ("many", ("any",))
NOTHING = ("not", ("many", ("any",)))
EMPTY = ("empty",)
MOST_LETTERS = 4
MOST_LEVELS = 6


def is_form(thing, letters):
    """Tell whether any value is a form of these letters."""
    check_letters(letters)
    return is_low_form(thing, letters)


def matches(form, word):
    """Tell whether a form matches a word."""
    check_any_form(form)
    check_word(word)
    return has(spans(form, word)[0], len(word))


def form_behind(form, word):
    """A form that matches a word exactly if the given one matches the given word with it behind."""
    check_any_form(form)
    check_word(word)
    return rests(form, word)[0]


def are_alike(one, other, letters):
    """Tell whether two forms match the same words of these letters."""
    return parting_word(one, other, letters) is None


def parting_word(one, other, letters):
    """The first of the shortest words of these letters that one form alone matches; None if there is none."""
    check_letters(letters)
    check_form(one, letters)
    check_form(other, letters)
    readers = reader_of(one, letters), reader_of(other, letters)
    found, ways = paired(readers[0], readers[1])
    words = shortest_words(ways, letters)
    for at, (place, other_place) in enumerate(found):
        if readers[0][0][place] != readers[1][0][other_place]:
            return words[at]
    return None


def check_letters(letters):
    """Refuse what is no tuple of 1 to 4 different letters."""
    if not are_letters(letters):
        raise BadLetters("letters are a tuple of 1 to 4 different names, or other")


def check_word(word):
    """Refuse what is no word of any letters."""
    if not isinstance(word, tuple) or not all([is_letter(letter) for letter in word]):
        raise BadWord("a word is a tuple of letters")


def check_form(form, letters):
    """Refuse what is no form of these letters."""
    if not is_low_form(form, letters):
        raise BadForm("a form of these letters has at most 6 levels")


def check_any_form(form):
    """Refuse what is no form of any letters and of any number of levels."""
    if not is_form_of(form, None):
        raise BadForm("a form is a tuple of a word and its letter or its forms")


def are_letters(thing):
    """Tell whether any value is a tuple of 1 to 4 different letters."""
    if not isinstance(thing, tuple) or not 1 <= len(thing) <= MOST_LETTERS:
        return False
    return all([is_letter(letter) for letter in thing]) and are_different(thing)


def is_letter(thing):
    """Tell whether any value is a letter."""
    return is_name(thing) or thing == "other"


def is_low_form(thing, letters):
    """Tell whether any value is a form of these letters that has not too many levels."""
    return not is_deeper(thing, MOST_LEVELS) and is_form_of(thing, letters)


def is_deeper(thing, levels):
    """Tell whether any value has more tuples within one another than so many levels."""
    if not isinstance(thing, tuple):
        return False
    return levels == 0 or any([is_deeper(part, levels - 1) for part in thing])


def is_form_of(thing, letters):
    """Tell whether any value is a form of these letters, of any number of levels; None stands for all letters."""
    if is_tuple_of(thing, 1):
        return thing[0] in ("any", "empty")
    if is_tuple_of(thing, 2) and thing[0] == "one":
        return is_letter(thing[1]) and (letters is None or thing[1] in letters)
    if is_tuple_of(thing, 2):
        return thing[0] in ("not", "many") and is_form_of(thing[1], letters)
    if not is_tuple_of(thing, 3) or thing[0] not in ("then", "either", "both"):
        return False
    return is_form_of(thing[1], letters) and is_form_of(thing[2], letters)


def has(bits, at):
    """Tell whether a number has a bit, counted from 0."""
    return bits >> at & 1 == 1


def spans(form, word):
    """For each place of a word, its end too, the places up to which the form matches from there: bits of a number."""
    many = len(word)
    if form[0] == "empty":
        return [1 << at for at in range(many + 1)]
    if form[0] in ("one", "any"):
        return [2 << at if form[0] == "any" or form[1] == letter else 0 for at, letter in enumerate(word)] + [0]
    first = spans(form[1], word)
    if form[0] == "not":
        return [((2 << many) - (1 << at)) ^ bits for at, bits in enumerate(first)]
    if form[0] == "many":
        return many_spans(first)
    second = spans(form[2], word)
    if form[0] == "then":
        return [gathered(bits, second) for bits in first]
    if form[0] == "both":
        return [bits & more for bits, more in zip(first, second)]
    return [bits | more for bits, more in zip(first, second)]


def many_spans(first):
    """The spans of "many", told from the last place on, of those of the form that is repeated."""
    found = [0 for _ in first]
    for at in reversed(range(len(first))):
        found[at] = (1 << at) | gathered(first[at], found)
    return found


def gathered(bits, ends):
    """All that can be reached by going on from the places of a number."""
    found = 0
    for at, more in enumerate(ends):
        if has(bits, at):
            found = found | more
    return found


def rests(form, word):
    """For each place of a word, its end too, a form for what is left of the form behind the word from there on."""
    if form[0] in ("one", "any", "empty"):
        return [leaf_rest(form, word[at:]) for at in range(len(word) + 1)]
    first = rests(form[1], word)
    if form[0] == "not":
        return [negated(rest) for rest in first]
    if form[0] == "many":
        return many_rests(first, spans(form, word))
    second = rests(form[2], word)
    if form[0] == "then":
        return then_rests(first, spans(form[1], word), second)
    if form[0] == "both":
        return [both_of([rest, more]) for rest, more in zip(first, second)]
    return [either_of([rest, more]) for rest, more in zip(first, second)]


def leaf_rest(form, word):
    """What is left of a form without forms in it behind a word."""
    if word == ():
        return form
    fits = form == ("any",) or form == ("one", word[0])
    return EMPTY if fits and len(word) == 1 else NOTHING


def then_rests(first, begun, second):
    """What is left of "then": the second form behind what is left of the first, or what is left of the second."""
    last = len(first) - 1
    return [
        either_of([then_of(first[at], second[last])] + [second[to] for to in range(at, last) if has(begun[at], to)])
        for at in range(last + 1)
    ]


def many_rests(first, begun):
    """What is left of "many": the whole behind what is left of a form that was begun at some place."""
    last = len(first) - 1
    whole = many_of(first[last])
    starts = [[first[to] for to in range(at, last) if has(begun[at], to)] for at in range(last)]
    return [then_of(either_of(parts), whole) for parts in starts] + [whole]


def negated(form):
    """A form for all words that a form does not match."""
    return form[1] if form[0] == "not" else ("not", form)


def many_of(form):
    """A form for "many", as low as can be seen at once."""
    if form in (EMPTY, NOTHING):
        return EMPTY
    return form if form[0] == "many" else ("many", form)


def then_of(form, other):
    """A form for "then", as low as can be seen at once."""
    if NOTHING in (form, other):
        return NOTHING
    if form == EMPTY or form == other == ALWAYS:
        return other
    return form if other == EMPTY else ("then", form, other)


def either_of(forms):
    """A form for "either" of any number of forms."""
    return merged("either", forms, NOTHING, ALWAYS)


def both_of(forms):
    """A form for "both" of any number of forms."""
    return merged("both", forms, ALWAYS, NOTHING)


def merged(kind, forms, without, whole):
    """A form for all of them at once: without changes nothing in it, whole makes all the others idle."""
    parts = []
    for form in forms:
        for part in parts_of(kind, form):
            if part != without and part not in parts:
                parts.append(part)
    if whole in parts:
        return whole
    return balanced(kind, parts) if parts else without


def parts_of(kind, form):
    """The forms that a form puts together by this kind, through all levels of it."""
    if form[0] != kind:
        return [form]
    return parts_of(kind, form[1]) + parts_of(kind, form[2])


def balanced(kind, parts):
    """The parts put together by a kind with as few levels as can be."""
    if len(parts) == 1:
        return parts[0]
    half = len(parts) // 2
    return kind, balanced(kind, parts[:half]), balanced(kind, parts[half:])
