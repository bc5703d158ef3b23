"""Point 70: forms, by hand, and all short words tried."""

import itertools
import random
import unittest

from roundpromises.errors import BadForm, BadLetters, BadWord
from roundpromises.forms import ALWAYS, are_alike, form_behind, is_form, matches, parting_word
from tests.helpers import JUNK, Case, junk_but

A, B, ANY, EMPTY = ("one", "a"), ("one", "b"), ("any",), ("empty",)
LETTERS = ("a", "other")
LONGEST = 4
BAD_LETTERS = (
    None,
    (),
    ["a"],
    "a",
    ("a", "a"),
    ("a", "b", "c", "d", "e"),
    ("out",),
    ("start",),
    ("A",),
    (1,),
    (["a"],),
    {"a": 1},
    ("abcdefg",),
    ("",),
    ("a", None),
    True,
)
BAD_FORMS = (
    None,
    (),
    [],
    "any",
    ["any"],
    ("any", "a"),
    ("empty", ()),
    ("one",),
    ("one", "a", "b"),
    ("one", "out"),
    ("one", "A"),
    ("one", "start"),
    ("one", ["a"]),
    ("one", None),
    ("one", 1),
    ("one", ("a",)),
    ("then", A),
    ("then", A, B, A),
    ("then", A, [B[0]]),
    ("either", A),
    ("both", A, None),
    ("both", None, A),
    ("not",),
    ("not", A, A),
    ("many",),
    ("many", "a"),
    ("many", A, A),
    ("never",),
    ("some", A),
    (("any",),),
    (1,),
    ("not", ("not", ("one", "abcdefg"))),
    ("then", ANY, ("then", ANY, ("then", ANY, ("any", 1)))),
    {"any": 1},
    True,
    0,
)


def words_up_to(longest, letters=LETTERS):
    return [word for many in range(longest + 1) for word in itertools.product(letters, repeat=many)]


def language(form, longest, letters=LETTERS):
    """All words of at most so many letters that a form matches, told from the words of the document."""
    every = set(words_up_to(longest, letters))
    word, parts = form[0], [language(part, longest, letters) for part in form[1:] if isinstance(part, tuple)]
    if word == "one":
        return {(form[1],)} & every
    if word == "any":
        return {one for one in every if len(one) == 1}
    if word == "empty":
        return {()}
    if word == "not":
        return every - parts[0]
    if word == "either":
        return parts[0] | parts[1]
    if word == "both":
        return parts[0] & parts[1]
    if word == "then":
        return {one + other for one in parts[0] for other in parts[1]} & every
    found = {()}
    while True:
        more = found | ({one + other for one in found for other in parts[0]} & every)
        if more == found:
            return found
        found = more


def levels(form):
    return 1 + max([levels(part) for part in form[1:] if isinstance(part, tuple)], default=0)


LOW = [("one", "a"), ("one", "other"), ANY, EMPTY]
MIDDLE = (
    LOW
    + [(word, form) for word in ("not", "many") for form in LOW]
    + [(word, one, other) for word in ("then", "either", "both") for one in LOW for other in LOW]
)
HIGH = [(word, form) for word in ("not", "many") for form in MIDDLE] + [
    (word, one, other) for word in ("then", "either", "both") for one in MIDDLE for other in MIDDLE
]


def tall(chance, most, letters):
    """A form of just so many levels, by chance."""
    if most == 1:
        return chance.choice([ANY, EMPTY, *(("one", letter) for letter in letters)])
    word = chance.choice(["then", "then", "either", "both", "not", "many"])
    if word in ("not", "many"):
        return word, tall(chance, most - 1, letters)
    parts = [tall(chance, most - 1, letters), tall(chance, chance.randint(1, most - 1), letters)]
    chance.shuffle(parts)
    return (word, *parts)


def chain(word, many):
    """A form of so many levels that says the same word again and again."""
    form = ANY
    for _ in range(many - 1):
        form = (word, form) if word in ("not", "many") else (word, form, ANY)
    return form


class ByHand(Case):
    def test_always(self):
        self.same(ALWAYS, ("many", ("any",)))
        for word in words_up_to(3):
            self.assertIs(matches(ALWAYS, word), True)

    def test_is_form(self):
        for form in (
            A,
            ANY,
            EMPTY,
            ALWAYS,
            ("one", "other"),
            ("then", A, B),
            ("either", A, ("not", B)),
            ("both", ANY, EMPTY),
        ):
            self.assertIs(is_form(form, ("a", "b", "other")), True, form)
        for thing in BAD_FORMS + tuple(junk_but()):
            self.assertIs(is_form(thing, ("a", "b", "other")), False, thing)
        self.assertIs(is_form(A, ("b",)), False)
        self.assertIs(is_form(("one", "other"), ("a", "b", "c", "d")), False)
        self.assertIs(is_form(("then", ANY, ("not", B)), ("a",)), False)
        self.assertIs(is_form(("one", "many"), ("many", "any")), True)

    def test_six_and_seven_levels(self):
        for word in ("then", "either", "both", "not", "many"):
            six, seven = chain(word, 6), chain(word, 7)
            self.assertEqual((levels(six), levels(seven)), (6, 7))
            self.assertIs(is_form(six, ("a",)), True)
            self.assertIs(is_form(seven, ("a",)), False)
            self.assertIs(is_form(("either", A, six), ("a",)), False)
            self.assertIs(are_alike(six, six, ("a",)), True)
            for function in (are_alike, parting_word):
                self.refused(BadForm, function, seven, ANY, ("a",))
                self.refused(BadForm, function, ANY, seven, ("a",))
            self.assertIs(matches(seven, ("z",)), word != "then")
            self.assertIs(matches(form_behind(seven, ("z",)), ()), matches(seven, ("z",)))

    def test_bad_letters(self):
        for letters in BAD_LETTERS:
            self.refused(BadLetters, is_form, "no form", letters)
            self.refused(BadLetters, are_alike, "no form", "no form", letters)
            self.refused(BadLetters, parting_word, "no form", "no form", letters)
        for letters in (("a",), ("other",), ("a", "b", "c", "other"), ("d", "c", "b", "a"), ("abcdef",)):
            self.assertIs(is_form(ANY, letters), True)

    def test_bad_forms(self):
        for form in BAD_FORMS:
            self.refused(BadForm, matches, form, "no word")
            self.refused(BadForm, form_behind, form, "no word")
            self.refused(BadForm, are_alike, form, "no form", ("a", "b"))
            self.refused(BadForm, parting_word, ANY, form, ("a", "b"))
        self.refused(BadForm, are_alike, ANY, ("one", "c"), ("a", "b"))
        self.refused(BadForm, parting_word, ("one", "other"), ANY, ("a", "b"))

    def test_bad_words(self):
        for word in (
            None,
            [],
            ["a"],
            "a",
            ("out",),
            ("a", "start"),
            ("A",),
            (1,),
            ("",),
            (("a",),),
            {"a": 1},
            ("abcdefg",),
        ):
            self.refused(BadWord, matches, ANY, word)
            self.refused(BadWord, form_behind, ANY, word)

    def test_any_letters(self):
        """Forms of matches have letters as many as they like; words may have others."""
        form = ANY
        for letter in "abcdefgh":
            form = ("either", ("one", letter), form)
        self.assertIs(matches(form, ("h",)), True)
        self.assertIs(matches(("one", "a"), ("z",)), False)
        self.assertIs(matches(("not", ("one", "a")), ("other",)), True)
        self.assertIs(matches(("many", ("one", "other")), ("other", "other")), True)

    def test_letters_named_like_words(self):
        """A letter may have the name of any word of a form: it is told by where it stands."""
        names = ("one", "any", "empty", "then", "either", "both", "not", "many")
        words = [(), *((name,) for name in names), *itertools.product(names, repeat=2)]
        for name in names:
            form = ("one", name)
            self.assertIs(is_form(form, (name,)), True)
            for word in words:
                self.assertIs(matches(form, word), word == (name,))
                self.assertIs(matches(("many", form), word), set(word) <= {name})
                self.assertIs(matches(("not", form), word), word != (name,))
                self.assertIs(matches(form_behind(("not", form), ()), word), word != (name,))
                for more in words[:9]:
                    self.assertIs(
                        matches(form_behind(("not", ("many", form)), more), word), not set(more + word) <= {name}
                    )
                    self.assertIs(
                        matches(form_behind(("either", form, EMPTY), more), word), more + word in ((), (name,))
                    )
                    self.assertIs(matches(form_behind(("both", form, ANY), more), word), more + word == (name,))
                    self.assertIs(matches(form_behind(("then", form, form), more), word), more + word == (name, name))
            self.same(parting_word(form, ANY, (name, "a")), ("a",))
            self.same(parting_word(("many", form), EMPTY, (name, "a")), (name,))
            self.same(parting_word(("not", form), ("not", ANY), ("a", name)), ("a",))
            self.assertIs(are_alike(("then", form, ("not", ALWAYS)), ("both", form, EMPTY), (name, "a")), True)

    def test_parting_words(self):
        self.same(parting_word(A, B, ("a", "b")), ("a",))
        self.same(parting_word(A, B, ("b", "a")), ("b",))
        self.same(parting_word(ALWAYS, ("many", A), ("a", "b")), ("b",))
        self.same(parting_word(ALWAYS, ("many", A), ("a",)), None)
        self.same(parting_word(EMPTY, ("not", ("then", ANY, ALWAYS)), ("a", "b")), None)
        self.same(parting_word(EMPTY, ANY, ("a",)), ())
        again = ("then", ALWAYS, A)
        self.same(parting_word(again, ("then", ALWAYS, ("then", ANY, A)), ("b", "a")), ("a",))
        self.same(parting_word(("then", again, ANY), ("then", again, B), ("a", "b")), ("a", "a"))
        self.same(parting_word(("then", again, ANY), ("then", again, B), ("b", "a")), ("a", "a"))
        self.same(
            parting_word(("many", ("then", ANY, ANY)), ("many", ("then", ANY, ("then", ANY, ANY))), ("c",)), ("c", "c")
        )

    def test_just_thirty_classes(self):
        """Words of 0 to 28 letters are of a class each, all longer ones of one more."""
        two = ("then", ANY, ANY)
        four, seven = ("then", two, two), ("then", ("then", two, two), ("then", two, ANY))
        self.same(levels(seven), 4)
        long = ("then", ("then", seven, seven), ("then", seven, seven))
        self.same(
            parting_word(long, ("then", ("then", seven, seven), ("then", seven, ("then", four, two))), ("a", "b")),
            ("a",) * 27,
        )
        self.assertIs(matches(long, ("b",) * 28), True)
        self.assertIs(matches(long, ("b",) * 27), False)
        turned = ("then", ("then", ANY, two), ("then", two, two))
        same = ("then", ("then", turned, seven), ("then", turned, turned))
        self.assertIs(are_alike(long, same, ("a", "b", "c", "other")), True)

    def test_long_words(self):
        word = ("a", "b") * 20
        pairs = ("many", ("then", A, B))
        self.assertIs(matches(pairs, word), True)
        self.assertIs(matches(pairs, word[1:]), False)
        self.assertIs(matches(("then", pairs, ("many", ("many", ANY))), word[:-1]), True)
        self.assertIs(matches(("not", pairs), word), False)

    def test_nothing_is_read_backwards(self):
        """Behind any letter, and no or more letters a, two letters more: three at least."""
        form = ("then", ANY, ("then", ("many", ("either", EMPTY, A)), ("then", ANY, ANY)))
        for word in words_up_to(5, ("a", "b")):
            self.assertIs(matches(form, word), len(word) >= 3 and set(word[1:-2]) <= {"a"})

    def test_sixty_levels(self):
        for word in ("then", "either", "both", "not", "many"):
            form = chain(word, 60)
            self.assertEqual(levels(form), 60)
            self.assertIs(matches(form, ("a",)), word not in ("then", "not"))
            left = form_behind(form, ("a",) * 6)
            for many in range(35):
                self.assertIs(matches(left, ("a",) * many), matches(form, ("a",) * (many + 6)))
        self.assertIs(matches(chain("then", 40), ("a",) * 40), True)
        self.assertIs(matches(form_behind(chain("then", 40), ("a",) * 6), ("a",) * 34), True)


class InFull(Case):
    def test_matches(self):
        words = words_up_to(LONGEST)
        for form in MIDDLE + HIGH[::11]:
            told = language(form, LONGEST)
            for word in words:
                self.assertIs(matches(form, word), word in told, (form, word))

    def test_three_letters_and_more_levels(self):
        chance = random.Random(70)
        letters = ("b", "a", "other")
        words = words_up_to(3, letters)
        for _ in range(300):
            form = tall(chance, chance.randint(3, 6), letters)
            told = language(form, 3, letters)
            for word in words:
                self.assertIs(matches(form, word), word in told, (form, word))

    def test_form_behind(self):
        words = words_up_to(LONGEST)
        for form in MIDDLE + HIGH[::67]:
            told = language(form, LONGEST)
            for word in words:
                left = form_behind(form, word)
                for more in words_up_to(LONGEST - len(word)):
                    self.assertIs(matches(left, more), word + more in told, (form, word, more))

    def test_form_behind_of_six_letters(self):
        chance = random.Random(71)
        for _ in range(200):
            form = tall(chance, 6, ("a", "b"))
            for _ in range(3):
                word = tuple(chance.choice("ab") for _ in range(6))
                left = form_behind(form, word)
                self.assertLessEqual(levels(left), 60)
                for more in words_up_to(3, ("a", "b")):
                    self.assertIs(matches(left, more), matches(form, word + more))

    def test_form_behind_takes_long_forms(self):
        chance = random.Random(72)
        for _ in range(20):
            form = tall(chance, 2, ("a", "b"))
            while levels(form) < 60:
                word = chance.choice(["then", "either", "both", "not", "many"])
                more = tall(chance, 2, ("a", "b"))
                form = (word, form) if word in ("not", "many") else (word, *chance.sample([form, more], 2))
            word = tuple(chance.choice("ab") for _ in range(6))
            left = form_behind(form, word)
            for more in words_up_to(3, ("a", "b")):
                self.assertIs(matches(left, more), matches(form, word + more))

    def test_alike_and_parting_words(self):
        """Low forms have so few classes that short words part all that are not alike."""
        words = words_up_to(LONGEST)
        told = [(form, language(form, LONGEST)) for form in MIDDLE]
        for (one, mine), (other, theirs) in itertools.product(told, repeat=2):
            wanted = next((word for word in words if (word in mine) != (word in theirs)), None)
            self.same(parting_word(one, other, LETTERS), wanted)
            self.assertIs(are_alike(one, other, LETTERS), wanted is None)

    def test_order_of_letters(self):
        letters = ("other", "a")
        words = words_up_to(LONGEST, letters)
        told = [(form, language(form, LONGEST, letters)) for form in MIDDLE[::2]]
        for (one, mine), (other, theirs) in itertools.product(told, repeat=2):
            wanted = next((word for word in words if (word in mine) != (word in theirs)), None)
            self.same(parting_word(one, other, letters), wanted)

    def test_high_forms(self):
        chance = random.Random(73)
        words = words_up_to(6)
        for _ in range(400):
            one, other = chance.choice(HIGH), chance.choice(HIGH)
            mine, theirs = language(one, 6), language(other, 6)
            wanted = next((word for word in words if (word in mine) != (word in theirs)), None)
            found = parting_word(one, other, LETTERS)
            self.same(found, wanted)
            self.assertIs(are_alike(one, other, LETTERS), found is None)

    def test_forms_that_say_the_same(self):
        chance = random.Random(74)
        for _ in range(200):
            form = tall(chance, 3, LETTERS)
            for same in (
                ("not", ("not", form)),
                ("either", form, form),
                ("both", form, ALWAYS),
                ("then", EMPTY, form),
                ("then", form, EMPTY),
                ("either", ("not", ALWAYS), form),
            ):
                self.assertIs(are_alike(form, same, LETTERS), True)
            self.assertIs(are_alike(form, ("not", form), LETTERS), False)
            star = ("many", form)
            self.assertIs(are_alike(star, ("many", star), LETTERS), True)
            self.assertIs(are_alike(star, ("either", EMPTY, ("then", form, star)), LETTERS), True)

    def test_junk(self):
        for thing in JUNK:
            self.refused(BadForm, matches, thing, ())


if __name__ == "__main__":
    unittest.main()
