"""Point 3 and the interface: the errors."""

import unittest

from roundpromises import errors
from tests.helpers import Case

PLAIN = """BadLength BadSize BadRow BadPlaces BadMoment BadNames BadTimes BadCases BadInputs BadPromise BadEnvironment
OtherTables BadQuarrel BadWindow OtherPanels BadTranslator BadLetters BadWord BadForm BadMode BadName BadBarred
OtherWorks BadMarks BadGains BadWeights BadStock BadRounds OtherMachines BadDelays BadGuess BadLedger BadView BadSplit
BadWide BadPlay BadLot BadFaults NothingDone BadPlant""".split()
TOLD = {
    "BadCondition": "name",
    "BadPromises": "at",
    "BadPanel": "part",
    "TooMany": "most",
    "BadTable": "part",
    "BadTask": "part",
    "BadWorks": "part",
    "BadMachine": "part",
    "BadChanges": "at",
    "Clash": "name",
    "BadTries": "at",
    "BadSeen": "at",
    "NotNow": "word",
    "BadJournal": "at",
    "BadText": "at",
}


class Errors(Case):
    def test_there_are_just_these(self):
        found = {name for name, value in vars(errors).items() if isinstance(value, type)}
        self.assertEqual(found, {"PromiseError", *PLAIN, *TOLD})

    def test_bases(self):
        self.assertEqual(errors.PromiseError.__bases__, (ValueError,))
        for name in [*PLAIN, *TOLD]:
            self.assertEqual(getattr(errors, name).__bases__, (errors.PromiseError,), name)

    def test_plain_ones_are_made_with_a_message(self):
        for name in PLAIN:
            self.assertEqual(str(getattr(errors, name)("some words")), "some words")

    def test_the_others_are_made_with_any_value(self):
        for name, attribute in TOLD.items():
            for value in (None, 0, 7, "word", (1, 2), [3], {"a": None}, True):
                error = getattr(errors, name)
                self.same(getattr(error(value), attribute), value)
                self.same(getattr(error(**{attribute: value}), attribute), value)
                with self.assertRaises(errors.PromiseError) as caught:
                    raise error(value)
                self.same(getattr(caught.exception, attribute), value)

    def test_kinds(self):
        for name in PLAIN:
            self.same(getattr(errors, name)("some words").kind(), name)
        for name in TOLD:
            self.same(getattr(errors, name)(None).kind(), name)

    def test_defined_here(self):
        for name in ["PromiseError", *PLAIN, *TOLD]:
            self.assertEqual(getattr(errors, name).__module__, "roundpromises.errors")


if __name__ == "__main__":
    unittest.main()
