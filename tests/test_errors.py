"""Refusals: point 8 and the interface of termshelf/errors.py."""

import unittest

from termshelf import errors
from tests.samples import Case, any_things

UNDER = {
    "TermError": {
        "found": "NoName NoWords NoSigns NoWord NoTerm NoTerms NoLetter NoPairs NoPutting NoWay NoNumber NoTruth "
                 "NoNote NoList NoAsk NoRule NoRules NoRow NoShelf NoLine Unlike Twice",
        "at": "NoSign Beyond NoDeed",
        "many": "Unended TooMany TooGreat",
        "row": "NoText",
    },
    "Absent": {"found": "NotThere NoSpot"},
    "Ended": {"many": "Changed Endless", "": "NoMore"},
}
STANDS_UNDER = {"TermError": ValueError, "Absent": KeyError, "Ended": LookupError}


def rows():
    """(class, family, field) of each refusal."""
    told = []
    for family, fields in UNDER.items():
        for field, names in fields.items():
            told.extend([(getattr(errors, name), getattr(errors, family), field) for name in names.split()])
    return told


class Families(Case):
    def test_families_stand_under_pythons_own_errors_and_are_made_of_a_text(self):
        for name, above in STANDS_UNDER.items():
            family = getattr(errors, name)
            self.assertEqual(family.__bases__, (above,))
            self.assertIsInstance(family("some text"), above)
            self.assertIn("some text", str(family("some text")))

    def test_each_refusal_stands_straight_under_one_family(self):
        self.assertEqual(len(rows()), 34)
        for kind, family, _ in rows():
            self.assertEqual(kind.__bases__, (family,), kind)

    def test_there_are_no_other_refusals(self):
        names = {name for name, thing in vars(errors).items() if isinstance(thing, type)}
        self.assertEqual(names, {kind.__name__ for kind, _, _ in rows()} | set(UNDER))


class Fields(Case):
    def test_a_field_is_the_very_thing_of_whatever_kind(self):
        for kind, _, field in rows():
            for thing in any_things() if field else []:
                self.assertIs(getattr(kind(thing), field), thing)
                self.assertIs(getattr(kind(**{field: thing}), field), thing)

    def test_no_more_is_made_of_nothing(self):
        self.assertIsInstance(errors.NoMore(), errors.Ended)
        self.assertEqual(vars(errors.NoMore()), {})

    def test_refusals_have_texts_and_are_caught_by_their_family(self):
        for kind, family, field in rows():
            told = kind([1]) if field else kind()
            self.assertIsInstance(str(told), str)
            self.assertIsInstance(repr(told), str)
            with self.assertRaises(family):
                raise told


if __name__ == "__main__":
    unittest.main()
