import unittest

from innerlook import errors

UNDER_INNER = ("NoNumber", "NoName", "NoWorth", "NoTree", "NoDeed", "NoParams", "NoText", "NoStore",
               "NoKind", "NoRows", "NoRules", "NoAsk", "NoWay", "NoLine", "NoPaper", "NoList",
               "NoTruth", "Unfit", "Doubled")
FIELDS = {name: ("found",) for name in UNDER_INNER}
FIELDS.update({"NoRow": ("at",), "TooMany": ("many",), "NoThing": ("found",), "NotThere": ("found",),
               "Fault": ("why", "found"), "Ended": ("found",), "Over": ()})
FAMILY = {name: "InnerError" for name in FIELDS}
FAMILY.update({"NoThing": "Missing", "NotThere": "Missing",
               "Fault": "Barred", "Ended": "Barred", "Over": "Barred"})
BUILTIN = {"InnerError": ValueError, "Missing": KeyError, "Barred": LookupError}

ANY_THINGS = (None, True, False, 0, -1, 10 ** 30, 10 ** 5000, "", "a" * 5000, "\u00e9", (), [], {}, [[[1]]],
              {"a": 1}, ("thing", 3), errors, errors.Over())


class Families(unittest.TestCase):

    def test_each_family_is_made_of_one_text_and_stands_under_its_own_error(self):
        for name, builtin in BUILTIN.items():
            family = getattr(errors, name)
            self.assertEqual(family.__bases__, (builtin,), name)
            with self.assertRaises(builtin):
                raise family("some text")
            self.assertRaises(TypeError, family)
            self.assertRaises(TypeError, family, "one", "two")

    def test_no_family_stands_under_another_one(self):
        for name in BUILTIN:
            for other in BUILTIN:
                under = issubclass(getattr(errors, name), getattr(errors, other))
                self.assertEqual(under, name == other, (name, other))

    def test_a_family_tells_its_text(self):
        for name in BUILTIN:
            self.assertIn("some text", str(getattr(errors, name)("some text")))


class Errors(unittest.TestCase):

    def test_each_stands_straight_under_its_own_family_and_under_no_other_one(self):
        for name, family in FAMILY.items():
            found = getattr(errors, name)
            self.assertEqual(found.__bases__, (getattr(errors, family),), name)
            for other in BUILTIN:
                self.assertEqual(issubclass(found, getattr(errors, other)), other == family, (name, other))

    def test_all_are_classes_of_their_own(self):
        names = list(FIELDS) + list(BUILTIN)
        classes = [getattr(errors, name) for name in names]
        self.assertEqual(len(set(classes)), len(names))
        for name, found in zip(names, classes):
            self.assertEqual(found.__name__, name)
            self.assertEqual(found.__module__, "innerlook.errors")

    def test_the_fields_are_the_very_things_by_place_and_by_name(self):
        for name, fields in FIELDS.items():
            made = getattr(errors, name)
            for thing in ANY_THINGS:
                things = [thing] + [object() for _ in fields[1:]]
                for error in (made(*things[:len(fields)]), made(**dict(zip(fields, things)))):
                    for field, expected in zip(fields, things):
                        self.assertIs(getattr(error, field), expected, (name, field))

    def test_a_fault_is_made_by_names_in_any_order(self):
        found = ["a"]
        fault = errors.Fault(found=found, why="wrong")
        self.assertEqual(fault.why, "wrong")
        self.assertIs(fault.found, found)

    def test_an_error_takes_just_its_fields(self):
        for name, fields in FIELDS.items():
            made = getattr(errors, name)
            self.assertRaises(TypeError, made, *([1] * (len(fields) + 1)))
            if fields:
                self.assertRaises(TypeError, made, *([1] * (len(fields) - 1)))

    def test_each_is_caught_as_itself_and_as_its_family(self):
        for name, fields in FIELDS.items():
            made = getattr(errors, name)
            family = FAMILY[name]
            for caught in (made, getattr(errors, family), BUILTIN[family]):
                with self.assertRaises(caught):
                    raise made(*([[]] * len(fields)))

    def test_what_was_found_is_not_needed_to_tell_the_error(self):
        for name, fields in FIELDS.items():
            for thing in ANY_THINGS:
                self.assertIsInstance(str(getattr(errors, name)(*([thing] * len(fields)))), str)


if __name__ == "__main__":
    unittest.main()
