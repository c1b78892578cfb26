import unittest

from holefloors import errors

KINDS = (
    ("NoCell", LookupError, ("cell",)), ("NoPlace", LookupError, ("place",)), ("NothingDone", LookupError, ()),
    ("BadText", ValueError, ("line",)), ("Broken", ValueError, ("number",)), ("CanNot", ValueError, ()),
    ("TooMany", ValueError, ()), ("Unfit", ValueError, ()),
)


class ErrorsTest(unittest.TestCase):
    def test_bases(self):
        for name, base, _ in KINDS:
            self.assertEqual(getattr(errors, name).__bases__, (base,), name)

    def test_attributes(self):
        for name, _, fields in KINDS:
            error = getattr(errors, name)(*[(3, 4) for _ in fields])
            self.assertEqual(vars(error), {field: (3, 4) for field in fields}, name)
            error = getattr(errors, name)(**{field: 7 for field in fields})
            self.assertEqual(vars(error), {field: 7 for field in fields}, name)

    def test_attributes_are_copies(self):
        for kind, field in ((errors.NoCell, "cell"), (errors.NoPlace, "place")):
            given = [3, 4]
            error = kind(given)
            given.append(5)
            self.assertEqual(getattr(error, field), [3, 4])

    def test_values_must_be_passed(self):
        for name, _, fields in KINDS:
            if fields:
                with self.assertRaises(TypeError, msg=name):
                    getattr(errors, name)()


if __name__ == "__main__":
    unittest.main()
