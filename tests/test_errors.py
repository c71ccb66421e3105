"""The errors: what each one derives from, and what it keeps."""
from anymargin import errors
from tests.support import EVERYTHING, Case

FROM_MARGIN = (
    "InvalidFraction", "InvalidGraph", "InvalidReadings", "InvalidClass", "InvalidZone", "InvalidMachine",
    "InvalidRun", "InvalidChain", "InvalidTable", "InvalidLog", "InvalidClaim", "InvalidOperation", "ParseError")

OTHERS = {"MarginError": ValueError, "InvalidNumber": IndexError, "UnknownName": KeyError, "TooMany": OverflowError,
          "NothingToUndo": LookupError, "Refused": ArithmeticError}

KEPT = {"ParseError": "spot", "InvalidNumber": "given", "UnknownName": "wanted", "TooMany": "limit",
        "NothingToUndo": "wanted", "Refused": "reason"}


class Errors(Case):
    def test_each_error_about_forms_derives_directly_from_the_common_one(self):
        for name in FROM_MARGIN:
            self.assertEqual(getattr(errors, name).__bases__, (errors.MarginError,), name)

    def test_the_others_derive_directly_from_errors_of_python(self):
        for name, base in OTHERS.items():
            self.assertEqual(getattr(errors, name).__bases__, (base,), name)

    def test_each_error_is_defined_in_its_module(self):
        for name in FROM_MARGIN + tuple(OTHERS):
            self.assertEqual(getattr(errors, name).__module__, "anymargin.errors")

    def test_what_is_taken_is_kept(self):
        for name, attribute in KEPT.items():
            for value in EVERYTHING:
                found = getattr(getattr(errors, name)(value), attribute)
                self.assertIs(found, value)

    def test_the_others_take_a_message(self):
        for name in ("MarginError",) + FROM_MARGIN[:-1]:
            with self.assertRaises(ValueError):
                raise getattr(errors, name)("a message")

    def test_each_error_has_a_string(self):
        for name in FROM_MARGIN + tuple(OTHERS):
            self.assertIsInstance(str(getattr(errors, name)("a")), str)
