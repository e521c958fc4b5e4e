import unittest

from whatleaves import errors
from whatleaves.errors import LeaveError

PARAMETERS = {
    "NoClass": ("reason", "place"),
    "NoFunction": ("reason", "place"),
    "NoProgram": ("reason", "place"),
    "NoName": ("name",),
    "NoCase": ("reason",),
    "NoText": ("row",),
    "NoAct": ("place",),
    "NoRecord": ("row",),
    "Barred": ("outcome",),
    "Unlike": ("reason",),
    "TooMany": ("what", "most"),
    "NoRow": (),
}


class TestErrors(unittest.TestCase):

    def test_base(self):
        self.assertEqual(LeaveError.__bases__, (ValueError,))

    def test_direct_subclasses(self):
        found = {one.__name__ for one in vars(errors).values() if isinstance(one, type)}
        self.assertEqual(found, {"LeaveError", *PARAMETERS})
        for name in PARAMETERS:
            error = getattr(errors, name)
            self.assertEqual(error.__bases__, (LeaveError,))
            self.assertEqual(error.__module__, "whatleaves.errors")

    def test_parameters_are_kept_as_they_are(self):
        for name, parameters in PARAMETERS.items():
            worths = [["kept", k] for k in range(len(parameters))]
            error = getattr(errors, name)
            for made in (error(*worths), error(**dict(zip(parameters, worths)))):
                self.assertEqual(list(vars(made)), list(parameters))
                for parameter, worth in zip(parameters, worths):
                    self.assertIs(getattr(made, parameter), worth)

    def test_wrong_numbers_of_parameters(self):
        for name, parameters in PARAMETERS.items():
            if len(parameters) > 0:
                with self.assertRaises(TypeError):
                    getattr(errors, name)(*range(len(parameters) + 1))
                with self.assertRaises(TypeError):
                    getattr(errors, name)()


if __name__ == "__main__":
    unittest.main()
