import inspect
import unittest

from stridelots import errors

KEPT = {
    "NoStanding": "at",
    "NoBook": "at",
    "NoDeed": "at",
    "NoTurning": "at",
    "Barred": "paper",
    "TooMany": "many",
    "Few": "many",
    "NoPlan": "row",
    "NoName": "name",
    "Full": "over",
}
TOLD = ["NotEven", "NoRound", "NoPair"]
SAMPLES = {
    "at": [0, 3, 36],
    "paper": [
        ("lack", 0, "a"),
        ("lack", 1, ("a", 0)),
        ("faces", 2),
        ("turns", (0, 1)),
    ],
    "many": [0, 1, 2 ** 60, 10 ** 60],
    "row": [0, 29],
    "name": ["a", "abcd", "", "no such {name}"],
    "over": [1, 20000],
}


class Refusals(unittest.TestCase):
    def each(self):
        return [getattr(errors, name) for name in [*KEPT, *TOLD]]

    def test_keeps_what_it_was_made_of(self):
        for name, field in KEPT.items():
            for value in SAMPLES[field]:
                with self.subTest(name=name, value=value):
                    refusal = getattr(errors, name)(value)
                    self.assertEqual(getattr(refusal, field), value)
                    self.assertIs(type(getattr(refusal, field)), type(value))
                    self.assertEqual(list(vars(refusal)), [field])

    def test_keeps_it_when_raised(self):
        for name, field in KEPT.items():
            value = SAMPLES[field][0]
            with self.subTest(name=name):
                with self.assertRaises(errors.StrideError) as caught:
                    raise getattr(errors, name)(value)
                self.assertIs(type(caught.exception), getattr(errors, name))
                self.assertEqual(getattr(caught.exception, field), value)

    def test_str_is_the_text(self):
        for name in [*TOLD, "StrideError"]:
            for text in ["the book is not even", "", "a {b} c"]:
                with self.subTest(name=name, text=text):
                    self.assertEqual(str(getattr(errors, name)(text)), text)

    def test_each_can_be_shown(self):
        for name, field in KEPT.items():
            for value in SAMPLES[field]:
                with self.subTest(name=name, value=value):
                    self.assertIsInstance(str(getattr(errors, name)(value)), str)

    def test_under_stride_error_and_value_error(self):
        for one in self.each():
            with self.subTest(one=one.__name__):
                self.assertTrue(issubclass(one, errors.StrideError))
                self.assertTrue(issubclass(one, ValueError))
        self.assertTrue(issubclass(errors.StrideError, ValueError))

    def test_none_under_another_one(self):
        for one in self.each():
            for other in self.each():
                if one is not other:
                    with self.subTest(one=one.__name__, other=other.__name__):
                        self.assertFalse(issubclass(one, other))

    def test_these_classes_and_no_others(self):
        found = [
            name for name, value in vars(errors).items()
            if inspect.isclass(value) and value.__module__ == errors.__name__
        ]
        self.assertEqual(sorted(found), sorted([*KEPT, *TOLD, "StrideError"]))


if __name__ == "__main__":
    unittest.main()
