import unittest

from pegleap.errors import BadBoard, BadPegs, BadWeights, NoLeap, PegError

MAKERS = {
    BadBoard: lambda: BadBoard("words"),
    BadPegs: lambda: BadPegs("words"),
    NoLeap: lambda: NoLeap(3),
    BadWeights: lambda: BadWeights("words"),
}


class Errors(unittest.TestCase):
    def test_peg_error_is_a_value_error(self):
        self.assertEqual(PegError.__bases__, (ValueError,))

    def test_each_stands_under_peg_error_alone(self):
        for kind in MAKERS:
            with self.subTest(kind=kind):
                self.assertEqual(kind.__bases__, (PegError,))

    def test_each_is_taken_as_itself_and_as_its_bases_and_as_no_other(self):
        for kind, make in MAKERS.items():
            for taken in (kind, PegError, ValueError):
                with self.subTest(kind=kind, taken=taken), self.assertRaises(taken):
                    raise make()
            for other in MAKERS:
                if other is not kind:
                    with self.subTest(kind=kind, other=other):
                        self.assertNotIsInstance(make(), other)

    def test_no_leap_tells_the_place(self):
        for at in (0, 1, 17):
            error = NoLeap(at)
            self.assertEqual(error.at, at)
            self.assertIs(type(error.at), int)

    def test_no_leap_keeps_its_place_when_raised(self):
        with self.assertRaises(NoLeap) as caught:
            raise NoLeap(5)
        self.assertEqual(caught.exception.at, 5)
        self.assertIn("5", str(caught.exception))

    def test_the_others_have_no_place(self):
        for kind in (BadBoard, BadPegs, BadWeights):
            self.assertFalse(hasattr(kind("words"), "at"))


if __name__ == "__main__":
    unittest.main()
