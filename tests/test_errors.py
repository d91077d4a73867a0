import unittest

from whomaywhat import errors

PLAIN = (
    "InvalidRequest", "InvalidCondition", "InvalidRule", "Circle", "AlreadyLinked", "NotLinked",
    "NoGrant", "NoPasses", "NoRule", "NothingToUndo", "NothingToRedo",
)


class ErrorsTest(unittest.TestCase):
    def test_base_class_is_a_direct_subclass_of_value_error(self):
        self.assertEqual(errors.AccessError.__bases__, (ValueError,))

    def test_every_error_is_a_direct_subclass_of_access_error(self):
        for name in PLAIN + ("BadText", "Widening"):
            with self.subTest(name):
                self.assertEqual(getattr(errors, name).__bases__, (errors.AccessError,))

    def test_plain_errors_take_one_string(self):
        for name in PLAIN + ("AccessError",):
            with self.subTest(name):
                with self.assertRaises(errors.AccessError) as caught:
                    raise getattr(errors, name)("told")
                self.assertEqual(str(caught.exception), "told")

    def test_bad_text_tells_line_and_column(self):
        error = errors.BadText(3, 17)
        self.assertEqual((error.line, error.column), (3, 17))
        self.assertIn("17", str(error))
        error = errors.BadText(line=1, column=20001)
        self.assertEqual((error.line, error.column), (1, 20001))

    def test_widening_tells_the_request(self):
        request = ((("who", "ann"),), (), (), ())
        self.assertEqual(errors.Widening(request).request, request)
        self.assertEqual(errors.Widening(request=request).request, request)
        self.assertIsInstance(str(errors.Widening(request)), str)


if __name__ == "__main__":
    unittest.main()
