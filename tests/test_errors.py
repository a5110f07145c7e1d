"""The errors: each is an InnError, and none is another one."""

import unittest

from innkinds.errors import BadHouse, BadSpan, Full, InnError, NoClosing, NoPromise, NoWayBack

PLAIN = [BadHouse, BadSpan, NoPromise, NoClosing, NoWayBack]
ALL = PLAIN + [Full]


def made(kind):
    return Full(3, 1) if kind is Full else kind("why")


class ErrorsTest(unittest.TestCase):
    def test_each_is_caught_as_an_inn_error(self):
        for kind in ALL:
            with self.subTest(kind=kind), self.assertRaises(InnError):
                raise made(kind)

    def test_each_is_caught_as_a_value_error(self):
        for kind in ALL + [InnError]:
            with self.subTest(kind=kind), self.assertRaises(ValueError):
                raise made(kind)

    def test_each_is_caught_as_itself(self):
        for kind in ALL:
            with self.subTest(kind=kind), self.assertRaises(kind):
                raise made(kind)

    def test_none_is_another_one(self):
        for kind in ALL:
            for other in ALL:
                if other is not kind:
                    with self.subTest(kind=kind, other=other):
                        self.assertNotIsInstance(made(kind), other)

    def test_each_is_right_under_the_inn_error(self):
        for kind in ALL:
            with self.subTest(kind=kind):
                self.assertEqual(kind.__bases__, (InnError,))
        self.assertEqual(InnError.__bases__, (ValueError,))

    def test_an_inn_error_is_none_of_them(self):
        for kind in ALL:
            with self.subTest(kind=kind):
                self.assertNotIsInstance(InnError("why"), kind)

    def test_plain_errors_need_no_words(self):
        for kind in PLAIN + [InnError]:
            with self.subTest(kind=kind), self.assertRaises(kind):
                raise kind


class FullTest(unittest.TestCase):
    def test_fields(self):
        full = Full(7, 2)
        self.assertEqual(full.night, 7)
        self.assertEqual(full.kind, 2)

    def test_first_night_and_first_kind(self):
        full = Full(0, 0)
        self.assertEqual((full.night, full.kind), (0, 0))

    def test_no_night(self):
        full = Full(None, 5)
        self.assertIsNone(full.night)
        self.assertEqual(full.kind, 5)

    def test_each_object_has_its_own_fields(self):
        one = Full(1, 2)
        Full(3, 4)
        self.assertEqual((one.night, one.kind), (1, 2))

    def test_fields_are_read_where_it_is_caught(self):
        with self.assertRaises(InnError) as caught:
            raise Full(39, 1)
        self.assertEqual((caught.exception.night, caught.exception.kind), (39, 1))


if __name__ == "__main__":
    unittest.main()
