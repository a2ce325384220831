import unittest

from givenout.errors import BadText
from givenout.lines import Lines, is_name, number_of


class LinesTest(unittest.TestCase):

    def test_names_are_one_to_eight_letters(self):
        for word in ("a", "z", "abcdefgh", "it", "who"):
            self.assertTrue(is_name(word), word)
        for word in ("", "abcdefghi", "A", "aB", "a1", "1", "a-", "a b", "a_", "-", "#", "\u00e9"):
            self.assertFalse(is_name(word), word)

    def test_numbers_are_decimal(self):
        for word, number in (("0", 0), ("7", 7), ("10", 10), ("999999999", 999999999)):
            self.assertEqual(number_of(word), number)
        for word in ("", "00", "01", "-1", "+1", "1.", " 1", "1_0", "a", "1000000000", "\u0661", "\u00b2", "0x1"):
            self.assertEqual(number_of(word), -1, word)

    def test_lines_are_taken_one_behind_the_other(self):
        lines = Lines("one a\n  two b c\nthree")
        self.assertEqual(lines.words_ahead(0), ["one", "a"])
        self.assertTrue(lines.is_next(0, ("two", "one")))
        self.assertFalse(lines.is_next(1, ("one",)))
        self.assertEqual(lines.take(0, ("one",)), ["one", "a"])
        self.assertFalse(lines.is_next(0, ("two",)))
        self.assertEqual(lines.take_exactly(1, ("two",), 3), ["two", "b", "c"])
        with self.assertRaises(BadText) as caught:
            lines.take_end()
        self.assertEqual(caught.exception.number, 3)
        lines.take(0, ("three",))
        lines.take_end()
        self.assertEqual(lines.words_ahead(0), [])
        with self.assertRaises(BadText) as caught:
            lines.take(0, ("three",))
        self.assertEqual(caught.exception.number, 4)

    def test_what_is_needed_is_needed_of_the_line_taken_last(self):
        for number, refuse in enumerate((
                lambda lines: lines.need(False), lambda lines: lines.new_name("a", ["a"]),
                lambda lines: lines.new_name("A", []), lambda lines: lines.place("b", ["a"]),
                lambda lines: lines.number_from("4", 0, 4), lambda lines: lines.number_from("x", 0, 4))):
            with self.subTest(number):
                lines = Lines("a\nb\nc")
                lines.take(0, ("a",))
                lines.take(0, ("b",))
                with self.assertRaises(BadText) as caught:
                    refuse(lines)
                self.assertEqual(caught.exception.number, 2)

    def test_lines_that_do_not_stand_so_deep(self):
        lines = Lines("xxone\n one\n  one")
        for depth, words in ((0, ["xxone"]), (1, [])):
            self.assertEqual(lines.words_ahead(depth), words)
        lines.take(0, ("xxone",))
        self.assertEqual((lines.words_ahead(1), lines.is_next(1, ("one",))), ([], False))
        with self.assertRaises(BadText) as caught:
            lines.take(1, ("one",))
        self.assertEqual(caught.exception.number, 2)
        self.assertTrue(lines.is_left())
        lines.take(1, ("one",))
        self.assertFalse(lines.is_left())

    def test_blocks_are_taken_as_if_they_stood_by_themselves(self):
        lines = Lines("a\n  b\n    c\n   d\n  \ne\n\n  f")
        self.assertEqual(lines.take_block(1), "")
        lines.take(0, ("a",))
        self.assertEqual((lines.take_block(2), lines.number), ("", 1))
        self.assertEqual((lines.take_block(1), lines.number), ("b\n  c\n d\n", 5))
        self.assertEqual((lines.take_block(1), lines.take_block(0), lines.number), ("", "e\n\n  f", 8))
        self.assertEqual((lines.take_block(0), lines.is_left()), ("", False))
