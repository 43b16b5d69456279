"""Points 15 and 16: the texts of boards and papers."""

import unittest

from fateboards import texts
from fateboards.errors import BadBoard, BadPaper, InvalidText, NotText, TooMany
from fateboards.texts import read_board, read_paper, write_board, write_paper
from tests.helpers import (
    FAR, NO_BOARDS, NO_INTEGERS, NO_TEXTS, NO_TUPLES, REST, SHIP, ErrorTest, board_of, many_numbers,
)
from tests.samples import (
    GREAT_RAKE, GUN, RAKE, RESTING, SHIPPING, SLOW, TRAIL, TURNING, WARS_GUN, moved_piece, slowed,
)

SQUARES = ((5, 5, 1), (5, 6, 1), (6, 5, 1), (6, 6, 1))
PAPER = (3, ((SQUARES, 1, (0, 0)),), ())
PAPERS = (
    (0, (), ()),
    (2000, (), ()),
    PAPER,
    (7, (RESTING, moved_piece(SHIPPING, (-5, 9))), ()),
    (0, (), (GUN,)),
    (12, (moved_piece(TURNING, (-99, 10 ** 59)), slowed(SHIPPING, 60)), (RAKE,)),
    (1, (moved_piece(RESTING, (FAR - 1, -FAR)), RESTING), (GREAT_RAKE,)),
    (1, (RESTING,) * 60, (SLOW,)),
    (40, (), (TRAIL,)),
    # Values that have the form of a paper, and are none.
    (5, ((SHIP, 7, (-FAR, FAR)), (((0, 0, 5),), 240, (0, -3))), (WARS_GUN[:1] + (9, (1, 0), (RESTING,) * 6),)),
)


class InterfaceTest(unittest.TestCase):

    def test_functions_are_defined_in_this_file(self):
        for name in ("write_board", "read_board", "write_paper", "read_paper"):
            self.assertEqual(getattr(texts, name).__module__, "fateboards.texts")

    def test_example(self):
        self.assertEqual(write_board(((2, 0, 1), (3, 1, 1))), ("a/.a", (2, 0)))
        self.assertEqual(write_paper(PAPER), "from 3\npiece 1 0 0 5 5 2a/2a")
        self.assertEqual(read_paper(write_paper(PAPER)), PAPER)


class WriteBoardTest(ErrorTest):

    def test_texts(self):
        for rows, text in (
            (("a",), "a"), (("abcde",), "abcde"), (("aab",), "2ab"), (("a..b", "....", ".a"), "a2.b//.a"),
            ((".a", "..a", "aaa"), ".a/2.a/3a"), (("a", "", "", "b"), "a///b"), (("..a", "a"), "2.a/a"),
            (("aabbaa.a..a",), "2a2b2a.a2.a"), (("a" * 12,), "12a"), (("a" + "." * 100 + "b",), "a100.b"),
        ):
            self.assertEqual(write_board(board_of(*rows)), (text, (0, 0)))

    def test_the_place_of_the_least_x_and_y(self):
        self.assertEqual(write_board(((3, -7, 2), (4, -9, 1))), (".a//b", (3, -9)))
        self.assertEqual(write_board(((-FAR, FAR, 1),)), ("a", (-FAR, FAR)))
        self.assertEqual(write_board(SQUARES), ("2a/2a", (5, 5)))

    def test_empty_board(self):
        self.assertEqual(write_board(()), ("", (0, 0)))

    def test_9999_wide_and_high(self):
        self.assertEqual(write_board(((1, 0, 1), (9999, 0, 2))), ("a9997.b", (1, 0)))
        self.assertEqual(write_board(((0, 1, 1), (0, 9999, 2))), ("a" + "/" * 9998 + "b", (0, 1)))
        self.assertEqual(write_board(tuple((x, 0, 3) for x in range(9999))), ("9999c", (0, 0)))

    def test_10000_wide_or_high(self):
        for board in (((0, 0, 1), (9999, 0, 2)), ((0, 0, 1), (0, 9999, 2)), ((-FAR, 0, 1), (FAR, 0, 1))):
            self.assert_error(TooMany, {"most": 9999}, write_board, board)

    def test_wrong_boards(self):
        for value, index in NO_BOARDS:
            self.assert_error(BadBoard, {"index": index}, write_board, value)

    def test_what_is_written_is_read(self):
        numbers = many_numbers(6)
        for _ in range(150):
            side = 1 + next(numbers) % 12
            places = {(next(numbers) % side, next(numbers) % side) for _ in range(next(numbers) % 40)}
            board = tuple(sorted((x - 3, y + 5, 1 + next(numbers) % 5) for x, y in places))
            text, (left, top) = write_board(board)
            self.assertEqual(tuple((x + left, y + top, state) for x, y, state in read_board(text)), board)
            self.assertEqual(write_board(read_board(text))[0], text)


class ReadBoardTest(ErrorTest):

    def assert_place(self, text, place):
        self.assert_error(InvalidText, {"place": place}, read_board, text)

    def test_texts(self):
        for text, rows in (
            ("", ()), ("a", ("a",)), ("abcde", ("abcde",)), ("5a", ("aaaaa",)), ("1a1b", ("ab",)), (".a", (".a",)),
            ("2a3.4b", ("aa...bbbb",)), ("a//b", ("a", "", "b")), ("///", ()), ("...", ()), ("7./7.", ()),
            ("aa2a", ("aaaa",)), ("a..", ("a",)), ("a/", ("a",)), ("/a", ("", "a")), ("12a/2.a", ("a" * 12, "..a")),
        ):
            self.assertEqual(read_board(text), board_of(*rows), text)

    def test_boards_need_not_be_normal(self):
        self.assertEqual(read_board("//3.b"), ((3, 2, 2),))

    def test_numbers_from_1_to_9999(self):
        self.assertEqual(len(read_board("9999a")), 9999)
        self.assertEqual(read_board("9998.a"), ((9998, 0, 1),))
        self.assertEqual(read_board("1000a")[-1], (999, 0, 1))
        self.assert_place("10000a", 4)
        self.assert_place("99999a", 4)
        self.assert_place("a12345", 5)
        for text, place in (("0a", 0), ("05a", 0), ("a0a", 1), ("00", 0), ("a/0", 2), ("2a07.", 2), ("10a0", 3)):
            self.assert_place(text, place)
        self.assertEqual(len(read_board("100a/10a")), 110)

    def test_rows_too_wide(self):
        self.assert_place("9999aa", 5)
        self.assert_place("9999a.", 5)
        self.assert_place("9998a2a", 6)
        self.assert_place("9998.2.", 6)
        self.assert_place("5000a5000b", 9)
        self.assert_place("a/9999.b", 7)
        self.assertEqual(len(read_board("9998ab/9999c")), 2 * 9999)

    def test_too_many_rows(self):
        self.assertEqual(read_board("/" * 9998 + "a"), ((0, 9998, 1),))
        self.assert_place("/" * 9999, 9998)
        self.assert_place("/" * 12000 + "x", 9998)
        self.assert_place("a/" * 9999, 2 * 9998 + 1)

    def test_an_end_behind_a_number(self):
        for text in ("1", "a2", "9999", "a/12", "3.4"):
            self.assert_place(text, len(text))

    def test_a_row_that_ends_behind_a_number(self):
        self.assert_place("2/a", 1)
        self.assert_place("a/3/", 3)
        self.assert_place("a9999/", 5)

    def test_other_characters(self):
        for sign in "fgzABE -+,:;\\\n\t_$!?\u00e4\u0663\u00b2\u2460":
            self.assert_place(sign, 0)
            self.assert_place(f"a2{sign}a", 2)
            self.assert_place(f"ab/{sign}", 3)

    def test_the_first_one_decides(self):
        self.assert_place("a0x", 1)
        self.assert_place("ax0", 1)
        self.assert_place("9999ax/", 5)

    def test_values_that_are_no_texts(self):
        for value in NO_TEXTS:
            self.assert_error(NotText, {}, read_board, value)


class WritePaperTest(ErrorTest):

    def test_texts(self):
        self.assertEqual(write_paper((0, (), ())), "from 0")
        self.assertEqual(
            write_paper((12, (moved_piece(SHIPPING, (-5, 9)), (SHIP, 8, (-FAR, 0))), ())),
            f"from 12\npiece 4 1 1 -5 9 .a/2.a/3a\npiece 8 -{FAR} 0 0 0 .a/2.a/3a",
        )
        self.assertEqual(
            write_paper((2, (RESTING,), (WARS_GUN,))),
            "from 2\npiece 1 0 0 0 0 2a/2a\nthrower 5 0 0 0 0 .b2a/c.a.b/.3ac/3a/.ca\nthrows 1 0 -1 2 -5 2a/2b/2c",
        )
        self.assertEqual(
            write_paper((0, (), (RAKE,))).split("\n")[2:],
            ["throws 1 0 -1 0 -6 2a/2b/2.a/2.b", "throws 1 0 1 3 5 2.b/2.a/2b/2a"],
        )

    def test_the_board_of_a_piece_is_written_normal(self):
        lone = (((7, -8, 2),), 3, (1, -1))
        self.assertEqual(write_paper((0, (lone,), ())), "from 0\npiece 3 1 -1 7 -8 b")

    def test_9999_wide_and_high(self):
        wide = (((0, 0, 1), (9998, 0, 1)), 1, (0, 0))
        self.assertEqual(write_paper((0, (wide,), ())), "from 0\npiece 1 0 0 0 0 a9997.a")
        for piece in ((((0, 0, 1), (9999, 0, 1)), 1, (0, 0)), (((0, 0, 1), (0, 9999, 1)), 1, (0, 0))):
            self.assert_error(TooMany, {"most": 9999}, write_paper, (0, (piece,), ()))
            self.assert_error(TooMany, {"most": 9999}, write_paper, (0, (RESTING,), (GUN[:3] + ((piece,),),)))
            self.assert_error(TooMany, {"most": 9999}, write_paper, (0, (), (piece + ((RESTING,),),)))

    def test_values_that_have_not_the_form_of_a_paper(self):
        wide = (((0, 0, 1), (9999, 0, 1)), 1, (0, 0))
        for value in NO_TUPLES + (
            (), (0, ()), (0, (), (), ()), [0, (), ()], (-1, (), ()), (2001, (), ()), (0, (RESTING,) * 61, ()),
            (0, (), (GUN, GUN)), (0, (GUN,), ()), (0, (), (RESTING,)), (0, RESTING, ()), (0, (), GUN), (0, (None,), ()),
            (0, [RESTING], ()), (0, (), [GUN]), (0, (list(RESTING),), ()), (0, (((), 1, (0, 0)),), ()),
            (0, (), (GUN[:3] + ((),),)), (0, (), (GUN[:3] + ((RESTING,) * 7,),)), (0, (wide, (REST, 0, (0, 0))), ()),
            (2001, (wide,), ()),
        ) + tuple((value, (), ()) for value in NO_INTEGERS) + tuple((0, (value,), ()) for value in NO_TUPLES):
            self.assert_error(BadPaper, {}, write_paper, value)


class ReadPaperTest(ErrorTest):

    def assert_line(self, text, line):
        """The text goes wrong at the beginning of a line."""
        place = sum(len(before) + 1 for before in text.split("\n")[:line])
        self.assert_error(InvalidText, {"place": place}, read_paper, text)

    def test_what_is_written_is_read(self):
        for paper in PAPERS:
            self.assertEqual(read_paper(write_paper(paper)), paper)

    def test_values_that_are_no_texts(self):
        for value in NO_TEXTS + (PAPER,):
            self.assert_error(NotText, {}, read_paper, value)

    def test_the_first_line(self):
        rest = "\npiece 1 0 0 5 5 2a/2a"
        for line in (
            "", " ", "from", "from ", "from  3", "from 3 ", " from 3", "from 3 4", "from three", "From 3", "form 3",
            "3",
            "from 03", "from +3", "from -0", "from 00", "from 3.0", "from 1_0", "from \u0663", "from -", "from --3",
            "from 3\r", "from\t3", "from " + "1" * 62, "piece 1 0 0 5 5 2a/2a",
        ):
            self.assert_error(InvalidText, {"place": 0}, read_paper, line)
            self.assert_error(InvalidText, {"place": 0}, read_paper, line + rest)

    def test_lines_that_cannot_stand_where_they_are(self):
        first, piece = "from 0", "piece 1 0 0 5 5 2a/2a"
        thrower, throws = write_paper((0, (), (GUN,))).split("\n")[1:]
        self.assertEqual(read_paper("\n".join((first, piece, piece, thrower, throws, throws)))[0], 0)
        for lines, line in (
            ((first, first), 1), ((first, piece, first), 2), ((piece, first), 0), ((thrower, throws), 0),
            ((first, throws), 1), ((first, piece, throws), 2), ((first, throws, thrower), 1),
            ((first, thrower, piece), 2), ((first, thrower, throws, piece), 3), ((first, thrower, thrower, throws), 2),
            ((first, thrower, throws, thrower, throws), 3), ((first, thrower, throws, first), 3),
            ((first, ""), 1), ((first, piece, ""), 2), ((first, "", piece), 1), (("", first, piece), 0),
            ((first, thrower, throws, ""), 3), ((first, piece, "", ""), 2), ((first, "fish"), 1),
        ):
            self.assert_line("\n".join(lines), line)

    def test_words_that_cannot_stand(self):
        words = "piece 1 0 0 5 5 2a/2a".split(" ")
        for number in range(1, 6):
            for word in (
                "", "01", "-0", "+1", "1.", "--1", "-", "x", "1" * 62, "-" + "1" * 62, "0" * 2, "1e3", "\u0661", "1_0",
            ):
                line = " ".join(words[:number] + [word] + words[number + 1:])
                self.assert_line("from 0\npiece 1 0 0 0 0 a\n" + line, 2)
        for line in (
            "piece 1 0 0 5 5", "piece 1 0 0 5 5 ", "piece 1 0 0 5 2a/2a", "piece 1 0 0 5 5 2a/2a a",
            " ".join(words) + " ",
            "piece  1 0 0 5 5 2a/2a", " " + " ".join(words), "Piece 1 0 0 5 5 2a/2a", "pieces 1 0 0 5 5 2a/2a", "piece",
            "throws 1 0 0 5 5 2a/2a", "piece 1 0 0 5 5 2a/2a\r",
        ):
            self.assert_line("from 0\npiece 1 0 0 0 0 a\n" + line, 2)
            self.assert_line("from 0\npiece 1 0 0 0 0 a\n" + line + "\npiece 1 0 0 0 0 x", 2)

    def test_texts_of_boards_that_cannot_stand(self):
        for text in (
            "x", "2", "a0", "aa", "2a2a", "1a", "a.", "a/", "a/.", ".a", "/a", "./a", "2a/a2.", "..a/a", ".", "/", "3.",
            "9999aa", "10000a", "a//", "2./a", "A", "a b", "-a", "a..a",
        ):
            self.assert_line(f"from 0\npiece 1 0 0 0 0 {text}", 1)
            self.assert_line(f"from 0\nthrower 1 0 0 0 0 a\nthrows 1 0 0 5 5 {text}", 2)
            self.assert_line(f"from 0\nthrower 1 0 0 0 0 {text}\nthrows 1 0 0 5 5 a", 1)

    def test_numbers_of_61_figures(self):
        piece = (((FAR, -FAR, 1),), 1, (-FAR, FAR))
        self.assertEqual(read_paper(f"from 0\npiece 1 -{FAR} {FAR} {FAR} -{FAR} a"), (0, (piece,), ()))
        self.assertEqual(len(str(FAR)), 61)
        for number in range(1, 6):
            words = "piece 1 0 0 5 5 2a/2a".split(" ")
            for great in (FAR + 1, -FAR - 1, 10 ** 61 - 1):
                words[number] = str(great)
                self.assert_error(InvalidText, {"place": 0}, read_paper, "from 0\n" + " ".join(words))
            words[number] = str(10 ** 61)
            self.assert_line("from 0\n" + " ".join(words), 1)

    def test_values_that_are_no_paper(self):
        thrower, throws = write_paper((0, (), (GUN,))).split("\n")[1:]
        crowd = "/".join(["100a"] * 3)
        for lines in (
            ("from 2001",), ("from -1",), ("from " + "1" * 61,), ("from 0", "piece 0 0 0 0 0 a"),
            ("from 0", "piece 241 0 0 0 0 a"), ("from 0", "piece -1 0 0 0 0 a"), ("from 0", thrower),
            ("from 0", thrower) + (throws,) * 7, ("from 0",) + ("piece 1 0 0 0 0 a",) * 61,
            ("from 0", f"piece 1 0 0 0 0 {crowd}/a"), ("from 0", f"piece 1 0 0 {FAR} 0 2a"),
            ("from 0", f"piece 1 0 0 0 {FAR} a/a"), ("from 0", f"piece 1 0 {FAR + 1} 0 0 a"),
            ("from 2001", "piece 1 0 0 0 0 a"),
        ):
            self.assert_error(InvalidText, {"place": 0}, read_paper, "\n".join(lines))
        self.assertEqual(len(read_paper(f"from 0\npiece 1 0 0 0 0 {crowd}")[1][0][0]), 300)
        self.assertEqual(len(read_paper("\n".join(("from 0", thrower) + (throws,) * 6))[2][0][3]), 6)
        self.assertEqual(len(read_paper("\n".join(("from 0",) + ("piece 1 0 0 0 0 a",) * 60))[1]), 60)

    def test_lines_come_ahead_of_values(self):
        self.assert_line("from 2001\npiece 1 0 0 0 0 x", 1)
        self.assert_line("from 0\npiece 241 0 0 0 0 a\npiece 1 0 0 0 0 a\n", 3)
        self.assert_line("\n".join(["from 0"] + ["piece 1 0 0 0 0 a"] * 61 + ["fish"]), 62)

    def test_texts_that_are_cut_off(self):
        text = write_paper((12, (SHIPPING,), (RAKE,)))
        lines = text.split("\n")
        for end in range(len(text)):
            part = text[:end]
            try:
                paper = read_paper(part)
            except InvalidText as error:
                beginnings = [0] + [at + 1 for at, sign in enumerate(part) if sign == "\n"]
                self.assertIn(error.place, (0, beginnings[-1]), part)
            else:
                self.assertEqual(write_paper(paper), part)
        self.assertEqual(read_paper("\n".join(lines[:2])), (12, (SHIPPING,), ()))


if __name__ == "__main__":
    unittest.main()
