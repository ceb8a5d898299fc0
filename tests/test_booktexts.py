"""lostplaces.booktexts: [2.13]."""

import unittest

from lostplaces.books import Book
from lostplaces.booktexts import book_of_text, book_text
from tests.helper import caught, every_word, some_books


def is_beginning(text):
    """Whether some text of a book begins so, and whether it is a text already.

    A plain search: each sign is tried against all that may stand there.
    """
    state, whole = ("letters",), False
    for sign in text:
        state = following(state, sign)
        whole = state is not None and state[0] in ("colon", "member")
        if state is None:
            return (False, False)
    return (True, whole)


def following(state, sign):
    """The state behind one more sign of a text, or None."""
    kind = state[0]
    if kind == "letters":
        return ("blank", int(sign)) if sign in "234" else None
    if kind == "blank":
        return ("length", state[1], "") if sign == " " else None
    if kind == "length":
        letters, figures = state[1:]
        if sign == ":" and figures:
            return ("colon", letters, int(figures), 0)
        if sign in "0123456789" and str(int(figures + sign)) == figures + sign \
                and int(figures + sign) <= 24:
            return ("length", letters, figures + sign)
        return None
    letters, length, done = state[1:4]
    if kind in ("colon", "member"):
        return ("inside", letters, length, done, 0) if sign == " " and done < 64 else None
    held = state[4]
    if length == 0:
        return ("member", letters, length, done + 1) if sign == "-" else None
    if sign not in "0123"[:letters]:
        return None
    if held + 1 == length:
        return ("member", letters, length, done + 1)
    return ("inside", letters, length, done, held + 1)


class Texts(unittest.TestCase):
    def test_examples(self):
        book = Book(2, 4, [(1, 1, 1, 1), (0, 0, 0, 0), (0, 1, 1, 0), (1, 0, 0, 1)])
        self.assertEqual(book_text(book), "2 4: 0000 0110 1001 1111")
        self.assertEqual(book_text(Book(3, 0, [])), "3 0:")
        self.assertEqual(book_text(Book(3, 0, [()])), "3 0: -")
        self.assertEqual(book_text(Book(4, 24, [[3] * 24])), "4 24: " + "3" * 24)

    def test_there_and_back(self):
        for book in some_books(15) + [Book(2, 6, every_word(2, 6)), Book(4, 24, [[3] * 24])]:
            self.assertEqual(book_of_text(book_text(book)), book)

    def test_any_order_and_members_twice(self):
        self.assertEqual(book_of_text("2 2: 11 00 11"), Book(2, 2, [(0, 0), (1, 1)]))
        self.assertEqual(book_of_text("2 0: - -"), Book(2, 0, [()]))
        self.assertEqual(book_of_text("2 1:" + " 1" * 64), Book(2, 1, [(1,)]))
        self.assertEqual(book_of_text("2 0:" + " -" * 64), Book(2, 0, [()]))

    def test_at_most_64_in_all(self):
        text = "2 1:" + " 1" * 64
        self.assertEqual(caught(book_of_text, text + " 1"), ("BadText", len(text)))
        self.assertEqual(caught(book_of_text, text + " "), ("BadText", len(text)))
        self.assertEqual(caught(book_of_text, text + "1"), ("BadText", len(text)))

    def test_no_string(self):
        for thing in (None, 2, ("2 1:",), b"2 1:", True):
            self.assertEqual(caught(book_of_text, thing), ("BadText", 0))

    def test_first_wrong_place(self):
        for text, place in (
            ("", 0), ("5", 0), ("1 1:", 0), (" 2", 0), ("2", 1), ("22", 1), ("2\t1:", 1), ("2 ", 2),
            ("2  1:", 2), ("2 :", 2), ("2 -1:", 2), ("2 1", 3), ("2 01:", 3), ("2 00:", 3),
            ("2 25:", 3), ("2 30:", 3), ("2 240:", 4), ("2 24", 4), ("2 1:0", 4), ("2 1: ", 5),
            ("2 1:  0", 5), ("2 1: 2", 5), ("3 1: 3", 5), ("4 1: 4", 5), ("2 1: 00", 6),
            ("2 1: 0 ", 7), ("2 1: -", 5), ("2 2: 0", 6), ("2 2: 0 1", 6), ("2 0: 0", 5),
            ("2 0: --", 6), ("2 0: ", 5), ("2 1:\n", 4), ("2 1: 0\n", 6), ("2 1:,0", 4), ("x", 0),
            ("2 1: \u0661", 5), ("2 \u0661:", 2), ("2 1 :", 3),
        ):
            self.assertEqual(caught(book_of_text, text), ("BadText", place), text)

    def test_all_changes_of_some_texts(self):
        texts = ("2 2: 01 11", "3 0: -", "4 10: 0123012301", "2 24:", "2 1:" + " 0" * 64)
        for whole in texts:
            changed = {whole[:cut] for cut in range(len(whole) + 1)}
            changed |= {whole[:at] + sign + whole[at + skip:] for at in range(len(whole) + 1)
                        for sign in " 012345:-a" for skip in (0, 1)}
            for text in changed:
                self.check_text(text)

    def check_text(self, text):
        """Hold one text against the plain search."""
        if is_beginning(text)[1]:
            self.assertIsNone(caught(book_of_text, text), text)
            return
        place = next((at for at in range(len(text)) if not is_beginning(text[:at + 1])[0]), len(text))
        self.assertEqual(caught(book_of_text, text), ("BadText", place), text)


if __name__ == "__main__":
    unittest.main()
