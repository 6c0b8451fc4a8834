"""Points 1, 21 and 22 and the interface's part on the book."""

import unittest

from earmarks.book import Book, read_book
from earmarks.commons import Commons
from earmarks.errors import (
    BadAllowance, BadDeed, BadPage, Clash, CommonError, Dead, NoBeast, NoGround, NoOwner, NoStand,
)

GREAT = 10 ** 5000
BARE = (0, 0, 0, 0, 0, 0)
A = (3, 0, 0, 0, 0, 0)
B = (0, 0, 0, 0, 4, 0)
DEEDS = (
    ("owner",), ("owner",), ("ground", 1), ("ground", 0), ("enrol", 1, 1, A), ("enrol", 1, 2, A), ("enrol", 2, 1, B),
    ("bring", 1, 1, BARE), ("cut", 1), ("bear", 1), ("tear", 1, 5), ("heir", 1, 1, 2), ("move", 1, 2), ("move", 1, 1),
    ("sell", 1, 2), ("unite", 1, 2), ("part", 1), ("leave", 1, 1), ("die", 2), ("pass", 1, 3), ("die", 1),
)
LINES = (
    "owner", "owner", "ground 1", "ground 0", "enrol 1 1 lt3", "enrol 1 2 lt3", "enrol 2 1 rf4", "bring 1 1 none",
    "cut 1", "bear 1", "tear 1 rh", "heir 1 1 2", "move 1 2", "move 1 1", "sell 1 2", "unite 1 2", "part 1",
    "leave 1 1", "die 2", "pass 1 3", "die 1",
)
REFUSED = (("ground", 10), ("enrol", 1, 1, A), ("enrol", 9, 1, A), ("cut", 9), ("bear", 2), ("unite", 1, 1),
           ("part", 9), ("pass", 1, 1), ("sell", 1, 9), ("heir", 1, 1, 9), (), ("tear", 1, 6), ("look",))


def made(deeds=DEEDS):
    book = Book()
    for deed in deeds:
        book.do(deed)
    return book


def after(deeds):
    """The stand of a common by which these deeds were done."""
    commons = Commons()
    for deed in deeds:
        commons.do(deed)
    return commons.look()


def told(book):
    return (book.deeds(), book.look(), book.page(), [book.gather(at + 1) for at in range(len(book.look()[1]))])


class Books(unittest.TestCase):
    def refuse(self, refusal, ask, *parts):
        with self.assertRaises(CommonError) as caught:
            ask(*parts)
        self.assertIs(caught.exception.__class__, refusal)
        return caught.exception


class NewBookTest(Books):
    def test_nothing(self):
        book = Book()
        self.assertEqual(told(book), ([], ([], [], [], []), "", []))
        self.refuse(NoGround, book.gather, 1)


class DoTest(Books):
    def test_as_the_common_does(self):
        book, commons = Book(), Commons()
        for at, deed in enumerate(DEEDS):
            self.assertEqual(book.do(deed), commons.do(deed))
            self.assertEqual(book.deeds(), list(DEEDS[:at + 1]))
            self.assertEqual(book.look(), commons.look())
            for ground in range(1, len(commons.look()[1]) + 1):
                self.assertEqual(book.gather(ground), commons.gather(ground))

    def test_what_is_refused_is_not_kept(self):
        for many in range(len(DEEDS) + 1):
            book, commons = made(DEEDS[:many]), Commons()
            for deed in DEEDS[:many]:
                commons.do(deed)
            for deed in REFUSED:
                before = told(book)
                try:
                    commons.do(deed)
                except CommonError as refusal:
                    self.refuse(refusal.__class__, book.do, deed)
                    self.assertEqual(told(book), before)
                else:
                    book.do(deed)
                    self.assertEqual(book.deeds(), before[0] + [deed])

    def test_refusals(self):
        book = made()
        self.refuse(BadDeed, book.do, ())
        self.refuse(BadDeed, book.do, ("tear", 1, 6))
        self.refuse(BadAllowance, book.do, ("ground", 10))
        self.refuse(NoOwner, book.do, ("leave", 1, 1))
        self.refuse(NoBeast, book.do, ("cut", 3))
        self.refuse(Dead, book.do, ("cut", 1))
        clash = self.refuse(Clash, book.do, ("enrol", 3, 1, B))
        self.assertEqual((clash.ones, clash.others, clash.ear), ((3, B), (2, B), B))
        self.assertEqual(book.deeds(), list(DEEDS))

    def test_gather_refuses(self):
        book = made()
        for ground in (0, -1, 3, GREAT):
            self.refuse(NoGround, book.gather, ground)


class BackTest(Books):
    def test_every_count(self):
        for count in range(len(DEEDS) + 1):
            book = made()
            self.assertIsNone(book.back(count))
            self.assertEqual((book.deeds(), book.look()), (list(DEEDS[:count]), after(DEEDS[:count])))
            self.assertEqual(book.page(), "\n".join(LINES[:count]))

    def test_no_stand(self):
        for kept in range(len(DEEDS) + 1):
            book = made(DEEDS[:kept])
            before = told(book)
            for count in (-1, -2, kept + 1, kept + 2, GREAT, -GREAT):
                self.refuse(NoStand, book.back, count)
                self.assertEqual(told(book), before)

    def test_back_and_on_again(self):
        for count in range(len(DEEDS) + 1):
            book = made()
            book.back(count)
            for deed in DEEDS[count:]:
                book.do(deed)
            self.assertEqual(told(book), told(made()))

    def test_new_deeds_go_on_from_there(self):
        book = made()
        book.back(2)
        self.assertEqual(book.do(("ground", 7)), 1)
        self.assertEqual(book.do(("owner",)), 3)
        self.assertEqual(book.deeds(), [("owner",), ("owner",), ("ground", 7), ("owner",)])
        self.assertEqual(book.look(), ([1, 2, 3], [(7, (1,))], [], []))

    def test_the_later_ones_are_forgotten(self):
        book = made()
        book.back(5)
        self.refuse(NoStand, book.back, 6)
        self.assertIsNone(book.back(5))
        book.back(0)
        self.refuse(NoStand, book.back, 1)
        self.assertEqual(told(book), told(Book()))

    def test_step_by_step(self):
        book = made()
        for count in reversed(range(len(DEEDS) + 1)):
            book.back(count)
            self.assertEqual((book.deeds(), book.look()), (list(DEEDS[:count]), after(DEEDS[:count])))

    def test_refused_deeds_between_count_nothing(self):
        book = made(DEEDS[:4])
        self.refuse(BadAllowance, book.do, ("ground", 10))
        book.do(("owner",))
        book.back(4)
        self.assertEqual(book.deeds(), list(DEEDS[:4]))


class PageTest(Books):
    def test_a_line_for_each_deed(self):
        for many in range(len(DEEDS) + 1):
            self.assertEqual(made(DEEDS[:many]).page(), "\n".join(LINES[:many]))

    def test_read_back(self):
        for many in range(len(DEEDS) + 1):
            book = made(DEEDS[:many])
            again = read_book(book.page())
            self.assertIsInstance(again, Book)
            self.assertEqual(told(again), told(book))

    def test_a_read_book_goes_back_and_on(self):
        book = read_book("\n".join(LINES))
        book.back(7)
        book.do(("bring", 1, 1, B))
        self.assertEqual(book.deeds(), list(DEEDS[:7]) + [("bring", 1, 1, B)])
        self.refuse(NoStand, book.back, 9)


class ReadTest(Books):
    def bad(self, text, at):
        with self.subTest(text=text[:80]):
            refusal = self.refuse(BadPage, read_book, text)
            self.assertEqual(refusal.at, at)

    def test_the_empty_text(self):
        self.assertEqual(told(read_book("")), told(Book()))

    def test_a_line_that_writes_no_deed_at_every_place(self):
        for line in ("", " ", "owner ", " owner", "Owner", "ground 01", "ground", "ground 1 1", "tear 1 5", "none"):
            for at in range(len(LINES) + 1):
                self.bad("\n".join(LINES[:at] + (line,) + LINES[at:]), at + 1)

    def test_a_line_whose_deed_is_refused_at_every_place(self):
        for line in ("ground 10", "cut 9", "pass 1 1", "sell 9 1", "heir 1 1 4", "enrol 1 1 none", "unite 1 1"):
            for at in range(len(LINES) + 1):
                self.bad("\n".join(LINES[:at] + (line,) + LINES[at:]), at + 1)

    def test_the_first_of_several(self):
        self.bad("owner\ncut 1\nOwner", 2)
        self.bad("owner\nOwner\ncut 1", 2)
        self.bad("\n", 1)
        self.bad("\n\n", 1)
        self.bad("\nowner", 1)

    def test_a_line_end_more(self):
        self.bad("owner\n", 2)
        self.bad("owner\n\nowner", 2)
        self.bad("\n".join(LINES) + "\n", len(LINES) + 1)

    def test_one_line(self):
        self.bad("cut 1", 1)
        self.bad("x", 1)
        self.assertEqual(read_book("owner").deeds(), [("owner",)])

    def test_a_clash_is_a_bad_page(self):
        self.bad("owner\nowner\nground 1\nenrol 1 1 lt3\nenrol 2 1 lt4\nowner", 5)

    def test_only_what_was_done_ahead_counts(self):
        self.bad("owner\nenrol 1 1 lt3\nground 1", 2)

    def test_a_bad_page_is_no_other_refusal(self):
        refusal = self.refuse(BadPage, read_book, "cut 1")
        self.assertNotIsInstance(refusal, NoBeast)

    def test_by_names(self):
        book = read_book(text="owner\nground 1")
        self.assertEqual(book.do(deed=("ground", 2)), 2)
        self.assertEqual(book.gather(ground=1), [])
        self.assertIsNone(book.back(count=1))
        self.assertEqual(book.page(), "owner")


class ApartTest(Books):
    """Point 1: what is told, and two books."""

    def test_lists_that_were_told_can_be_emptied(self):
        book = made(DEEDS[:-1])
        before = told(book)
        for rows in book.look() + (book.deeds(), book.gather(1), book.gather(2)):
            rows.clear()
            self.assertEqual(told(book), before)
        deeds = book.deeds()
        deeds.append(("owner",))
        self.assertEqual(told(book), before)

    def test_what_was_told_stays_behind_later_deeds(self):
        book = Book()
        rows, kept = [], []
        for deed in DEEDS:
            rows.append(told(book))
            kept.append(([*book.deeds()], tuple(list(part) for part in book.look())))
            book.do(deed)
            self.assertEqual([row[:2] for row in rows], kept)
        book.back(0)
        self.assertEqual([row[:2] for row in rows], kept)

    def test_two_books_stay_apart(self):
        one, other, still = Book(), made(), Book()
        before = told(other)
        for deed in DEEDS:
            one.do(deed)
            self.assertEqual(told(other), before)
        one.back(3)
        one.do(("owner",))
        self.assertEqual(told(other), before)
        self.assertEqual(told(still), told(Book()))

    def test_two_read_books_stay_apart(self):
        page = "\n".join(LINES)
        one, other = read_book(page), read_book(page)
        one.back(0)
        self.assertEqual(other.page(), page)


if __name__ == "__main__":
    unittest.main()
