"""The book: a common and the deeds that were done, its page, and how a page is read."""

from earmarks.commons import Commons
from earmarks.deeds import read_deed, written
from earmarks.errors import BadPage, CommonError, NoStand


class Book:
    """A book of a new common, with no deeds at first."""

    def __init__(self):
        self.commons = Commons()
        self.kept = []

    def do(self, deed):
        """Do a deed, with its answer and its refusals, and keep it where it is not refused."""
        answer = self.commons.do(deed)
        self.kept.append(deed)
        return answer

    def deeds(self):
        """Tell the kept deeds, in order."""
        return list(self.kept)

    def back(self, count):
        """Go back to how the book stood behind the first so many deeds; NoStand."""
        if not 0 <= count <= len(self.kept):
            raise NoStand()
        # Nothing that a deed changes is kept for going back: the deeds are done anew.
        again = self.kept[:count]
        self.commons = Commons()
        self.kept = []
        for deed in again:
            self.do(deed)

    def look(self):
        """Tell the whole stand of the common."""
        return self.commons.look()

    def gather(self, ground):
        """Tell the gathering at a ground, as the common does; NoGround."""
        return self.commons.gather(ground)

    def page(self):
        """Tell the page: a line for each deed, with a line end between two."""
        return "\n".join([written(deed) for deed in self.kept])


def read_book(text):
    """Tell the book by which the deeds of a page were done; BadPage."""
    book = Book()
    # No deeds make the empty text, which would else be one line without a word.
    lines = text.split("\n") if text else []
    for at, line in enumerate(lines, start=1):
        try:
            book.do(read_deed(line))
        except CommonError:
            raise BadPage(at) from None
    return book
