"""The refusals of the program, one class for each."""


class BookError(ValueError):
    pass


class NoPlace(BookError):
    pass


class BadRow(BookError):
    def __init__(self, row):
        BookError.__init__(self, f"row {row} is no change that can be made")
        self.row = row


class BadPaper(BookError):
    pass
