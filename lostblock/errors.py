"""The refusals. Each stands under BlockError and under no other one of them."""


class BlockError(ValueError):
    pass


class NoSet(BlockError):
    def __init__(self, row):
        self.row = row


class NoBench(BlockError):
    def __init__(self, row):
        self.row = row


class NoPicture(BlockError):
    def __init__(self, row):
        self.row = row


class NoStack(BlockError):
    def __init__(self, colour, column, row):
        self.colour = colour
        self.column = column
        self.row = row


class Kept(BlockError):
    def __init__(self, column, row):
        self.column = column
        self.row = row


class NoDeed(BlockError):
    def __init__(self, at):
        self.at = at


class NoPlan(BlockError):
    def __init__(self, row):
        self.row = row


class TooMany(BlockError):
    pass


class NoName(BlockError):
    pass


class Twice(BlockError):
    pass


class Order(BlockError):
    pass


class Wrong(BlockError):
    def __init__(self, column, row):
        self.column = column
        self.row = row


class NoStroke(BlockError):
    pass


class NoRow(BlockError):
    pass
