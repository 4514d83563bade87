"""Benches and drawn values that several tests share. What is drawn is the same at every run."""

PLAIN = ("white", [("cover", "sun", "yellow"), ("cover", "sea", "blue")])
GLAZED = ("white", [
    ("cover", "sun", "yellow"),
    ("glaze", "mist", (("yellow", "green"), ("white", "grey"))),
    ("cover", "night", "black"),
    ("glaze", "fog", (("black", "grey"), ("green", "green"), ("grey", "white"))),
])
SINGLE = ("white", [("glaze", "mist", (("black", "red"),))])
EIGHT_COVERS = ("white", [("cover", name, name * 2) for name in "abcdefgh"])
EIGHT_GLAZES = ("a", [
    ("glaze", "ink" + name, tuple((under, over) for under, over in zip("abcdefgh", "bcdefgha"))) for name in "abcdefgh"
])
EIGHT_MIXED = ("c", [
    ("cover", "a", "b"), ("glaze", "b", (("c", "a"), ("b", "d"))), ("glaze", "c", (("d", "c"),)), ("cover", "d", "a"),
    ("glaze", "e", (("a", "b"), ("b", "a"))), ("cover", "f", "c"), ("glaze", "g", (("e", "f"),)), ("cover", "h", "e"),
])
BENCHES = [PLAIN, GLAZED, SINGLE, EIGHT_COVERS, EIGHT_GLAZES, EIGHT_MIXED]


class Touchy:
    """A thing that can't be held against another one."""

    def __eq__(self, other):
        raise RuntimeError("held against something")

    def __repr__(self):
        return "Touchy()"


OTHER_THINGS = (
    None, True, False, 0, 1, -1, 1.5, "", "row", "cut", b"row", [], {}, (), (0,), set(), object(), len, range(4),
    ("row",), ("row", 0, 0), ["row", 0, 0, 0], "row 0 0 0", ("print", 0), ["print", 0, 0], ("cut", 0),
    Touchy(), (Touchy(), 0, 0, 0), (Touchy(), 0, 0), ("row", Touchy(), 0, 0), ("print", 0, Touchy()), ("cut", 0, Touchy()),
    ("cut", 0, (Touchy(), 0, 0, 0)), ("print", Touchy(), 0),
)


class Draw:
    """A row of whole numbers, the same for the same seed."""

    def __init__(self, seed):
        self.state = seed * 2 + 1

    def below(self, bound):
        """A whole number from 0 to bound - 1."""
        drawn = 0
        for part in range(bound.bit_length() // 32 + 2):
            self.state = (self.state * 6364136223846793005 + 1442695040888963407) % 2 ** 64
            drawn = drawn * 2 ** 32 + self.state // 2 ** 32
        return drawn % bound

    def one_of(self, things):
        return things[self.below(len(things))]

    def cells(self, size):
        """A set of a size: few, half or most of its cells."""
        bound = 2 ** (size[0] * size[1])
        one, other = self.below(bound), self.below(bound)
        return self.one_of([one, one & other, one | other])

    def size(self, longest):
        return (1 + self.below(longest), 1 + self.below(longest))

    def bench(self, most_inks, colours="abcd"):
        inks = []
        for number in range(1 + self.below(most_inks)):
            name = "ink" + "abcdefgh"[number]
            if self.below(2):
                inks.append(("cover", name, self.one_of(colours)))
            else:
                unders = [under for under in colours if self.below(2)] or [self.one_of(colours)]
                inks.append(("glaze", name, tuple((under, self.one_of(colours)) for under in unders)))
        return (self.one_of(colours), inks)
