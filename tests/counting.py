"""A counting rule that draws one thing of several, the same ones each time."""


class Counting:
    """Counts on from a number by a fixed rule; what it draws hangs on that number alone."""

    def __init__(self, number):
        self.count = number * 7919 + 17
        for _ in range(3):
            self.below(1)

    def below(self, many):
        """A number from 0 up to many, without many itself."""
        self.count = (self.count * 6364136223846793005 + 1442695040888963407) & (2 ** 64 - 1)
        return (self.count >> 33) * many >> 31

    def one_of(self, some):
        return some[self.below(len(some))]

    def happens(self, hundredths):
        """True this many times out of a hundred."""
        return self.below(100) < hundredths
