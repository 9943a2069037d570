"""Numbers that look drawn at random, the same ones in each run of the tests."""


class Draws:
    def __init__(self, seed):
        self.state = seed

    def below(self, many):
        """An integer from 0 to many - 1."""
        self.state = (self.state * 6364136223846793005 + 1442695040888963407) % 2 ** 64
        return (self.state >> 33) % many

    def between(self, low, high):
        """An integer from low to high."""
        return low + self.below(high - low + 1)

    def one_of(self, things):
        return things[self.below(len(things))]

    def shuffled(self, things):
        left = list(things)
        return [left.pop(self.below(len(left))) for _ in range(len(left))]
