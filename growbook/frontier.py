"""The frontier: a growing row of leaves of which only the tops of its full stretches are kept."""

from growbook.stretches import none_seal
from growbook.stretches import pair_seal


class Frontier:
    def __init__(self, seal):
        self.seal = seal
        self.tops = []
        self.count = 0

    # Each one at the low end of the count's binary writing is a full stretch as long as what has just
    # been closed, so the two close to one of twice the length.
    def add(self, leaf):
        # The work is done on a copy, so that a seal that fails leaves the frontier as it was.
        tops = list(self.tops)
        top = leaf
        ahead = self.count
        while ahead % 2 == 1:
            top = pair_seal(self.seal, tops.pop(), top)
            ahead = ahead // 2
        tops.append(top)
        self.tops = tops
        self.count = self.count + 1

    def top(self):
        if self.count == 0:
            return none_seal(self.seal)
        top = self.tops[-1]
        for longer in reversed(self.tops[:-1]):
            top = pair_seal(self.seal, longer, top)
        return top

    def size(self):
        return self.count

    def kept(self):
        return list(self.tops)
