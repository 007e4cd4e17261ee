"""The follower: it keeps a size and a head, takes later ones that go on from these, and judges claims by them."""

from growbook.claims import Grows
from growbook.stretches import book_seal
from growbook.stretches import none_seal


class Follower:
    def __init__(self, seal):
        self.seal = seal
        self.count = 0
        self.latest = book_seal(seal, 0, none_seal(seal))

    def take(self, size, head, paper):
        if not Grows(self.count, self.latest).judged(self.seal, size, head, paper):
            return False
        self.count = size
        self.latest = head
        return True

    def judge(self, claim, paper):
        return claim.judged(self.seal, self.count, self.latest, paper)

    def size(self):
        return self.count

    def head(self):
        return self.latest
