"""How far apart the facts of a list keep any two variables."""


class Bounds:
    """The closest chains of facts between variables, as long as the facts have no ring.

    The attribute chains has a dict for each variable a: from each variable b
    that a chain of facts leads to, to a pair of the least sum c that a chain
    from a to b has, and the tuple of its indexes: a is at most b plus c.
    The attribute known is the number of facts that were taken in. The
    attribute ring is None, or a ring of them; then the chains mean nothing.
    """

    def __init__(self):
        self.chains = []
        self.known = 0
        self.ring = None

    def grown(self, count, facts):
        """The bounds of count variables and all these facts; the first ones of both are known."""
        wider = Bounds()
        wider.chains = [dict(chain) for chain in self.chains]
        for variable in range(len(self.chains), count):
            wider.chains.append({variable: (0, ())})
        wider.ring = self.ring
        wider.known = len(facts)
        for index in range(self.known, len(facts)):
            wider.take(index, facts[index])
        return wider

    def take(self, index, fact):
        """Take in one more fact, unless there is a ring already."""
        if self.ring is not None:
            return
        a, b, number = fact
        back = self.chains[b].get(a)
        if back is not None and back[0] + number < 0:
            self.ring = (index, *back[1])
            return
        ahead = [(variable, *self.chains[b][variable]) for variable in self.chains[b]]
        for chain in self.chains:
            if a in chain:
                lengthen(chain, a, (index, number), ahead)

    def least(self, a, b):
        """The least integer c such that a is at most b plus c, or None; there is no ring."""
        if b not in self.chains[a]:
            return None
        return self.chains[a][b][0]

    def kept(self):
        """A value for each variable, which together keep the facts; there is no ring."""
        return [min([chain[variable][0] for variable in chain]) for chain in self.chains]


def lengthen(chain, a, link, ahead):
    """Lengthen the chain to a by a link and by what lies ahead of it, where this is closer."""
    index, number = link
    total, way = chain[a]
    for variable, more, rest in ahead:
        closer = total + number + more
        if variable not in chain or closer < chain[variable][0]:
            chain[variable] = (closer, (*way, index, *rest))
