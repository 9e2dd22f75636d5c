"""Which ends of a net are alike."""


class Classes:
    """Ends of so many knots, each alike to itself alone until some are joined."""

    def __init__(self, knots):
        # For each knot an end that its unturned end is alike to: its own, or one of a lesser knot.
        # So the ways from end to end lead to the least one.
        self.lesser = [2 * knot for knot in range(knots)]

    def least(self, end):
        """The least end that is alike to an end."""
        lesser = self.lesser
        way = []
        while lesser[end // 2] // 2 != end // 2:
            way.append(end)
            end = lesser[end // 2] ^ (end % 2)
        # Shorter ways for the next asker.
        for passed in way:
            lesser[passed // 2] = end ^ (passed % 2)
        return end

    def alike(self, one, other):
        """Whether two ends are alike."""
        return self.least(one) == self.least(other)

    def join(self, one, other):
        """Joins two ends; False, and nothing changed, where one is alike to the other's contrary."""
        low = min(self.least(one), self.least(other))
        high = max(self.least(one), self.least(other))
        if low == high:
            return True
        if low ^ 1 == high:
            return False
        self.lesser[high // 2] = low ^ (high % 2)
        return True
