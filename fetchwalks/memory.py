"""What was worked out about a walk, so that it need not be worked out again.

What is kept here is never changed: whoever tells it tells a copy, or an object that does not change.
"""

MOST_PLANS = 20
MOST_WALKS = 40


class Mark:
    """Stands for a walk where others remember something about it, so that these do not hold on to all it remembers."""


class Memory:
    def __init__(self):
        self.mark = Mark()
        self.known = {}
        # From the factors of weights to their terms.
        self.weights = {}
        self._by_words = {}
        self._by_walk = {}

    def of_plan(self, plan):
        """The dict of what is known about the walk by a plan with these words."""
        key = plan.word_key
        if key not in self._by_words:
            if len(self._by_words) >= MOST_PLANS:
                self._by_words = {}
            self._by_words[key] = {}
        return self._by_words[key]

    def of_walk(self, other):
        """The dict of what is known about the walk beside the one with this other memory."""
        if other.mark not in self._by_walk:
            if len(self._by_walk) >= MOST_WALKS:
                self._by_walk = {}
            self._by_walk[other.mark] = {}
        return self._by_walk[other.mark]
