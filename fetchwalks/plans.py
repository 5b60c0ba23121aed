"""Plans: which links are read late, which ones along with their objects, and which ones ahead of use."""

from fetchwalks.checks import is_sequence
from fetchwalks.errors import InvalidLinks, InvalidPlan, InvalidWord, LinkRing, WordRefused
from fetchwalks.schemas import check_link, check_same_schema, check_schema


class Plan:
    WORDS = ("late", "along", "ahead")

    def __init__(self, schema):
        check_schema(schema)
        self._schema = schema
        # The words that are not late, by links, sorted. The dict is never changed, only replaced.
        self._early = {}

    @classmethod
    def of(cls, schema, **words):
        plan = cls(schema)
        for link in sorted(words):
            plan[link] = words[link]
        return plan

    @property
    def schema(self):
        return self._schema

    @property
    def early(self):
        """The words that are not late, by links, sorted."""
        return self._early

    @property
    def word_key(self):
        """The same words as a tuple, which can be a key."""
        return tuple(self._early.items())

    def __setitem__(self, at, worth):
        check_link(self._schema, at)
        if not isinstance(worth, str) or worth not in Plan.WORDS:
            raise InvalidWord(worth)
        self._early = early_with(self._schema, self._early, at, worth)

    def __getitem__(self, at):
        check_link(self._schema, at)
        return self._early.get(at, "late")

    def __iter__(self):
        raise TypeError("a plan is not iterated over")

    def __ior__(self, other):
        check_plan(other)
        check_same_schema(self._schema, other._schema)
        early = self._early
        for link in sorted(other._early):
            early = early_with(self._schema, early, link, other._early[link])
        self._early = early
        return self

    def __contains__(self, x):
        return isinstance(x, str) and x in self._early

    def __len__(self):
        return len(self._early)

    def __eq__(self, other):
        return isinstance(other, Plan) and self._schema == other._schema and self._early == other._early

    def __repr__(self):
        return f"Plan({self._early!r})"

    def words(self):
        return {link: self._early.get(link, "late") for link in self._schema.links()}

    def copy(self):
        twin = Plan(self._schema)
        twin._early = self._early
        return twin

    def trial(self):
        return Trial(self)


class Trial:
    """Gives a plan for a block, behind which its words are as they were."""

    def __init__(self, plan):
        self.held = plan
        self.saved = None

    def __enter__(self):
        # A trial can be entered once more within itself.
        self.saved = SavedWords(self.held.early, self.saved)
        return self.held

    def __exit__(self, kind, value, trace):
        held = self.held
        held._early = self.saved.table
        self.saved = self.saved.before


class SavedWords:
    def __init__(self, table, before):
        self.table = table
        self.before = before


def links_with(plan, words):
    """The sorted list of the links that have one of these words, which are not late."""
    return [link for link in plan.early if plan.early[link] in words]


def links_by_kind(plan, words):
    """From each kind to the sorted list of the links from it that have one of these words, which are not late."""
    rows, found = plan.schema.link_rows, links_with(plan, words)
    return {kind: [link for link in found if rows[link][0] == kind] for kind in plan.schema.kinds()}


def tried_words(plan, words, ask):
    check_plan(plan)
    with plan.trial() as held:
        for link, word in words:
            held[link] = word
        return ask(held)


def can_follow(schema, one, other):
    check_schema(schema)
    check_link(schema, one)
    check_link(schema, other)
    return other in schema.followers[one]


def first_ring(schema, links):
    check_schema(schema)
    if not is_sequence(links):
        raise InvalidLinks(None)
    for position, link in enumerate(links):
        if not schema.has_link(link):
            raise InvalidLinks(position)
    return least_ring(schema.followers, sorted(set(links)))


def early_with(schema, early, link, word):
    """The words that are not late, sorted, when one more is set."""
    if word == "late":
        return {other: early[other] for other in early if other != link}
    words = {**early, link: word}
    words = {other: words[other] for other in sorted(words)}
    # The earlier words have no ring, so each ring goes through the new one.
    if link not in early and least_ring_from(schema.followers, list(words), link) is not None:
        raise WordRefused(link, word) from LinkRing(least_ring(schema.followers, list(words)))
    return words


def least_ring(followers, links):
    """Of the rings of these links, a sorted list, with the fewest links the least one, or None."""
    least = None
    for position, start in enumerate(links):
        # A ring is least as a list if it begins with its least link.
        ring = least_ring_from(followers, links[position:], start)
        if ring is not None and (least is None or len(ring) < len(least)):
            least = ring
    return least


def least_ring_from(followers, links, start):
    """Like least_ring, of the rings that begin with start."""
    reached = {link: link == start for link in links}
    paths = [[start]]
    while len(paths) > 0:
        longer = []
        for path in paths:
            if start in followers[path[-1]]:
                return path
            for link in followers[path[-1]]:
                # The paths are sorted, so the least one comes first to each link.
                if link in reached and not reached[link]:
                    reached[link] = True
                    longer.append(path + [link])
        paths = longer
    return None


def check_plan(plan):
    if not isinstance(plan, Plan):
        raise InvalidPlan(plan)
