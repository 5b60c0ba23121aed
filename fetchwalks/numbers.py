"""Numbers: how many questions a walk asks at most by a plan, and how many objects are kept then."""

from fetchwalks.classes import factors_of, kept_factors, rows_now, weighed
from fetchwalks.places import right_places
from fetchwalks.plans import check_plan
from fetchwalks.schemas import check_same_schema
from fetchwalks.sums import sum_of
from fetchwalks.walks import check_walk
from fetchwalks.words import check_place


class Answers:
    """A class of answers of a walk."""

    def __init__(self, walk, row, before):
        self._walk = walk
        self._row = row
        self._before = before

    @property
    def label(self):
        return self._row.word

    @property
    def at_place(self):
        return self._row.place

    @property
    def link_name(self):
        return self._row.link

    @property
    def times(self):
        return weight_sum([self._row.factors])

    @property
    def new(self):
        fresh = self._row.fresh
        places = []
        for kind in fresh:
            places.extend(fresh[kind])
        return right_places(self._walk, places)

    @property
    def behind(self):
        return self._before

    def __eq__(self, other):
        if not isinstance(other, Answers) or self.label != other.label or self.link_name != other.link_name:
            return False
        if self.at_place != other.at_place or self.times != other.times or self.new != other.new:
            return False
        return self.behind == other.behind


def weight(walk, place):
    check_walk(walk)
    check_place(walk, place)
    return weight_sum([factors_of(walk, place)])


def answer_classes(walk, plan):
    made = []
    for row in checked_rows(walk, plan):
        before = None if row.after is None else made[row.after]
        made.append(Answers(walk, row, before))
    return made


def most(walk, plan):
    return weight_sum([row.factors for row in checked_rows(walk, plan)])


def most_kept(walk, plan):
    check_walk(walk)
    check_plan(plan)
    check_same_schema(walk.schema, plan.schema)
    return weight_sum(list(kept_factors(walk, plan).values()))


def most_by_link(walk, plan):
    rows = checked_rows(walk, plan)
    return {link: weight_sum([row.factors for row in rows if row.link == link]) for link in walk.schema.links()}


def first_growing(walk, plan):
    for answers in answer_classes(walk, plan):
        if answers.times.constant is None:
            return answers
    return None


def checked_rows(walk, plan):
    check_walk(walk)
    check_plan(plan)
    check_same_schema(walk.schema, plan.schema)
    return rows_now(walk, plan)


def weight_sum(weights):
    """The Sum of weights, which are told by their factors."""
    counts = {}
    for factors in weights:
        counts[factors] = counts.get(factors, 0) + 1
    return sum_of(weighed(counts))
