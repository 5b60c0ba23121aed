"""Numbers: how many questions a walk asks at most by a plan, and how many objects are kept then."""

from fetchwalks.checks import are_words
from fetchwalks.classes import factors_of, kept_factors, rows_now, total_terms, touched_factors, weight_terms
from fetchwalks.places import ready_places
from fetchwalks.plans import check_plan
from fetchwalks.schemas import check_same_schema
from fetchwalks.sums import sum_of
from fetchwalks.walks import check_walk
from fetchwalks.words import check_place


class Answers:
    """A class of answers of a walk."""

    def __init__(self, walk, row, before):
        self._walk = walk
        self._row = row
        self._terms = weight_terms(walk, row.factors)
        self._before = before

    @property
    def label(self):
        return self._row.word

    @property
    def at_place(self):
        return self._row.place

    @property
    def link_name(self):
        return self._row.link

    @property
    def times(self):
        return sum_of(self._terms)

    @property
    def new(self):
        return ready_places(self._walk, self._row.new_keys)

    @property
    def behind(self):
        return self._before

    def __eq__(self, other):
        if not isinstance(other, Answers) or self.label != other.label or self.link_name != other.link_name:
            return False
        if self.at_place != other.at_place or self.times != other.times or self.new != other.new:
            return False
        return self.behind == other.behind


def weight(walk, place):
    check_walk(walk)
    # Nearly always touched places are asked for, and these are right.
    factors = touched_factors(walk).get(place) if are_words(place) else None
    if factors is None:
        check_place(walk, place)
        factors = factors_of(walk, place)
    return sum_of(weight_terms(walk, factors))


def answer_classes(walk, plan):
    check_planned(walk, plan)
    made = []
    for row in rows_now(walk, plan):
        made.append(Answers(walk, row, None if row.after is None else made[row.after]))
    return made


def most(walk, plan):
    check_planned(walk, plan)
    known = walk.memory.of_plan(plan)
    if "most" not in known:
        known["most"] = total_terms(walk, [row.factors for row in rows_now(walk, plan)])
    return sum_of(known["most"])


def most_kept(walk, plan):
    check_planned(walk, plan)
    known = walk.memory.of_plan(plan)
    if "most kept" not in known:
        known["most kept"] = total_terms(walk, list(kept_factors(walk, plan).values()))
    return sum_of(known["most kept"])


def most_by_link(walk, plan):
    check_planned(walk, plan)
    known = walk.memory.of_plan(plan)
    if "by link" not in known:
        known["by link"] = terms_by_link(walk, plan)
    terms = known["by link"]
    return {link: sum_of(terms[link]) for link in terms}


def terms_by_link(walk, plan):
    table = {link: [] for link in walk.schema.links()}
    for row in rows_now(walk, plan):
        if row.link is not None:
            table[row.link].append(row.factors)
    return {link: total_terms(walk, table[link]) for link in table}


def first_growing(walk, plan):
    check_planned(walk, plan)
    rows = rows_now(walk, plan)
    for position, row in enumerate(rows):
        if len(row.factors) > 0:
            return answers_at(walk, rows, position)
    return None


def answers_at(walk, rows, position):
    row = rows[position]
    return Answers(walk, row, None if row.after is None else answers_at(walk, rows, row.after))


def check_planned(walk, plan):
    check_walk(walk)
    check_plan(plan)
    check_same_schema(walk.schema, plan.schema)
