"""Sessions: what walks ask a store, by a plan, and what is kept from question to question."""

from fetchwalks.checks import is_integer
from fetchwalks.keeping import Keeping
from fetchwalks.plans import Plan, check_plan
from fetchwalks.runs import check_roots, check_run, run_events
from fetchwalks.schemas import check_same_schema
from fetchwalks.stores import check_store
from fetchwalks.walks import check_walk

LABELS = ("ahead", "find", "list", "object")


# The interface lists the parts of a question for each of these classes, so each of them defines all parts.
class Question:
    """What a session asked, and what the answer brought; some sorts of questions do not have all parts."""

    def __init__(self, told):
        self._told = told

    @property
    def label(self):
        return self._told[0]

    @property
    def link_name(self):
        return self._told[1]

    @property
    def find_name(self):
        return self._told[2]

    @property
    def asked_number(self):
        return self._told[3]

    @property
    def brought(self):
        return list(self._told[4])

    @property
    def brought_lists(self):
        return list(self._told[5])

    @property
    def behind(self):
        return self._told[6]

    def __eq__(self, other):
        return isinstance(other, Question) and parts_of(self) == parts_of(other)

    def __repr__(self):
        return f"Question({self.label!r}, {self.link_name!r})"


class Late:
    """What questions tell that are asked only when a run needs the answer."""

    @property
    def label(self):
        return self._told[0]

    @property
    def link_name(self):
        return self._told[1]

    @property
    def find_name(self):
        return self._told[2]

    @property
    def asked_number(self):
        return self._told[3]

    @property
    def brought(self):
        return list(self._told[4])

    @property
    def brought_lists(self):
        return list(self._told[5])

    @property
    def behind(self):
        return self._told[6]

    def __eq__(self, other):
        return isinstance(other, Late) and parts_of(self) == parts_of(other)

    def __repr__(self):
        return f"Late({self.label!r}, {self.link_name!r})"


class FindQuestion(Question):
    @property
    def label(self):
        return "find"

    @property
    def link_name(self):
        return None

    @property
    def find_name(self):
        return self._told[2]

    @property
    def asked_number(self):
        return None

    @property
    def brought(self):
        return list(self._told[4])

    @property
    def brought_lists(self):
        return list(self._told[5])

    @property
    def behind(self):
        return None

    def __eq__(self, other):
        return isinstance(other, FindQuestion) and parts_of(self) == parts_of(other)

    def __repr__(self):
        return f"FindQuestion({self.label!r}, {self.link_name!r})"


class AheadQuestion(Question):
    @property
    def label(self):
        return "ahead"

    @property
    def link_name(self):
        return self._told[1]

    @property
    def find_name(self):
        return None

    @property
    def asked_number(self):
        return None

    @property
    def brought(self):
        return list(self._told[4])

    @property
    def brought_lists(self):
        return list(self._told[5])

    @property
    def behind(self):
        return self._told[6]

    def __eq__(self, other):
        return isinstance(other, AheadQuestion) and parts_of(self) == parts_of(other)

    def __repr__(self):
        return f"AheadQuestion({self.label!r}, {self.link_name!r})"


class ObjectQuestion(Question, Late):
    @property
    def label(self):
        return "object"

    @property
    def link_name(self):
        return self._told[1]

    @property
    def find_name(self):
        return None

    @property
    def asked_number(self):
        return self._told[3]

    @property
    def brought(self):
        return list(self._told[4])

    @property
    def brought_lists(self):
        return list(self._told[5])

    @property
    def behind(self):
        return None

    def __eq__(self, other):
        return isinstance(other, ObjectQuestion) and parts_of(self) == parts_of(other)

    def __repr__(self):
        return f"ObjectQuestion({self.label!r}, {self.link_name!r})"


class ListQuestion(Question, Late):
    @property
    def label(self):
        return "list"

    @property
    def link_name(self):
        return self._told[1]

    @property
    def find_name(self):
        return None

    @property
    def asked_number(self):
        return self._told[3]

    @property
    def brought(self):
        return list(self._told[4])

    @property
    def brought_lists(self):
        return list(self._told[5])

    @property
    def behind(self):
        return None

    def __eq__(self, other):
        return isinstance(other, ListQuestion) and parts_of(self) == parts_of(other)

    def __repr__(self):
        return f"ListQuestion({self.label!r}, {self.link_name!r})"


class Session:
    def __init__(self, store, plan=None):
        check_store(store)
        if plan is not None:
            check_plan(plan)
            check_same_schema(store.schema, plan.schema)
        words = Plan(store.schema) if plan is None else plan.copy()
        self._keeping = Keeping(store.copy(), words)

    @property
    def store(self):
        return self._keeping.source.copy()

    @property
    def plan(self):
        return self._keeping.rule.copy()

    @plan.setter
    def plan(self, value):
        self.take_plan(value)

    def take_plan(self, plan):
        check_plan(plan)
        check_same_schema(self._keeping.source.schema, plan.schema)
        self._keeping.take_rule(plan.copy())

    def run(self, walk, roots):
        return list(self.walked(walk, roots))

    def walked(self, walk, roots):
        keeping, view = self._keeping, self._view()
        check_run(walk, keeping.source, roots)
        for word, step, number in run_events(walk, view, roots):
            ask_for(keeping, word, step, number, roots)
            if word == "touch":
                yield step.path, number

    def log(self):
        return [question_of(told) for told in self._keeping.asked]

    def keeps(self, kind, number):
        return isinstance(kind, str) and is_integer(number) and (kind, number) in self._keeping.kept

    def keeps_list(self, link, number):
        return isinstance(link, str) and is_integer(number) and (link, number) in self._keeping.kept_lists

    def objects(self):
        return sorted(self._keeping.kept)

    def lists(self):
        return sorted(self._keeping.kept_lists)

    def __len__(self):
        return len(self._keeping.asked)

    def by_label(self):
        labels = [told[0] for told in self._keeping.asked]
        return {label: labels.count(label) for label in LABELS}

    def by_link(self):
        links = [told[1] for told in self._keeping.asked]
        return {link: links.count(link) for link in self._keeping.source.schema.links()}

    def copy(self):
        twin = Session(self._keeping.source)
        twin._keeping = self._keeping.copy()
        return twin

    def _view(self):
        """What runs go by."""
        return self._keeping.source


def questions(store, plan, walk, roots):
    check_store(store)
    check_plan(plan)
    check_walk(walk)
    check_roots(walk, store, roots)
    check_same_schema(store.schema, plan.schema)
    check_same_schema(store.schema, walk.schema)
    return [question_of(told) for told in keeping_behind(store, plan, walk, roots).asked]


def keeping_behind(store, plan, walk, roots):
    """What is kept and was asked behind one run in a new session."""
    keeping = Keeping(store, plan)
    for word, step, number in run_events(walk, store, roots):
        ask_for(keeping, word, step, number, roots)
    return keeping


def ask_for(keeping, word, step, number, roots):
    """Asks what an event of a run needs."""
    if word == "find":
        keeping.ask_find(step.name, step.kind, roots[step.name])
    elif word == "loop":
        keeping.ask_list(step.name, number)
    elif step.word == "go":
        keeping.ask_object(step.name, step.kind, number)


def question_of(told):
    label = told[0]
    if label == "find":
        return FindQuestion(told)
    if label == "object":
        return ObjectQuestion(told)
    if label == "list":
        return ListQuestion(told)
    return AheadQuestion(told)


def parts_of(question):
    names = (question.label, question.link_name, question.find_name, question.asked_number)
    return (names, question.brought, question.brought_lists, question.behind)
