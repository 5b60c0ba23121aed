"""What a session keeps, and the questions by which it came to that."""

from fetchwalks.plans import links_by_kind, links_with


class Keeping:
    """Asks a store by the words of a plan, and keeps what the answers bring.

    What was asked is a list of tuples (label, link, find, number, objects brought, lists brought, position behind).
    """

    def __init__(self, store, plan):
        self.source = store
        self.linked = store.schema.link_rows
        self.rule = plan
        self.along = links_by_kind(plan, ("along",))
        self.ahead = links_with(plan, ("ahead",))
        self.kept = {}
        self.kept_lists = {}
        self.asked = []

    def take_rule(self, plan):
        self.rule = plan
        self.along = links_by_kind(plan, ("along",))
        self.ahead = links_with(plan, ("ahead",))

    def copy(self):
        twin = Keeping(self.source.copy(), self.rule)
        twin.kept = {at: True for at in self.kept}
        twin.kept_lists = {at: True for at in self.kept_lists}
        twin.asked = list(self.asked)
        return twin

    def ask_find(self, name, kind, numbers):
        self._ask(("find", None, name, None), [(kind, number) for number in numbers], [])

    def ask_object(self, link, kind, number):
        """Asks for the object to which a field leads, unless it is kept."""
        if (kind, number) not in self.kept:
            self._ask(("object", link, None, number), [(kind, number)], [])

    def ask_list(self, link, number):
        """Asks for the list of an owner, unless it is kept."""
        if (link, number) not in self.kept_lists:
            self._ask(("list", link, None, number), [], [(link, number)])

    def _ask(self, told, objects, lists):
        """Asks a question for objects and lists, and behind it all the ahead ones."""
        turn = len(self.asked)
        self._answer(told, objects, lists, None)
        # The answers are treated in the sequence in which they came, which is that of what was asked.
        while turn < len(self.asked):
            brought = self.asked[turn][4]
            for link in self.ahead:
                objects, lists = self._missed(link, brought)
                if len(objects) > 0 or len(lists) > 0:
                    self._answer(("ahead", link, None, None), objects, lists, turn)
            turn += 1

    def _missed(self, link, brought):
        """The tuple of the lists of the objects, and of the lists, that the brought objects miss by a link."""
        kind, target_kind, _, is_list, _ = self.linked[link]
        numbers = [number for other, number in brought if other == kind]
        if is_list:
            return ([], [(link, number) for number in numbers if (link, number) not in self.kept_lists])
        targets = [self.source.target(link, kind, number) for number in numbers]
        ends = [(target_kind, target) for target in targets if target is not None]
        return ([end for end in ends if end not in self.kept], [])

    def _answer(self, told, objects, lists, behind):
        brought, brought_lists = [], []
        for at in objects:
            self._bring(at, brought)
        for link, number in lists:
            self._bring_list(link, number, brought, brought_lists)
        turn = 0
        while turn < len(brought):
            kind, number = brought[turn]
            for link in self.along[kind]:
                _, target_kind, _, is_list, _ = self.linked[link]
                target = None if is_list else self.source.target(link, kind, number)
                if is_list:
                    self._bring_list(link, number, brought, brought_lists)
                elif target is not None:
                    self._bring((target_kind, target), brought)
            turn += 1
        self.asked.append(told + (tuple(sorted(brought)), tuple(sorted(brought_lists)), behind))

    def _bring(self, at, brought):
        if at not in self.kept:
            self.kept[at] = True
            brought.append(at)

    def _bring_list(self, link, number, brought, brought_lists):
        if (link, number) not in self.kept_lists:
            self.kept_lists[link, number] = True
            brought_lists.append((link, number))
            _, member_kind, field, _, _ = self.linked[link]
            for member in self.source.leading_to(field, number):
                self._bring((member_kind, member), brought)
