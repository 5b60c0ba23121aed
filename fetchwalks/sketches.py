"""Sketches: minimal stores while they are made, and the ways in which other paths fit into them."""


class Sketch:
    """A minimal store whose objects are counted from 0 on, in the sequence in which they are made."""

    def __init__(self, schema, steps):
        self._schema = schema
        self.made = []
        self.things = {}
        self._pairs = {}
        self._marked = {}
        for here, head, owner in steps:
            self._follow(here, head, owner)

    def ends(self, thing, link):
        return [end for start, end in self._pairs.get(link, []) if start == thing]

    def starts(self, link, ends):
        """The objects from which the link leads to one of ends."""
        return [start for start, end in self._pairs.get(link, []) if end in ends]

    def marked(self, flag):
        """The objects whose flag is true."""
        return list(self._marked.get(flag, []))

    def _follow(self, here, head, owner):
        if head[0] == "find":
            self.things[here] = self._make(head[2])
        elif head[0] == "if":
            self._marked.setdefault(head[2], []).append(self.things[owner])
        else:
            self.things[here] = self._end(self.things[owner], head[2])

    def _make(self, kind):
        self.made.append(kind)
        return len(self.made) - 1

    def _end(self, thing, link):
        ends = self.ends(thing, link)
        # Only a list that is not single has room for one more.
        full = not self._schema.is_list(link) or self._schema.is_single(link)
        if full and len(ends) > 0:
            return ends[0]
        end = self._make(self._schema.target_of(link))
        self._join(link, thing, end)
        back = self._schema.back_of(link)
        if back is not None:
            self._join(back, end, thing)
        return end

    def _join(self, link, start, end):
        self._pairs.setdefault(link, []).append((start, end))


class Aim:
    """What a walk touches at a spot or loops at a loop: the object of goal, a spot on the steps to it."""

    def __init__(self, word, spot, name, goal, steps):
        self.word = word
        self.spot = spot
        self.name = name
        self.goal = goal
        self.steps = steps

    def sketch(self, schema):
        return Sketch(schema, self.steps)

    def spots_ahead(self):
        return [here for here, head, _ in self.steps if head[0] != "if"]


def object_aim(walk, spot):
    return Aim("object", spot, walk.kind_of(spot), spot, walk.steps_to(spot))


def list_aim(walk, loop):
    # The minimal store of a loop has no object for its for.
    return Aim("list", loop, walk.statement(loop)[2], walk.owner_of(loop), walk.steps_to(loop[:-1]))


def aims_of(walk, lists):
    """The aims for all spots and, if lists, for all loops of a walk."""
    objects = [object_aim(walk, spot) for spot in walk.spots()]
    if lists:
        return [list_aim(walk, loop) for loop in walk.loops()] + objects
    return objects


def first_cover(schema, aim, others):
    """The tuple (other aim, fit) of the first of others that comes to the same in the aim's minimal store, or None."""
    sketch = aim.sketch(schema)
    for other in others:
        fitted = fit_of(sketch, aim, other)
        if fitted is not None:
            return (other, fitted)
    return None


def all_covers(schema, aim, others):
    sketch = aim.sketch(schema)
    return [other for other in others if fit_of(sketch, aim, other) is not None]


def could_cover(aim, other):
    return aim.word == other.word and aim.name == other.name and aim.spot[0] == other.spot[0]


def fit_of(sketch, aim, other):
    """From the spots ahead on the other aim's way to objects by which it comes to the same as the aim, or None."""
    if not could_cover(aim, other):
        return None
    chances = chances_of(sketch, other, sketch.things[aim.goal])
    if chances is None:
        return None
    fitted = {}
    for here, head, owner in other.steps:
        if head[0] == "find":
            fitted[here] = 0
        elif head[0] != "if":
            ends = sketch.ends(fitted[owner], head[2])
            fitted[here] = [end for end in ends if end in chances[here]][0]
    return fitted


def chances_of(sketch, other, thing):
    """From the spots ahead to the objects from which all steps behind can be gone, or None if the find has none.

    Each variable has one owner, so the steps can be judged one by one, the last one first.
    """
    everything = list(range(len(sketch.made)))
    chances = {here: everything for here in other.spots_ahead()}
    chances[other.goal] = [thing]
    for here, head, owner in other.steps[::-1]:
        if head[0] == "find":
            if 0 not in chances[here]:
                return None
        else:
            able = sketch.marked(head[2]) if head[0] == "if" else sketch.starts(head[2], chances[here])
            chances[owner] = [start for start in chances[owner] if start in able]
    return chances
