"""Sketches: minimal stores while they are made, and the ways in which the steps of other walks fit into them.

Steps that lie within one another are told as a tuple of (word, name, position of the step of x): of a find with its
kind, of the others with the link or flag. So statements of different walks, and at different paths, have equal steps.
"""


class Sketch:
    """A minimal store whose objects are counted from 0 on, in the sequence in which they are made."""

    def __init__(self, schema, steps):
        self._links = schema.link_rows
        self.made = []
        # The object at each step, None at an if.
        self.things = []
        # From a link to the pairs of objects between which it leads.
        self.pairs = {}
        # From a flag to the objects for which it is true.
        self.marked = {}
        for word, name, owner in steps:
            if word == "find":
                self.things.append(self._make(name))
            elif word == "if":
                self.marked.setdefault(name, []).append(self.things[owner])
                self.things.append(None)
            else:
                self.things.append(self._end(self.things[owner], name))

    def ends(self, thing, link):
        return [end for start, end in self.pairs.get(link, ()) if start == thing]

    def _make(self, kind):
        self.made.append(kind)
        return len(self.made) - 1

    def _end(self, thing, link):
        _, target_kind, back, is_list, single = self._links[link]
        ends = self.ends(thing, link)
        # Only a list that is not single has room for one more.
        if len(ends) > 0 and (not is_list or single):
            return ends[0]
        end = self._make(target_kind)
        self.pairs.setdefault(link, []).append((thing, end))
        if back is not None:
            self.pairs.setdefault(back, []).append((end, thing))
        return end


class Aim:
    """What a walk touches or loops in one way: an object of a kind, or a list, at one or more spots.

    The object of the step at goal is touched, or is the owner of the list. The depths are those of steps with objects.
    """

    def __init__(self, word, name, steps, goal, found_at):
        self.word = word
        self.name = name
        self.steps = steps
        self.goal = goal
        self.found_at = found_at
        self.depths = [depth for depth, step in enumerate(steps) if step[0] != "if"]

    def could_meet(self, other):
        """Whether both are of one sort, and lie in one find."""
        return self.word == other.word and self.name == other.name and self.found_at[0][0] == other.found_at[0][0]


def aims_of(paths):
    """The tuple of the lists of a walk's aims for lists, and for objects, by their first spots.

    The paths are those of the walk, with their rows.
    """
    # Equal steps have one number, by which those within them are told.
    numbers = {}
    steps = []
    at = {}
    spots = {}
    for path in paths:
        head, owner, _, _ = paths[path]
        step = (head[0], head[2], None if owner is None else len(owner) - 1)
        around = path[0] if owner is None else at[path[:-1]]
        if (around, step) not in numbers:
            numbers[around, step] = len(steps)
            steps.append((step,) if owner is None else steps[around] + (step,))
        at[path] = numbers[around, step]
        spots.setdefault(at[path], []).append(path)
    loops = []
    objects = []
    for number in spots:
        path = spots[number][0]
        word, name, owner = steps[number][-1]
        if word == "for":
            loops.append(Aim("list", name, steps[number][:-1], owner, spots[number]))
        if word != "if":
            objects.append(Aim("object", paths[path][2], steps[number], len(path) - 1, spots[number]))
    return (loops, objects)


def chances_of(sketch, other, thing):
    """For each step of another aim the objects at which all steps behind can be gone, or None if there are none.

    The other aim is to come to this object of the sketch. The objects are told by the bits of a number. Each variable
    has one owner, so the steps can be judged one by one, the last one first.
    """
    chances = [(1 << len(sketch.made)) - 1] * len(other.steps)
    chances[other.goal] = 1 << thing
    for depth in range(len(other.steps) - 1, 0, -1):
        word, name, owner = other.steps[depth]
        able = 0
        if word == "if":
            for start in sketch.marked.get(name, ()):
                able = able | (1 << start)
        else:
            for start, end in sketch.pairs.get(name, ()):
                if (chances[depth] >> end) & 1 == 1:
                    able = able | (1 << start)
        chances[owner] = chances[owner] & able
        if chances[owner] == 0:
            return None
    # The find has the first object.
    return chances if chances[0] & 1 == 1 else None


def covers_aim(sketch, aim, other):
    """Whether the other aim comes to the same in the sketch of the aim."""
    return aim.could_meet(other) and chances_of(sketch, other, sketch.things[aim.goal]) is not None


def fit_of(sketch, aim, other):
    """From the steps of another aim that covers the aim to objects by which it comes to the same in the sketch."""
    chances = chances_of(sketch, other, sketch.things[aim.goal])
    fitted = {0: 0}
    for depth, (word, name, owner) in enumerate(other.steps):
        if word != "if" and depth > 0:
            ends = [end for end in sketch.ends(fitted[owner], name) if (chances[depth] >> end) & 1 == 1]
            fitted[depth] = ends[0]
    return fitted
