"""Sketches: minimal stores while they are made, and the ways in which the steps of other walks fit into them.

Steps that lie within one another are told as a tuple of (word, name, position of the step of x): of a find with its
kind, of the others with the link or flag. So statements of different walks, and at different paths, have equal steps.
Objects, and names of links and flags, are told by the bits of numbers where several are meant.
"""


class Sketch:
    """A minimal store whose objects are counted from 0 on, in the sequence in which they are made."""

    def __init__(self, schema, steps):
        links = schema.link_rows
        self.made = []
        # The object at each step, None at an if.
        self.things = []
        # From a link to the tuples (bit of an object, bit of one to which it leads from there).
        self.arrows = {}
        # From a flag to the bits of the objects for which it is true.
        self.marked = {}
        # From an object and a link to the first object to which it leads.
        firsts = {}
        for word, name, owner in steps:
            if word == "find":
                self.made.append(name)
                self.things.append(0)
            elif word == "if":
                self.marked[name] = self.marked.get(name, 0) | (1 << self.things[owner])
                self.things.append(None)
            else:
                self._go(self.things[owner], name, links[name], firsts)

    def ends(self, thing, link):
        """The objects to which a link leads, in sequence."""
        return [end.bit_length() - 1 for start, end in self.arrows.get(link, ()) if start == 1 << thing]

    def _go(self, thing, link, row, firsts):
        """Makes a new object to which the link leads, unless it has no room for one more."""
        _, target_kind, back, is_list, single = row
        if (thing, link) in firsts and (not is_list or single):
            self.things.append(firsts[thing, link])
            return
        end = len(self.made)
        self.made.append(target_kind)
        self.things.append(end)
        self.arrows.setdefault(link, []).append((1 << thing, 1 << end))
        firsts.setdefault((thing, link), end)
        if back is not None:
            self.arrows.setdefault(back, []).append((1 << end, 1 << thing))
            firsts.setdefault((end, back), thing)


class Aim:
    """What a walk touches or loops in one way: an object of a kind, or a list, at one or more spots.

    The object of the step at goal is touched, or is the owner of the list. The depths are those of steps with objects.
    Aims with one key have the same steps in the same find; those of one group may come to the same.
    """

    def __init__(self, word, name, steps, goal, found_at, key, bits):
        self.word = word
        self.name = name
        self.steps = steps
        self.goal = goal
        self.found_at = found_at
        self.key = key
        self.group = (key[0], word, name)
        self.depths = [depth for depth, step in enumerate(steps) if step[0] != "if"]
        # The bits of the links and flags by which the steps go, and of those that are then in the sketch.
        self.needs, self.gives = bits
        self._made_sketch = None

    def sketch(self, schema):
        if self._made_sketch is None:
            self._made_sketch = Sketch(schema, self.steps)
        return self._made_sketch


class AimTable:
    """The aims of a walk for lists, and for objects, by their first spots; by their keys, groups and spots, too."""

    def __init__(self, walk):
        self.loop_aims = []
        self.object_aims = []
        self.by_key = {}
        self.groups = {}
        self.at_spot = {}
        # From each path to the tuple of the paths on the way to it, itself the last one.
        self.ways = {}
        paths, rows, bits = walk.path_rows, walk.schema.link_rows, walk.schema.name_bits
        # Equal steps have one number, by which those within them are told.
        numbers = {}
        steps = []
        needs_gives = []
        at = {}
        spots = {}
        for path in paths:
            head, owner, _, _ = paths[path]
            step = (head[0], head[2], None if owner is None else len(owner) - 1)
            around = path[0] if owner is None else at[path[:-1]]
            if (around, step) not in numbers:
                numbers[around, step] = len(steps)
                steps.append((step,) if owner is None else steps[around] + (step,))
                needs_gives.append((0, 0) if owner is None else bits_behind(rows, bits, needs_gives[around], step))
            at[path] = numbers[around, step]
            self.ways[path] = (path,) if owner is None else self.ways[path[:-1]] + (path,)
            spots.setdefault(at[path], []).append(path)
        for number in spots:
            first = spots[number][0]
            if steps[number][-1][0] == "for":
                self._add_loop(steps[number], spots[number], needs_gives[at[first[:-1]]])
            if steps[number][-1][0] != "if":
                self._add_object(steps[number], spots[number], paths[first][2], needs_gives[number])

    def every(self):
        return self.loop_aims + self.object_aims

    def _add_loop(self, steps, found_at, bits):
        _, name, owner = steps[-1]
        aim = Aim("list", name, steps[:-1], owner, found_at, (found_at[0][0], "list", steps), bits)
        self.loop_aims.append(aim)
        self._enter(aim)

    def _add_object(self, steps, found_at, kind, bits):
        aim = Aim("object", kind, steps, len(steps) - 1, found_at, (found_at[0][0], "object", steps), bits)
        self.object_aims.append(aim)
        self._enter(aim)

    def _enter(self, aim):
        self.by_key[aim.key] = aim
        self.groups.setdefault(aim.group, []).append(aim)
        for spot in aim.found_at:
            self.at_spot[aim.word, spot] = aim


def bits_behind(rows, bits, before, step):
    """The tuple of the bits that steps need, and of those that they give, when one more stands behind them."""
    needs, gives = before
    name = step[1]
    back = 0 if step[0] == "if" else bits.get(rows[name][2], 0)
    return (needs | bits[name], gives | bits[name] | back)


def chances_of(sketch, other, thing):
    """For each step of another aim the bits of the objects at which all steps behind can be gone, or None if not.

    The other aim is to come to this object of the sketch. Each variable has one owner, so the steps can be judged one
    by one, the last one first.
    """
    steps = other.steps
    chances = [(1 << len(sketch.made)) - 1] * len(steps)
    chances[other.goal] = 1 << thing
    for depth in range(len(steps) - 1, 0, -1):
        word, name, owner = steps[depth]
        able = 0
        if word == "if":
            able = sketch.marked.get(name, 0)
        else:
            wanted = chances[depth]
            for start, end in sketch.arrows.get(name, ()):
                if wanted & end != 0:
                    able = able | start
        able = able & chances[owner]
        if able == 0:
            return None
        chances[owner] = able
    # The find has the first object.
    return chances if chances[0] & 1 == 1 else None


def covers_aim(schema, aim, other):
    """Whether the other aim, of the same group, comes to the same in the sketch of the aim."""
    # Steps by what is not there lead nowhere.
    if other.needs & ~aim.gives != 0:
        return False
    sketch = aim.sketch(schema)
    return chances_of(sketch, other, sketch.things[aim.goal]) is not None


def fit_of(sketch, aim, other):
    """From the steps of another aim that covers the aim to objects by which it comes to the same in the sketch."""
    chances = chances_of(sketch, other, sketch.things[aim.goal])
    fitted = {0: 0}
    for depth, (word, name, owner) in enumerate(other.steps):
        if word != "if" and depth > 0:
            ends = [end for end in sketch.ends(fitted[owner], name) if (chances[depth] >> end) & 1 == 1]
            fitted[depth] = ends[0]
    return fitted
