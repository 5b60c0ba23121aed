"""Texts of schemas, walks and plans, and how they are read; a text that is not exactly right has a wrong line."""

from fetchwalks.checks import is_name
from fetchwalks.errors import InvalidText, TooMany, WordRefused
from fetchwalks.plans import Plan, check_plan
from fetchwalks.schemas import MOST_FIELDS, MOST_FLAGS, MOST_KINDS, Schema, check_schema
from fetchwalks.walkfaults import MOST_BLOCKS, MOST_FINDS, head_problem, step_problem
from fetchwalks.walks import Walk, check_walk


def schema_text(schema):
    check_schema(schema)
    lines = [f"kind {kind}" for kind in schema.kinds()]
    fields = schema.fields()
    for name in fields:
        kind, target, back, single = fields[name]
        words = ["field", name, kind, target]
        if back is not None:
            words.extend(["list", back])
        if single:
            words.append("single")
        lines.append(" ".join(words))
    flags = schema.flags()
    lines.extend([f"flag {name} {flags[name]}" for name in flags])
    return text_of(lines)


def walk_text(walk):
    check_walk(walk)
    lines = []
    for row in walk.block_rows + walk.find_rows:
        lines.append(" ".join(row[:-1]))
        lines.extend(body_lines(row[-1], "  "))
    return text_of(lines)


def plan_text(plan):
    check_plan(plan)
    return text_of([f"{link} {plan[link]}" for link in plan.early])


def text_of(lines):
    return "".join([line + "\n" for line in lines])


def body_lines(body, ahead):
    lines = []
    for step in body:
        if step[0] == "call":
            lines.append(ahead + " ".join(step))
        else:
            lines.append(ahead + " ".join(step[:-1]))
            lines.extend(body_lines(step[-1], ahead + "  "))
    return lines


class Lines:
    """The lines of a text, and whether the last one has no line feed."""

    def __init__(self, text):
        if not isinstance(text, str):
            raise InvalidText(None)
        parts = text.split("\n")
        self.whole = parts[:-1]
        self.is_cut = parts[-1] != ""

    def read_by(self, reader):
        """Gives the lines to a reader, one after another, as long as they are right."""
        for position, line in enumerate(self.whole):
            if not reader.takes(line):
                raise InvalidText(position + 1)
        if self.is_cut:
            raise InvalidText(len(self.whole) + 1)

    def last(self):
        return max(1, len(self.whole))


def read_schema(text):
    lines = Lines(text)
    reader = SchemaReader()
    lines.read_by(reader)
    if len(reader.kind_list) == 0:
        raise InvalidText(lines.last())
    return Schema(reader.kind_list, reader.field_rows, reader.flag_rows)


def read_walk(schema, text):
    check_schema(schema)
    lines = Lines(text)
    reader = WalkReader(schema)
    lines.read_by(reader)
    reader.close(0)
    if len(reader.find_list) == 0:
        raise InvalidText(lines.last())
    try:
        return Walk(schema, reader.find_list, reader.block_list)
    except TooMany:
        raise InvalidText(lines.last())


def read_plan(schema, text):
    check_schema(schema)
    lines = Lines(text)
    reader = PlanReader(schema)
    lines.read_by(reader)
    return reader.made


class SchemaReader:
    def __init__(self):
        self.kind_list = []
        self.field_rows = {}
        self.flag_rows = {}
        self._lists = {}

    def takes(self, line):
        """Takes over a line; False if the lines so far are not those with which a text can begin."""
        words = line.split(" ")
        if not all([is_name(word) for word in words]) or len(words) < 2:
            return False
        if words[0] == "kind":
            return self._takes_kind(words)
        if words[0] == "field":
            return self._takes_field(words)
        return words[0] == "flag" and self._takes_flag(words)

    def _takes_kind(self, words):
        if len(words) != 2 or len(self.kind_list) == MOST_KINDS or len(self.field_rows) + len(self.flag_rows) > 0:
            return False
        if len(self.kind_list) > 0 and words[1] <= self.kind_list[-1]:
            return False
        self.kind_list.append(words[1])
        return True

    def _takes_field(self, words):
        rest = words[4:]
        back = None
        # With list ahead of it, the word single can be a name.
        if len(rest) > 1 and rest[0] == "list":
            back, rest = rest[1], rest[2:]
        if len(words) < 4 or rest not in ([], ["single"]):
            return False
        _, name, kind, target = words[:4]
        if len(self.flag_rows) > 0 or not self._is_next(name, self.field_rows, MOST_FIELDS):
            return False
        if kind not in self.kind_list or target not in self.kind_list:
            return False
        if back is not None:
            if back == name or back in self.field_rows or back in self._lists:
                return False
            self._lists[back] = True
        self.field_rows[name] = (kind, target, back, len(rest) > 0)
        return True

    def _takes_flag(self, words):
        if len(words) != 3 or not self._is_next(words[1], self.flag_rows, MOST_FLAGS):
            return False
        if words[1] in self.field_rows or words[2] not in self.kind_list:
            return False
        self.flag_rows[words[1]] = words[2]
        return True

    def _is_next(self, name, table, most):
        """Whether there may be one more in the table, with this name, which stands behind all others."""
        return len(table) < most and name not in self._lists and all([name > other for other in table])


class PlanReader:
    def __init__(self, schema):
        self.made = Plan(schema)
        self._before = ""

    def takes(self, line):
        words = line.split(" ")
        if len(words) != 2 or words[0] <= self._before or words[1] not in ("along", "ahead"):
            return False
        link, word = words
        if not self.made.schema.has_link(link):
            return False
        self._before = link
        try:
            self.made[link] = word
        except WordRefused:
            return False
        return True


class OpenBody:
    """A block, find or statement whose body is being read."""

    def __init__(self, head, sight):
        self.head = head
        self.sight = sight
        self.steps_read = []


class WalkReader:
    def __init__(self, schema):
        self._schema = schema
        self.block_list = []
        self.find_list = []
        self._names = {}
        # The kinds of the blocks that stand ahead, whole.
        self._known = {}
        # What lies around the next line, from outside to inside.
        self._around = []

    def takes(self, line):
        bare = line.lstrip(" ")
        blanks = len(line) - len(bare)
        depth = blanks // 2
        if blanks != 2 * depth or depth > len(self._around):
            return False
        self.close(depth)
        words = tuple(bare.split(" "))
        return self._takes_head(words) if depth == 0 else self._takes_step(words)

    def close(self, depth):
        """Ends the bodies that do not lie around a line of this depth."""
        while len(self._around) > depth:
            done = self._around.pop()
            row = done.head + (tuple(done.steps_read),)
            if len(self._around) > 0:
                self._around[-1].steps_read.append(row)
            elif row[0] == "find":
                self.find_list.append(row)
            else:
                self.block_list.append(row)
                self._known[row[1]] = (row[2], None)

    def _takes_head(self, words):
        # A body is still to come, but no body is wrong.
        row = words + ((),)
        if words[0] == "find":
            if len(self.find_list) == MOST_FINDS or head_problem(self._schema, row, "find", self._names) is not None:
                return False
            self._names[words[1]] = True
            self._around.append(OpenBody(words, {words[1]: words[2]}))
            return True
        if len(self._names) > 0 or len(self.block_list) == MOST_BLOCKS:
            return False
        if head_problem(self._schema, row, "block", self._known) is not None:
            return False
        self._around.append(OpenBody(words, {words[3]: words[2]}))
        return True

    def _takes_step(self, words):
        outer = self._around[-1]
        is_call = words[0] == "call"
        step = words if is_call else words + ((),)
        links, flags = self._schema.link_rows, self._schema.flag_kinds
        if step_problem(links, flags, step, outer.sight, self._known) is not None:
            return False
        if is_call:
            outer.steps_read.append(step)
        elif words[0] == "if":
            self._around.append(OpenBody(words, outer.sight))
        else:
            self._around.append(OpenBody(words, {**outer.sight, words[3]: links[words[2]][1]}))
        return True
