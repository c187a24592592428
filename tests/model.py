"""The same world once more, written for plainness alone: each call gathers all errors that apply.

It shares no code with the package, so that a slip in one of them shows as a difference.
"""

LIGHT, SIGHT, HANDS = "light", "sight", "hands"

NAMES = {
    0: "flag",
    1: "h relation properties bulk capacity",
    2: "n h relation",
    3: "n property flag",
    4: "a b kind",
    5: "v x",
    6: "v x h side",
    7: "v x",
    8: "v n flag",
    9: "n",
    10: "h",
    11: "v x",
    12: "v x answer p q",
    13: "h",
    14: "v",
    15: "v",
    16: "h",
    17: "a b",
    18: "n",
    19: "",
}

RANGES = {"flag": (0, 1), "relation": (1, 5), "side": (1, 2), "properties": (0, 127), "bulk": (0, 10 ** 6),
          "capacity": (0, 10 ** 6), "property": (3, 6), "kind": (0, 3), "answer": (0, 1)}


def taken_apart(call):
    """The arguments of the call, p and q as lists."""
    if call[0] != 12:
        return call[1:]
    p_end = 5 + call[4]
    return call[1:4] + [call[5:p_end], call[p_end + 1:]]


def in_range(name, value):
    if name in ("p", "q"):
        return len(value) <= 60 and all(1 <= number <= 60 for number in value)
    low, high = RANGES.get(name, (1, 60))
    return low <= value <= high


def behind_length(row):
    return [len(row)] + row


class Model:
    def __init__(self):
        self.holder = {}
        self.relation = {}
        self.bits = {}
        self.bulk = {}
        self.capacity = {}
        self.window = {}

    def call(self, call):
        arguments = taken_apart(call)
        pairs = list(zip(NAMES[call[0]].split(), arguments))
        if not all(in_range(name, value) for name, value in pairs):
            return [-1]
        if any(name in ("n", "h", "v", "x", "a", "b") and value not in self.holder for name, value in pairs):
            return [-2]
        if any(name == "v" and 2 not in self.bits[value] for name, value in pairs):
            return [-3]
        does = [self.add_place, self.add_object, self.move_object, self.set_property, self.set_window, self.take,
                self.put, self.drop, self.open_or_close, self.locate, self.list_contents, self.can_see,
                self.check_proof, self.is_lit, self.list_visible, self.list_reachable, self.get_load,
                self.compare_spaces, self.get_properties, self.list_windows][call[0]]
        errors, change, fields = does(*arguments)
        if errors:
            return [max(errors)]
        change()
        return [0] + fields()

    def new(self, holder, relation, properties, bulk, capacity):
        n = len(self.holder) + 1
        self.holder[n], self.relation[n] = holder, relation
        self.bits[n] = {bit for bit in range(7) if properties // 2 ** bit % 2 == 1}
        self.bulk[n], self.capacity[n] = bulk, capacity

    def give(self, n, holder, relation):
        self.holder[n], self.relation[n] = holder, relation

    def above(self, n):
        return [] if self.holder[n] == 0 else [self.holder[n]] + self.above(self.holder[n])

    def loading(self, h):
        return {n for n in self.holder if self.holder[n] == h and self.relation[n] in (1, 2, 3)}

    def too_much(self, n, h):
        if self.holder[h] == 0:
            return False
        return sum(self.bulk[m] for m in self.loading(h) | {n}) > self.capacity[h]

    def suits(self, h, relation):
        place = self.holder[h] == 0
        return {1: place or 0 in self.bits[h], 2: 1 in self.bits[h], 3: 2 in self.bits[h], 4: 2 in self.bits[h],
                5: True}[relation]

    def space(self, n):
        if self.holder[n] == 0:
            return n
        return self.holder[n] if self.relation[n] == 1 else self.space(self.holder[n])

    def met(self, n):
        return {self.space(n)} | ({n} if 0 in self.bits[n] and self.holder[n] != 0 else set())

    def passes(self, ray, s, t):
        for inner, outer in ((s, t), (t, s)):
            if self.holder[inner] != 0 and 0 in self.bits[inner] and self.space(inner) == outer:
                if 4 in self.bits[inner] or (5 in self.bits[inner] and ray != HANDS):
                    return True
        kind = self.window.get((s, t), 0)
        if kind == 2 or (kind in (1, 3) and ray != HANDS):
            return True
        kind = self.window.get((t, s), 0)
        return kind == 2 or (kind == 1 and ray != HANDS) or (kind == 3 and ray == LIGHT)

    def spaces(self):
        return {n for n in self.holder if self.holder[n] == 0 or 0 in self.bits[n]}

    def paths(self, ray, sources):
        found = set(sources)
        while True:
            more = {t for t in self.spaces() - found if any(self.passes(ray, s, t) for s in found)}
            if not more:
                return found
            found |= more

    def shining(self):
        return sorted({self.space(n) for n in self.holder if 6 in self.bits[n]})

    def visible(self, v):
        return self.paths(LIGHT, self.shining()) & self.paths(SIGHT, {self.space(v)})

    def sees(self, v, x):
        return bool(self.met(x) & self.visible(v))

    def carries(self, v, x):
        return x == v or (self.relation[x] in (2, 3, 4, 5) and self.carries(v, self.holder[x]))

    def reaches(self, v, x):
        return bool(self.met(x) & self.paths(HANDS, {self.space(v)})) and (self.carries(v, x) or self.sees(v, x))

    @staticmethod
    def errors(*pairs):
        return [code for code, applies in pairs if applies]

    def add_place(self, flag):
        return (self.errors((-7, len(self.holder) == 60)), lambda: self.new(0, 0, 64 * flag, 0, 0),
                lambda: [len(self.holder)])

    def add_object(self, h, relation, properties, bulk, capacity):
        load = sum(self.bulk[n] for n in self.loading(h))
        errors = self.errors(
            (-6, relation <= 3 and self.holder[h] != 0 and load + bulk > self.capacity[h]),
            (-7, len(self.holder) == 60),
            (-9, not self.suits(h, relation)))
        return errors, lambda: self.new(h, relation, properties, bulk, capacity), lambda: [len(self.holder)]

    def move_object(self, n, h, relation):
        errors = self.errors(
            (-5, self.holder[n] == 0 or h == n or n in self.above(h)),
            (-6, relation <= 3 and self.too_much(n, h)),
            (-9, not self.suits(h, relation)))
        return errors, lambda: self.give(n, h, relation), lambda: []

    def set_bit(self, n, bit, flag):
        self.bits[n] = self.bits[n] | {bit} if flag == 1 else self.bits[n] - {bit}

    def set_property(self, n, bit, flag):
        return self.errors((-9, self.holder[n] == 0 and bit != 6)), lambda: self.set_bit(n, bit, flag), lambda: []

    def set_pane(self, a, b, kind):
        self.window.pop((b, a), None)
        self.window.pop((a, b), None)
        if kind:
            self.window[(a, b)] = kind

    def set_window(self, a, b, kind):
        errors = self.errors((-5, a == b), (-9, self.holder[a] != 0 or self.holder[b] != 0))
        return errors, lambda: self.set_pane(a, b, kind), lambda: []

    def take(self, v, x):
        errors = self.errors(
            (-4, not self.reaches(v, x)),
            (-5, self.holder[x] == 0 or x == v or x in self.above(v)),
            (-6, self.too_much(x, v)),
            (-8, self.relation[x] == 5 or (self.relation[x] in (3, 4) and self.holder[x] != v)))
        return errors, lambda: self.give(x, v, 3), lambda: []

    def put(self, v, x, h, relation):
        errors = self.errors(
            (-4, not self.reaches(v, h)),
            (-5, h == x or x in self.above(h)),
            (-6, self.too_much(x, h)),
            (-8, self.holder[x] != v or self.relation[x] != 3),
            (-9, not self.suits(h, relation)),
            (-9, relation == 1 and h not in self.paths(HANDS, {self.space(v)})))
        return errors, lambda: self.give(x, h, relation), lambda: []

    def landing(self, n):
        if self.holder[n] == 0:
            return n, 1
        return (self.holder[n], self.relation[n]) if self.relation[n] in (1, 2) else self.landing(self.holder[n])

    def drop(self, v, x):
        h, relation = self.landing(v)
        errors = self.errors((-6, self.too_much(x, h)), (-8, self.holder[x] != v or self.relation[x] != 3))
        return errors, lambda: self.give(x, h, relation), lambda: [h, relation]

    def open_or_close(self, v, n, flag):
        errors = self.errors(
            (-4, not self.reaches(v, n)),
            (-9, 3 not in self.bits[n]),
            (-10, (4 in self.bits[n]) == (flag == 1)))
        return errors, lambda: self.set_bit(n, 4, flag), lambda: []

    @staticmethod
    def told(fields):
        return [], lambda: None, lambda: fields

    def locate(self, n):
        return self.told([self.holder[n], self.relation[n], self.space(n)] + self.above(n))

    def list_contents(self, h):
        return self.told([field for n in self.holder if self.holder[n] == h for field in (n, self.relation[n])])

    def levels(self, ray, sources):
        levels = [list(sources)]
        while levels[-1]:
            known = {space for level in levels for space in level}
            levels.append([t for t in sorted(self.spaces() - known)
                           if any(self.passes(ray, s, t) for s in levels[-1])])
        return levels[:-1]

    def spread(self, ray, sources):
        return [space for level in self.levels(ray, sources) for space in level]

    def canonical(self, ray, levels, goal):
        if goal in levels[-1]:
            if len(levels) == 1:
                return [goal]
            before = next(space for space in levels[-2] if self.passes(ray, space, goal))
            return self.canonical(ray, levels[:-1], before) + [goal]
        return self.canonical(ray, levels[:-1], goal)

    def proof(self, v, x):
        met = [self.space(x)] + sorted(self.met(x) - {self.space(x)})
        here = [self.space(v)]
        visible = self.visible(v)
        for space in met:
            if space in visible:
                return 1, self.canonical(SIGHT, self.levels(SIGHT, here), space), self.light(space)
        before = self.spread(SIGHT, here)
        return 0, before, self.spread(LIGHT, [space for space in met if space in before])

    def light(self, space):
        return self.canonical(LIGHT, self.levels(LIGHT, self.shining()), space)

    def can_see(self, v, x):
        sees, p, q = self.proof(v, x)
        return self.told([sees] + behind_length(p) + behind_length(q))

    def links(self, ray, number):
        return {t for t in self.holder if number in self.holder and self.passes(ray, number, t)}

    def accepted(self, v, x, p, q):
        return (p[:1] == [self.space(v)] and q[:1] != [] and q[0] in self.shining() and p[-1] == q[-1]
                and p[-1] in self.met(x)
                and all(t in self.links(SIGHT, s) for s, t in zip(p, p[1:]))
                and all(t in self.links(LIGHT, s) for s, t in zip(q, q[1:])))

    def accepted_against(self, v, x, p, q):
        return (self.space(v) in p and all(self.links(SIGHT, s) <= set(p) for s in p)
                and all(self.links(LIGHT, s) <= set(q) for s in q) and self.met(x) & set(p) <= set(q)
                and not set(self.shining()) & set(q))

    def check_proof(self, v, x, answer, p, q):
        check = self.accepted if answer == 1 else self.accepted_against
        return self.told([int(check(v, x, p, q))])

    def is_lit(self, h):
        errors = self.errors((-9, self.holder[h] != 0 and 0 not in self.bits[h]))
        lit = h in self.paths(LIGHT, self.shining())
        return errors, lambda: None, lambda: [1] + self.light(h) if lit else [0]

    def list_visible(self, v):
        visible = self.visible(v)
        return self.told([x for x in self.holder if self.met(x) & visible])

    def list_reachable(self, v):
        near, visible = self.paths(HANDS, {self.space(v)}), self.visible(v)
        return self.told([x for x in self.holder
                          if self.met(x) & near and (self.carries(v, x) or self.met(x) & visible)])

    def get_load(self, h):
        within = [n for n in self.holder if h in self.above(n)]
        return self.told([sum(self.bulk[n] for n in self.loading(h)), self.capacity[h], len(within),
                          sum(self.bulk[n] for n in within)])

    def enclosing(self, n):
        space = self.space(n)
        return [space] if self.holder[space] == 0 else [space] + self.enclosing(space)

    def compare_spaces(self, a, b):
        first, second = self.enclosing(a), self.enclosing(b)
        # Two lists with a common space go on alike from there.
        return self.told([int(first[-1] == second[-1])] + behind_length([s for s in first if s not in second])
                         + behind_length([s for s in second if s not in first]))

    def get_properties(self, n):
        return self.told([sum(2 ** bit for bit in self.bits[n]), self.bulk[n], self.capacity[n]])

    def list_windows(self):
        return self.told([field for (a, b), kind in self.window.items() for field in (a, b, kind)])
