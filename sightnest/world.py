"""The objects, their holders and their windows: what is kept from one call to the next."""

MOST_OBJECTS = 60

CONTAINER = 1
SUPPORTER = 2
ACTOR = 4
HINGED = 8
OPENED = 16
TRANSPARENT = 32
LUMINOUS = 64

IN = 1
ON = 2
HELD = 3
WORN = 4
PART = 5

NOBODY = 0


def loads(relation):
    """Whether an object in this relation counts toward the load of its holder."""
    return relation in (IN, ON, HELD)


class Thing:
    """One object. A place has the holder NOBODY and the relation 0."""

    def __init__(self, holder, relation, properties, bulk, capacity):
        self.holder = holder
        self.relation = relation
        self.properties = properties
        self.bulk = bulk
        self.capacity = capacity


class Window:
    """A window from its first place to its second one."""

    def __init__(self, first, second, kind):
        self.first = first
        self.second = second
        self.kind = kind


class World:
    """All objects, numbered from 1, and all windows in the order in which they were set."""

    def __init__(self):
        self.things = []
        self.windows = []

    def thing(self, n):
        """The object with the number n."""
        return self.things[n - 1]

    def numbers(self):
        """The numbers of all objects, in ascending order."""
        return list(range(1, len(self.things) + 1))

    def exists(self, n):
        """Whether there is an object with the number n."""
        return 1 <= n <= len(self.things)

    def is_full(self):
        """Whether no object can be added."""
        return len(self.things) >= MOST_OBJECTS

    def new_number(self, thing):
        """Takes the thing into the world and tells its number."""
        self.things.append(thing)
        return len(self.things)

    def has(self, n, quality):
        """Whether n has the property with this value."""
        return self.thing(n).properties & quality != 0

    def give(self, n, quality, wanted):
        """Lets n have the property with this value (wanted 1) or not (wanted 0)."""
        if self.has(n, quality) != (wanted == 1):
            changed = self.thing(n)
            changed.properties = changed.properties ^ quality

    def is_place(self, n):
        """Whether n is a place."""
        return self.thing(n).holder == NOBODY

    def is_box(self, n):
        """Whether n is a container and not a place: such a one has a wall."""
        return self.has(n, CONTAINER) and not self.is_place(n)

    def has_space(self, n):
        """Whether n is a place or a container: only these have a space."""
        return self.is_place(n) or self.has(n, CONTAINER)

    def ancestors(self, n):
        """The holder of n, the holder of its holder, and so on up to the place."""
        found = []
        holder = self.thing(n).holder
        while holder != NOBODY:
            found.append(holder)
            holder = self.thing(holder).holder
        return found

    def is_or_is_within(self, n, outer):
        """Whether n is the outer object or within it."""
        return n == outer or outer in self.ancestors(n)

    def can_hold(self, h, relation):
        """Whether h can be a holder in this relation."""
        if relation == IN:
            return self.has_space(h)
        if relation == ON:
            return self.has(h, SUPPORTER)
        if relation == HELD or relation == WORN:
            return self.has(h, ACTOR)
        return True

    def counts_toward(self, n, h):
        """Whether n counts toward the load of h."""
        return self.thing(n).holder == h and loads(self.thing(n).relation)

    def load(self, h):
        """The sum of the bulks that count toward the load of h."""
        return sum([self.thing(n).bulk for n in self.numbers() if self.counts_toward(n, h)])

    def bulk_exceeds(self, bulk, h, relation):
        """Whether one more object of this bulk would be too much for h."""
        if self.is_place(h) or not loads(relation):
            return False
        return self.load(h) + bulk > self.thing(h).capacity

    def exceeds(self, n, h, relation):
        """Whether n would be too much for h, counted once if h has it already."""
        if self.counts_toward(n, h):
            return False
        return self.bulk_exceeds(self.thing(n).bulk, h, relation)

    def move(self, n, h, relation):
        """Gives n the holder h in this relation."""
        moved = self.thing(n)
        moved.holder = h
        moved.relation = relation

    def replace_window(self, a, b, kind):
        """Removes the window between a and b, if any, and sets one of this kind, if it is not 0."""
        self.windows = [w for w in self.windows if (w.first, w.second) not in ((a, b), (b, a))]
        if kind != 0:
            self.windows.append(Window(a, b, kind))
