"""The requirements at the end of the document, points 1 to 6, over drawn worlds."""

import itertools
import random
import unittest

from asking import ACTOR, CONTAINER, IN, LUMINOUS, OPEN, TRANSPARENT, add_object, add_place, ask, ask_on, can_see
from asking import check_proof, compare_spaces, get_load, get_properties, is_lit, list_contents, list_reachable
from asking import list_visible, locate, open_or_close, set_property, set_window, state
from drawing import changed_list, drawn_boxes, drawn_change, drawn_question, drawn_start, drawn_town, object_count

LIGHT, SIGHT, HANDS = "light", "sight", "hands"


class Snapshot:
    """What a world answers of all its objects; the answers of those that don't exist are left out."""

    @staticmethod
    def calls(count):
        return [ask_for(n) for n in range(1, count + 1)
                for ask_for in (locate, get_properties, list_visible, list_reachable)]

    def __init__(self, told):
        rows = {n: told[at:at + 4] for n, at in enumerate(range(0, len(told), 4), 1) if told[at][0] == 0}
        self.holder = {n: row[0][1] for n, row in rows.items()}
        self.space = {n: row[0][3] for n, row in rows.items()}
        self.properties = {n: row[1][1] for n, row in rows.items()}
        self.seen = {n: set(row[2][1:]) for n, row in rows.items() if row[2][0] == 0}
        self.reached = {n: set(row[3][1:]) for n, row in rows.items() if row[3][0] == 0}

    def is_box(self, n):
        return self.holder[n] != 0 and self.properties[n] & CONTAINER != 0

    def passes(self, n, ray):
        clear = OPEN if ray == HANDS else OPEN + TRANSPARENT
        return self.properties[n] & clear != 0

    def enclosing(self, n):
        space = self.space[n]
        return [space] if self.holder[space] == 0 else [space] + self.enclosing(space)


def snapshots(world, changes, count):
    """The answers of the changes, and the snapshots ahead of the first, between them, and behind the last one."""
    look = Snapshot.calls(count)
    told = ask(*world, *look, *[call for change in changes for call in [change] + look])[len(world):]
    size = len(look) + 1
    parts = [[None] + told[:len(look)]] + [told[at:at + size] for at in range(len(look), len(told), size)]
    return [part[0] for part in parts[1:]], [Snapshot(part[1:]) for part in parts]


def without_failed(world, calls):
    """Those of the calls that succeed on the world, one behind another."""
    return [call for call, answer in zip(calls, ask(*world, *calls)[len(world):]) if answer[0] == 0]


class ForestTest(unittest.TestCase):
    """Point 1."""

    def test_the_objects_form_a_forest_and_no_load_exceeds_its_capacity(self):
        for seed in range(400, 500):
            draw = random.Random(seed)
            calls = drawn_start(draw)
            calls += [drawn_change(draw, 12) for _ in range(draw.randint(20, 160))]
            told = ask(*calls)
            count = object_count(calls, told)
            made = [call for call, answer in zip(calls, told) if call[0] in (0, 1) and answer[0] == 0]
            numbers = range(1, count + 1)
            found = ask_on(calls, [locate(n) for n in numbers])
            with self.subTest(seed=seed):
                self.check_forest(found)
                self.check_contents(found, ask_on(calls, [list_contents(n) for n in numbers]))
                self.check_loads(made, found, ask_on(calls, [get_load(n) for n in numbers]))

    def check_forest(self, found):
        for n, answer in enumerate(found, 1):
            above = answer[4:]
            self.assertEqual(len(set(above + [n])), len(above) + 1)
            self.assertEqual(above[:1], [answer[1]] if answer[1] else [])
            self.assertEqual(found[(above or [n])[-1] - 1][1], 0)
            if above:
                self.assertEqual(above[1:], found[above[0] - 1][4:])

    def check_contents(self, found, contents):
        for h, answer in enumerate(contents, 1):
            held = [(n, row[2]) for n, row in enumerate(found, 1) if row[1] == h]
            self.assertEqual(answer, [0] + [field for pair in held for field in pair])

    def check_loads(self, made, found, loads):
        bulks = [0 if call[0] == 0 else call[4] for call in made]
        for h, (call, load) in enumerate(zip(made, loads), 1):
            counted = [bulk for bulk, row in zip(bulks, found) if row[1] == h and row[2] in (1, 2, 3)]
            within = [bulk for bulk, row in zip(bulks, found) if h in row[4:]]
            capacity = 0 if call[0] == 0 else call[5]
            self.assertEqual(load, [0, sum(counted), capacity, len(within), sum(within)])
            if call[0] == 1:
                self.assertLessEqual(load[1], capacity)


class ProofTest(unittest.TestCase):
    """Point 2."""

    def proofs(self, world):
        """Each actor and each object of the world, with the generated proof."""
        count = object_count(world, ask(*world))
        actors = [v for v, told in enumerate(ask_on(world, [list_visible(n) for n in range(1, count + 1)]), 1)
                  if told[0] == 0]
        pairs = [(v, x) for v in actors for x in range(1, count + 1)]
        found = []
        for (v, x), told in zip(pairs, ask_on(world, [can_see(v, x) for v, x in pairs])):
            end = 3 + told[2]
            self.assertEqual(len(told), end + 1 + told[end])
            found.append((v, x, told[1], told[3:end], told[end + 1:]))
        return found

    def drawn_worlds(self, first, count):
        for seed in range(first, first + count):
            draw = random.Random(seed)
            if seed % 2 == 0:
                yield draw, drawn_town(draw, 0.25)
            else:
                start = drawn_start(draw)
                yield draw, start + without_failed(start, [drawn_change(draw, 10) for _ in range(40)])

    def test_each_generated_proof_is_accepted_and_none_for_the_other_answer(self):
        kinds = set()
        for draw, world in self.drawn_worlds(0, 80):
            proofs = self.proofs(world)
            kinds |= {(sees, bool(q)) for v, x, sees, p, q in proofs}
            accepted = ask_on(world, [check_proof(*proof) for proof in proofs])
            self.assertEqual(accepted, [[0, 1]] * len(proofs), world)
            other = ask_on(world, [check_proof(v, x, 1 - sees, p, q) for v, x, sees, p, q in proofs])
            self.assertEqual(other, [[0, 0]] * len(proofs), world)
        self.assertEqual(kinds, {(0, False), (0, True), (1, True)})

    def test_no_changed_proof_is_accepted_for_a_wrong_answer(self):
        for draw, world in self.drawn_worlds(1000, 80):
            count = object_count(world, ask(*world))
            proofs = self.proofs(world)
            lists = [row for proof in proofs for row in proof[3:]] + [[], list(range(1, count + 1))]
            wrong = []
            for v, x, sees, p, q in proofs:
                for first, second in ((p, q), (draw.choice(lists), draw.choice(lists)), (p, draw.choice(lists))):
                    wrong.append(check_proof(v, x, 1 - sees, first, second))
                    changed = [changed_list(draw, row, count) if draw.random() < 0.6 else row
                               for row in (first, second)]
                    wrong.append(check_proof(v, x, 1 - sees, *changed))
            self.assertEqual(ask_on(world, wrong), [[0, 0]] * len(wrong), world)

    def test_the_answer_is_that_of_list_visible(self):
        for draw, world in self.drawn_worlds(2000, 60):
            proofs = self.proofs(world)
            for v in sorted({proof[0] for proof in proofs}):
                seen = [x for actor, x, sees, p, q in proofs if actor == v and sees == 1]
                self.assertEqual(ask(*world, list_visible(v))[-1], [0] + seen, world)

    def test_all_short_lists(self):
        rows = [list(row) for length in range(4) for row in itertools.product((1, 2, 3), repeat=length)]
        rows += [[4], [1, 4], [1, 2, 3, 4], [60]]
        for light, clear, kind, home in itertools.product((0, 1), (0, TRANSPARENT), (0, 3), (1, 2, 3)):
            world = [add_place(light), add_place(0), add_object(1, IN, CONTAINER + clear), add_object(home, IN, ACTOR)]
            if kind:
                world.append(set_window(1, 2, kind))
            for x in (1, 3, 4):
                sees = ask(*world, can_see(4, x))[-1][1]
                told = ask_on(world, [check_proof(4, x, 1 - sees, p, q) for p in rows for q in rows])
                self.assertNotIn([0, 1], told, (world, x))


class MoreTest(unittest.TestCase):
    """Point 3."""

    def drawn_addition(self, draw, world, count):
        kind = draw.choice([OPEN, OPEN, TRANSPARENT, LUMINOUS, "window", "window", "hands"])
        if kind == "window":
            places = [n for n, call in enumerate(world, 1) if call[0] == 0]
            pairs = [set(call[1:3]) for call in world if call[0] == 4]
            free = [[a, b] for a in places for b in places if a != b and {a, b} not in pairs]
            return set_window(*draw.choice(free), draw.randint(1, 3)) if free else []
        if kind == "hands":
            return open_or_close(draw.randint(1, count), draw.randint(1, count), 1)
        return set_property(draw.randint(1, count), {OPEN: 4, TRANSPARENT: 5, LUMINOUS: 6}[kind], 1)

    def test_nothing_is_hidden_or_made_unreachable(self):
        more_seen = more_reached = 0
        for seed in range(250):
            draw = random.Random(seed)
            world = drawn_town(draw, 0.3, 4) if seed % 2 else drawn_start(draw)
            count = object_count(world, ask(*world))
            additions = []
            for _ in range(12):
                addition = self.drawn_addition(draw, world + additions, count)
                additions += without_failed(world + additions, [addition]) if addition else []
            told, found = snapshots(world, additions[:3], count)
            for change, before, after in zip(additions, found, found[1:]):
                for v in before.seen:
                    with self.subTest(seed=seed, change=change, v=v):
                        self.assertLessEqual(before.seen[v], after.seen[v])
                        self.assertLessEqual(before.reached[v], after.reached[v])
                    more_seen += before.seen[v] != after.seen[v]
                    more_reached += before.reached[v] != after.reached[v]
        self.assertGreater(min(more_seen, more_reached), 50)


class ClosedBoxTest(unittest.TestCase):
    """Point 4."""

    @staticmethod
    def touched(change, answer):
        """The objects that the change moves or changes; the holder that it gives, if any, and the relation."""
        number = change[0]
        if number == 1:
            # The new object is where its holder lets it be.
            return [], change[1], change[2]
        if number == 2:
            return [change[1]], change[2], change[3]
        if number == 5:
            return [change[2]], change[1], 3
        if number == 6:
            return [change[2]], change[3], change[4]
        if number == 7:
            return [change[2]], answer[1], answer[2]
        return [change[1] if number == 3 else change[2]], None, None

    def same(self, before, after, side):
        """The actors on this side of the wall see and reach the same objects on this side."""
        for v in side & set(before.seen):
            self.assertEqual(before.seen[v] & side, after.seen[v] & side)
            self.assertEqual(before.reached[v] & side, after.reached[v] & side)

    def check(self, box, change, answer, before, after):
        moved, holder, relation = self.touched(change, answer)
        inside = {n for n in before.space if box in before.enclosing(n)}
        outside = set(before.space) - inside
        if set(moved) <= inside and (holder is None or holder in inside or (holder == box and relation == 1)):
            self.same(before, after, outside)
            return "inside"
        if not (set(moved) | {holder}) & (inside | {box}):
            self.same(before, after, inside)
            return "outside"
        return "both"

    def test_nothing_passes_the_wall_of_a_closed_box(self):
        cases = []
        for seed in range(300):
            draw = random.Random(seed)
            world = drawn_boxes(draw)
            count = object_count(world, ask(*world))
            drawn = [drawn_change(draw, count) for _ in range(400)]
            # What actors do succeeds seldom, so there must be more of it.
            drawn = [call for call in drawn if call[0] >= 5 or (call[0] in (1, 2, 3) and draw.random() < 0.1)]
            changes = without_failed(world, drawn[:300])[:4]
            told, found = snapshots(world, changes, count + 4)
            for change, answer, before, after in zip(changes, told, found, found[1:]):
                self.assertEqual(answer[0], 0)
                for box in before.holder:
                    if before.is_box(box) and not before.passes(box, SIGHT):
                        with self.subTest(seed=seed, change=change, box=box):
                            cases.append((change[0], self.check(box, change, answer, before, after)))
        # The draws are of use only as long as they come upon each change on either side.
        for number in (1, 2, 3, 5, 6, 7, 8):
            for side in ("inside", "outside"):
                self.assertGreater(cases.count((number, side)), 0, (number, side))


class WallsTest(unittest.TestCase):
    """Point 5."""

    def drawn_worlds(self, first, count, light):
        for seed in range(first, first + count):
            draw = random.Random(seed)
            world = drawn_town(draw, light, 0)
            objects = object_count(world, ask(*world))
            yield seed, draw, world, objects, snapshots(world, [], objects)[1][0]

    def expected(self, world, objects, found, ray):
        """For each two objects whether the ray passes between their spaces, as point 5 says it."""
        pairs = [(a, b) for a in range(1, objects + 1) for b in range(1, objects + 1)]
        passing = {}
        for pair, told in zip(pairs, ask_on(world, [compare_spaces(a, b) for a, b in pairs])):
            walls = told[3:3 + told[2]] + told[4 + told[2]:]
            passing[pair] = told[1] == 1 and all(found.passes(n, ray) for n in walls)
        return passing

    def test_sight_and_light_from_actors(self):
        for seed, draw, world, objects, found in self.drawn_worlds(0, 40, 0):
            sight = self.expected(world, objects, found, SIGHT)
            light = self.expected(world, objects, found, LIGHT)
            for v in found.seen:
                told = ask(*world, can_see(v, v))[-1]
                p, q = told[3:3 + told[2]], told[4 + told[2]:]
                for x in found.space:
                    with self.subTest(seed=seed, v=v, x=x):
                        self.assertEqual(found.space[x] in p, sight[v, x])
                        self.assertEqual(found.space[x] in q, light[v, x])

    def test_light_from_each_object(self):
        for seed, draw, world, objects, found in self.drawn_worlds(100, 40, 0):
            light = self.expected(world, objects, found, LIGHT)
            for n in found.space:
                told = ask(*world, set_property(n, 6, 1), *[is_lit(found.space[x]) for x in found.space])
                lit = [answer[1] == 1 for answer in told[len(world) + 1:]]
                self.assertEqual(lit, [light[n, x] for x in found.space], (seed, n))

    def test_hands(self):
        for seed, draw, world, objects, found in self.drawn_worlds(200, 60, 0):
            hands = self.expected(world, objects, found, HANDS)
            # Everything shines: only hands tell what is reached.
            shining = world + [set_property(n, 6, 1) for n in found.space]
            for v in found.seen:
                reached = ask(*shining, list_reachable(v))[-1][1:]
                for x in found.space:
                    if not found.is_box(x):
                        with self.subTest(seed=seed, v=v, x=x):
                            self.assertEqual(x in reached, hands[v, x])


class FailedCallTest(unittest.TestCase):
    """Point 6."""

    def test_a_list_without_its_failed_calls_answers_the_same(self):
        for seed in range(250, 400):
            draw = random.Random(seed)
            calls = drawn_start(draw)
            calls += [(drawn_change if draw.random() < 0.7 else drawn_question)(draw, 10) for _ in range(200)]
            told = ask(*calls)
            done = [call for call, answer in zip(calls, told) if answer[0] == 0]
            self.assertEqual(ask(*done), [answer for answer in told if answer[0] == 0], f"seed {seed}")

    def test_the_state_of_the_world_is_the_same_after_a_failed_call(self):
        failed = 0
        for seed in range(500, 600):
            draw = random.Random(seed)
            world = drawn_start(draw)
            count = object_count(world, ask(*world))
            look = state(count) + [ask_for(n) for n in range(1, count + 1)
                                   for ask_for in (list_visible, list_reachable)]
            changes = [drawn_change(draw, count) for _ in range(30)]
            answered = ask(*world, *changes)[len(world):]
            change = [call for call, answer in zip(changes, answered) if answer[0] < 0][-1:]
            told = ask(*world, *look, *change, *look)[len(world):]
            if len(told) > 2 * len(look) and told[len(look)][0] < 0:
                failed += 1
                self.assertEqual(told[:len(look)], told[len(look) + 1:], f"seed {seed}")
        self.assertGreater(failed, 50)

    def test_no_question_changes_the_world(self):
        for seed in range(700, 800):
            draw = random.Random(seed)
            world = drawn_town(draw, 0.3)
            count = object_count(world, ask(*world))
            look = state(count)
            questions = [drawn_question(draw, count) for _ in range(60)]
            told = ask(*world, *look, *questions, *look)[len(world):]
            self.assertEqual(told[:len(look)], told[-len(look):], f"seed {seed}")
