"""Worlds and calls, drawn from a source with a fixed seed."""

from asking import ACTOR, CONTAINER, FAR, HELD, HINGED, IN, LUMINOUS, ON, PART, SUPPORTER, WORN, check_proof


def drawn_object(draw, count):
    n = draw.randint(1, count)
    return n if draw.random() < 0.97 else draw.choice([0, count + 1, count + 1, 60, 61, -1, FAR, -FAR])


def drawn_properties(draw):
    return sum(2 ** bit for bit, share in enumerate((0.6, 0.4, 0.5, 0.5, 0.5, 0.3, 0.15)) if draw.random() < share)


def drawn_change(draw, count):
    """One of the calls 0 to 8 on a world of so many objects."""
    number = draw.choice([1, 2, 2, 3, 4, 5, 5, 6, 6, 6, 7, 7, 8, 8])
    objects = [drawn_object(draw, count) for _ in range(3)]
    if draw.random() < 0.02:
        return [0, draw.randint(-1, 2)]
    if number == 1:
        return [1, objects[0], draw.randint(0, 6) if draw.random() < 0.05 else draw.randint(1, 5),
                drawn_properties(draw), draw.randint(0, 4), draw.randint(0, 9)]
    if number == 2:
        return [2, objects[0], objects[1], draw.randint(1, 5)]
    if number == 3:
        return [3, objects[0], draw.choice([3, 3, 4, 4, 5, 6, 6, 2, 7]), draw.randint(0, 1)]
    if number == 4:
        return [4, draw.randint(1, 4), draw.randint(1, 4), draw.randint(0, 3)]
    if number in (5, 7):
        return [number] + objects[:2]
    if number == 6:
        return [6] + objects + [draw.randint(1, 2)]
    return [8] + objects[:2] + [draw.randint(0, 1)]


def drawn_question(draw, count):
    """One of the calls 9 to 19 on a world of so many objects."""
    number = draw.choice([9, 10, 11, 11, 11, 12, 13, 13, 14, 15, 16, 17, 17, 18, 19])
    objects = [drawn_object(draw, count) for _ in range(2)]
    if number == 12:
        lists = [drawn_list(draw, count) for _ in range(2)]
        return check_proof(*objects, draw.choice([0, 0, 0, 1, 1, 1, 2]), *lists)
    if number in (11, 17):
        return [number] + objects
    return [19] if number == 19 else [number] + objects[:1]


def drawn_list(draw, count):
    return [drawn_object(draw, count) for _ in range(draw.randint(0, 4))]


def changed_list(draw, numbers, count):
    """The list with one number more, fewer or another one, or otherwise changed a little."""
    place = draw.randint(0, len(numbers))
    number = draw.randint(1, min(60, count + 2))
    return draw.choice([
        numbers[:place] + [number] + numbers[place:],
        numbers[:place] + [number] + numbers[place + 1:],
        numbers[:place] + numbers[place + 1:],
        numbers[:place] + numbers[:place][-1:] + numbers[place:],
        numbers[place:] + numbers[:place],
        numbers[::-1],
        numbers[:place],
        [number],
        [],
    ])


def drawn_proof_call(draw, v, x, proof, count):
    """A call of check_proof with this proof as it is, or changed a little, or for the other answer."""
    answer, p, q = proof
    if draw.random() < 0.2:
        answer = 1 - answer
    if draw.random() < 0.2:
        p, q = q, p
    lists = [changed_list(draw, row, count) if draw.random() < 0.4 else row for row in (p, q)]
    return check_proof(v, x, answer, *lists)


def drawn_start(draw):
    """Some places and objects, the first ones of which are suitable holders of the later ones."""
    calls = [[0, draw.randint(0, 1)] for _ in range(draw.randint(1, 3))]
    places = len(calls)
    for _ in range(draw.randint(2, 8)):
        h = draw.randint(1, len(calls))
        relation = 1 if h <= places else draw.randint(1, 5)
        bulk = draw.randint(0, 4) if h <= places else draw.randint(0, 2)
        properties = drawn_properties(draw) | draw.choice([0, 4, 4, 7])
        calls.append([1, h, relation, properties, bulk, draw.randint(0, 12)])
    return calls


def drawn_town(draw, light=0.15, windows=12):
    """Many places with windows between them, with boxes, actors and lamps in them, in a drawn order."""
    places = draw.randint(4, 8)
    calls = [[0, int(draw.random() < light)] for _ in range(places)]
    holders = list(range(1, places + 1))
    for _ in range(draw.randint(4, 12)):
        kind = draw.choice([ACTOR, ACTOR, CONTAINER, CONTAINER, CONTAINER + ACTOR, 0])
        clear = draw.choice([0, 16, 16, 32, 32, 48]) if kind & CONTAINER else 0
        lamp = LUMINOUS if draw.random() < light / 2 else 0
        calls.append([1, draw.choice(holders), 1, kind + clear + lamp + draw.choice([0, HINGED]), 1, 1000])
        if kind & CONTAINER:
            holders += [len(calls)] * 2
    # A box may get a place with a greater number than its own.
    for n in range(places + 1, len(calls) + 1):
        if draw.random() < 0.4:
            calls.append([2, n, draw.randint(1, places), 1])
    for _ in range(draw.randint(0, windows)):
        calls.append([4, *draw.sample(range(1, places + 1), 2), draw.choice([1, 1, 2, 2, 3, 3, 3, 0])])
    return calls


def drawn_boxes(draw):
    """A few places with closed boxes in them, and objects in, on, held by, worn by and part of one another."""
    calls = [[0, draw.randint(0, 1)] for _ in range(draw.randint(1, 2))]
    kinds = [CONTAINER] * len(calls)
    for n in range(draw.randint(8, 10)):
        h = draw.randint(max(1, len(calls) - 4), len(calls))
        relations = [PART] + [IN] * 6 * (kinds[h - 1] & CONTAINER)
        if h > 2 and kinds[h - 1] & SUPPORTER:
            relations += [ON] * 3
        if kinds[h - 1] & ACTOR:
            relations += [HELD, HELD, HELD, WORN]
        if n < 3:
            kind = CONTAINER + draw.choice([0, HINGED, HINGED, SUPPORTER, HINGED + LUMINOUS])
        else:
            kind = drawn_properties(draw) | draw.choice([0, ACTOR])
        kinds.append(kind)
        calls.append([1, h, draw.choice(relations), kind, 1, draw.choice([2, 5, 50])])
    if draw.random() < 0.3:
        calls.append([4, 1, 2, draw.randint(1, 3)])
    return calls


def object_count(calls, told):
    """How many objects there are after these calls with these answers."""
    return len([call for call, answer in zip(calls, told) if call[0] in (0, 1) and answer[0] == 0])
