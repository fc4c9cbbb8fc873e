"""Plans made at random, and what happens on their rows, counted sign by sign."""

import itertools

from test_pieces import FLUSH
from windowcuts.counts import unsound
from windowcuts.pieces import Piece
from windowcuts.plans import Plan


def raised(test, kind, call, *arguments):
    with test.assertRaises(kind) as caught:
        call(*arguments)
    test.assertIs(type(caught.exception), kind)
    return caught.exception


def made_piece(chance, width, signs="ab", most=4):
    """A piece of a few tokens with distances of at most the width."""
    tokens = []
    for _ in range(chance.randint(1, most)):
        kind = chance.choice(["text", "any", "copy", "copy", "copy", "say", "flush"])
        if kind == "text":
            tokens.append(("text", "".join(chance.choice(signs) for _ in range(chance.randint(1, 2)))))
        elif kind == "any":
            choice = "".join(sign for sign in signs if chance.random() < 0.6) or chance.choice(signs)
            tokens.append(("any", choice))
        elif kind == "flush":
            tokens.append(FLUSH)
        else:
            tokens.append((kind, chance.randint(1, width), chance.randint(1, 3)))
    if all(token == FLUSH for token in tokens):
        tokens.append(("text", chance.choice(signs)))
    return Piece(signs, tokens)


def made_plan(chance, states="stu", edges="abcd", width=3, signs="ab", most=4, onward=False, filled=False):
    """Any plan, sound or not.

    One that leads onward has no rings; one that is filled writes as many signs as its width first.
    """
    made = {}
    if filled:
        first = [("hole", signs) if chance.random() < 0.7 else ("sign", chance.choice(signs)) for _ in range(width)]
        made["in"] = ("begin", states[0], Piece.of_places(signs, first, []))
    linked = chance.random() < 0.6
    for at, name in enumerate(edges):
        ends = [chance.choice(states), chance.choice(states)]
        if linked and at < len(states):
            ends = [states[at], states[(at + 1) % len(states)]]
        if onward:
            ends = sorted(chance.sample(states, 2), key=states.index)
        made[name] = (*ends, made_piece(chance, width, signs, most))
    return Plan(signs, width, "begin" if filled else states[0], made)


def made_sound(chance, **how):
    """A sound plan: what could be refused is told as a text."""
    plan = made_plan(chance, **how)
    while unsound(plan):
        edge, index = unsound(plan)[0]
        source, target, piece = plan[edge]
        places = piece.places()
        places[index] = ("sign", chance.choice(plan.signs))
        plan = plan.changed(edge, source, target, Piece.of_places(plan.signs, places, piece.flushes()))
    return plan


def one_line(*pieces, width=3, signs="ab"):
    """A plan with one row of these lists of tokens, and this row."""
    states = "stuvwxyz"
    edges = {}
    for at, tokens in enumerate(pieces):
        edges["abcdefg"[at]] = (states[at], states[at + 1], Piece(signs, tokens))
    return Plan(signs, width, "s", edges), list(edges)


def loops(width, signs="ab", **pieces):
    """A plan of rings from its start to its start."""
    return Plan(signs, width, "s", {name: ("s", "s", Piece(signs, tokens)) for name, tokens in pieces.items()})


def fills(choices):
    return [list(fill) for fill in itertools.product(*choices)]


def added(piece, fill, width, tail, kept):
    """What stands in the window, and how much of it is kept, behind a piece; None where it is refused."""
    left = list(fill)
    for token in piece.tokens():
        kind = token[0]
        if kind == "flush":
            kept = 0
            continue
        many = {"text": 1, "any": 1}.get(kind) or token[2]
        for sign in token[1] if kind == "text" else [None] * many:
            if kind == "any":
                sign = left.pop(0)
            elif kind in ("copy", "say"):
                if token[1] > (kept if kind == "copy" else len(tail)):
                    return None
                sign = tail[-token[1]]
            tail = (tail + sign)[-width:]
            kept = min(kept + 1, width)
    return tail, kept


def worlds(plan, limit=4000):
    """All tuples (state, window, number of kept signs) behind rows that are not refused, with a row and a fill.

    They come with the fewest edges first; a plan with too many of them gives None.
    """
    first = (plan.start, "", 0)
    found = {first: ([], [])}
    queue = [first]
    for state, tail, kept in queue:
        row, fill = found[state, tail, kept]
        for edge in plan.out(state):
            _, target, piece = plan[edge]
            for more in fills(piece.holes()):
                behind = added(piece, more, plan.width, tail, kept)
                if behind is not None and (target, *behind) not in found:
                    found[(target, *behind)] = (row + [edge], fill + more)
                    queue.append((target, *behind))
        if len(found) > limit:
            return None
    return found


def hung(piece, width, slots):
    """The places of a piece that are copies of any of these slots, and the slots behind it that are."""
    line = [slot in slots for slot in range(width, 0, -1)]
    found = []
    for index, (kind, told) in enumerate(piece.places()):
        line.append(kind == "copy" and line[-told])
        if line[-1]:
            found.append(index)
    return found, frozenset(slot for slot in range(1, width + 1) if line[-slot])


def hangings(plan, mark):
    """All tuples (state, set of slots) on paths from a mark, each with its list of (edge, places, node behind)."""
    first = (mark[0], frozenset([mark[1]]))
    found = {first: None}
    queue = [first]
    for node in queue:
        found[node] = []
        for edge in plan.out(node[0]):
            places, slots = hung(plan[edge][2], plan.width, node[1])
            behind = (plan[edge][1], slots)
            found[node].append((edge, places, behind))
            if behind not in found:
                found[behind] = None
                queue.append(behind)
    return found


def along(plan, edge, node):
    """The tuples (kept, written) ahead of each place of an edge, and behind it, counted sign by sign."""
    _, kept, written = node
    told = []
    for token in plan[edge][2].tokens():
        if token[0] == "flush":
            kept = 0
        many = {"text": lambda: len(token[1]), "any": lambda: 1, "flush": lambda: 0}.get(token[0], lambda: token[2])()
        for _ in range(many):
            told.append((kept, written))
            kept, written = min(kept + 1, plan.width), min(written + 1, plan.width)
    return told + [(kept, written)]


def went_on(piece, fill, width, tail, kept):
    """The writer's window, what the reader keeps, and the places they write unlike signs at; None for a refusal."""
    left = list(fill)
    index = 0
    unlike = []
    for token in piece.tokens():
        kind = token[0]
        if kind == "flush":
            kept = ""
            continue
        for sign in token[1] if kind == "text" else [None] * (1 if kind == "any" else token[2]):
            read = sign
            if kind == "any":
                sign = read = left.pop(0)
            elif kind == "say":
                sign = read = tail[-token[1]]
            elif kind == "copy":
                if token[1] > len(kept):
                    return None
                sign, read = tail[-token[1]], kept[-token[1]]
            if sign != read:
                unlike.append(index)
            tail, kept = (tail + sign)[-width:], (kept + read)[-width:]
            index += 1
    return tail, kept, unlike


def sixteen(kind, signs="abcdef", width=12):
    """A sound plan with sixteen edges in rings, whose pieces behind the first one have forty signs, or 39 that are fixed."""
    first = [("text", "abcabcabcabc")] if kind == "fixed" else [("any", signs)] * width
    edges = {"in": ("s", "a", Piece(signs, first))}
    for at, name in enumerate("abcdefghijklmno"):
        if kind == "fixed":
            tokens = [("copy", 3 * (1 + (at + k) % 4), 1) for k in range(39)]
        elif kind == "any":
            tokens = [[("copy", 1 + (at * k) % width, 1), ("any", signs), ("say", 1 + (at + k) % width, 1)][k % 3] for k in range(40)]
        else:
            tokens = [("copy", width - (at + k * k) % width, 1) for k in range(40)]
        edges[name] = ("abcde"[at % 5], "abcde"[(at + at // 5 + 1) % 5], Piece(signs, tokens))
    return Plan(signs, width, "s", edges)


def turned(plan):
    """An equal plan whose edges are handed in the other way round."""
    edges = plan.edges()
    return Plan(plan.signs, plan.width, plan.start, {name: edges[name] for name in list(edges)[::-1]})


def parts_of(thing):
    """All lists and dicts within what a function has returned."""
    found = [thing] if isinstance(thing, (list, dict)) else []
    for part in list(thing.values()) if isinstance(thing, dict) else thing if isinstance(thing, (list, tuple)) else []:
        found += parts_of(part)
    return found


def check_new(test, call):
    """Two calls give equal results whose lists are new, none of them standing there twice; one result is returned."""
    first, second, third = call(), call(), call()
    test.assertEqual(first, second)
    lists = parts_of(first) + parts_of(second)
    test.assertEqual(len({id(one) for one in lists}), len(lists))
    for one in parts_of(first):
        one.clear()
    test.assertEqual(call(), third)
    test.assertEqual(second, third)
    return third
