import random
import unittest

from making import hangings, hung, loops, made_plan, made_sound, one_line, raised
from oddities import ODD, but
from test_pieces import FLUSH
from windowcuts.counts import unsound
from windowcuts.damage import Damage, lost_marks, state_marks
from windowcuts.errors import Short, Unknown, Unreached, Unsound
from windowcuts.pieces import Piece
from windowcuts.plans import Plan
from windowcuts.reading import Reader
from windowcuts.rows import holes, is_row, stream
from windowcuts.tokens import size

A = Piece("ab", [("text", "a")])


def counted(plan, mark):
    """The hanging slots, the spoilt places and the greatest number (or None) for one mark, by all paths."""
    nodes = hangings(plan, mark)
    slots = {(state, slot) for state, many in nodes for slot in many}
    places = {(edge, index) for leads in nodes.values() for edge, indexes, _ in leads for index in indexes}
    numbers = {node: 0 for node in nodes if not node[1]}
    while True:
        ready = [node for node in nodes if node not in numbers and all(lead[2] in numbers for lead in nodes[node])]
        if not ready:
            break
        for node in ready:
            numbers[node] = max([0] + [number for lead in nodes[node] for number in late(plan, lead, numbers)])
    return slots, places, numbers.get((mark[0], frozenset([mark[1]])))


def late(plan, lead, numbers):
    edge, indexes, behind = lead
    return [index + 1 for index in indexes] + [len(plan[edge][2]) + numbers[behind]] * (numbers[behind] > 0)


def all_marks(plan):
    return [(state, slot) for state in plan.reached() for slot in range(1, plan.width + 1)]


def numbers_plainly(plan, marks, told):
    """Whether a list of tuples of the right form shows that nothing is spoilt later."""
    table = {told_one[:2]: told_one[2] for told_one in told}
    if len(table) < len(told) or not set(marks) <= set(table):
        return False
    for (state, slot), number in table.items():
        for edge in plan.out(state):
            _, target, piece = plan[edge]
            places, slots = hung(piece, plan.width, {slot})
            if any(index + 1 > number for index in places):
                return False
            for behind in slots:
                left = table.get((target, behind))
                if left is None or (left != 0 and left > number - len(piece)):
                    return False
    return True


class Marks(unittest.TestCase):
    plan = Plan("ab", 3, "s", {
        "a": ("s", "t", Piece("ab", [("text", "ab")])), "b": ("t", "u", Piece("ab", [("any", "ab"), FLUSH, ("text", "ab")])),
        "c": ("u", "s", Piece("ab", [("copy", 1, 40)])), "d": ("s", "u", A), "x": ("x", "y", A),
    })

    def test_lost_marks(self):
        for edge, marks in [
            ("a", [("t", 1), ("t", 2)]), ("b", [("u", 1), ("u", 2), ("u", 3)]), ("c", [("s", 1), ("s", 2), ("s", 3)]),
            ("d", [("u", 1)]),
        ]:
            for _ in range(2):
                got = lost_marks(self.plan, edge)
                self.assertEqual(got, marks)
                got.append(None)

    def test_state_marks(self):
        for state in "stu":
            for _ in range(2):
                got = state_marks(self.plan, state)
                self.assertEqual(got, [(state, 1), (state, 2), (state, 3)])
                got.clear()

    def test_unknown_and_unreached(self):
        for name in ("z", "s", "t"):
            self.assertEqual(raised(self, Unknown, lost_marks, self.plan, name).name, name)
        for name in ("z", "a", "b"):
            self.assertEqual(raised(self, Unknown, state_marks, self.plan, name).name, name)
        self.assertEqual(raised(self, Unreached, lost_marks, self.plan, "x").name, "x")
        for name in "xy":
            self.assertEqual(raised(self, Unreached, state_marks, self.plan, name).name, name)

    def test_unsound_first(self):
        plan, _ = one_line([("text", "a"), ("copy", 3, 4)])
        for call in (lambda: lost_marks(plan, "z"), lambda: state_marks(plan, "z"), lambda: Damage(plan, [("z", 1)])):
            error = raised(self, Unsound, call)
            self.assertEqual((error.edge, error.index), ("a", 1))

    def test_errors_of_marks_in_order(self):
        for marks, kind, name in [
            ([("s", 1), ("z", 1), ("q", 1)], Unknown, "z"), ([("x", 1), ("q", 2), ("z", 1)], Unknown, "q"),
            ([("s", 1), ("y", 1), ("x", 1)], Unreached, "y"), ([("x", 3), ("x", 3), ("y", 1)], Unreached, "x"),
            ([("a", 1)], Unknown, "a"),
        ]:
            self.assertEqual(raised(self, kind, Damage, self.plan, marks).name, name)


class ByHand(unittest.TestCase):
    def test_no_marks(self):
        plan = loops(2, a=[("any", "ab")])
        none = Damage(plan, [])
        self.assertEqual([none.slots(), none.places(), none.until(), none.longest(), none.ring(), none.numbers()],
                         [[], [], 0, None, None, []])
        self.assertTrue(none.is_numbers([]))

    def test_no_edge(self):
        plan = Plan("ab", 2, "q", {"a": ("s", "t", A)})
        self.assertEqual(state_marks(plan, "q"), [("q", 1), ("q", 2)])
        told = Damage(plan, [("q", 2)])
        self.assertEqual([told.slots(), told.places(), told.until(), told.longest(), told.ring(), told.numbers()],
                         [[("q", 2)], [], 0, None, None, [("q", 2, 0)]])

    def test_further_back_and_copies(self):
        plan, row = one_line([("text", "abab")], [("copy", 2, 1), ("text", "b"), ("copy", 2, 2)], [("copy", 4, 1)], width=4)
        told = Damage(plan, [("t", 2)])
        self.assertEqual(told.slots(), [("t", 2), ("u", 2), ("u", 4), ("v", 1), ("v", 3)])
        self.assertEqual(told.places(), [("b", 0), ("b", 2), ("c", 0)])
        self.assertEqual([told.until(), told.longest(), told.ring()], [5, (("t", 2), ["b", "c"], 0), None])
        self.assertEqual(told.numbers(), [("t", 2, 5), ("u", 2, 0), ("u", 4, 1), ("v", 1, 0), ("v", 3, 0)])

    def test_says_hang_on_nothing(self):
        plan, row = one_line([("text", "ab")], [("say", 1, 2), ("copy", 4, 1)], width=4)
        told = Damage(plan, [("t", 1), ("t", 2)])
        self.assertEqual([told.places(), told.until(), told.slots()], [
            [("b", 2)], 3, [("t", 1), ("t", 2), ("u", 1), ("u", 4)]])

    def test_flushes_change_nothing(self):
        plan, row = one_line([("text", "ab")], [("copy", 1, 1), FLUSH], [("say", 2, 1), FLUSH, ("text", "a")], width=4)
        self.assertEqual(Damage(plan, [("t", 1)]).slots(), [("t", 1), ("u", 1), ("u", 2), ("v", 3), ("v", 4)])

    def test_pieces_longer_than_the_width(self):
        plan, row = one_line([("text", "ab")], [("copy", 2, 1), ("text", "bab"), ("copy", 2, 36)], width=2)
        told = Damage(plan, [("t", 2)])
        self.assertEqual([told.slots(), told.places(), told.until()], [[("t", 2)], [("b", 0)], 1])
        self.assertEqual(told.longest(), (("t", 2), ["b"], 0))
        all_along, _ = one_line([("text", "ab")], [("copy", 2, 40)], [("copy", 1, 40)], width=2)
        told = Damage(all_along, [("t", 2)])
        self.assertEqual([told.until(), told.longest()], [39, (("t", 2), ["b"], 38)])
        self.assertEqual(Damage(all_along, [("t", 1)]).longest(), (("t", 1), ["b", "c"], 39))
        self.assertEqual(Damage(all_along, [("t", 1), ("t", 2)]).until(), 80)

    def test_rings(self):
        plan = Plan("ab", 2, "s", {
            "in": ("s", "t", Piece("ab", [("any", "ab"), ("text", "a")])), "on": ("t", "u", Piece("ab", [("copy", 2, 1)])),
            "back": ("u", "t", Piece("ab", [("copy", 2, 1)])),
        })
        told = Damage(plan, [("t", 1)])
        self.assertEqual([told.until(), told.longest(), told.numbers()], [None, None, None])
        self.assertEqual(told.slots(), [("t", 1), ("u", 2)])
        mark, lead, ring = told.ring()
        self.assertEqual((mark, len(ring)), (("t", 1), 2))
        self.assertEqual(told.places(), [("back", 0)])

    def test_a_ring_that_spoils_nothing(self):
        plan = loops(3, a=[("any", "ab")])
        told = Damage(plan, state_marks(plan, "s"))
        self.assertEqual([told.until(), told.ring(), told.places()], [0, None, []])
        self.assertEqual(told.numbers(), [("s", 1, 0), ("s", 2, 0), ("s", 3, 0)])

    def test_changed_lists(self):
        plan, row = one_line([("text", "ab")], [("copy", 1, 1), ("copy", 3, 1)])
        marks = [("t", 2), ("t", 1), ("t", 2)]
        told = Damage(plan, marks)
        self.assertEqual(marks, [("t", 2), ("t", 1), ("t", 2)])
        marks.clear()
        for _ in range(2):
            got = [told.slots(), told.places(), told.numbers(), told.longest()[1]]
            self.assertEqual(got, [
                [("t", 1), ("t", 2), ("u", 1), ("u", 2), ("u", 3)], [("b", 0), ("b", 1)],
                [("t", 1, 1), ("t", 2, 2), ("u", 1, 0), ("u", 2, 0), ("u", 3, 0)], ["b"]])
            for one in got:
                one.append(None)
        ring = Damage(loops(1, a=[("text", "a"), ("copy", 1, 1)], b=[("text", "a")]), [("s", 1)]).ring()
        self.assertIs(ring, None)
        endless = Damage(Plan("ab", 1, "s", {"a": ("s", "t", A), "b": ("t", "t", Piece("ab", [("copy", 1, 1)]))}), [("t", 1)])
        for _ in range(2):
            mark, lead, ring = endless.ring()
            self.assertEqual((mark, lead, ring), (("t", 1), [], ["b"]))
            lead.append(None)
            ring.append(None)


class Numbers(unittest.TestCase):
    plan, _ = one_line([("text", "ab")], [("copy", 1, 1), ("text", "b")], [("copy", 2, 1)])
    told = Damage(plan, [("t", 1)])

    def holds(self, thing, told=None):
        got = (told or self.told).is_numbers(thing)
        self.assertIs(type(got), bool)
        return got

    def test_by_hand(self):
        right = [("t", 1, 3), ("u", 2, 1), ("u", 3, 0), ("v", 1, 0), ("v", 3, 0)]
        self.assertEqual(self.told.numbers(), right)
        self.assertTrue(self.holds(right) and self.holds(right[::-1]))
        for at, (state, slot, number) in enumerate(right):
            self.assertFalse(self.holds(right[:at] + right[at + 1:]))
            self.assertFalse(self.holds(right + [right[at]]))
            self.assertFalse(self.holds(right + [(state, slot, number + 1)]))
            self.assertIs(self.holds(right[:at] + [(state, slot, number + 1)] + right[at + 1:]), (state, slot) in (("t", 1), ("u", 3)))
            self.assertIs(self.holds(right[:at] + [(state, slot, number - 1)] + right[at + 1:]), False)

    def test_greater_numbers(self):
        self.assertTrue(self.holds([("t", 1, 9), ("u", 2, 7), ("u", 3, 6), ("v", 1, 6), ("v", 3, 5)]))
        self.assertFalse(self.holds([("t", 1, 9), ("u", 2, 8), ("u", 3, 6), ("v", 1, 6), ("v", 3, 5)]))
        self.assertFalse(self.holds([("t", 1, 9), ("u", 2, 7), ("u", 3, 6), ("v", 1, 7), ("v", 3, 5)]))
        big = 10 ** 30
        self.assertTrue(self.holds([("t", 1, big), ("u", 2, big - 2), ("u", 3, 0), ("v", 1, big - 3), ("v", 3, 1)]))

    def test_more_slots(self):
        right = self.told.numbers()
        for more, told in [
            ([("v", 2, 9)], True), ([("t", 2, 0)], True), ([("t", 3, 5)], True), ([("s", 1, 0)], False), ([("s", 2, 0)], True),
            ([("s", 1, 0), ("t", 3, 0)], True), ([("s", 1, 1), ("t", 3, 0)], True), ([("s", 1, 2), ("t", 3, 1)], False),
            ([("s", 1, 3), ("t", 3, 1)], True), ([("u", 1, 0)], False), ([("u", 1, 0), ("v", 2, 0)], True),
        ]:
            self.assertIs(self.holds(right + more), told, more)

    def test_wrong_forms(self):
        right = self.told.numbers()
        for one in [
            ("x", 1, 0), ("t", 0, 0), ("t", 4, 0), ("t", -1, 0), ("v", 2), ("v", 2, 0, 0), ["v", 2, 0], ("v", True, 0), ("v", 2, False),
            ("v", 2, None), ("v", "2", 0), ("v", 2, "0"), (None, 2, 0), ([], 2, 0), ("v", [], 0), ("v", 2, []), ("v", 2, -1), "v20", None, (),
            (("v", 2), 0), ("b", 1, 0), (b"v", 2, 0),
        ]:
            self.assertFalse(self.holds(right + [one]), one)
        self.assertTrue(self.holds(right + [("v", 2, 0)]))
        for thing in [tuple(right), {one: True for one in right}, {one[:2]: one[2] for one in right}, set(right), None, right[0], [right]]:
            self.assertFalse(self.holds(thing))
        self.assertFalse(self.holds([("t", 1, 3), ("u", 2, True), ("u", 3, 0), ("v", 1, 0), ("v", 3, 0)]))
        self.assertFalse(self.holds([("t", True, 3)] + right[1:]))

    def test_odd_values(self):
        right = self.told.numbers()
        for thing in ODD:
            self.assertFalse(self.holds(thing))
            self.assertFalse(self.holds(right + [thing]))
            self.assertFalse(self.holds(right + [(thing, 2, 0)]))
        for thing in but(2):
            self.assertFalse(self.holds(right + [("v", thing, 0)]))
        for thing in but(0, 1, 2, 12, 13, 40, 41, 10 ** 30):
            self.assertFalse(self.holds(right + [("v", 2, thing)]), thing)

    def test_numbers_on_a_ring(self):
        ring = Damage(Plan("ab", 1, "s", {"a": ("s", "t", A), "b": ("t", "t", Piece("ab", [("copy", 1, 1)]))}), [("t", 1)])
        for number in (0, 1, 2, 100):
            self.assertFalse(self.holds([("t", 1, number)], ring))
        free = Damage(loops(3, a=[("any", "ab")]), [("s", 1)])
        for number in (0, 1, 5):
            self.assertIs(self.holds([("s", 1, number), ("s", 2, 0), ("s", 3, 0)], free), True)
            self.assertIs(self.holds([("s", 1, number), ("s", 2, 3), ("s", 3, 2)], free), number == 5)


class AtRandom(unittest.TestCase):
    def plans(self, seed, many, **how):
        chance = random.Random(seed)
        for _ in range(many):
            plan = made_sound(chance, **how)
            inner = [mark for mark in all_marks(plan) if mark[0] != plan.start] or all_marks(plan)
            marks = [chance.choice(inner) for _ in range(chance.choice([0, 1, 1, 2, 3, 6]))]
            yield chance, plan, marks

    def test_against_all_paths(self):
        seen = {"none": 0, "some": 0, "ever": 0}
        for how in ({}, {"width": 5, "edges": "abcde", "states": "stuv"}, {"width": 5, "edges": "abcdef", "onward": True}, {"filled": True},
                    {"width": 4, "filled": True, "most": 2}, {"filled": True, "most": 1}):
            for chance, plan, marks in self.plans(65, 250 if how.get('filled') else 100, **how):
                before = plan.edges(), list(marks)
                told = Damage(plan, marks)
                each = [counted(plan, mark) for mark in marks]
                self.assertEqual(told.slots(), sorted(set().union(*[one[0] for one in each])))
                self.assertEqual(told.places(), sorted(set().union(*[one[1] for one in each])))
                numbers = [one[2] for one in each]
                until = None if None in numbers else max([0] + numbers)
                self.assertEqual(told.until(), until)
                seen["ever" if until is None else "some" if until else "none"] += 1
                self.check_longest(plan, marks, told.longest(), until)
                self.check_ring(plan, marks, told.ring(), until)
                self.check_numbers(plan, told, until)
                self.assertEqual((plan.edges(), marks), before)
        self.assertGreater(min(seen.values()), 50, seen)

    def check_longest(self, plan, marks, told, until):
        if not until:
            self.assertIs(told, None)
            return
        mark, path, index = told
        self.assertIn(mark, marks)
        state, slots, ahead = mark[0], {mark[1]}, 0
        for name in path[:-1]:
            self.assertEqual(plan[name][0], state)
            _, state, piece = plan[name]
            slots = hung(piece, plan.width, slots)[1]
            ahead += len(piece)
        self.assertEqual(plan[path[-1]][0], state)
        self.assertIn(index, hung(plan[path[-1]][2], plan.width, slots)[0])
        self.assertEqual(ahead + index + 1, until)

    def check_ring(self, plan, marks, told, until):
        if until is not None:
            self.assertIs(told, None)
            return
        mark, lead, ring = told
        self.assertIn(mark, marks)
        state, slots = self.along(plan, lead, mark[0], {mark[1]})
        self.assertGreater(len(ring), 0)
        backs = []
        for slot in slots:
            end, behind = self.along(plan, ring, state, {slot})
            self.assertEqual(end, state)
            backs.append(slot in behind)
        self.assertIn(True, backs)

    def along(self, plan, path, state, slots):
        for name in path:
            self.assertEqual(plan[name][0], state)
            _, state, piece = plan[name]
            slots = hung(piece, plan.width, slots)[1]
        return state, slots

    def check_numbers(self, plan, told, until):
        numbers = told.numbers()
        if until is None:
            self.assertIs(numbers, None)
            return
        self.assertEqual(numbers, [(*slot, counted(plan, slot)[2]) for slot in told.slots()])
        self.assertIs(told.is_numbers(numbers), True)

    def test_changed_numbers(self):
        seen = {True: 0, False: 0}
        for chance, plan, marks in self.plans(66, 700, states="stuv", filled=True):
            told = Damage(plan, marks)
            numbers = told.numbers() or [(*slot, chance.randint(0, 9)) for slot in told.slots()]
            for _ in range(chance.randint(0, 2)):
                if numbers:
                    at = chance.randrange(len(numbers))
                    state, slot, number = numbers[at]
                    numbers[at] = (state, slot, max(0, number + chance.choice([-1, 1, 1, 2])))
            if chance.random() < 0.2:
                numbers.append((*chance.choice(all_marks(plan)), chance.randint(0, 3)))
            if numbers and chance.random() < 0.1:
                numbers.pop(chance.randrange(len(numbers)))
            chance.shuffle(numbers)
            right = numbers_plainly(plan, marks, numbers)
            self.assertIs(told.is_numbers(numbers), right)
            seen[right] += 1
            if right:
                # Then nothing is spoilt later than the greatest number of a mark.
                table = {one[:2]: one[2] for one in numbers}
                self.assertLessEqual(told.until(), max([0] + [table[mark] for mark in marks]))
        self.assertGreater(min(seen.values()), 100)

    def test_marks_of_a_reader(self):
        seen = {"spoilt": 0, "ended": 0}
        for chance, plan, _ in self.plans(67, 120, filled=True):
            for edge in plan.used():
                row = self.row_through(plan, edge)
                told = Damage(plan, lost_marks(plan, edge))
                until, places, found, latest = told.until(), set(told.places()), set(), 0
                for path in self.paths(plan, plan[edge][1], 4):
                    for number, place in self.marked(plan, row, path):
                        found.add(place)
                        latest = max(latest, number)
                        self.assertIn(place, places)
                seen["spoilt"] += len(found)
                self.assertTrue(until is None or latest <= until)
                if until is not None and until <= 4:
                    self.assertEqual((latest, found), (until, places))
                    seen["ended"] += 1
        self.assertGreater(min(seen.values()), 100)

    def row_through(self, plan, edge):
        queue = [[]]
        for row in queue:
            state = plan[row[-1]][1] if row else plan.start
            if row and row[-1] == edge:
                return row
            queue += [row + [name] for name in plan.out(state) if name not in row]
        raise AssertionError(edge)

    def paths(self, plan, state, most):
        found = [([], state)]
        for path, at in found:
            if len(path) < most:
                found += [(path + [name], plan[name][1]) for name in plan.out(at)]
        return [path for path, _ in found]

    def marked(self, plan, row, path):
        """The numbers and places at which a reader that lost the last piece of the row writes marks."""
        self.assertTrue(is_row(plan, row + path))
        blocks = stream(plan, row + path, [choice[-1] for choice in holes(plan, row + path)])
        reader = Reader(plan.signs, plan.width)
        for block in blocks[:len(row) - 1]:
            reader.read_all(block)
        reader.lost(sum(size(token) for token in blocks[len(row) - 1]))
        ahead = 0
        for name, block in zip(path, blocks[len(row):]):
            text = reader.read_all(block)
            yield from [(ahead + index + 1, (name, index)) for index, sign in enumerate(text) if sign == "?"]
            ahead += len(text)

    def test_unsound_plans(self):
        chance = random.Random(68)
        for _ in range(100):
            plan = made_plan(chance)
            if unsound(plan):
                error = raised(self, Unsound, Damage, plan, [(plan.start, 1)])
                self.assertEqual((error.edge, error.index), unsound(plan)[0])
            else:
                Damage(plan, [(plan.start, 1)])

    def test_order_of_marks_and_edges(self):
        for chance, plan, marks in self.plans(69, 60):
            edges = plan.edges()
            other = Plan(plan.signs, plan.width, plan.start, {name: edges[name] for name in list(edges)[::-1]})
            one, two = Damage(plan, marks), Damage(other, marks[::-1] + marks)
            for name in ("slots", "places", "until", "numbers", "longest", "ring"):
                self.assertEqual(getattr(one, name)(), getattr(two, name)())
            again = Damage(plan, marks)
            told = [getattr(again, name)() for name in ("ring", "longest", "numbers", "until", "places", "slots")]
            self.assertEqual(told, [getattr(one, name)() for name in ("ring", "longest", "numbers", "until", "places", "slots")])

    def test_a_long_way(self):
        edges = {name: ("s" + name, "s" + after, Piece("ab", [("copy", 12, 12)])) for name, after in zip("abcdefghijklmn", "bcdefghijklmno")}
        edges["in"] = ("s", "sa", Piece("ab", [("any", "ab")] * 12))
        plan = Plan("ab", 12, "s", edges)
        told = Damage(plan, lost_marks(plan, "in"))
        self.assertEqual([told.until(), len(told.slots()), told.longest()[2]], [14 * 12, 15 * 12, 11])
        self.assertEqual(told.longest()[1], sorted("abcdefghijklmn"))
        with self.assertRaises(Short):
            Reader("ab", 12).read(("copy", 12, 1))


if __name__ == "__main__":
    unittest.main()
