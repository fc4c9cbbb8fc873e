"""The interface of the document: its names, their arguments, and where they are defined."""

import importlib
import inspect
import pathlib
import random
import unittest

import windowcuts
from making import made_sound, parts_of, sixteen
from oddities import ODD
from windowcuts.counts import least_kept, least_written, unsound
from windowcuts.desk import Desk
from windowcuts.draft import Draft
from windowcuts.errors import Wrong
from windowcuts.frames import Frame
from windowcuts.pieces import Piece
from windowcuts.plans import Plan
from windowcuts.pressing import pressed
from windowcuts.reading import Reader

PRICES = "*, sign_price=1, copy_price=2"
FUNCTIONS = f"""
kinds: is_integer(thing) is_name(thing) is_signs(thing) is_width(thing) is_text(signs, thing) is_choice(signs, thing)
tokens: is_token(signs, thing) is_plain(signs, thing) size(token) cut_token(token, at)
streams: block_texts(signs, width, blocks) in_order(signs, width, blocks, order) alone(signs, width, blocks)
streams: needed(signs, width, blocks, index) spoilt(signs, width, blocks, lost)
writers: greedy(signs, width, text, flushes) cheapest(signs, width, text, flushes, {PRICES})
writers: is_below(signs, width, text, flushes, numbers, {PRICES})
rows: is_row(plan, thing) state_behind(plan, names) holes(plan, names) texts(plan, names, fill) stream(plan, names, fill)
rows: rows_upto(plan, most)
roots: text_roots(piece) reader_roots(piece)
origins: place_of(plan, names, at) chain(plan, names, at) full_chain(plan, names, at)
counts: least_kept(plan) least_written(plan) unsound(plan) refused_row(plan, edge, index) is_kept_paper(plan, thing)
claims: all_claims(plan) are_claims(plan, values, equals)
damage: lost_marks(plan, edge) state_marks(plan, state)
alone: reads_alone(plan, state) refused_path(plan, state) beginnings(plan) settles(plan, state)
harms: harm(plan, state, names, order) harm_shown(plan, state, names, order, place)
joins: join(plan, state, other, its)
likes: compare(one, other) alike_claims(one, other) are_alike_claims(one, other, pairs, values, equals)
pressing: piece_price(piece, {PRICES}) fixed_sign(plan, edge, index) right_distances(plan, edge, index)
pressing: beginning_prices(plan, edge, {PRICES}) pressed(plan, {PRICES})
network: greatest_flow(nodes, lines, sources, sinks)
spelling: spelled(plan, places) cheapest_spelling(plan, marks, wished, prices) is_spelling(plan, marks, wished, prices, thing)
flushing: flushed(plan, states) worst_loss(plan) cheapest_flushes(plan, candidates, limit) too_late(plan, limit)
live: live(plan, state) live_path(plan, state, slot)
notation: show_piece(piece) show_plan(plan) show_row(names) read_piece(signs, text) read_plan(text) read_row(text)
"""
# What a class is made with, its properties, and its methods and operators.
CLASSES = {
    "pieces.Piece": ("signs, tokens", "signs", """tokens() places() flushes() holes() merged() part(begin, end) needs()
        __add__(other) __mul__(other) __rmul__(other) __floordiv__(other) __eq__(other) __len__() __repr__()"""),
    "reading.Reader": ("signs, width", "", """read(token) read_all(tokens) lost(many) written() kept() copied() __call__(token) __len__()"""),
    "plans.Plan": ("signs, width, start, edges", "signs width start", """edges() states() out(state) reached() used()
        changed(name, source, target, piece) without(name) __eq__(other) __len__() __contains__(name) __getitem__(name) __or__(other) __and__(other)"""),
    "frames.Frame": ("width", "", "roots() holes() __lshift__(piece) __getitem__(at) __eq__(other) __len__()"),
    "facts.Facts": ("plan", "", """signs_in(state, slot) value_row(state, slot, sign) differ_row(state, one, other) differ(state, one, other)
        unlike(state, one, other, holes) equals(state) unlike_row(state, one, other, holes)"""),
    "damage.Damage": ("plan, marks", "", "slots() places() until() longest() ring() numbers() is_numbers(thing)"),
    "draft.Draft": ("plan", "window entry", """plan() take(name) widen(width) begin(start) log() back() again() past(many) copied()
        __getitem__(name) __setitem__(name, edge) __contains__(name) __iadd__(plan) __eq__(other) __len__()"""),
    "desk.Desk": ("plan", "", "execute(line) draft()"),
}


def calls(text):
    """The names and the arguments of calls that stand in a text."""
    found = []
    for part in text.replace("\n", " ").split(")")[:-1]:
        name, arguments = part.split("(")
        found.append((name.strip(), arguments))
    return found


def arguments_of(thing):
    """The parameters of a function, as they are written, without the object of a method."""
    told = str(inspect.signature(thing))[1:-1].split(", ")
    return ", ".join(one for one in told if one != "self")


class Interface(unittest.TestCase):
    def test_functions(self):
        many = 0
        for line in FUNCTIONS.strip().split("\n"):
            name, text = line.split(": ", 1)
            module = importlib.import_module("windowcuts." + name)
            for function, arguments in calls(text):
                thing = getattr(module, function)
                self.assertTrue(inspect.isfunction(thing))
                self.assertEqual((thing.__module__, thing.__name__), (module.__name__, function))
                self.assertEqual(arguments_of(thing), arguments, function)
                many += 1
        self.assertEqual(many, 69)

    def test_classes(self):
        for path, (made, properties, methods) in CLASSES.items():
            name, kind = path.split(".")
            module = importlib.import_module("windowcuts." + name)
            thing = getattr(module, kind)
            self.assertEqual((thing.__module__, thing.__bases__), (module.__name__, (object,)))
            self.assertEqual(arguments_of(thing), made)
            for one in properties.split():
                self.assertIsInstance(vars(thing)[one], property)
            for method, arguments in calls(methods):
                self.assertEqual(arguments_of(vars(thing)[method]), arguments, (kind, method))
        self.assertIsInstance(vars(Piece)["of_places"], staticmethod)
        self.assertEqual(arguments_of(Piece.of_places), "signs, places, flushes")

    def test_each_module_is_a_file_of_the_package(self):
        folder = pathlib.Path(windowcuts.__file__).parent
        names = {line.split(":")[0] for line in FUNCTIONS.strip().split("\n")} | {path.split(".")[0] for path in CLASSES} | {"errors"}
        for name in names:
            self.assertTrue((folder / f"{name}.py").is_file())
        self.assertEqual(len(names), 28)


class Made(unittest.TestCase):
    """What is made of any values raises Wrong for the first one that is not as described."""

    def test_wrong(self):
        edges = {"a": ("s", "t", Piece("ab", [("text", "a")]))}
        for make, good in [
            (Piece, ["ab", [("text", "a")]]), (Piece.of_places, ["ab", [("sign", "a")], [0]]), (Reader, ["ab", 3]), (Plan, ["ab", 3, "s", edges]),
            (Plan(*["ab", 3, "s", edges]).changed, ["b", "s", "t", edges["a"][2]]), (Frame, [3]), (Draft, [Plan("ab", 3, "s", edges)]),
            (Desk, [Plan("ab", 3, "s", edges)]),
        ]:
            make(*good)
            for at in range(len(good)):
                for thing in ODD:
                    if type(thing) in (str, int, list):
                        continue
                    # All arguments behind the first wrong one are wrong, too.
                    with self.assertRaises(Wrong) as caught:
                        make(*good[:at], *[thing] * (len(good) - at))
                    self.assertEqual(caught.exception.place, at)


class Whole(unittest.TestCase):
    def test_large_plans_are_sound(self):
        for kind in ("any", "copies", "fixed"):
            plan = sixteen(kind)
            self.assertEqual((len(plan), len(plan.used()), plan.width, unsound(plan)), (16, 16, 12, []))

    def test_dicts_have_ascending_keys(self):
        chance = random.Random(180)
        for _ in range(60):
            plan = made_sound(chance, filled=True)
            for told in (plan.edges(), least_kept(plan), least_written(plan), pressed(plan)):
                for part in parts_of(told):
                    if isinstance(part, dict):
                        self.assertEqual(list(part), sorted(part))


if __name__ == "__main__":
    unittest.main()
