"""What the document promises over the whole program: its interface, its refusals, and what holds of all webs."""

import ast
import importlib
import inspect
import pathlib
import unittest

from noshortring import errors
from noshortring.betterings import climbed, crossed, crossings_of, spliced
from noshortring.desk import Desk
from noshortring.doubling import doubled, doubled_ring, first_fold, fold_good
from noshortring.fewest import fits, least_fit, tight_by
from noshortring.growth import full_at, full_by, longest_fit, ring_at, ring_by
from noshortring.kinds import web_by
from noshortring.papers import completed, completions_many, lacks, paper_for
from noshortring.texts import web_read, web_shown
from noshortring.turning import steps_of, turned_web
from noshortring.webs import even_by, far_of, first_ring, renamed, ring_good, shortest, shortest_many, web_good
from tests.helper import NEVER, PETERSEN, fields_of, full_web, outcome, ring_web, row_web
from tests.test_keeping import answer_of, questions
from tests.test_kinds import plain_kinds

FOLDER = pathlib.Path(__file__).resolve().parent.parent / "noshortring"
INTERFACE = {
    "webs": """web_good(thing) web_of(many,things) near_of(web,place) far_of(web,one,other) pieces_of(web) even_by(web)
        is_even_by(web,number) ring_good(web,thing) shortest(web) first_ring(web) shortest_many(web) renamed(web,names)""",
    "growth": """layers_of(web,place) layers_by_tie(web,a,b) ring_at(web,place) ring_by(web,a,b) full_at(web,place)
        full_by(web,a,b) longest_fit(d,many)""",
    "fewest": "least_by_growth(d,g) least_fit(d,g) fits(web,d,g) surplus(web,d,g) tight(web) tight_by(web)",
    "papers": """may_tie(web,d,g,a,b) lacks(web,d) completed(web,d,g) is_completion(web,d,g,thing)
        paper_good(web,d,g,thing) paper_for(web,d,g) completions_many(web,d,g)""",
    "turning": """steps_good(many,thing) turned_web(many,steps) turned_ties(many,steps) turned_ring(many,steps)
        steps_of(web) by_turns(many,d,g) least_by_turns(d,g)""",
    "kinds": """kind_good(thing) web_by(kind) kind_counts(kind) kind_even(kind) kind_ring(kind) kinds_fit_by(d,g)
        kind_of(web)""",
    "allsmall": """all_fit_many(many,d,g) first_fit(many,d,g) all_fit(many,d,g) least_form(web) own_many(web)
        kinds_fit(many,d,g) kinds_many(many,d,g) fewest_places(d,g)""",
    "betterings": """crossed(web,a,b,c,e) spliced(web,a,b,c,e) unspliced(web,x,y) is_better(one,other)
        crossings_of(web) better_crossing(web) climbed(web)""",
    "doubling": """sides_of(web) sides_good(web,thing) doubled(web) doubled_ring(web) fold_good(web,other,thing)
        first_fold(web,other)""",
    "texts": "web_shown(web) web_read(text)"}
FIELDS = {"NoPlace": [], "NoNumber": [], "NoLine": [], "NoRing": [], "NotEven": [], "NoWeb": ["number"],
          "NoText": ["row"], "TooGreat": ["many", "most"]}
# What is handed in for each argument of the interface; places are those of Petersen's web.
GOOD = {"web": PETERSEN, "other": PETERSEN, "one": 0, "place": 0, "a": 0, "b": 1, "c": 2, "e": 3, "x": 0, "y": 1, "number": 3,
        "many": 7, "d": 3, "g": 5, "names": tuple(range(10)), "steps": (1, 2), "kind": ("ring", 5), "text": "web 1 0",
        "thing": (0, 1, 2, 3, 4), "things": [(0, 1)]}
# The refusals of whatever is handed in for an argument; of a thing to be judged False is told.
REFUSED = {"place": "NoPlace", "a": "NoPlace", "b": "NoPlace", "c": "NoPlace", "e": "NoPlace", "x": "NoPlace", "y": "NoPlace",
           "names": "NoPlace", "number": "NoNumber", "d": "NoNumber", "g": "NoNumber", "many": "NoNumber",
           "steps": "NoLine", "kind": "NoLine", "text": "NoText"}


def told_calls():
    """Each call of the interface: its module, its name and the names of its arguments."""
    for module, rows in INTERFACE.items():
        for row in rows.split():
            name, behind = row[:-1].split("(")
            yield module, name, behind.split(",")


def call_of(module, name):
    return getattr(importlib.import_module("noshortring." + module), name)


def good_for(name, arguments):
    """What may be handed in to a call."""
    changed = {}
    if name in ("far_of", "is_better"):
        changed = {"one": 0, "other": 5} if name == "far_of" else {"one": PETERSEN, "other": PETERSEN}
    if name in ("least_form", "own_many"):
        changed = {"web": ring_web(7)}
    if name in ("crossings_of", "better_crossing", "climbed", "doubled"):
        changed = {"web": ring_web(8)}
    return [{**GOOD, **changed}[argument] for argument in arguments]


class Interface(unittest.TestCase):
    def test_all_is_there_under_its_name(self):
        for module, name, arguments in told_calls():
            call = call_of(module, name)
            self.assertTrue(inspect.isfunction(call), name)
            self.assertEqual(call.__module__, "noshortring." + module, name)
            self.assertEqual(list(inspect.signature(call).parameters), arguments, name)

    def test_the_desk(self):
        self.assertTrue(inspect.isclass(Desk))
        self.assertEqual(Desk.__module__, "noshortring.desk")
        self.assertEqual(list(inspect.signature(Desk).parameters), [])
        self.assertEqual(list(inspect.signature(Desk.say).parameters), ["self", "row"])

    def test_arguments_are_handed_in_by_their_places(self):
        for module, name, arguments in told_calls():
            told = outcome(call_of(module, name), *good_for(name, arguments))
            self.assertFalse(isinstance(told, tuple) and told and told[0] in ("NoPlace", "NoNumber", "NoText"), name)


class Refusals(unittest.TestCase):
    """[0.3] and [0.4]"""

    def test_only_refusals_of_the_program_are_raised(self):
        for path in FOLDER.glob("*.py"):
            for node in ast.walk(ast.parse(path.read_text())):
                if isinstance(node, ast.Raise):
                    self.assertIn(node.exc.func.id, FIELDS, (path, node.lineno))

    def test_each_refusal_has_its_class_and_fields(self):
        seen = {}
        for question in questions():
            answer = answer_of(question)
            if answer[0] == "refused":
                self.assertEqual(getattr(errors, answer[1]).__bases__, (errors.RingError,), question)
                self.assertEqual(list(answer[2]), FIELDS[answer[1]], question)
                self.assertTrue(all(type(field) is int for field in answer[2].values()), question)
                seen[answer[1]] = True
        self.assertEqual(sorted(seen), sorted(FIELDS))

    def test_whatever_is_handed_in_is_refused(self):
        for module, name, arguments in told_calls():
            for at, argument in enumerate(arguments):
                due = REFUSED.get(argument)
                if name == "web_of":
                    due = "NoWeb" if argument == "many" else None
                elif name == "is_better":
                    due = "NoWeb"
                elif name == "far_of" and argument != "web":
                    due = "NoPlace"
                if due is not None:
                    self.refuses(call_of(module, name), good_for(name, arguments), at, due)

    def refuses(self, call, things, at, due):
        for thing in NEVER:
            handed = list(things)
            handed[at] = thing
            told = fields_of(call, *handed)
            self.assertIsNotNone(told, (call, handed))
            self.assertEqual(told[0], due, (call, handed))

    def test_whatever_is_handed_in_is_judged(self):
        for module, name, arguments in told_calls():
            if "thing" in arguments:
                things = good_for(name, arguments)
                if name in ("is_completion", "paper_good"):
                    things = [(3, ()), 1, 3, None]
                for thing in NEVER:
                    things[arguments.index("thing")] = thing
                    self.assertIs(call_of(module, name)(*things), False, (name, thing))


def webs_of_all_modules():
    """Webs as the modules tell them, each with what it came by."""
    webs = [web_by(kind) for kind in plain_kinds() if kind[0] != "two" or kind[1] <= kind[2]]
    webs += [turned_web(many, steps) for many in (5, 9, 14, 16) for steps in [(), (1,), (2,), (1, 2), (1, many // 2)]]
    webs += [completed(row_web(16), 2, 16), completed((6, ()), 1, 3), completed((3, ()), 2, 3)]
    webs += [crossed(web, *four) for web in (ring_web(8), web_by(("cube", 3))) for four in crossings_of(web)[::5]]
    webs += [spliced(web, *web[1][0], *web[1][-1]) for web in (full_web(4), PETERSEN, ring_web(14), row_web(3))]
    webs += [web for start in (web_by(("ladder", 4)), web_by(("two", 2, 5))) for web in climbed(start)]
    webs += [doubled(web) for web in (full_web(5), ring_web(7), ring_web(8), row_web(8), (1, ()))]
    webs += [web_read("web 16 3\ntie 0 15\ntie 1 15\ntie 9 10"), renamed(PETERSEN, (9, 8, 7, 6, 5, 4, 3, 2, 1, 0))]
    return sorted(set(webs))


class AllWebs(unittest.TestCase):
    """What the points that begin with "So" say, over the webs of all modules."""

    def test_they_are_webs_and_are_written_and_read(self):
        for web in webs_of_all_modules():
            self.assertIs(web_good(web), True, web)
            self.assertEqual(web_read(web_shown(web)), web)
            desk = Desk()
            for row in [f"fresh {web[0]}"] + [f"tie {b} {a}" for a, b in reversed(web[1])]:
                desk.say(row)
            self.assertEqual(desk.say("shown").replace(" ; ", "\n"), web_shown(web))

    def test_rings(self):
        for web in webs_of_all_modules():
            size = shortest(web)
            sizes = [ring_at(web, place) for place in range(web[0])]
            self.assertEqual(min([each for each in sizes if each is not None], default=None), size)
            sizes = [ring_by(web, a, b) for a, b in web[1]]
            self.assertEqual(min([each for each in sizes if each is not None], default=None), size)
            other = renamed(web, tuple(reversed(range(web[0]))))
            self.assertEqual((shortest(other), shortest_many(other)), (size, shortest_many(web)))
            ring = first_ring(web)
            if ring is not None:
                self.assertIs(ring_good(web, ring), True)
                for i, j in [(i, j) for i in range(size) for j in range(i)]:
                    self.assertEqual(far_of(web, ring[i], ring[j]), min(i - j, size - i + j))

    def test_growth_and_fewest_places(self):
        for web in webs_of_all_modules():
            d = even_by(web)
            g = shortest(web)
            if d is not None and g is not None:
                self.assertTrue(all(full_at(web, place) >= (g - 1) // 2 for place in range(web[0])), web)
                self.assertTrue(all(full_by(web, a, b) >= g // 2 - 1 for a, b in web[1]), web)
                self.assertGreaterEqual(longest_fit(d, web[0]), g)
                self.assertIs(fits(web, d, g), True)
                self.assertGreaterEqual(web[0], least_fit(d, g))
                by = tight_by(web)
                if by is not None and by[1] % 2:
                    far = max(far_of(web, a, b) for a in range(web[0]) for b in range(web[0]))
                    self.assertLessEqual(far, by[1] // 2)

    def test_papers_and_turns(self):
        for web in webs_of_all_modules():
            d = even_by(web)
            if d is not None:
                self.assertEqual(lacks(web, d), 0)
                self.assertEqual((completed(web, d, 3), completions_many(web, d, 3), paper_for(web, d, 3)), (web, 1, None))
            if web[0] >= 3 and steps_of(web) is not None:
                self.assertEqual(turned_web(web[0], steps_of(web)), web)

    def test_doubles_and_folds(self):
        for web in webs_of_all_modules():
            size = doubled_ring(web)
            self.assertTrue(size is None or size % 2 == 0 and size >= shortest(web), web)
            self.assertIs(fold_good(web, web, tuple(range(web[0]))), True)
            if web[0] <= 12:
                self.assertIs(fold_good(web, web, first_fold(web, web)), True)
                self.assertLessEqual(first_fold(web, web), tuple(range(web[0])))


if __name__ == "__main__":
    unittest.main()
