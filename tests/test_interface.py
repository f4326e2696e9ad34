"""The names of the interface, their parameters, and the files in which they are defined."""

import importlib
import inspect
import unittest

INTERFACE = {
    "shares": ("share(n, d)", "plus(one, two)", "times(one, two)", "mean(shares)"),
    "sums": ("choose(a, b)",),
    "polynomials": ("poly_plus(one, two)", "poly_times(one, two)", "moved(poly, price)", "total(poly)",
                    "greatest(poly)"),
    "webs": ("made_web(m, roads)",),
    "webmakers": ("alone()", "pair_web(length)", "line_web(m, length)", "star_web(m, length)",
                  "wheel_web(m, length)"),
    "webways": ("web_apart(web, p, q)", "web_next(web, p, q)"),
    "webcounts": ("web_ways(web, p, q)", "web_inner(web, p, q)"),
    "lands": ("made_land(n, roads, lamps)", "is_tree(land)"),
    "landroads": ("beside(land, x)", "hull(land, places)", "beyond(land, road, x)"),
    "landways": ("way(land, x, y)", "apart(land, x, y)"),
    "landring": ("ring(land)",),
    "states": ("made_state(land, place, row)", "is_state(land, thing)", "states_many(land)"),
    "deeds": ("cost(land, state, deed)", "offers(land, state)"),
    "done": ("done(land, state, deed)",),
    "runs": ("walked(land, state, run)", "run_cost(land, state, run)", "turned_run(land, state, run)",
             "run_right(land, a, run, b, price)"),
    "crossings": ("changed(land, a, b)", "crossings(land, a, b)"),
    "lampparts": ("lamp_part(land, a, b)",),
    "prices": ("price(land, a, b)",),
    "roadways": ("road_part(land, a, b)", "two_ways(land, a, b)"),
    "leastruns": ("least_run(land, a, b)", "lessening(land, a, b)"),
    "runcounts": ("runs_many(land, a, b)", "steps_many(land, a, b)", "pass_share(land, a, x, b)"),
    "nthruns": ("nth_run(land, a, b, k)",),
    "runranks": ("run_rank(land, a, b, run)",),
    "between": ("between(land, a, x, b)",),
    "betweencounts": ("between_many(land, a, b)", "zone(land, a, b, v)"),
    "betweenspheres": ("between_sphere(land, a, b)",),
    "spheres": ("sphere(land, a, *, ends=None, rows=None)",),
    "balls": ("ball(land, a, r)", "farthest(land, a)"),
    "narrowed": ("goal(land, a, ends, rows)",),
    "nthat": ("nth_at(land, a, r, k)", "rank_at(land, a, b)"),
    "pairspheres": ("pair_sphere(land)", "width(land)"),
    "waiting": ("waiting(land, a, b, weights)", "waiting_run(land, a, b, weights)",
                "waiting_of(land, a, run, weights)"),
    "centres": ("radius(land, row)", "centre_mean(land, row)"),
    "freeends": ("open_price(land, a, row)", "round_price(land, a, row)", "open_ends(land, a, row)",
                 "free_price(land, one, two)", "free_pairs(land, one, two)"),
    "stages": ("stages(land, a, rows)", "stage_ends(land, a, rows)"),
    "deadends": ("is_dead(land, a, x)", "dead_why(land, a, x)"),
    "roadshares": ("road_shares(land, a, road)", "pair_shares(land, road)"),
    "means": ("lamp_mean(land, a)", "mean_price(land, a)", "nth_state(land, k)", "state_rank(land, state)",
              "drawn(land, digits)"),
    "pairmeans": ("pair_mean(land)",),
    "purses": ("best(land, a, wish, worths, purse, *, back=False)",),
    "plans": ("least_for(land, a, wish, worths, need, *, back=False)",),
    "planback": ("table(land, a, wish, worths)",),
    "ringlands": ("hung(land, x)", "ring_needs(land, a, b)"),
    "ringgaps": ("ring_choices(land, a, b)",),
    "ringprices": ("ring_best(land, a, b)",),
    "ringruns": ("ring_run(land, a, b)",),
    "papers": ("paper(land, a, b)", "paper_right(land, a, b, paper, price)"),
    "landtext": ("land_text(land)", "land_of(text)"),
    "statetext": ("state_text(land, state)", "state_of(land, text)"),
    "runtext": ("run_text(run)", "run_of(text)"),
    "floorasks": ("home_price(floor)", "can_go_home(floor)", "way_home(floor)", "in_reach(floor)",
                  "best_for(floor, wish, worths)"),
    "saysfloor": ("answer(floor, row)", "asked(floor, row)"),
}

CLASSES = {
    "errors": ("Refused", "BadSize", "BadRoad", "Parted", "BadLength", "BadLamp", "BadPlace", "BadState", "BadDeed",
               "BadCount", "BadRow", "BadPurse", "BadWorth", "BadEnds", "NotTree", "NotRing", "TooMany", "Dear",
               "BadText", "BadWord", "NothingToUndo", "NothingToRedo"),
    "webs": ("Web",),
    "lands": ("Land",),
    "floor": ("Floor",),
}

METHODS = ("__init__(self, land, state, purse)", "go(self, y)", "turn(self, q)", "earn(self, k)", "mark(self)",
           "undo(self)", "redo(self)", "state(self)", "purse(self)", "marked(self)", "spent(self)", "record(self)")


class InterfaceTest(unittest.TestCase):
    def test_functions(self):
        for name, rows in INTERFACE.items():
            module = importlib.import_module(f"lampwalks.{name}")
            for row in rows:
                function = getattr(module, row.partition("(")[0])
                with self.subTest(row):
                    self.assertTrue(inspect.isfunction(function))
                    self.assertEqual(function.__module__, module.__name__)
                    self.assertEqual(function.__name__ + str(inspect.signature(function)), row)

    def test_classes(self):
        for name, rows in CLASSES.items():
            module = importlib.import_module(f"lampwalks.{name}")
            for row in rows:
                kind = getattr(module, row)
                with self.subTest(row):
                    self.assertTrue(inspect.isclass(kind))
                    self.assertEqual(kind.__module__, module.__name__)

    def test_methods_of_the_floor(self):
        own = vars(importlib.import_module("lampwalks.floor").Floor)
        for row in METHODS:
            function = own[row.partition("(")[0]]
            with self.subTest(row):
                self.assertTrue(inspect.isfunction(function))
                self.assertEqual(function.__name__ + str(inspect.signature(function)), row)
