"""What the document promises over the whole program: names, kinds of values, order of errors, deeds taken back."""

import importlib
import inspect
import random

from lampwalks.deeds import cost, offers
from lampwalks.done import done
from lampwalks.errors import NotRing, NotTree
from lampwalks.floor import Floor
from lampwalks.lands import Land
from lampwalks.leastruns import least_run
from lampwalks.prices import price
from lampwalks.ringruns import ring_run
from lampwalks.runs import run_cost, turned_run, walked
from lampwalks.webmakers import alone, line_web, pair_web
from lampwalks.webs import Web
from tests.helpers import FOUR, LINE, SMALL_WEBS, THREE, Case, led, some_end, some_lands, some_state
from tests.test_interface import INTERFACE

A, X, B = (1, (0, 0, 0)), (0, (1, 0, 0)), (1, (1, 0, 1))
RING_A, RING_B = (0, (0, 0, 0, 0)), (3, (0, 1, 1, 0))
RUN = (("go", 0), ("turn", 1), ("go", 1), ("go", 2), ("turn", 1), ("go", 1))
PAPER = (((2, 0), (2, 2)), (1, 0, 1))
WEB = line_web(4, 2)
POLY = ((0, 1), (3, -2))
TEXT = "land 2\nroad 0 1 3\nlamp 2 0-1:1\nlamp 1"

# the arguments for which each function of the interface is called, in their order; * stands ahead of those by name
GIVEN = {
    "share": (6, -4), "plus": ((1, 2), (1, 3)), "times": ((1, 2), (2, 3)), "mean": (((1, 2), (1, 3)),),
    "choose": (5, 2),
    "poly_plus": (POLY, POLY), "poly_times": (POLY, POLY), "moved": (POLY, 2), "total": (POLY,), "greatest": (POLY,),
    "made_web": (2, ((0, 1, 1),)),
    "alone": (), "pair_web": (1,), "line_web": (3, 1), "star_web": (3, 1), "wheel_web": (3, 1),
    "web_apart": (WEB, 0, 2), "web_next": (WEB, 0, 2), "web_ways": (WEB, 0, 2), "web_inner": (WEB, 0, 2),
    "made_land": (2, ((0, 1, 1),), (alone(), pair_web(1))), "is_tree": (LINE,),
    "beside": (LINE, 1), "hull": (LINE, (0, 2)), "beyond": (LINE, 0, 1),
    "way": (LINE, 0, 2), "apart": (LINE, 0, 2), "ring": (FOUR,),
    "made_state": (LINE, 1, (0, 0, 0)), "is_state": (LINE, A), "states_many": (LINE,),
    "cost": (LINE, A, ("go", 0)), "offers": (LINE, A), "done": (LINE, A, ("go", 0)),
    "walked": (LINE, A, RUN), "run_cost": (LINE, A, RUN), "turned_run": (LINE, A, RUN),
    "run_right": (LINE, A, RUN, B, 6),
    "changed": (LINE, A, B), "crossings": (LINE, A, B), "lamp_part": (LINE, A, B), "price": (LINE, A, B),
    "road_part": (LINE, A, B), "two_ways": (LINE, A, B),
    "least_run": (LINE, A, B), "lessening": (LINE, A, B),
    "runs_many": (LINE, A, B), "steps_many": (LINE, A, B), "pass_share": (LINE, A, X, B),
    "nth_run": (LINE, A, B, 1), "run_rank": (LINE, A, B, RUN),
    "between": (LINE, A, X, B), "between_many": (LINE, A, B), "zone": (LINE, A, B, 1), "between_sphere": (LINE, A, B),
    "waiting": (LINE, A, B, (1, 0, 3)), "waiting_run": (LINE, A, B, (1, 0, 3)), "waiting_of": (LINE, A, RUN, (1, 0, 3)),
    "sphere": (LINE, A, (0, 2), None), "ball": (LINE, A, 3), "farthest": (LINE, A),
    "goal": (LINE, A, (0, 2), None), "nth_at": (LINE, A, 3, 1), "rank_at": (LINE, A, B),
    "pair_sphere": (LINE,), "width": (LINE,),
    "radius": (LINE, (0, 0, 0)), "centre_mean": (LINE, (0, 0, 0)),
    "open_price": (LINE, A, (1, 0, 1)), "open_ends": (LINE, A, (1, 0, 1)), "round_price": (LINE, A, (1, 0, 1)),
    "free_price": (LINE, (0, 0, 0), (1, 0, 1)), "free_pairs": (LINE, (0, 0, 0), (1, 0, 1)),
    "stages": (LINE, A, ((1, 0, 1), (0, 0, 0))), "stage_ends": (LINE, A, ((1, 0, 1), (0, 0, 0))),
    "is_dead": (LINE, A, X), "dead_why": (LINE, A, X),
    "road_shares": (LINE, A, 0), "pair_shares": (LINE, 0),
    "lamp_mean": (LINE, A), "mean_price": (LINE, A), "nth_state": (LINE, 7), "state_rank": (LINE, A),
    "drawn": (LINE, (29, -3)), "pair_mean": (LINE,),
    "best": (LINE, A, (1, 1, 1), (1, 2, 3), 4, True), "least_for": (LINE, A, (1, 1, 1), (1, 2, 3), 4, True),
    "table": (LINE, A, (1, 1, 1), (1, 2, 3)),
    "hung": (FOUR, 1), "ring_needs": (FOUR, RING_A, RING_B), "ring_choices": (FOUR, RING_A, RING_B),
    "ring_best": (FOUR, RING_A, RING_B), "ring_run": (FOUR, RING_A, RING_B),
    "paper": (LINE, A, B), "paper_right": (LINE, A, B, PAPER, 6),
    "land_text": (LINE,), "land_of": (TEXT,), "state_text": (LINE, A), "state_of": (LINE, "1: 0 0 0"),
    "run_text": (RUN,), "run_of": ("go 1\nturn 0",),
    "home_price": (Floor(LINE, A, 9),), "can_go_home": (Floor(LINE, A, 9),), "way_home": (Floor(LINE, A, 9),),
    "in_reach": (Floor(LINE, A, 9),), "best_for": (Floor(LINE, A, 9), (1, 1, 1), (1, 2, 3)),
    "answer": (Floor(LINE, A, 9), "state"), "asked": (Floor(LINE, A, 9), "price"),
}

ANY_LAND = ("is_tree", "beside", "apart", "made_state", "is_state", "states_many", "cost", "offers", "done", "walked",
            "run_cost", "turned_run", "run_right", "changed", "lamp_part", "price", "between", "land_text",
            "state_text", "state_of", "paper_right")
RINGS = ("ring", "hung", "ring_needs", "ring_choices", "ring_best", "ring_run")


def functions():
    """All functions of the interface by their names."""
    found = {}
    for module, rows in INTERFACE.items():
        for row in rows:
            name = row.partition("(")[0]
            found[name] = getattr(importlib.import_module("lampwalks." + module), name)
    return found


def kept(thing):
    """A copy of all that a value holds, throughout."""
    if isinstance(thing, (Web, Land)):
        return (type(thing).__name__,) + tuple(kept(part) for part in vars(thing).values())
    if isinstance(thing, Floor):
        return tuple(kept(part) for part in (thing.state(), thing.purse(), thing.marked(), thing.record()))
    if isinstance(thing, tuple):
        return tuple(kept(part) for part in thing)
    return thing


def kinds_of(thing):
    """The kinds of all values that a value is built from."""
    if isinstance(thing, tuple):
        return {tuple}.union(*[kinds_of(part) for part in thing])
    return {type(thing)}


class CallsTest(Case):
    def test_all_functions_are_here(self):
        self.assertEqual(set(GIVEN), set(functions()))

    def test_by_position_and_by_name(self):
        for name, function in functions().items():
            parameters = inspect.signature(function).parameters
            named = dict(zip(parameters, GIVEN[name], strict=True))
            only = {word: thing for word, thing in named.items()
                    if parameters[word].kind is inspect.Parameter.KEYWORD_ONLY}
            placed = [thing for word, thing in named.items() if word not in only]
            with self.subTest(name):
                before = kept(GIVEN[name])
                got = function(*placed, **only)
                self.same(kept(function(**dict(reversed(named.items())))), kept(got))
                self.same(kept(function(*placed[:1], **dict(list(named.items())[1:]))), kept(got))
                self.same(kept(function(*placed, **only)), kept(got))
                self.same(kept(GIVEN[name]), before)
                if only:
                    with self.assertRaises(TypeError):
                        function(*placed, *only.values())

    def test_kinds_of_what_is_returned(self):
        for name, function in functions().items():
            with self.subTest(name):
                named = dict(zip(inspect.signature(function).parameters, GIVEN[name]))
                self.assertLessEqual(kinds_of(function(**named)), {tuple, int, str, bool, type(None), Web, Land})

    def test_answers_that_are_yes_or_no(self):
        for name in ("is_tree", "is_state", "run_right", "between", "is_dead", "paper_right", "can_go_home"):
            function = functions()[name]
            self.assertIs(type(function(*GIVEN[name])), bool)

    def test_trees_and_rings(self):
        # the land is asked ahead of all other arguments, whatever they are
        for name, function in functions().items():
            given = GIVEN[name]
            parameters = list(inspect.signature(function).parameters)
            if not parameters or parameters[0] != "land" or name in ANY_LAND:
                continue
            named = dict(zip(parameters[1:], given[1:]))
            wrong = {word: (() if isinstance(thing, tuple) else -1) for word, thing in named.items()}
            for word in ("a", "b", "x", "state"):
                if word in wrong and isinstance(named[word], tuple):
                    wrong[word] = (-1, ())
            with self.subTest(name):
                for rest in (named, wrong):
                    if name in RINGS:
                        self.refuses(NotRing, 0, function, LINE, **rest)
                    else:
                        self.refuses(NotTree, 0, function, THREE, **rest)


class WhatHoldsTest(Case):
    def test_each_deed_is_taken_back_by_one_of_the_same_cost(self):
        chance = random.Random(401)
        for land in some_lands(chance, 30) + some_lands(chance, 30, ring=True):
            state = some_state(chance, land)
            for deed in offers(land, state):
                then = done(land, state, deed)
                back = [other for other in offers(land, then) if done(land, then, other) == state]
                self.assertEqual([cost(land, then, other) for other in back], [cost(land, state, deed)])
                self.same(turned_run(land, state, (deed,)), tuple(back))

    def test_least_runs_turned(self):
        chance = random.Random(402)
        for ring in (False, True):
            for land in some_lands(chance, 30, ring=ring):
                a = some_state(chance, land)
                b = some_end(chance, land, a)
                run = (ring_run if ring else least_run)(land, a, b)
                self.same(led(land, a, run), (b, price(land, a, b)))
                self.same(led(land, b, turned_run(land, a, run)), (a, price(land, b, a)))
                self.same(walked(land, a, run), b)
                self.same(run_cost(land, a, run), price(land, a, b))

    def test_prices_on_every_land(self):
        chance = random.Random(403)
        for land in some_lands(chance, 40, lamps=SMALL_WEBS) + some_lands(chance, 40, ring=True, lamps=SMALL_WEBS):
            a = some_state(chance, land)
            b, x = some_end(chance, land, a), some_end(chance, land, a)
            self.same(price(land, a, b) == 0, a == b)
            self.same(price(land, a, b), price(land, b, a))
            self.assertLessEqual(price(land, a, b), price(land, a, x) + price(land, x, b))
