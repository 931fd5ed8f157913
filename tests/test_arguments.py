"""[2], [3], [27]: how arguments are passed, for every function of the interface."""

import copy
import importlib
import inspect
import itertools
import random
import unittest

from movedchest.errors import Unfit
from tests.calls import CALLS, FIT, GREAT, TEXTS, UNFIT

# At which depths a list stands, tuples at all others.
LISTS_AT = [
    lambda depth: False, lambda depth: True, lambda depth: depth == 0, lambda depth: depth == 1,
    lambda depth: depth == 2,
    lambda depth: depth > 0,
]


MOST_CALLS = 150

# Where there is no such thing, where a LYING does not fit, these tell so whatever thing is.
UNFIT_WHATEVER = ("is_plan_on", "is_why_shut")
NONE_WHATEVER = ("is_plan", "is_shortest_like", "is_cheap_plan", "is_cube_best", "is_bar_best")

# At the bounds CanNot() is no refusal: there are STANDS to which no row leads, and COUNTS that do not lead; neither
# is Unfit() where a LYING has to fit a BOARD.
MAY_RAISE = {
    "walk_for": ("TooMany",), "repeated": ("TooMany",), "stand_by": ("CanNot",), "fronts_by": ("CanNot",),
    "fewest_tips": ("CanNot",), "first_tips": ("CanNot",), "plan": ("CanNot", "TooMany"), "is_plan": ("CanNot",),
    "spare_tips": ("CanNot",), "sure_links": ("CanNot",), "gone_by": ("CanNot",), "why_not": ("CanNot",),
    "why_no_fewer": ("CanNot",), "slants_between": ("CanNot",), "why_not_turned": ("CanNot",),
    "pair_turned": ("CanNot",), "fewest_turns": ("CanNot",), "first_turns": ("CanNot",),
    "turn_plan": ("CanNot", "TooMany"),
    "how_many_turn_rows": ("CanNot", "TooMany"), "turn_row_at": ("CanNot", "TooMany"),
    "turn_row_number": ("CanNot", "TooMany"), "how_many_tip_rows": ("CanNot", "TooMany"),
    "tip_row_at": ("CanNot", "TooMany"), "tip_row_number": ("CanNot", "TooMany"), "links_gone": ("CanNot",),
    "parting_chest": ("CanNot",), "exchanged": ("CanNot",), "can_exchange": ("CanNot",), "first_loop": ("CanNot",),
    "least_cost": ("CanNot",), "paying": ("CanNot",), "bar": ("CanNot",), "fewest_to": ("CanNot",),
    "best_counts": ("CanNot",), "best_goal": ("CanNot",), "tip_row": ("CanNot", "TooMany"), "why_never": ("CanNot",),
    "fewest_turns_to": ("CanNot",), "best_slants": ("CanNot",), "best_turn_goal": ("CanNot",),
    "turn_row": ("CanNot", "TooMany"), "middles_in": ("TooMany",), "turns_in": ("TooMany",),
    "cheapest": ("CanNot",), "cheap_and_few": ("CanNot",), "left_links": ("CanNot",),
    "cheap_plan": ("CanNot", "TooMany"), "is_cheap_plan": ("CanNot",), "dearer": ("CanNot",), "cube_seen": ("CanNot",),
    "cube_fewest": ("CanNot",), "cube_best": ("CanNot",), "is_cube_best": ("CanNot",), "blank_fewest": ("CanNot",),
    "lying_of": ("CanNot",), "moves_on": ("Unfit",), "reached_on": ("Unfit",), "far_on": ("Unfit",),
    "fewest_on": ("CanNot", "Unfit"), "plan_on": ("CanNot", "Unfit"), "is_plan_on": ("Unfit",),
    "why_shut": ("CanNot", "Unfit"), "is_why_shut": ("Unfit",), "board_picture": ("Unfit",), "reason_for": ("TooMany",),
    "bar_fewest": ("CanNot",), "bar_best": ("CanNot",), "is_bar_best": ("CanNot",),
}


def recast(value, listed, depth=0):
    """value with lists at the depths that listed tells, tuples at the others."""
    if not isinstance(value, (list, tuple)):
        return value
    own = [recast(part, listed, depth + 1) for part in value]
    return own if listed(depth) else tuple(own)


def outcome(function, *args, **named):
    """What the call returns or raises, told so that lists and tuples differ."""
    try:
        return "returns " + repr(function(*args, **named))
    except (LookupError, ValueError) as error:
        return f"raises {error.__class__.__name__} {vars(error)}"


def every_function():
    for module, functions in CALLS.items():
        for name, parameters in functions.items():
            yield getattr(importlib.import_module("movedchest." + module), name), parameters


def fit_arguments(parameters):
    """Tuples of arguments that are as they should be: all, or some drawn of very many."""
    every = list(itertools.product(*[FIT[kind] for _, kind in parameters]))
    return every if len(every) <= MOST_CALLS else random.Random(27).sample(every, MOST_CALLS)


class Arguments(unittest.TestCase):
    def test_names_in_order(self):
        for function, parameters in every_function():
            with self.subTest(function=function.__name__):
                told = inspect.signature(function).parameters
                self.assertEqual(list(told), [name for name, _ in parameters])
                for own in told.values():
                    self.assertEqual((own.kind, own.default), (own.POSITIONAL_OR_KEYWORD, own.empty))

    def test_by_name_and_again(self):
        for function, parameters in every_function():
            for args in fit_arguments(parameters):
                with self.subTest(function=function.__name__, args=args):
                    named = {name: arg for (name, _), arg in zip(parameters, args)}
                    first = outcome(function, *args)
                    self.assertEqual(outcome(function, **named), first)
                    self.assertEqual(outcome(function, *args[:1], **dict(list(named.items())[1:])), first)
                    self.assertEqual(outcome(function, *args), first)

    def test_lists_for_tuples_and_tuples_for_lists(self):
        for function, parameters in every_function():
            for args in fit_arguments(parameters):
                first = outcome(function, *args)
                for listed in LISTS_AT:
                    own = [arg if kind == "thing" else recast(arg, listed) for arg, (_, kind) in zip(args, parameters)]
                    with self.subTest(function=function.__name__, args=own):
                        self.assertEqual(outcome(function, *own), first)

    def test_arguments_stay_as_they_were(self):
        for function, parameters in every_function():
            for args in fit_arguments(parameters):
                own = [recast(arg, lambda depth: True) for arg in args]
                ahead = copy.deepcopy(own)
                outcome(function, *own)
                with self.subTest(function=function.__name__):
                    self.assertEqual(repr(own), repr(ahead))

    def test_returned_lists_are_new(self):
        for function, parameters in every_function():
            for args in fit_arguments(parameters):
                first = outcome(function, *args)
                if first.startswith("returns ["):
                    function(*args).append(None)
                    with self.subTest(function=function.__name__):
                        self.assertEqual(outcome(function, *args), first)

    def test_unfit_whatever_it_is(self):
        for function, parameters in every_function():
            fit = [FIT[kind][0] for _, kind in parameters]
            self.assertNotIn("Unfit", outcome(function, *fit))
            for at, (name, kind) in enumerate(parameters):
                for number, value in enumerate(UNFIT.get(kind, [])):
                    with self.subTest(function=function.__name__, parameter=name, number=number):
                        with self.assertRaises(Unfit):
                            function(*fit[:at], value, *fit[at + 1:])

    def test_unfit_ahead_of_all_other_errors(self):
        for function, parameters in every_function():
            for args in fit_arguments(parameters):
                if not outcome(function, *args).startswith("raises"):
                    continue
                for at, (name, kind) in enumerate(parameters):
                    for value in UNFIT.get(kind, [])[:2] + ([] if kind in TEXTS or kind not in UNFIT else ["x"]):
                        with self.subTest(function=function.__name__, parameter=name, args=args):
                            with self.assertRaises(Unfit):
                                function(*args[:at], value, *args[at + 1:])

    def test_nothing_is_refused_at_the_bounds_and_somewhat_beyond(self):
        for function, parameters in every_function():
            if function.__name__ in ("link_between", "other_shape"):
                continue
            for args in itertools.product(*[GREAT[kind] for _, kind in parameters]):
                told = outcome(function, *args)
                if not told.startswith("returns"):
                    with self.subTest(function=function.__name__):
                        self.assertIn(told.split()[1], MAY_RAISE.get(function.__name__, ()))

    def test_whether_thing_is_such_is_true_or_false(self):
        for function, parameters in every_function():
            if parameters and parameters[-1][0] == "thing":
                for args in fit_arguments(parameters):
                    may = ["returns True", "returns False"]
                    may += ["raises CanNot {}"] if function.__name__ in NONE_WHATEVER else []
                    may += ["raises Unfit {}"] if function.__name__ in UNFIT_WHATEVER else []
                    self.assertIn(outcome(function, *args), may)


if __name__ == "__main__":
    unittest.main()
