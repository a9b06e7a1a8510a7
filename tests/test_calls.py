"""[2]: how all functions take their arguments, and what they leave as it was."""

import copy
import inspect
import unittest

from tests.interface import INTERFACE, found
from tests.known import BEYOND, CHAIN, COPIES, HALF, KEPT, NEVER, PAIRS, TWINS, as_lists, as_mixed

FAN = ((0, ()), (1, (0,)), (1, (1,)), (2, (2,)), (2, (1,)))
MANY = ((0, ()), (1, (0,)), (2, (0, 1)), (3, (2, 0)), (1, (3,)), (2, (3, 4)))
COPIED = ((0, ()), (1, (0,)), (2, (1,)), (3, (2,)))
MAKE = (0, (), (0, 1), ((0,), (1,)))
PUT = (1, (((0,), (0,)),), (0,), ((0,),))
PLAN = ((MAKE, ()), ((1, (((0, 1), (0,)),), (), ()), ((0, 0),)), ((2, (((0, 1), (1,)),), (), ()), ((0, 1),)))
TRIO = tuple((kind, 1) for kind, _ in PLAN)
SORT = (0, (0, 1), (0,))
LOOP = (1, (((0,), (0,)),), (0,), ((0,),))
TIGHT, LOOSE = (((4, 3), (-1,)), ((-8, 3), (2,))), (((3, 2), (-1,)), ((-5, 2), (2,)))
FAIR = ((1, 2), (3, 1), (3, 1))
DOWN = ((0, 1), (-1, 2), (0, 1))
RING = (((0, ()), (1, (0,)), (1, (1,)), (2, (2,))), ((1, 0), (2, 0)), 1)
PAIR = ((0, ()), (1, (0,)), (2, (0,)))
UNEVEN = ((2, 0), ((((), (), 0, 0, (("new", 2, ()), ("new", 4, ()))),) + TWINS[1][1:]))
FREE = ((1,), tuple([(*row[:2], 1, *row[3:]) for row in CHAIN[1]]))
TWO = ((((0, (), (0,), ((0,),)), (0, (), (0,), ((0,),)), (((0,), (0,)),)), 1),
       (((1, (((0,), (0,)),), (), ()), (1, (((0,), (0,)),), (), ()), ()), 1))
CLAIMS = (("enough", CHAIN, ((0, 1), (1, 1), (0, 1))), ("mean", TWINS, (2, 1)), ("mean", TWINS, (3, 2)),
          ("ratio", TWINS, UNEVEN, (4, 3)),
          ("let", TWINS, MAKE), ("endless", CHAIN, ((1, 0),)), ("endless", CHAIN, ()), ("mean", BEYOND, (1, 1)),
          ("let", CHAIN, MAKE))
# For each function some calls; arguments called thing are told apart, as lists are no tuples there.
CALLS = {
    "is_craft": [(CHAIN,), (PAIRS,), (5,)],
    "is_row": [((1,), CHAIN[1][1]), ((2, 1), PAIRS[1][3]), ((2,), CHAIN[1][0])],
    "shapes_made": [(CHAIN,), (PAIRS,), (NEVER,)],
    "rows_done": [(CHAIN,), (PAIRS,), (NEVER,)],
    "idle_rows": [(CHAIN,), (PAIRS,), (NEVER,)],
    "cut_craft": [(CHAIN,), (PAIRS,), (NEVER,)],
    "renamed": [(TWINS, (1, 0), (2, 0, 1)), (PAIRS, (0, 1), (3, 2, 1, 0)), (TWINS, (1, 1), (0, 1, 2))],
    "joined_craft": [(CHAIN, TWINS), (PAIRS, PAIRS)],
    "new_slots": [(PAIRS,), (KEPT,)],
    "with_cost": [(PAIRS, 3, 1, 8), (CHAIN, 1, 0, 0), (CHAIN, 3, 0, 0), (CHAIN, 1, 1, 0), (CHAIN, 0, 0, 0)],
    "is_web": [(CHAIN, FAN), (CHAIN, MANY), (PAIRS, MANY), (TWINS, None)],
    "next_deeds": [(CHAIN, FAN), (PAIRS, MANY), (PAIRS, ()), (PAIRS, FAN)],
    "all_webs": [(CHAIN, 0), (CHAIN, 3), (PAIRS, 2), (PAIRS, 5)],
    "heirs": [(FAN, 1), (MANY, 3), (MANY, 6)],
    "is_line": [(FAN,), (FAN[:4],), (MANY,), ((),)],
    "shapes_of": [(CHAIN, FAN), (PAIRS, MANY), (TWINS, FAN)],
    "comes_from": [(FAN, 4), (MANY, 5), (MANY, -1)],
    "held": [(CHAIN, FAN), (PAIRS, MANY), (COPIES, COPIED), (TWINS, FAN)],
    "wanted": [(CHAIN, FAN, (2, 0)), (COPIES, COPIED, (2, 0)), (CHAIN, FAN, (0, 0)), (CHAIN, FAN, (0, 1))],
    "holders": [(CHAIN, FAN, (2, 0)), (COPIES, COPIED, (0, 0)), (CHAIN, FAN, (0, 0)), (CHAIN, FAN, (9, 1))],
    "cut_web": [(FAN, (3,)), (MANY, (1, 2)), (MANY, ()), (FAN, (4, 5))],
    "beside": [((FAN, MANY, ()),), ((),), ((FAN, FAN),)],
    "ledger": [(CHAIN, FAN), (PAIRS, MANY), (COPIES, COPIED), (TWINS, FAN)],
    "paid": [(CHAIN, FAN), (PAIRS, MANY), (COPIES, COPIED), (TWINS, FAN)],
    "cost": [(CHAIN, FAN), (PAIRS, MANY), (COPIES, COPIED), (TWINS, FAN)],
    "forced_by": [(CHAIN, FAN, (2, 0)), (COPIES, COPIED, (0, 0)), (COPIES, COPIED, (0, 1)), (CHAIN, FAN, (0, 0))],
    "unforced": [(CHAIN, FAN[:3]), (PAIRS, MANY), (COPIES, COPIED), (TWINS, FAN)],
    "look_now": [(CHAIN, FAN[:3], 2, 0), (PAIRS, MANY, 3, 1), (CHAIN, FAN, 5, 0), (CHAIN, FAN, 0, 1)],
    "paid_anew": [(CHAIN, FAN, ((1, 0),)), (PAIRS, MANY, ((0, 0), (3, 1))), (COPIES, COPIED, ()), (TWINS, FAN, ())],
    "cost_anew": [(CHAIN, FAN, ((1, 0),)), (PAIRS, MANY, ((0, 0), (3, 1))), (COPIES, COPIED, ()), (TWINS, FAN, ())],
    "paid_at_once": [(CHAIN, FAN), (PAIRS, MANY), (COPIES, COPIED), (TWINS, FAN)],
    "cost_at_once": [(CHAIN, FAN), (PAIRS, MANY), (COPIES, COPIED), (TWINS, FAN)],
    "again": [(CHAIN, FAN, ((1, 0),), 2, 0), (PAIRS, MANY, ((0, 0), (1, 0)), 4, 0), (CHAIN, FAN, ((1, 0),), 5, 0),
              (CHAIN, FAN, ((1, 0),), 0, 1)],
    "flags_of": [(CHAIN, FAN), (PAIRS, MANY), (COPIES, COPIED), (TWINS, FAN)],
    "errand": [(CHAIN, FAN, (1, 0)), (PAIRS, MANY, (0, 0)), (COPIES, COPIED, (0, 1)), (CHAIN, FAN, (0, 0)),
               (CHAIN, FAN[:3], (1, 0))],
    "parts_taken": [(CHAIN, FAN), (PAIRS, MANY), (COPIES, COPIED), (TWINS, FAN)],
    "kinds_of": [(CHAIN, FAN), (PAIRS, MANY), (COPIES, COPIED), (TWINS, FAN)],
    "is_kind": [(TWINS, MAKE), (TWINS, (0, (), (0, 1), ((0,),))), (PAIRS, MANY), (TWINS, None)],
    "all_kinds": [(CHAIN,), (PAIRS,), (NEVER,), (BEYOND,)],
    "worth": [(TWINS, MAKE), (CHAIN, PUT), (CHAIN, MAKE)],
    "taken": [(TWINS, MAKE), (CHAIN, PUT), (CHAIN, MAKE)],
    "made": [(TWINS, MAKE), (CHAIN, PUT), (CHAIN, MAKE)],
    "struck": [(CHAIN,), (HALF,), (NEVER,), (BEYOND,)],
    "let_kinds": [(CHAIN,), (PAIRS,), (NEVER,), (BEYOND,)],
    "let_sorts": [(TWINS,), (PAIRS,), (NEVER,), (BEYOND,)],
    "let_stands": [(TWINS,), (PAIRS,), (NEVER,), (BEYOND,)],
    "is_let": [(TWINS, MAKE), (TWINS, (0, (), (0, 1), ((0, 1),))), (CHAIN, MAKE), (BEYOND, MAKE)],
    "come_lap": [(CHAIN, (0, (0,), (0,))), (TWINS, (0, (0, 1), (1,))), (TWINS, (0, (0,), (1,))),
                 (BEYOND, (0, (0,), (0,)))],
    "end_lap": [(CHAIN, (0, (0,), (0,))), (TWINS, (0, (0, 1), (1,))), (TWINS, (0, (0,), (1,))),
                (BEYOND, (0, (0,), (0,)))],
    "best_kinds": [(CHAIN,), (PAIRS,), (NEVER,), (BEYOND,)],
    "is_plan": [(TWINS, PLAN), (TWINS, PLAN[1:]), (TWINS, None)],
    "web_of": [(PLAN,), ((),), (PLAN[:1],)],
    "pending": [(PLAN,), ((),), (PLAN[:1],)],
    "plan_for": [(CHAIN, FAN), (PAIRS, MANY), (COPIES, COPIED), (TWINS, FAN)],
    "bundle_of": [(PLAN,), ((),), (PLAN[:1],)],
    "is_bundle": [(TWINS, TRIO), (TWINS, TRIO[1:]), (BEYOND, TRIO)],
    "bundle_deeds": [(TRIO,), (TRIO[:1],)],
    "bundle_rows": [(TWINS, TRIO), (TWINS, TRIO[:1])],
    "bundle_worth": [(TWINS, TRIO), (TWINS, TRIO[:1])],
    "begun": [(TWINS, (SORT, SORT)), (TWINS, ()), (TWINS, ((0, (0, 1), (0, 1)),)), (BEYOND, (SORT,))],
    "is_begun": [(TWINS, (SORT,), PLAN[:1]), (TWINS, (SORT, SORT), PLAN[:1]), (BEYOND, (SORT,), ())],
    "ended": [(TWINS, PLAN[:1]), (TWINS, PLAN), (TWINS, (((0, (), (0, 1), ((0, 1),)), ()),)), (BEYOND, ())],
    "is_ended": [(TWINS, PLAN[:1], PLAN), (TWINS, PLAN, PLAN[:1]), (BEYOND, (), ())],
    "repeated": [(TWINS, TRIO, 2), (CHAIN, ((LOOP, 2),), 3), (BEYOND, TRIO, 1)],
    "rest": [(TWINS, TRIO), (CHAIN, ((LOOP, 2),)), (BEYOND, TRIO)],
    "is_fraction": [((-1, 2),), ((2, 4),), (None,)],
    "cut": [(6, -4), (0, 5), (1, 0)],
    "added": [((1, 2), (-1, 6))],
    "taken_off": [((1, 2), (-1, 6))],
    "multiplied": [((1, 2), (-1, 6))],
    "divided": [((1, 2), (-1, 6)), ((1, 2), (0, 1))],
    "order": [((1, 2), (-1, 6)), ((1, 2), (1, 2))],
    "is_mix": [(LOOSE, (2, 1)), (LOOSE, (1, 2))],
    "mix_gain": [(LOOSE, (2, 1)), (TIGHT, (2, 1))],
    "gaining": [(LOOSE,), (TIGHT,), ((((1, 2), ()), ((3, 1), ())),)],
    "is_gaining": [(LOOSE, (2, 1)), (TIGHT, (2, 1))],
    "rates": [(LOOSE,), (TIGHT,), ((((-1, 2), ()), ((-3, 1), ())),)],
    "is_rates": [(TIGHT, ((-4, 3),)), (LOOSE, ((-4, 3),))],
    "best_share": [(LOOSE, ((1, 1), (1, 2))), (LOOSE, ((0, 1), (0, 1))), (TIGHT, ((0, 1), (0, 1)))],
    "best_mix": [(LOOSE, ((1, 1), (1, 2))), (LOOSE, ((0, 1), (0, 1))), (TIGHT, ((0, 1), (1, 1)))],
    "is_best_mix": [(LOOSE, ((1, 1), (1, 2)), (2, 1)), (LOOSE, ((0, 1), (0, 1)), (2, 1))],
    "craft_columns": [(TWINS, FAIR), (TWINS, FAIR[:2]), (NEVER, FAIR[:1]), (BEYOND, ())],
    "is_enough": [(TWINS, FAIR), (CHAIN, FAIR), (TWINS, FAIR[:2]), (BEYOND, ())],
    "prices": [(TWINS, FAIR), (TWINS, ((1, 1),) * 3), (TWINS, FAIR[:2]), (BEYOND, ())],
    "is_prices": [(CHAIN, FAIR, (((0, (0,), (0,)), (0, 1)),)), (TWINS, FAIR, ()), (BEYOND, (), ())],
    "breaking": [(TWINS, FAIR), (TWINS, ((1, 1),) * 3), (TWINS, FAIR[:2]), (BEYOND, ())],
    "is_breaking": [(TWINS, ((1, 1),) * 3, TRIO), (TWINS, FAIR, TRIO), (BEYOND, (), ())],
    "even": [(TWINS, (3, 2)), (BEYOND, (0, 1))],
    "mean": [(TWINS,), (NEVER,), (BEYOND,)],
    "mean_bundle": [(TWINS,), (PAIRS,), (NEVER,), (BEYOND,)],
    "is_mean_bundle": [(TWINS, TRIO), (TWINS, TRIO[:1]), (BEYOND, TRIO)],
    "least_for": [(TWINS, FAIR, 0), (TWINS, FAIR, 2), (TWINS, FAIR, 3), (TWINS, FAIR[:2], 3), (TWINS, DOWN, 0),
                  (BEYOND, (), 0)],
    "free_rows": [(TWINS, FAIR), (CHAIN, FAIR), (TWINS, FAIR[:2]), (BEYOND, ())],
    "bends": [(TWINS, FAIR, 0, 2), (TWINS, FAIR, 2, 0), (TWINS, FAIR, 2, 2), (TWINS, FAIR, 4, -1), (CHAIN, DOWN, 0, 2),
              (BEYOND, (), 0, 1)],
    "corners": [(TWINS,), (CHAIN,), (PAIRS,), (BEYOND,)],
    "is_corner": [(TWINS, ((6, 1), (0, 1), (0, 1))), (TWINS, FAIR), (TWINS, None), (PAIRS, ()), (BEYOND, ())],
    "line_mean": [(TWINS,), (KEPT,), (PAIRS,), (NEVER,), (BEYOND,)],
    "line_bundle": [(TWINS,), (KEPT,), (PAIRS,), (NEVER,), (BEYOND,)],
    "is_line_bundle": [(CHAIN, ((LOOP, 1),)), (CHAIN, ((LOOP, 2), (PUT, 1))), (TWINS, TRIO), (PAIRS, ()), (BEYOND, ())],
    "web_beats_line": [(TWINS,), (KEPT,), (PAIRS,), (NEVER,), (BEYOND,)],
    "brings": [(TWINS, FAIR, SORT), (CHAIN, DOWN, (0, (0,), (0,))), (TWINS, FAIR, (0, (0, 1), (0, 1))),
               (TWINS, (), SORT),
               (PAIRS, (), SORT), (BEYOND, (), SORT)],
    "one_again": [(TWINS, FAIR), (CHAIN, DOWN), (TWINS, ()), (PAIRS, ()), (BEYOND, ())],
    "dear_slots": [(CHAIN, FAN, ((1, 0),)), (PAIRS, MANY, ((0, 0), (3, 1))), (COPIES, COPIED, ()), (TWINS, FAN, ())],
    "endless_ring": [(CHAIN, ((1, 0),)), (KEPT, ((0, 1), (1, 0))), (CHAIN, ()), (BEYOND, ())],
    "is_endless_ring": [(CHAIN, ((1, 0),), RING), (CHAIN, (), RING), (KEPT, ((0, 1), (1, 0)), RING),
                        (CHAIN, ((1, 0),), None)],
    "numbered_craft": [(TWINS, ((0, 0),)), (PAIRS, ((0, 0), (1, 0))), (KEPT, ((0, 1),)), (CHAIN, ((1, 0),)),
                       (NEVER, ())],
    "most_again": [(TWINS, ((0, 0),)), (PAIRS, ((0, 0), (1, 0))), (CHAIN, ((1, 0),)), (NEVER, ())],
    "anew_mean": [(TWINS, ((0, 0),)), (KEPT, ((0, 1),)), (CHAIN, ((1, 0),)), (NEVER, ()), (BEYOND, ())],
    "is_enough_with": [(TWINS, FAIR, ((0, 0),)), (TWINS, FAIR, ()), (CHAIN, FAIR, ((1, 0),)), (TWINS, (), ())],
    "lot_enough": [(TWINS, FAIR, ((0, 0),)), (TWINS, FAIR, ()), (CHAIN, FAIR, ((1, 0),)), (TWINS, (), ())],
    "must_share": [(TWINS, ((2, 1),) * 3), (KEPT, ((1, 1),) * 3), (TWINS, DOWN), (TWINS, ()),
                   (BEYOND, ((1, 1),) * len(BEYOND[1]))],
    "are_mates": [(TWINS, UNEVEN), (CHAIN, TWINS), (BEYOND, BEYOND)],
    "all_twins": [(TWINS, UNEVEN), (CHAIN, TWINS), (BEYOND, BEYOND)],
    "let_twins": [(TWINS, UNEVEN), (CHAIN, TWINS), (BEYOND, BEYOND)],
    "twins_of": [(TWINS, UNEVEN, PAIR), (COPIES, COPIES, COPIED), (TWINS, UNEVEN, FAN), (CHAIN, TWINS, ())],
    "ratio": [(TWINS, UNEVEN), (CHAIN, CHAIN), (FREE, CHAIN), (CHAIN, TWINS), (BEYOND, BEYOND)],
    "ratio_bundle": [(TWINS, UNEVEN), (CHAIN, CHAIN), (FREE, CHAIN), (CHAIN, TWINS), (BEYOND, BEYOND)],
    "is_ratio_bundle": [(TWINS, UNEVEN, TWO), (TWINS, UNEVEN, TWO[:1]), (CHAIN, TWINS, None), (BEYOND, BEYOND, TWO)],
    "apart_bundle": [(FREE, CHAIN), (TWINS, UNEVEN), (CHAIN, TWINS), (BEYOND, BEYOND)],
    "is_apart_bundle": [(TWINS, UNEVEN, TWO), (FREE, CHAIN, ((((0, (), (0,), ()),) * 2 + ((),), 1),)),
                        (CHAIN, TWINS, None)],
    "is_never_dearer": [(TWINS, UNEVEN), (CHAIN, CHAIN), (CHAIN, TWINS), (BEYOND, BEYOND)],
    "row_exchanged": [(TWINS, 1, ((0,), ((0, 1), (0, 0)), 4, 1, ())), (TWINS, 3, ()), (TWINS, 1, TWINS[1][0]),
                      (KEPT, 1, ((0,), ((0, 1),), 4, 0, (("new", 5, ((0, 0), (0, 1))), ("kept", 0, 0))))],
    "is_claim": [(CLAIMS[0],), (CLAIMS[3],), (("mean", CHAIN, (2, 4)),)],
    "is_so": [(claim,) for claim in CLAIMS],
    "paper_against": [(claim,) for claim in CLAIMS],
    "is_paper_against": [(claim, TRIO) for claim in CLAIMS],
    "reason_for": [(claim,) for claim in CLAIMS],
    "is_reason_for": [*[(claim, TRIO) for claim in CLAIMS], (CLAIMS[5], RING)],
    "first_fallen": [(CLAIMS[:2],), (CLAIMS[1:2],), (CLAIMS,), ((),), (CLAIMS[-1:],)],
    "kind_name": [(MAKE,), (PUT,)],
    "fraction_name": [((-4, 3),), ((0, 1),)],
    "craft_text": [(PAIRS,), (CHAIN,)],
    "web_text": [(MANY,), ((),)],
    "plan_text": [(PLAN,), (((PUT, ((0, None),)),),)],
    "bundle_text": [(TRIO,)],
    "kind_read": [("0/-/0,1/0;1",), ("1/0:0/-/-",), ("1",)],
    "fraction_read": [("-4/3",), ("2/4",)],
    "read_craft": [("sizes 1\nrow 0 0.0 0 0\nnew 1 0.0\n",), ("sizes 1\n",), ("sizes 1\nrow 0 - 0 0",)],
    "read_web": [("version 0 -\nversion 1 0,0\n",), ("version",)],
    "read_plan": [("step 0/-/-/- 0.-,1.1",), ("\n",)],
    "read_bundle": [("kind 0/-/-/- 1",), ("",)],
    # Boards are tried by themselves.
    "Board": [],
    "is_must": [(KEPT, ((1, 1),) * 3, ((1, 0),)), (KEPT, ((1, 1),) * 3, ()), (TWINS, (), ()),
                (BEYOND, ((1, 1),) * len(BEYOND[1]), ())],
}
LISTS = ("next_deeds", "all_webs", "heirs", "all_kinds", "taken", "made", "struck", "let_kinds", "best_kinds", "bends",
         "corners", "must_share", "all_twins", "let_twins")

RAISED = "raised "


def outcome(call, arguments, by_name=()):
    """What the call returns, by repr, or what it raises with all that this keeps."""
    try:
        if by_name:
            return repr(call(**dict(zip(by_name, arguments))))
        return repr(call(*arguments))
    except (LookupError, ValueError) as error:
        return f"{RAISED}{type(error).__name__} {vars(error)!r}"


def spoil(value):
    """Change each list in value."""
    if isinstance(value, (list, tuple)):
        for part in value:
            spoil(part)
    if isinstance(value, list):
        value.append("spoilt")
        value.reverse()


class Calls(unittest.TestCase):

    def each(self, check):
        """Have check look at each call."""
        for path, table in INTERFACE.items():
            for name, names in table.items():
                for arguments in CALLS[name]:
                    with self.subTest(name=name, arguments=arguments):
                        check(found(path, name), names, arguments)

    def test_each_function_is_called(self):
        told = sorted(name for table in INTERFACE.values() for name in table)
        self.assertEqual(told, sorted(CALLS))

    def test_each_is_defined_in_its_file_with_these_arguments(self):
        for path, table in INTERFACE.items():
            for name, names in table.items():
                call = found(path, name)
                self.assertEqual(call.__module__, path)
                told = inspect.signature(call).parameters.values()
                self.assertEqual(tuple(one.name for one in told), names)
                self.assertEqual({(one.kind, one.default) for one in told},
                                 {(inspect.Parameter.POSITIONAL_OR_KEYWORD, inspect.Parameter.empty)})

    def test_by_name_as_by_position(self):
        self.each(self.check_by_name)

    def check_by_name(self, call, names, arguments):
        self.assertEqual(outcome(call, arguments, by_name=names), outcome(call, arguments))

    def test_again_the_same(self):
        self.each(self.check_again)

    def check_again(self, call, names, arguments):
        first = outcome(call, arguments)
        self.assertEqual([outcome(call, arguments) for _ in range(2)], [first, first])

    def test_lists_for_tuples_and_mixed(self):
        self.each(self.check_lists)

    def check_lists(self, call, names, arguments):
        for turned in (as_lists, as_mixed, lambda value: as_mixed(value, 1)):
            other = [one if name == "thing" else turned(one) for name, one in zip(names, arguments)]
            self.assertEqual(outcome(call, other), outcome(call, arguments))
            self.assertEqual(outcome(call, other, by_name=names), outcome(call, arguments))

    def test_arguments_stay_as_they_were(self):
        self.each(self.check_arguments)

    def check_arguments(self, call, names, arguments):
        other = as_lists(arguments)
        before = copy.deepcopy(other)
        outcome(call, other)
        self.assertEqual(other, before)

    def test_what_is_told_is_new(self):
        self.each(self.check_new)

    def check_new(self, call, names, arguments):
        for other in (arguments, as_lists(arguments)):
            before = copy.deepcopy(other)
            first = outcome(call, other)
            if not first.startswith(RAISED):
                spoil(call(*other))
            self.assertEqual(other, before)
            self.assertEqual(outcome(call, other), first)

    def test_kinds_of_results(self):
        self.each(self.check_kind)

    def check_kind(self, call, names, arguments):
        if outcome(call, arguments).startswith(RAISED):
            return
        told = call(*arguments)
        many = call.__name__ in LISTS
        self.assertEqual(isinstance(told, list), many)
        if call.__name__ == "struck":
            self.assertTrue(all(isinstance(lost, list) for lost in told))
            told = [kind for lost in told for kind in lost]
        self.assertTrue(built_of_tuples(told if many else [told]))


def built_of_tuples(parts):
    """Whether no part holds a list, at any depth."""
    for part in parts:
        if isinstance(part, list) or isinstance(part, tuple) and not built_of_tuples(part):
            return False
    return True


if __name__ == "__main__":
    unittest.main()
