"""The interface of what has landed: file by file the functions with the names of their arguments."""

import importlib

INTERFACE = {
    "paidbyheirs.crafts": {
        "is_craft": ("thing",), "is_row": ("sizes", "thing"), "shapes_made": ("craft",), "rows_done": ("craft",),
        "idle_rows": ("craft",), "cut_craft": ("craft",), "renamed": ("craft", "shapes", "rows"),
        "joined_craft": ("craft", "other"), "new_slots": ("craft",), "with_cost": ("craft", "row", "slot", "cost"),
    },
    "paidbyheirs.webs": {
        "is_web": ("craft", "thing"), "next_deeds": ("craft", "web"), "all_webs": ("craft", "many"),
        "heirs": ("web", "version"), "is_line": ("web",), "shapes_of": ("craft", "web"),
        "comes_from": ("web", "version"), "held": ("craft", "web"), "wanted": ("craft", "web", "wait"),
        "holders": ("craft", "web", "wait"), "cut_web": ("web", "versions"), "beside": ("webs",),
    },
    "paidbyheirs.ledgers": {
        "ledger": ("craft", "web"), "paid": ("craft", "web"), "cost": ("craft", "web"),
        "forced_by": ("craft", "web", "wait"), "unforced": ("craft", "web"),
        "look_now": ("craft", "web", "version", "slot"),
    },
    "paidbyheirs.manners": {
        "paid_anew": ("craft", "web", "some"), "cost_anew": ("craft", "web", "some"), "paid_at_once": ("craft", "web"),
        "cost_at_once": ("craft", "web"), "again": ("craft", "web", "some", "version", "slot"),
    },
    "paidbyheirs.errands": {
        "flags_of": ("craft", "web"), "errand": ("craft", "web", "wait"), "parts_taken": ("craft", "web"),
        "kinds_of": ("craft", "web"),
    },
    "paidbyheirs.kinds": {
        "is_kind": ("craft", "thing"), "all_kinds": ("craft",), "worth": ("craft", "kind"), "taken": ("craft", "kind"),
        "made": ("craft", "kind"),
    },
    "paidbyheirs.let": {
        "struck": ("craft",), "let_kinds": ("craft",), "let_sorts": ("craft",), "let_stands": ("craft",),
        "is_let": ("craft", "kind"), "come_lap": ("craft", "sort"), "end_lap": ("craft", "sort"),
        "best_kinds": ("craft",),
    },
    "paidbyheirs.bundles": {
        "is_plan": ("craft", "thing"), "web_of": ("plan",), "pending": ("plan",), "plan_for": ("craft", "web"),
        "bundle_of": ("plan",), "is_bundle": ("craft", "thing"), "bundle_deeds": ("bundle",),
        "bundle_rows": ("craft", "bundle"), "bundle_worth": ("craft", "bundle"), "begun": ("craft", "sorts"),
        "is_begun": ("craft", "sorts", "thing"), "ended": ("craft", "plan"), "is_ended": ("craft", "plan", "thing"),
        "repeated": ("craft", "bundle", "many"), "rest": ("craft", "bundle"),
    },
    "paidbyheirs.cuts": {
        "is_fraction": ("thing",), "cut": ("number", "many"), "added": ("one", "another"),
        "taken_off": ("one", "another"), "multiplied": ("one", "another"), "divided": ("one", "another"),
        "order": ("one", "another"),
    },
    "paidbyheirs.lines": {
        "is_mix": ("columns", "thing"), "mix_gain": ("columns", "mix"), "gaining": ("columns",),
        "is_gaining": ("columns", "thing"), "rates": ("columns",), "is_rates": ("columns", "thing"),
        "best_share": ("columns", "weights"), "best_mix": ("columns", "weights"),
        "is_best_mix": ("columns", "weights", "thing"), "craft_columns": ("craft", "payments"),
    },
    "paidbyheirs.payments": {
        "is_enough": ("craft", "payments"), "prices": ("craft", "payments"),
        "is_prices": ("craft", "payments", "thing"), "breaking": ("craft", "payments"),
        "is_breaking": ("craft", "payments", "thing"), "even": ("craft", "fraction"), "mean": ("craft",),
        "mean_bundle": ("craft",), "is_mean_bundle": ("craft", "thing"),
    },
    "paidbyheirs.border": {
        "least_for": ("craft", "payments", "row"), "free_rows": ("craft", "payments"),
        "bends": ("craft", "payments", "row", "other"), "corners": ("craft",), "is_corner": ("craft", "thing"),
    },
    "paidbyheirs.rings": {
        "line_mean": ("craft",), "line_bundle": ("craft",), "is_line_bundle": ("craft", "thing"),
        "web_beats_line": ("craft",), "brings": ("craft", "payments", "sort"), "one_again": ("craft", "payments"),
    },
    "paidbyheirs.anew": {
        "dear_slots": ("craft", "web", "some"), "endless_ring": ("craft", "some"),
        "is_endless_ring": ("craft", "some", "thing"), "numbered_craft": ("craft", "some"),
        "most_again": ("craft", "some"), "anew_mean": ("craft", "some"),
    },
    "paidbyheirs.shared": {
        "is_enough_with": ("craft", "payments", "some"), "lot_enough": ("craft", "payments", "lot"),
        "must_share": ("craft", "payments"), "is_must": ("craft", "payments", "thing"),
    },
    "paidbyheirs.twocrafts": {
        "are_mates": ("craft", "other"), "all_twins": ("craft", "other"), "let_twins": ("craft", "other"),
        "twins_of": ("craft", "other", "web"), "ratio": ("craft", "other"), "ratio_bundle": ("craft", "other"),
        "is_ratio_bundle": ("craft", "other", "thing"), "apart_bundle": ("craft", "other"),
        "is_apart_bundle": ("craft", "other", "thing"), "is_never_dearer": ("craft", "other"),
        "row_exchanged": ("craft", "row", "like"),
    },
    "paidbyheirs.judge": {
        "is_claim": ("thing",), "is_so": ("claim",), "paper_against": ("claim",), "is_paper_against": ("claim", "thing"),
        "reason_for": ("claim",), "is_reason_for": ("claim", "thing"), "first_fallen": ("claims",),
    },
    "paidbyheirs.texts": {
        "kind_name": ("kind",), "fraction_name": ("fraction",), "craft_text": ("craft",), "web_text": ("web",),
        "plan_text": ("plan",), "bundle_text": ("bundle",), "kind_read": ("word",), "fraction_read": ("word",),
        "read_craft": ("text",), "read_web": ("text",), "read_plan": ("text",), "read_bundle": ("text",),
    },
    "paidbyheirs.board": {
        "Board": ("craft",),
    },
}


def found(path, name):
    """What the file under this path has under this name."""
    return getattr(importlib.import_module(path), name)
