"""The functions of the interface, file by file, with what may be passed for each parameter."""

from bodybars.errors import (
    BadBodies, BadBody, BadBudget, BadCompliance, BadCosts, BadDeal, BadDimension, BadExchange, BadFan, BadFilling,
    BadFrame, BadJoint, BadLoad, BadLog, BadLoss, BadMap, BadMenu, BadMix, BadNumber, BadOrder, BadPacking, BadPairs,
    BadParting, BadPlace, BadPlacement, BadPlan, BadPrices, BadRenaming, BadRow, BadRows, BadSlide, BadSupply, BadTally,
    BadText, BadWeb, BadWidth,
)
from tests.helper import Spiteful

FRAME = (3, 3, (("pin", 0, 1), ("bar", 1, 2), ("bar", 1, 2), ("weld", 0, 2)))
PACKING = ((0, 1), (), (0,), (2,))
PARTING = (0, 1, 0)
TALLY = (2, 0, 1, 1)
PLACEMENT = ((0, 1), ((0, 0), (1, 2)), ((5, 5), (1, 2)), ())
RENAMING = ((2, 0, 1), (3, 1, 0, 2))
FRAME_TEXT = "frame 3 3\npin 0 1\nbar 1 2\nbar 1 2\nweld 0 2"
PACKING_TEXT = "packing\njoint 0 1\njoint\njoint 0\njoint 2"
PLACEMENT_TEXT = "placement\nat 0 1\nfrom 0 0 to 1 2\nfrom 5 5 to 1 2\nheld"

# What is passed for a parameter: right, wrong, and the error that the wrong one raises.
# A wrong value of None stands for: no exception is told for this parameter.
A_FRAME = (FRAME, (3, 3, [1]), BadFrame)
A_PACKING = (PACKING, ((0, 1), (0, 1), (), ()), BadPacking)
A_PARTING = (PARTING, (0, 2, 1), BadParting)
A_MANY = (3, 9, BadNumber)
A_NUMBERS = (2, 4, BadNumber)
A_TALLY = (TALLY, (3, 0, 0, 0), BadTally)
A_PLACEMENT = (PLACEMENT, (), BadPlacement)
A_DIMENSION = (3, 2, BadDimension)
SOME_ROWS = (((1, 2), (2, 4)), ((1, 2), [2, 4]), BadRows)
A_WIDTH = (2, 0, BadWidth)
A_ROW = ((1, 3), (1,), BadRow)
A_PLACE = ((2, 5), (2,), BadPlace)
A_PAIR = (((2, 5), (3, 6)), ((2, 5),), BadPlace)
A_MOTION = ((1, 2, 3), (1, 2, True), BadRow)
A_SCREW = ((1, 2, 3, 4, 5, 6), (1, 2, 3), BadRow)
A_MAP = ((((0, -1), (1, 0)), (5, 7)), (((1, 1), (1, 1)), (5, 7)), BadMap)
A_BODY = (1, 3, BadBody)
A_JOINT = (1, 4, BadJoint)
A_LOAD = ((1, 2, 3, 4, 5, 6, 7, 8, 9), (1, 2, 3, 4, 5, 6, 7, 8), BadLoad)
SOME_COMPLIANCES = ((1, 2, 3, 100), (1, 2, 3, 101), BadCompliance)
A_LOSS = ((0, 2), (2, 0), BadLoss)
SOME_COSTS = ((5, 1, 7, 5), (5, 1, 7, 0), BadCosts)
A_BUDGET = (6, -1, BadBudget)
A_LOOSE_FRAME = ((3, 3, (("pin", 0, 1), ("weld", 1, 2))), (3, 3, [1]), BadFrame)
A_FILLING = (((0, 1),), ((1, 0),), BadFilling)
A_MENU = (((0, 1, 5), (1, 2, 5), (0, 2, 4)), ((0, 1, 0),), BadMenu)
A_SLIDE = (((5, 1, 7, 5), (1, 0, -1, 0), 9), ((5, 1, 7, 5), (1, 0, -1, 0), 1001), BadSlide)
A_JUST_FRAME = ((1, 3, (("bar", 0, 1), ("bar", 1, 2))), (3, 3, [1]), BadFrame)
A_SQUARE_FRAME = ((3, 3, (("pin", 0, 1), ("pin", 1, 2), ("pin", 0, 2))), (3, 3, [1]), BadFrame)
SQUARE_PLACEMENT = (((0, 1), (2, 5), (3, 3)), ((0, 1), (2, 5)), BadPlacement)
A_FAN = ((1, 1, 1, 2, 2, 2), (1, 1, 1, 1, 2, 2), BadFan)
A_DEAL = ((0, 1, 0, 2, 1, 2), (0, 1, 0, 1, 0, 2), BadDeal)
SQUARE_LOT = ((0, 1), (1, 0), BadBodies)
A_LOT_FRAME = ((3, 3, (("pin", 0, 1), ("bar", 0, 1), ("weld", 0, 2))), (3, 3, [1]), BadFrame)
LOT_PLACEMENT = (((0, 1), ((0, 0), (1, 2)), ()), (), BadPlacement)
A_BARRED_FRAME = ((3, 2, (("pin", 0, 1), ("bar", 0, 1))), (3, 3, [1]), BadFrame)
BARRED_PLACEMENT = (((0, 1), ((0, 0), (1, 2))), (), BadPlacement)
A_LOG = (
    (3, 2, ((("join", "bar", 0, 1), (((0, 2),),), (0, 1)),)), (3, 2, ((("join", "bar", 0, 1), (), (0, 2)),)), BadLog,
)
A_LOG_TEXT = ("live 3 2\njoin bar 0 1\nexchange 0 2\nlots 0 1", "live 3 2\njoin bar 0 1\n", BadText)
A_SUPPLY = ((3, 3, ("pin", "bar")), (3, 3, ("hinge",)), BadSupply)
A_MIX = ((3, 3, (2, 1, 0)), (3, 3, (2, 41, 0)), BadMix)
SEVEN_BODIES = (7, 8, BadNumber)
SOME_PRICES = ((2, 3, 4), (2, 3, 0), BadPrices)
SOME_TREES = (2, 7, BadNumber)
FEW_BODIES = (3, 5, BadNumber)
ANYTHING = (Spiteful(), None, None)

FUNCTIONS = {
    "kinds": {
        "need_dimension": {"value": (3, 2, BadDimension)},
        "size_of": {"dimension": (3, None, None), "kind": ("pin", None, None)},
    },
    "frames": {
        "frame_fault": {"value": ANYTHING},
        "is_frame": {"value": ANYTHING},
        "need_frame": {"value": A_FRAME},
        "sizes": {"frame": A_FRAME},
        "own_frame": {"frame": A_FRAME, "bodies": ((0, 2), (2, 0), BadBodies)},
    },
    "partings": {
        "parting_fault": {"many": A_MANY, "value": ANYTHING},
        "need_parting": {"many": A_MANY, "value": A_PARTING},
        "parting_of": {"marks": ((5, 5, 1), (5, "", 1), BadParting)},
        "lots_of": {"parting": A_PARTING},
        "lot_count": {"parting": A_PARTING},
    },
    "partingnumbers": {
        "partings_number": {"many": A_MANY},
        "all_partings": {"many": A_MANY},
        "parting_at": {"many": A_MANY, "number": (4, 5, BadNumber)},
        "number_of_parting": {"parting": A_PARTING},
    },
    "lattice": {
        "is_finer": {"one": A_PARTING, "other": A_PARTING},
        "common_parting": {"one": A_PARTING, "other": A_PARTING},
        "joined_parting": {"one": A_PARTING, "other": A_PARTING},
    },
    "pieces": {"pieces": {"many": A_MANY, "pairs": (((0, 1),), ((1, 0),), BadPairs)}},
    "packings": {
        "packing_fault": {"frame": A_FRAME, "value": ANYTHING},
        "is_packing": {"frame": A_FRAME, "value": ANYTHING},
        "need_packing": {"frame": A_FRAME, "value": A_PACKING},
        "count_of": {"packing": (PACKING, None, None)},
    },
    "renamings": {
        "renaming_fault": {"frame": A_FRAME, "value": ANYTHING},
        "renamed": {"frame": A_FRAME, "renaming": (RENAMING, ((0, 1), ()), BadRenaming)},
        "renamed_parting": {"parting": A_PARTING, "bodies": ((2, 0, 1), (2, 0, 2), BadRenaming)},
        "renamed_row": {"row": (("x", "y"), ["x", "y"], BadRow), "order": ((1, 0), (1, 1), BadRenaming)},
        "renaming_back": {"renaming": (RENAMING, ((0, 0), ()), BadRenaming)},
        "renaming_then": {
            "first": (RENAMING, ((0, 0), ()), BadRenaming),
            "second": (RENAMING, ((0, 1, 2), (0, 1)), BadRenaming),
        },
    },
    "oneform": {"one_form": {"frame": A_FRAME}, "like_renaming": {"one": A_FRAME, "other": A_FRAME}},
    "symmetries": {"symmetries": {"frame": A_FRAME}},
    "frametexts": {
        "frame_text": {"frame": A_FRAME},
        "parting_text": {"parting": A_PARTING},
        "read_frame": {"text": (FRAME_TEXT, "", BadText)},
        "read_parting": {"many": A_MANY, "text": ("lots 0 1 0", "", BadText)},
        "frame_text_fault": {"text": ANYTHING},
        "parting_text_fault": {"many": A_MANY, "text": ANYTHING},
    },
    "packingtexts": {
        "packing_text": {"frame": A_FRAME, "packing": A_PACKING},
        "read_packing": {"frame": A_FRAME, "text": (PACKING_TEXT, "", BadText)},
        "packing_text_fault": {"frame": A_FRAME, "text": ANYTHING},
    },
    "placementtexts": {
        "placement_text": {"frame": A_FRAME, "placement": A_PLACEMENT},
        "read_placement": {"frame": A_FRAME, "text": (PLACEMENT_TEXT, "", BadText)},
        "placement_text_fault": {"frame": A_FRAME, "text": ANYTHING},
    },
    "placements": {
        "placement_fault": {"frame": A_FRAME, "value": ANYTHING},
        "need_placement": {"frame": A_FRAME, "value": A_PLACEMENT},
    },
    "bounds": {
        "crossing_of": {"frame": A_FRAME, "parting": A_PARTING},
        "bound_of": {"frame": A_FRAME, "parting": A_PARTING, "*numbers": A_NUMBERS},
    },
    "woodways": {
        "way_in": {"frame": A_FRAME, "packing": A_PACKING, "joint": (1, 4, BadJoint), "number": (1, 3, BadNumber)},
        "tally_of": {"frame": A_FRAME, "packing": A_PACKING},
        "wood_sizes": {"frame": A_FRAME, "packing": A_PACKING},
    },
    "exchanges": {
        "exchange_fault": {"frame": A_FRAME, "packing": A_PACKING, "value": ANYTHING},
        "exchange_of": {"frame": A_FRAME, "packing": A_PACKING},
        "exchanged": {"frame": A_FRAME, "packing": A_PACKING, "exchange": (((1, 1),), (), BadExchange)},
        "growing": {"frame": A_FRAME, "packing": A_PACKING},
    },
    "woods": {
        "greatest_packing": {"frame": A_FRAME, "*numbers": A_NUMBERS},
        "grown": {"frame": A_FRAME, "packing": A_PACKING},
        "rank_of": {"frame": A_FRAME, "*numbers": A_NUMBERS},
        "free_of": {"frame": A_FRAME},
    },
    "extremes": {
        "reached": {"frame": A_FRAME, "packing": A_PACKING},
        "finest_parting": {"frame": A_FRAME, "*numbers": A_NUMBERS},
        "least_parting": {"frame": A_FRAME, "*numbers": A_NUMBERS},
        "least_partings": {"frame": A_FRAME, "*numbers": A_NUMBERS},
        "are_together": {"frame": A_FRAME, "one": (0, 3, BadBody), "other": (2, -1, BadBody)},
    },
    "tallies": {
        "tally_fault": {"frame": A_FRAME, "value": ANYTHING},
        "need_tally": {"frame": A_FRAME, "value": A_TALLY},
        "packing_with": {"frame": A_FRAME, "tally": A_TALLY},
        "is_met": {"frame": A_FRAME, "tally": A_TALLY},
        "overfull_lot": {"frame": A_FRAME, "tally": A_TALLY},
        "tally_paper": {"frame": A_FRAME, "tally": A_TALLY},
        "tally_paper_fault": {"frame": A_FRAME, "tally": A_TALLY, "paper": ANYTHING},
    },
    "swaps": {
        "is_greatest_tally": {"frame": A_FRAME, "tally": A_TALLY},
        "swap_of": {
            "frame": A_FRAME,
            "tally": ((2, 1, 0, 3), (2, 1, 0, 4), BadTally),
            "other": ((2, 0, 1, 3), (2, 0, 1), BadTally),
            "joint": (1, 4, BadJoint),
        },
        "greatest_tallies": {"frame": A_FRAME},
    },
    "levels": {
        "is_level": {"frame": A_FRAME, "packing": A_PACKING},
        "leveled": {"frame": A_FRAME, "packing": A_PACKING},
    },
    "principal": {"principal_row": {"frame": A_FRAME}},
    "woodpapers": {
        "woods_paper": {"frame": A_FRAME, "*numbers": A_NUMBERS},
        "woods_fault": {"frame": A_FRAME, "paper": ANYTHING, "*numbers": A_NUMBERS},
        "is_woods_paper": {"frame": A_FRAME, "paper": ANYTHING, "*numbers": A_NUMBERS},
    },
    "rows": {
        "need_rows": {"rows": SOME_ROWS, "wide": A_WIDTH},
        "reduced": {"rows": SOME_ROWS, "wide": A_WIDTH},
        "row_rank": {"rows": SOME_ROWS, "wide": A_WIDTH},
        "null_rows": {"rows": SOME_ROWS, "wide": A_WIDTH},
        "kept_rows": {"rows": SOME_ROWS, "wide": A_WIDTH},
        "determinant": {"rows": SOME_ROWS},
    },
    "spans": {
        "is_in_span": {"rows": SOME_ROWS, "wide": A_WIDTH, "row": A_ROW},
        "span_paper": {"rows": SOME_ROWS, "wide": A_WIDTH, "row": A_ROW},
        "span_fault": {"rows": SOME_ROWS, "wide": A_WIDTH, "row": A_ROW, "paper": ANYTHING},
    },
    "lines": {
        "need_place": {"dimension": A_DIMENSION, "place": A_PLACE},
        "line_of": {"dimension": A_DIMENSION, "one": A_PLACE, "other": ((3, 6), (3,), BadPlace)},
        "is_line_row": {"dimension": A_DIMENSION, "row": ANYTHING},
        "is_on": {"dimension": A_DIMENSION, "one": A_PLACE, "other": ((3, 6), (3,), BadPlace), "place": A_PLACE},
        "product": {"one": A_SCREW, "other": A_SCREW},
        "meeting": {"dimension": A_DIMENSION, "first": A_PAIR, "second": A_PAIR},
        "crossing_place": {"dimension": A_DIMENSION, "first": A_PAIR, "second": A_PAIR},
    },
    "screws": {
        "turn_about": {"dimension": A_DIMENSION, "places": A_PLACE},
        "velocity": {"dimension": A_DIMENSION, "motion": A_MOTION, "place": A_PLACE},
        "work": {"row": A_MOTION, "motion": A_MOTION},
        "centre": {"motion": A_MOTION},
        "axis": {"motion": A_SCREW},
        "pitch": {"motion": A_SCREW},
    },
    "maps": {
        "need_map": {"dimension": A_DIMENSION, "value": A_MAP},
        "moved_place": {"dimension": A_DIMENSION, "change": A_MAP, "place": A_PLACE},
        "moved_row": {"dimension": A_DIMENSION, "change": A_MAP, "row": A_MOTION},
        "composed": {"dimension": A_DIMENSION, "last": A_MAP, "first": A_MAP},
        "moved_placement": {"frame": A_FRAME, "placement": A_PLACEMENT, "change": A_MAP},
    },
    "jointrows": {
        "joint_rows": {"frame": A_FRAME, "placement": A_PLACEMENT, "joint": (1, 4, BadJoint)},
        "matrix_of": {"frame": A_FRAME, "placement": A_PLACEMENT},
    },
    "placed": {
        "rank_at": {"frame": A_FRAME, "placement": A_PLACEMENT},
        "left_at": {"frame": A_FRAME, "placement": A_PLACEMENT},
        "is_general": {"frame": A_FRAME, "placement": A_PLACEMENT},
    },
    "corners": {"corner_places": {"dimension": A_DIMENSION}, "corner_lines": {"dimension": A_DIMENSION}},
    "made": {
        "placement_of_packing": {"frame": A_FRAME, "packing": A_PACKING},
        "general_paper": {"frame": A_FRAME},
        "general_paper_fault": {"frame": A_FRAME, "paper": ANYTHING},
    },
    "specials": {
        "special_paper": {"frame": A_FRAME, "placement": A_PLACEMENT},
        "special_paper_fault": {"frame": A_FRAME, "placement": A_PLACEMENT, "paper": ANYTHING},
    },
    "alongs": {
        "along": {
            "frame": A_FRAME, "placement": A_PLACEMENT, "other": A_PLACEMENT, "number": (2, 1001, BadNumber),
        },
        "first_general": {"frame": A_FRAME, "placement": A_PLACEMENT},
    },
    "motions": {
        "motions_at": {"frame": A_FRAME, "placement": A_PLACEMENT},
        "held_motions": {"frame": A_FRAME, "placement": A_PLACEMENT, "body": (1, 3, BadBody)},
        "is_motion": {"frame": A_FRAME, "placement": A_PLACEMENT, "value": ANYTHING},
    },
    "stresses": {
        "stresses_at": {"frame": A_FRAME, "placement": A_PLACEMENT},
        "is_stress": {"frame": A_FRAME, "placement": A_PLACEMENT, "value": ANYTHING},
        "grip": {"frame": A_FRAME, "placement": A_PLACEMENT, "joint": A_JOINT},
        "grips": {"frame": A_FRAME, "placement": A_PLACEMENT},
    },
    "forces": {
        "need_load": {"frame": A_FRAME, "load": A_LOAD},
        "is_balanced": {"frame": A_FRAME, "load": A_LOAD},
        "load_answer": {"frame": A_FRAME, "placement": A_PLACEMENT, "load": A_LOAD},
        "load_fault": {"frame": A_FRAME, "placement": A_PLACEMENT, "load": A_LOAD, "answer": ANYTHING},
    },
    "sways": {
        "relative_motions": {"frame": A_FRAME, "placement": A_PLACEMENT, "one": A_BODY, "other": A_BODY},
        "sway": {"frame": A_FRAME, "placement": A_PLACEMENT, "one": A_BODY, "other": A_BODY},
        "still_lots": {"frame": A_FRAME, "placement": A_PLACEMENT},
        "welded": {"frame": A_FRAME, "parting": A_PARTING},
    },
    "centres": {
        "centres": {
            "frame": ((3, 2, (("pin", 0, 1),)), (3, 3, [1]), BadFrame), "placement": (((0, 1),), (), BadPlacement),
        },
    },
    "elastic": {
        "need_compliances": {"frame": A_FRAME, "value": SOME_COMPLIANCES},
        "elastic": {
            "frame": A_FRAME, "placement": A_PLACEMENT, "compliances": SOME_COMPLIANCES,
            "load": ((2, 0, 1, 0, 0, 0, -2, 0, -1), (0,) * 8, BadLoad),
        },
        "energy": {
            "frame": A_FRAME, "compliances": SOME_COMPLIANCES, "count": (2, 0, BadNumber),
            "forces": (((1, 2), (3,), (4,), (5, 6, 7)), ((1, 2), (3,), (4,), (5, 6)), BadRow),
        },
        "elastic_fault": {
            "frame": A_FRAME, "placement": A_PLACEMENT, "compliances": SOME_COMPLIANCES, "load": A_LOAD,
            "answer": ANYTHING,
        },
    },
    "losses": {
        "need_loss": {"frame": A_FRAME, "loss": A_LOSS},
        "frame_without": {"frame": A_FRAME, "loss": A_LOSS},
        "fall": {"frame": A_FRAME, "loss": A_LOSS},
        "falls": {"frame": A_FRAME},
        "needed_joints": {"frame": A_FRAME},
        "worst_fall": {"frame": A_FRAME, "many": (2, 5, BadNumber)},
    },
    "lossbounds": {
        "slack": {"frame": A_FRAME, "parting": A_PARTING},
        "least_loss": {"frame": A_FRAME, "costs": SOME_COSTS},
        "joint_with": {"frame": A_FRAME, "joint": A_JOINT, "many": (1, 2, BadNumber)},
    },
    "losspapers": {
        "loss_paper": {"frame": A_FRAME, "costs": SOME_COSTS, "budget": A_BUDGET},
        "loosening_fault": {"frame": A_FRAME, "costs": SOME_COSTS, "budget": A_BUDGET, "paper": ANYTHING},
        "staying_fault": {"frame": A_FRAME, "costs": SOME_COSTS, "budget": A_BUDGET, "paper": ANYTHING},
    },
    "circles": {
        "surplus": {"frame": A_FRAME, "lot": A_LOSS},
        "circle_in": {"frame": A_FRAME, "lot": A_LOSS},
        "is_circle": {"frame": A_FRAME, "lot": ANYTHING},
        "sparing": {"frame": A_FRAME, "order": ((3, 1, 0, 2), (3, 1, 0, 3), BadOrder)},
    },
    "backing": {
        "backing": {"frame": A_FRAME},
        "back_classes": {"frame": ((3, 2, (("bar", 0, 1),) * 4), (3, 3, [1]), BadFrame)},
    },
    "fillings": {
        "filling_fault": {"frame": A_FRAME, "value": ANYTHING},
        "need_filling": {"frame": A_LOOSE_FRAME, "value": A_FILLING},
        "first_filling": {"frame": A_FRAME},
        "filling_swap": {
            "frame": A_LOOSE_FRAME, "one": A_FILLING, "other": (((0, 2),), ((2, 0),), BadFilling),
            "pair": ((0, 1), (1, 0), BadPairs),
        },
    },
    "costs": {
        "costs_fault": {"frame": A_FRAME, "value": ANYTHING},
        "need_costs": {"frame": A_FRAME, "value": SOME_COSTS},
        "price_of": {"frame": A_FRAME, "costs": SOME_COSTS, "tally": A_TALLY},
        "levels_of": {"frame": A_FRAME, "costs": SOME_COSTS},
        "cheap_part": {"frame": A_FRAME, "costs": SOME_COSTS, "cost": (5, 0, BadNumber)},
    },
    "cheapest": {
        "greedy_tally": {"frame": A_FRAME, "costs": SOME_COSTS},
        "least_price": {"frame": A_FRAME, "costs": SOME_COSTS},
        "is_cheapest": {"frame": A_FRAME, "costs": SOME_COSTS, "tally": A_TALLY},
        "better_swap": {"frame": A_FRAME, "costs": SOME_COSTS, "tally": ((2, 1, 0, 3), (2, 1, 0, 4), BadTally)},
        "dearest_used": {"frame": A_FRAME, "costs": SOME_COSTS},
    },
    "costpapers": {
        "cheapest_paper": {"frame": A_FRAME, "costs": SOME_COSTS},
        "cheapest_fault": {"frame": A_FRAME, "costs": SOME_COSTS, "paper": ANYTHING},
        "is_cheapest_paper": {"frame": A_FRAME, "costs": SOME_COSTS, "paper": ANYTHING},
    },
    "menus": {
        "menu_fault": {"frame": A_FRAME, "value": ANYTHING},
        "need_menu": {"frame": A_FRAME, "value": A_MENU},
        "choice_of": {"frame": A_FRAME, "menu": A_MENU},
        "makes_stiff": {"frame": A_FRAME, "menu": A_MENU},
        "menu_paper": {"frame": A_FRAME, "menu": A_MENU},
        "menu_paper_fault": {"frame": A_FRAME, "menu": A_MENU, "paper": ANYTHING},
    },
    "slides": {
        "slide_fault": {"frame": A_FRAME, "value": ANYTHING},
        "need_slide": {"frame": A_FRAME, "value": A_SLIDE},
        "worth_at": {"frame": A_FRAME, "slide": A_SLIDE, "time": (9, 10, BadNumber)},
        "stretches": {"frame": A_FRAME, "slide": A_SLIDE},
        "take_row": {"frame": A_FRAME, "costs": SOME_COSTS, "joint": A_JOINT},
    },
    "stifflots": {
        "is_stiff": {"frame": A_FRAME, "bodies": ((0, 2), (2, 0), BadBodies)},
        "stiff_lots": {"frame": A_FRAME},
        "lots_frame": {"frame": A_FRAME},
        "lot_marks": {"frame": A_FRAME},
    },
    "freedoms": {
        "freedom": {"frame": A_FRAME, "one": A_BODY, "other": A_BODY},
        "freedoms": {"frame": A_FRAME},
        "freedom_paper": {"frame": A_FRAME, "one": (2, 3, BadBody), "other": (0, -1, BadBody)},
        "freedom_fault": {
            "frame": A_FRAME, "one": (2, 3, BadBody), "other": (0, -1, BadBody), "number": (2, 4, BadNumber),
            "paper": ANYTHING,
        },
    },
    "justbars": {
        "is_just_stiff": {"frame": A_FRAME},
        "trees_at": {"frame": A_JUST_FRAME, "body": (0, 3, BadBody)},
    },
    "building": {
        "building_plan": {"frame": A_JUST_FRAME},
        "plan_fault": {"frame": A_FRAME, "plan": ANYTHING},
        "built": {"dimension": A_DIMENSION, "plan": ((0, ((1, (), (0, 0, 0)),)), (0, ((1, (), (0, 0)),)), BadPlan)},
    },
    "cores": {"plain_core": {"frame": A_JUST_FRAME}},
    "squares": {
        "is_square": {"frame": A_FRAME},
        "need_square": {"frame": A_SQUARE_FRAME},
        "row_joints": {"frame": A_FRAME},
    },
    "pures": {
        "pure": {"frame": A_SQUARE_FRAME, "placement": SQUARE_PLACEMENT},
        "pure_held": {"frame": A_SQUARE_FRAME, "placement": SQUARE_PLACEMENT, "body": A_BODY},
        "hinge_weight": {"frame": A_FRAME, "placement": A_PLACEMENT},
    },
    "fans": {
        "fans": {"frame": A_SQUARE_FRAME},
        "fan_fault": {"frame": A_SQUARE_FRAME, "value": ANYTHING},
        "fan_sign": {"frame": A_SQUARE_FRAME, "fan": A_FAN},
        "brackets": {"frame": A_SQUARE_FRAME, "placement": SQUARE_PLACEMENT, "fan": A_FAN},
        "fan_sum": {"frame": A_SQUARE_FRAME, "placement": SQUARE_PLACEMENT},
    },
    "deals": {
        "deals": {"frame": A_SQUARE_FRAME},
        "deal_fault": {"frame": A_SQUARE_FRAME, "value": ANYTHING},
        "deal_sign": {"frame": A_SQUARE_FRAME, "deal": A_DEAL},
        "deal_sum": {"frame": A_SQUARE_FRAME, "placement": SQUARE_PLACEMENT},
        "deals_of": {
            "frame": A_SQUARE_FRAME, "packing": (((0, 1), (0, 2), (1, 2)), ((0, 1), (0, 2), (1,)), BadPacking),
        },
    },
    "complexes": {
        "complex_of": {"frame": A_BARRED_FRAME, "placement": BARRED_PLACEMENT, "joint": (1, 2, BadJoint)},
        "bar_centre": {"frame": A_BARRED_FRAME, "placement": BARRED_PLACEMENT, "joint": (1, 2, BadJoint)},
    },
    "loops": {
        "free_screws": {"frame": A_FRAME, "placement": A_PLACEMENT, "joint": A_JOINT},
        "tree_joints": {"frame": A_FRAME},
        "chords": {"frame": A_FRAME},
        "round_of": {"frame": A_FRAME, "chord": (3, 4, BadJoint)},
        "loop_matrix": {"frame": A_FRAME, "placement": A_PLACEMENT},
        "left_by_loops": {"frame": A_FRAME, "placement": A_PLACEMENT},
        "loop_pure": {"frame": A_SQUARE_FRAME, "placement": SQUARE_PLACEMENT},
    },
    "factors": {
        "square_lots": {"frame": A_FRAME},
        "laid_frame": {"frame": A_FRAME, "bodies": SQUARE_LOT},
        "laid_placement": {"frame": A_FRAME, "placement": A_PLACEMENT, "bodies": SQUARE_LOT},
        "own_placement": {"frame": A_FRAME, "placement": A_PLACEMENT, "bodies": SQUARE_LOT},
        "factor_sign": {"frame": A_LOT_FRAME, "bodies": SQUARE_LOT},
        "factored": {"frame": A_LOT_FRAME, "placement": LOT_PLACEMENT, "bodies": SQUARE_LOT},
    },
    "framelogs": {
        "log_fault": {"value": ANYTHING},
        "log_ranks": {"log": A_LOG},
        "live_of_log": {"log": A_LOG},
    },
    "logtexts": {
        "log_text": {"log": A_LOG},
        "read_log": {"text": A_LOG_TEXT},
        "log_text_fault": {"text": ANYTHING},
    },
    "supplies": {"supply_fault": {"value": ANYTHING}, "need_supply": {"value": A_SUPPLY}},
    "arranging": {
        "arranged": {"supply": A_SUPPLY},
        "supply_rank": {"supply": A_SUPPLY},
        "fewest": {"dimension": A_DIMENSION, "many": A_MANY, "kind": ("pin", "hinge", BadSupply)},
    },
    "designs": {
        "prices_fault": {"dimension": A_DIMENSION, "value": ANYTHING},
        "need_prices": {"dimension": A_DIMENSION, "value": SOME_PRICES},
        "lows": {"dimension": A_DIMENSION, "many": SEVEN_BODIES, "prices": SOME_PRICES},
        "cheapest": {"dimension": A_DIMENSION, "many": SEVEN_BODIES, "prices": SOME_PRICES},
        "design_paper": {"dimension": A_DIMENSION, "many": SEVEN_BODIES, "prices": SOME_PRICES},
        "design_fault": {"dimension": A_DIMENSION, "many": SEVEN_BODIES, "prices": SOME_PRICES, "paper": ANYTHING},
    },
    "mixes": {
        "mix_fault": {"value": ANYTHING},
        "need_mix": {"value": A_MIX},
        "spread": {"mix": A_MIX},
        "class_count": {"mix": A_MIX},
        "classes_of": {"mix": A_MIX},
        "free_table": {"mix": A_MIX},
    },
    "webs": {
        "web_fault": {"trees": SOME_TREES, "many": FEW_BODIES, "value": ANYTHING},
        "is_web": {"trees": SOME_TREES, "many": FEW_BODIES, "value": ANYTHING},
        "web_count": {"trees": SOME_TREES, "many": FEW_BODIES},
        "webs": {"trees": SOME_TREES, "many": FEW_BODIES},
        "tree_count": {"trees": SOME_TREES, "many": FEW_BODIES, "web": ((1, 2, 1), (2, 2, 1), BadWeb)},
    },
    "leastframes": {
        "is_least_stiff": {"frame": A_FRAME},
        "thinned": {
            "frame": ((3, 2, (("pin", 0, 1), ("weld", 0, 1), ("bar", 0, 1))), (3, 3, [1]), BadFrame),
            "order": ((2, 0, 1), (2, 0, 2), BadOrder),
        },
        "least_classes": {"dimension": A_DIMENSION, "many": (2, 4, BadNumber)},
    },
}

# Every function and class of the interface, by its file.
NAMES = {
    **{module: tuple(table) for module, table in FUNCTIONS.items()},
    "liveframes": ("LiveFrame",),
}
