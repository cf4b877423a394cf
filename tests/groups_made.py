"""Groups of every module that makes them, by name."""

from normalwords.besides import beside
from normalwords.frees import free_group
from normalwords.joins import joined
from normalwords.rounds import mirrors, round_group, whole_numbers
from normalwords.rulegroups import rule_group
from normalwords.tables import table_group
from exchanging import COMPLETE
from made import TABLES

TWO = table_group(TABLES["2"], (1,))
SWAPS = table_group(TABLES["swaps"], (1, 2))
MADE = {
    "table of one": table_group(TABLES["1"], (0,)),
    "table of four": table_group(TABLES["2 2"], (1, 2, 3)),
    "swaps": SWAPS,
    "square": table_group(TABLES["square"], (2, 4)),
    "turns": table_group(TABLES["turns"], (1, 2, 6, 7)),
    "round six": round_group(6),
    "whole numbers": whole_numbers(),
    "mirrors": mirrors(),
    "free": free_group(2),
    "plane": beside(whole_numbers(), whole_numbers()),
    "mirrors beside round four": beside(mirrors(), round_group(4)),
    "swaps beside two": beside(SWAPS, TWO),
    "two joined to round three": joined(TWO, round_group(3)),
    "whole numbers joined to mirrors": joined(whole_numbers(), mirrors()),
    "swaps joined to two": joined(SWAPS, TWO),
    "bottle": rule_group(*COMPLETE["bottle"][:3]),
    "squares": rule_group(*COMPLETE["squares"][:3]),
    "four points": rule_group(*COMPLETE["four points"][:3]),
}
