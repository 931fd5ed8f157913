"""What each function is passed, and values that are and are not of these kinds."""

NUMBERS = [None, True, False, "", "0", 1.0, 0.5, {}, (), [], (0,), [0], b"0", object(), ((0,),)]
HOME = ((0, 1, 2), (0, 0, 0), (0, 0, 0), (1, 1, 1))
TIPPED = ((2, 1, 0), (1, 0, 1), (0, 0, 0), (-1, 1, 1))
# Come to from HOME by three turns, and by two tips.
TURNED = ((1, 0, 2), (1, 3, 0), (1, -3, 0), (-1, 1, 1))
ROLLED = ((0, 1, 2), (2, 0, 2), (0, 0, 0), (-1, 1, -1))
LYING, ONES, ZERO = (0, 1, 2), (1, 1, 1), (0, 0, 0)
FLAT = (0, 0, 0, 0, 0, 0)


def endless():
    """A list that contains itself."""
    own = []
    own.append(own)
    return own


def deep():
    """A tuple nested deeper than Python calls itself."""
    own = ()
    for _ in range(100000):
        own = (own,)
    return own


NO_TUPLES = [None, True, False, 0, 1, "", "abc", "012", 1.5, {}, {0: 1}, {0, 1, 2}, b"\x00\x01\x02", object(),
             endless(),
             [endless()] * 3, deep(), (deep(),) * 3]
EMPTY = [(), [], ((),), [[]]]

# For each kind: values that are of it.
FIT = {
    "chest": [(5, 2, 3), (1, 1, 1), (60, 60, 1)],
    "shape": [(0, 1, 2), (2, 0, 1), (2, 1, 0), (0, 2, 1)],
    "stand": [HOME, TIPPED, ((1, 2, 0), (10 ** 12, -5, 6), (2, -10 ** 12, 0), (-1, -1, 1)),
              ((0, 1, 2), (2, 0, 2), ZERO, ONES), TURNED, ROLLED],
    "move": [("tip", 0), ("tip", 3), ("turn", 2, 1), ("turn", 0, -1)],
    "row": [(), (("tip", 0),), (("tip", 1), ("tip", 2), ("tip", 2)), (("turn", 2, 1), ("turn", 3, -1), ("tip", 0))],
    "filled": [(("tip", 0),), (("turn", 2, 1), ("turn", 3, -1), ("tip", 0))],
    "counts": [(0, 0, 0, 0, 0, 0), (1, 0, 0, 0, 0, 0), (1, 1, 2, 0, -4, 10 ** 12), (0, 2, 0, 0, 0, 0)],
    "often": [(0, 0, 0, 0, 0, 0), (1, 1, 2, 0, 0, 0), (2, 0, 0, 0, 0, 2), (1, 1, 1, 1, 1, 1), (0, 0, 3, 3, 3, 3)],
    "way": [0, 1, 2, 3],
    "link": [0, 1, 5, 6, -1],
    "position": [0, 3, 5],
    "side": [0, 1, 2],
    "swing": [0, 3, 4, 7],
    "place": [0],
    "place_behind": [0, 1],
    "any_number": [0, 1, -2, 3000],
    "text": ["", "a b\n# c\n\n-1", "a\nB"],
    "words": [[], [("a", 0), ("b", 0), ("c", 3)], [("-", 7)]],
    "word": ["", "07", "-12", "a"],
    "number": [0, -7, 10 ** 12 - 1],
    "slants": [(0, 0, 0, 0), (1, 3, 0, 0), (10 ** 12, 0, -3, 5), (1, 0, 0, 0)],
    "sign": [1, -1],
    "pair": [0, 1],
    "row_place": [0, 1, 23, 10 ** 30],
    "most": [2, 1, 12, 0, 13, -1],
    "coins": [((3, False, False), (5, True, False)), (), ((4, False, True), (6, False, True), (1, True, False)),
              ((120, False, True),)],
    "paying": [(2, -1), (), (0, 0, 3), (4,), (12, -7)],
    "arc": [(), (0,), (3, 4, 5), (0, 1, 2, 3, 4, 5)],
    "axis": [0, 1],
    "middle": [(0, 0), (14, 0), (7, 8), (10 ** 12, -3)],
    "prices": [(1, 1, 1, 1, 1, 1), (0, 0, 1, 7, 7, 7), FLAT, (5, 0, 3, 2, 10 ** 6, 1)],
    "low": [-8, 0, 3],
    "high": [8, 5, -1],
    "board": [(9, 6, ((8, 5),)), (3, 2, ((1, 1),)), (1, 1, ()), (2, 1, ((0, 0), (1, 0))), (5, 4, ((2, 2), (3, 0)))],
    "small": [(1, 1, 2), (1, 2, 3), (2, 2, 2), (1, 1, 1)],
    "lying": [((0, 1, 2), (0, 0)), ((2, 1, 0), (1, 0)), ((1, 0, 2), (2, 1)), ((0, 2, 1), (-1, 10 ** 6))],
    "base": [(0, 0), (-3, 10 ** 6)],
    "squares": [((0, 0), (1, 0)), (), ((0, 0),), ((0, 0), (0, 1), (1, 0), (1, 1)), ((-1, 5), (7, -2))],
    "how": ["tips", "turns", "both"],
    "row_text": ["tip east", "# b\n\n  turn nw  right # a", "", "tip up", "tip east\ntip west", "a\nB"],
    "sheet_text": ["chest 1 2 3\nstand 0 1 2 0 0 0 0 0 0 1 1 1\ntip east", "", "chest 1 2 3", "chest 1 2 0\nA",
                   "chest 1 2 3\n\nstand 2 1 0 1 0 1 0 -4 0 -1 1 1"],
    "picture": [".#.\n.oo\n", "", "o", ".o\no.\n", "oo\noo\n", "..\n.x\n"],
    "sheet": [((1, 2, 3), TIPPED, (("tip", 0), ("turn", 0, 1))), ((60, 1, 1), HOME, ()), ((1, 1, 1), TURNED, ())],
    "demand": [("come", HOME, TIPPED), ("come", HOME, TURNED), ("fewest", HOME, ROLLED, 1), ("fewest", HOME, ROLLED, 2),
               ("turns", HOME, TURNED, 2), ("turns", HOME, TURNED, 3), ("alike", (("tip", 0),), ()),
               ("alike", (("tip", 0), ("tip", 2)), ())],
    "demands": [(("come", HOME, TIPPED), ("come", HOME, TURNED)), (), (("fewest", HOME, ROLLED, 0),),
                (("alike", (), ()), ("turns", HOME, TURNED, 3))],
    "stake": [(FLAT, ()), ((0, 0, 2, 0, 0, 0), (3, 4, 5)), ((1, -1, 0, 0, 10 ** 12, 2), (0, 2)),
              (FLAT, (0, 1, 2, 3, 4, 5))],
    "thing": [None, True, 3, "a", (), [], (1, 1, 1), [1, 1, 1], ("tip", 0), ["tip", 0], (("tip", 0),), [("tip", 0)],
              HOME, list(HOME), FLAT, [0, 0, 0, 0, 0, 0], (0, 1, 2, 2), [0, 1, 2, 2], (True, 1, 2),
              (0, True, 0), (("tip", 0), ("tip", 0)), (["tip", 0], ["tip", 0]), (("turn", 0, -1),), (FLAT, ()),
              (FLAT, [0, 1, 2, 3, 4, 5]), (FLAT, (0, 1, 2, 3, 4, 5)), ("sum", 0), ("sum", True), ["sum", 0],
              ("front", 0), ("odd", (0,)), ("odd", [0]), (2, -1), [2, -1], (True, False), 2, ((0, 2), (0, 4)),
              ((False, 2), (0, 4)), ((3, False, False), (5, True, False)), ((3, False, False), [5, True, False]),
              TURNED, ROLLED, ((0, 1, 2), (2, 0, True), ZERO, (-1, 1, -1)), (("turn", 1, -1),) * 2,
              (9, 6, ((8, 5),)), (9, 6, [(8, 5)]), (True, 1, ()), ((0, 1, 2), (0, 0)), ((0, 1, 2), [0, 0]),
              (((0, 1, 2), (0, 0)),), ((1, 2, 3), TIPPED, (("tip", 0),)), [(1, 2, 3), TIPPED, ()],
              ("come", HOME, TIPPED), ["come", HOME, TIPPED], ("fewest", HOME, ROLLED, True), ("alike", (), ()),
              ((2, 0, 0, 0, 0, 0), (1, 2, 3, 4, 5)), (1, 3, 0, 0), (TIPPED, HOME), [TIPPED, HOME]],
}

# For each kind: values at the bounds of [3], and somewhat beyond them.
GREAT = {
    "chest": [(60, 60, 60), (61, 1, 100)],
    "shape": [(0, 1, 2)],
    "stand": [((0, 1, 2), (10 ** 12,) * 3, (-10 ** 12,) * 3, ONES),
              ((2, 1, 0), (2 * 10 ** 12,) * 3, (-10 ** 13,) * 3, ONES),
              ((0, 1, 2), (10 ** 13, 10 ** 12, 10 ** 13), (-10 ** 12,) * 3, ONES)],
    "move": [("tip", 0)],
    "row": [(("tip", 0),) * 2000, (("tip", 1),) * 2100],
    "filled": [(("tip", 0),) * 2000, (("tip", 1),) * 2100],
    "counts": [(10 ** 12,) * 6, (-10 ** 12,) * 6, (10 ** 13,) * 6],
    "often": [(10 ** 6,) * 6, (2 * 10 ** 6,) * 6],
    "way": [3],
    "link": [5],
    "position": [5],
    "side": [2],
    "swing": [7],
    "place": [1999],
    "place_behind": [2000],
    "any_number": [10 ** 6, -10 ** 6, 10 ** 7],
    "text": ["a " * 10 ** 5],
    "words": [[("a", 10 ** 6)]],
    "word": ["a" * 10 ** 5],
    "number": [10 ** 12 - 1, 1 - 10 ** 12],
    "slants": [(10 ** 12,) * 4, (10 ** 13, -10 ** 13, 0, 2)],
    "sign": [-1],
    "pair": [1],
    "row_place": [10 ** 30],
    "most": [12],
    "coins": [((120, False, True), (119, True, False), (117, False, True)),
              ((130, False, True), (61, True, False), (1, False, False))],
    "paying": [(10 ** 14, -10 ** 14 + 1, 0), (-10 ** 15, -1, 10 ** 15)],
    "arc": [(0, 1, 2, 3, 4, 5)],
    "axis": [1],
    "middle": [(10 ** 12, -10 ** 12), (-10 ** 13, 10 ** 13 + 1)],
    "prices": [(10 ** 6,) * 6, (0, 0, 10 ** 7, 10 ** 6, 0, 1)],
    "low": [-10 ** 6, 10 ** 6, -10 ** 7],
    "high": [10 ** 6, -10 ** 6, 10 ** 7],
    "board": [(20, 20, ((0, 5), (7, 7))), (1, 400, ()), (22, 22, ())],
    "small": [(1, 2, 1), (60, 61, 20)],
    "lying": [((0, 1, 2), (0, 0)), ((2, 1, 0), (10 ** 6, -10 ** 7))],
    "base": [(10 ** 6, -10 ** 6), (10 ** 7, 10 ** 7)],
    "squares": [tuple((x, y) for x in range(20) for y in range(20)), ((-10 ** 6, 0), (10 ** 7, 0))],
    "how": ["tips", "turns", "both"],
    "row_text": ["# " + "a" * 10 ** 5 + "\ntip east"],
    "sheet_text": ["chest 60 60 60\nstand 0 1 2 " + "-999999999999 " * 6 + "1 1 1" + "\ntip east" * 2100],
    "picture": [("." * 19 + "o\n") * 20],
    "sheet": [((60, 60, 61), ((0, 1, 2), (10 ** 12,) * 3, (-10 ** 13,) * 3, ONES), (("tip", 0),) * 2100)],
    "demand": [("come", HOME, ((0, 1, 2), (10 ** 12, 10 ** 12, 10 ** 13), ZERO, ONES)),
               ("fewest", HOME, ((0, 1, 2), (2 * 10 ** 12, 0, 2 * 10 ** 12), ZERO, ONES), 10 ** 6),
               ("turns", HOME, ((0, 1, 2), (4 * 10 ** 12, 0, 0), ZERO, ONES), 10 ** 14),
               ("alike", (("tip", 0),) * 2000, (("turn", 0, 1),) * 2100)],
    "demands": [(("come", HOME, TIPPED),) * 500],
    "stake": [((10 ** 12,) * 6, ()), ((-10 ** 13,) * 6, (5,))],
    "thing": [(10 ** 40,) * 3, ("tip",) * 10 ** 5, (("tip", 0),) * 10 ** 4],
}

# For each kind: values that are not, each of which is Unfit(); kinds without any are not checked.
UNFIT = {
    "chest": NO_TUPLES + EMPTY + [
        (1, 1), [1, 1], (1, 1, 1, 1), (0, 1, 1), (1, 0, 1), (1, 1, 0), (1, 1, -1), (True, 1, 1), (1, 1, True),
        (1, None, 1), ("1", 1, 1), (1, 1, (1,)), (1, 1, [1]), ((1, 1, 1),), [[1, 1, 1]], (1, 1, 1.0),
        ((1,), (1,), (1,)),
    ],
    "shape": NO_TUPLES + EMPTY + [
        (0, 1), (0, 1, 2, 0), (0, 1, 1), (0, 0, 0), (1, 2, 3), (-1, 0, 1), (False, 1, 2), (0, True, 2), [0, True, 2],
        (0, 1, None), (0, 1, "2"), (0, 1, (2,)), ((0, 1, 2),), [[0, 1, 2]], (0, 1, 2.0), (-3, -2, -1),
    ],
    "stand": NO_TUPLES + EMPTY + [
        HOME[:3], HOME + (ONES,), (HOME,), [list(HOME)], (LYING, ZERO, ZERO, (1, 1, 0)),
        (LYING, ZERO, ZERO, (1, 1, True)), (LYING, ZERO, ZERO, (1, 1)), (LYING, ZERO, ZERO, (1, 1, 1, 1)),
        (LYING, ZERO, (0, 0), ONES), (LYING, (0, 0, 0, 0), ZERO, ONES), (LYING, (0, True, 0), ZERO, ONES),
        (LYING, (0, "0", 0), ZERO, ONES), (LYING, ZERO, (None, 0, 0), ONES), (LYING, ZERO, (0, (0,), 0), ONES),
        ((0, 1, 1), ZERO, ZERO, ONES), ((0, True, 2), ZERO, ZERO, ONES), ((0, 1), ZERO, ZERO, ONES),
        (None, ZERO, ZERO, ONES), (LYING, None, ZERO, ONES), (LYING, ZERO, True, ONES), (LYING, ZERO, ZERO, "111"),
        (LYING, ZERO, ZERO, 1), (LYING, ZERO, ZERO, (1, 1, 3)), [[0, 1, 2], [0, 0, 0], [0, 0, 0], [1, 1, -2]],
        LYING + ZERO + ZERO + ONES, ((LYING,), ZERO, ZERO, ONES), (LYING, (0.0, 0, 0), ZERO, ONES),
    ],
    "move": NO_TUPLES + EMPTY + [
        ("tip",), ("tip", 4), ("tip", -1), ("tip", True), ("tip", None), ("tip", "0"), ("tip", (0,)), ("tip", [0]),
        ("tip", 0, 1), ("turn", 0), ("turn", 4, 1), ("turn", -1, 1), ("turn", 0, 0), ("turn", 0, 2),
        ("turn", 0, True), ("turn", False, 1), ("turn", 0, 1, 1), ("turn", 0, (1,)), (("tip", 0),), [["tip", 0]],
        (("tip",), 0), ("slide", 0), (b"tip", 0), (0, "tip"), ("tip", 0.0), "tip", ("east",),
    ],
    "row": NO_TUPLES + [
        ((),), [[]], ("tip", 0), ["tip", 0], ("turn", 0, 1), (("tip", 4),), [["tip", -1]], (("tip", 0), None),
        (("tip", True),), (("tip", 0), ("turn", 0)), ((("tip", 0),),), [[["tip", 0]]], (("turn", 0, 0),),
        ("tip", "tip"), (0,), (None,), ("",), (("tip", 0), ("tip", 0, 0)),
    ],
    "counts": NO_TUPLES + EMPTY + [
        (0,) * 5, (0,) * 7, [0] * 5, (0, 0, 0, 0, 0, True), (None, 0, 0, 0, 0, 0), ("0",) * 6, "000000", ((0,),) * 6,
        ((0,) * 6,), (0, 0, 0, 0, 0, 1.0), [[0]] * 6,
    ],
    "often": NO_TUPLES + EMPTY + [
        (0,) * 5, (0,) * 7, (0, 0, 0, 0, 0, -1), (-1, 0, 0, 0, 0, 0), (0, 0, 0, 0, 0, True), (0, 0, None, 0, 0, 0),
        ("0",) * 6, ((0,),) * 6, ((0,) * 6,), (0, 0, 0, 0, 0, 1.0),
    ],
    "way": NUMBERS + [-1, 4, 5, "east", ("tip", 0), 10 ** 30],
    "link": NUMBERS + ["LINK 0", (0, 1)],
    "position": NUMBERS + [-1, 6, -6, 10 ** 30],
    "side": NUMBERS + [-1, 3, -3, 10 ** 30],
    "swing": NUMBERS + [-1, 8, -8, 10 ** 30],
    "place": NUMBERS + [-1, -2, 4, 5, 10 ** 30],
    "place_behind": NUMBERS + [-1, -2, 4, 5, 10 ** 30],
    "any_number": NUMBERS,
    "slants": NO_TUPLES + EMPTY + [
        (0,) * 3, (0,) * 5, [0] * 3, (0, 0, 0, True), (None, 0, 0, 0), ("0",) * 4, "0000", ((0,),) * 4, ((0,) * 4,),
        (0, 0, 0, 1.0), ((0, 0), (0, 0)), HOME,
    ],
    "sign": NUMBERS + [0, 2, -2, "1", 10 ** 30],
    "pair": NUMBERS + [-1, 2, "0", 10 ** 30],
    "row_place": NUMBERS + [-1, -10 ** 30, 10 ** 30 + 1, 10 ** 40],
    "stake": NO_TUPLES + EMPTY + [
        FLAT, (FLAT,), (FLAT, (), ()), ((), FLAT), (FLAT, 0), (FLAT, None), (FLAT, "0"), (FLAT, (6,)), (FLAT, (-1,)),
        (FLAT, (True,)), (FLAT, (0, 0)), (FLAT, (1, 0)), [list(FLAT), [5, 4]], (FLAT, ((0,),)), (FLAT, ("0",)),
        (FLAT, (None,)), (FLAT, (0.0,)), ((0,) * 5, ()), ((0,) * 7, ()), ((0, 0, 0, 0, 0, True), ()), (None, ()),
        ("000000", ()), ((FLAT, ()),), (((0,) * 6,), ()), (FLAT, (0, 1, 2, 3, 4, 5, 5)), (FLAT, {}),
    ],
    "most": NUMBERS,
    "coins": NO_TUPLES + [
        ((),), [[]], (3, False, False), [3, False, False], ((3, False, False),) * 4, ((0, False, False),),
        ((-3, False, False),), ((True, False, False),), ((None, False, False),), ((3, False),),
        ((3, False, False, False),), ((3, 0, 0),), ((3, 1, False),), ((3, False, None),), ((3, "", False),),
        (((3,), False, False),), ((3.0, False, False),), (((3, False, False),),), [[[3, False, False]]],
        ((3, False, False), None), ("abc",), ((3, False, False), ()), ((3, (False,), False),),
    ],
    "paying": NO_TUPLES + EMPTY + [
        (2,), (2, -1, 0), (1, 1), (2, 2), [3, 1], (2, True), (False, 1), (2, None), (2, "1"), ((2, -1),), (2, (-1,)),
        ((2,), (-1,)), (2, 1.0), (2.0, 1),
    ],
    "arc": NO_TUPLES + [
        ((),), [[]], (6,), (-1,), (0, 0), (1, 0), [5, 4], (True,), (False,), (None,), ("0",), ((0,),), [[0]], (0.0,),
        (0, 1, 2, 3, 4, 5, 5), (0, 1, 2, 3, 4, 5, 6), FLAT, (0, True),
    ],
    "axis": NUMBERS + [-1, 2, "x", 10 ** 30],
    "middle": NO_TUPLES + EMPTY + [
        (0,), (0, 0, 0), [0], (0, True), (None, 0), ("0", 0), "00", ((0, 0),), [[0, 0]], (0, (0,)), (0, 0.0),
        ((0,), (0,)),
    ],
    "words": NO_TUPLES + [[()], ["a"], [("a",)], [("a", 0, 0)], [("A", 0)], [("", 0)], [("a", -1)], [("a", True)],
                          [("a", 1), ("b", 0)], [[["a", 0]]], ("a", 0), [(0, "a")]],
}
UNFIT["filled"] = UNFIT["row"]
UNFIT["prices"] = UNFIT["often"]
UNFIT["low"] = UNFIT["high"] = NUMBERS

UNFIT["small"] = UNFIT["chest"]
UNFIT["base"] = UNFIT["middle"]
TEXTS = ("text", "row_text", "sheet_text", "picture")
for text in TEXTS:
    UNFIT[text] = [None, True, False, 0, 1.0, b"", b"tip east", (), [], ("tip east",), ["tip", "east"], {}, object()]
UNFIT["how"] = NUMBERS + ["Tips", "tip", "both ", "none", b"tips", ("tips",), ["both"], "tipsturns"]
UNFIT["board"] = NO_TUPLES + EMPTY + [
    (1, 1), (1, 1, (), ()), (0, 1, ()), (1, 0, ()), (-1, 1, ()), (True, 1, ()), (1, True, ()), (1, None, ()), ("1", 1, ()),
    (1, 1, None), (1, 1, 0), (1, 1, ((1, 0),)), (1, 1, ((0, 1),)), (1, 1, ((-1, 0),)), (1, 1, ((0, 0), (0, 0))),
    (2, 2, ((1, 0), (0, 0))), [2, 2, [[0, 1], [0, 0]]], (1, 1, (0, 0)), (1, 1, ((0,),)), (1, 1, ((0, 0, 0),)),
    (1, 1, ((0, False),)), (1, 1, (None,)), (1, 1, ((0, "0"),)), (1, 1, (((0, 0),),)), ((1, 1, ()),), (1, 1, ((0, 0.0),)),
    (1, 1, "00"), (1, 1, {}), ((1,), 1, ()), (1, 1, ((0, (0,)),)),
]
UNFIT["lying"] = NO_TUPLES + EMPTY + [
    ((0, 1, 2),), ((0, 1, 2), (0, 0), ()), ((0, 0), (0, 1, 2)), ((0, 1, 1), (0, 0)), ((0, 1), (0, 0)),
    ((0, 1, 2), (0,)), ((0, 1, 2), (0, 0, 0)), ((0, 1, 2), (0, True)), ((0, True, 2), (0, 0)), ((0, 1, 2), None),
    (None, (0, 0)), ((0, 1, 2), ("0", 0)), ("012", (0, 0)), ((0, 1, 2), ((0, 0),)), [[[0, 1, 2], [0, 0]]],
    ((0, 1, 2), 0, 0), ((0, 1, 2), (0, 0.0)), ((0, 1, 2), "00"),
]
UNFIT["squares"] = NO_TUPLES + [
    (0, 0), ((),), [[]], ((0,),), ((0, 0, 0),), ((0, True),), ((None, 0),), ((0, "0"),), ("00",), (((0, 0),),),
    ((0, 0), (0, 0)), ((1, 0), (0, 0)), [[0, 1], [0, 0]], ((0, 0), None), ((0, 0.0),), ((0, 0), 1),
]
UNFIT["sheet"] = NO_TUPLES + EMPTY + [
    ((1, 2, 3), HOME), ((1, 2, 3), HOME, (), ()), ((1, 2, 0), HOME, ()), ((1, 2), HOME, ()), (None, HOME, ()),
    ((1, 2, 3), HOME[:3], ()), ((1, 2, 3), None, ()), ((1, 2, 3), HOME, None), ((1, 2, 3), HOME, ("tip", 0)),
    ((1, 2, 3), HOME, (("tip", 4),)), ((1, 2, 3), HOME, (("tip", True),)), ((1, True, 3), HOME, ()),
    (HOME, (1, 2, 3), ()), (((1, 2, 3), HOME, ()),), [[1, 2, 3], [[0, 1, 2], [0, 0, 0], [0, 0, 0], [1, 1, 0]], []],
    ((1, 2, 3), HOME, ((("tip", 0),),)), ((1, 2, 3), HOME, "tip"), ("123", HOME, ()),
]
UNFIT["demand"] = NO_TUPLES + EMPTY + [
    ("come",), ("come", HOME), ("come", HOME, HOME, 0), ("come", HOME, None), ("come", HOME[:3], HOME), ("Come", HOME, HOME),
    ("go", HOME, HOME), (None, HOME, HOME), (b"come", HOME, HOME), (("come",), HOME, HOME), ("come", (), ()),
    (("come", HOME, HOME),), ("fewest", HOME, ROLLED), ("fewest", HOME, ROLLED, -1), ("fewest", HOME, ROLLED, True),
    ("fewest", HOME, ROLLED, None), ("fewest", HOME, ROLLED, "2"), ("fewest", HOME, ROLLED, (2,)),
    ("fewest", HOME, ROLLED, 2, 2), ("fewest", HOME, HOME[:3] + ((1, 1, -1),), 9), ("fewest", HOME, TIPPED[:3] + ((1, 1, 1),), 9),
    ("turns", HOME, TURNED), ("turns", HOME, TURNED, -1), ("turns", HOME, TURNED, False), ("turns", HOME, TIPPED, 9),
    ("turns", HOME, TURNED[:3] + (ONES,), 9), ("turns", HOME, TURNED, 3, 3), ("turns", HOME, TURNED, 3.0),
    ("alike", ()), ("alike", (), (), ()), ("alike", (), None), ("alike", ("tip", 0), ()), ("alike", (("tip", 4),), ()),
    ("alike", (), (("tip", True),)), ("alike", HOME, HOME), ("alike", "tip", ()), ["alike", [["turn", 0]], []],
]
UNFIT["demands"] = NO_TUPLES + [
    ((),), [[]], ("come", HOME, TIPPED), (("come", HOME, TIPPED), None), (None, ("come", HOME, TIPPED)),
    ((("come", HOME, TIPPED),),), (("come", HOME, TURNED), ("fewest", HOME, TURNED, -1)), (True,), ("come",),
    (("come", HOME, TURNED), ("turns", HOME, TIPPED, 9)), (("come", HOME, TURNED), ()),
]

ON_BOARD = [("board", "board"), ("chest", "small"), ("lying", "lying"), ("how", "how")]
TO_OTHER = ON_BOARD[:3] + [("other", "lying"), ("how", "how")]
PRICED = [("stand", "stand"), ("goal", "stand"), ("prices", "prices")]
AS_BARS = [("stand", "stand"), ("goal", "stand"), ("side", "side")]
THERE = [("chest", "chest"), ("stand", "stand"), ("shape", "shape"), ("middle", "middle")]

# For each file and function: the names of its parameters, in order, with their kinds.
CALLS = {
    "signs": {
        "words": [("text", "text")],
        "text_of": [("words", "words")],
        "number_of": [("word", "word")],
        "word_of": [("number", "number")],
    },
    "shapes": {
        "is_chest": [("thing", "thing")],
        "is_shape": [("thing", "thing")],
        "shapes": [],
        "position": [("shape", "shape")],
        "shape_at": [("number", "position")],
        "link_ends": [("link", "link")],
        "link_side": [("link", "link")],
        "link_ways": [("link", "link")],
        "link_over": [("shape", "shape"), ("way", "way")],
        "other_shape": [("shape", "shape"), ("link", "link")],
        "link_between": [("shape", "shape"), ("other", "shape")],
        "arcs": [("shape", "shape"), ("other", "shape")],
        "ring_steps": [("shape", "shape"), ("other", "shape")],
    },
    "stands": {
        "is_stand": [("thing", "thing")],
        "is_move": [("thing", "thing")],
        "home": [],
        "moved": [("stand", "stand"), ("move", "move")],
        "moves": [("stand", "stand")],
        "middle_of": [("chest", "chest"), ("stand", "stand")],
        "height": [("chest", "chest"), ("stand", "stand")],
        "lower_face": [("chest", "chest"), ("stand", "stand")],
        "corners": [("chest", "chest"), ("stand", "stand")],
        "face_below": [("stand", "stand")],
        "looks": [("stand", "stand"), ("side", "side")],
    },
    "rows": {
        "is_row": [("thing", "thing")],
        "behind": [("stand", "stand"), ("row", "row")],
        "stands_along": [("stand", "stand"), ("row", "row")],
        "shapes_along": [("stand", "stand"), ("row", "row")],
        "middles_along": [("chest", "chest"), ("stand", "stand"), ("row", "row")],
        "tips_alone": [("row", "row")],
        "turns_alone": [("row", "row")],
        "how_often": [("row", "row")],
        "first_met": [("stand", "stand"), ("row", "row"), ("goal", "stand")],
    },
    "undoing": {
        "contrary": [("move", "move")],
        "undone": [("row", "row")],
        "shortened": [("row", "row")],
        "is_short": [("row", "row")],
        "joined": [("row", "row"), ("other", "row")],
        "repeated": [("row", "row"), ("number", "any_number")],
        "changed": [("row", "filled"), ("number", "place"), ("move", "move")],
        "left_out": [("row", "filled"), ("number", "place")],
        "put_in": [("row", "filled"), ("number", "place_behind"), ("move", "move")],
        "swung": [("row", "row"), ("number", "swing")],
        "stand_swung": [("stand", "stand"), ("number", "swing")],
        "put_behind": [("stand", "stand"), ("other", "stand")],
        "back_from": [("stand", "stand")],
    },
    "counts": {
        "is_counts": [("thing", "thing")],
        "counts_of": [("stand", "stand"), ("row", "row")],
        "counts_between": [("stand", "stand"), ("goal", "stand")],
        "shifts_by": [("counts", "counts")],
        "counts_joined": [("counts", "counts"), ("second", "counts")],
        "counts_back": [("counts", "counts")],
        "odd_links": [("counts", "counts")],
        "can_lead": [("shape", "shape"), ("other", "shape"), ("counts", "counts")],
        "size_of": [("counts", "counts")],
        "stand_by": [("stand", "stand"), ("shape", "shape"), ("counts", "counts")],
        "middle_shift": [("chest", "chest"), ("counts", "counts")],
    },
    "links": {
        "often_gone": [("stand", "stand"), ("row", "row")],
        "gone_links": [("stand", "stand"), ("row", "row")],
        "free_links": [("counts", "counts")],
        "free_stretches": [("shape", "shape"), ("other", "shape"), ("counts", "counts")],
        "gap": [("shape", "shape"), ("other", "shape"), ("counts", "counts")],
        "can_go": [("shape", "shape"), ("other", "shape"), ("often", "often")],
        "walk_for": [("shape", "shape"), ("other", "shape"), ("often", "often")],
        "is_walk_for": [("shape", "shape"), ("other", "shape"), ("often", "often"), ("thing", "thing")],
        "fronts_by": [("stand", "stand"), ("shape", "shape"), ("counts", "counts")],
    },
    "fewest": {
        "fewest_tips": [("stand", "stand"), ("goal", "stand")],
        "first_tips": [("stand", "stand"), ("goal", "stand")],
        "plan": [("stand", "stand"), ("goal", "stand")],
        "is_plan": [("stand", "stand"), ("goal", "stand"), ("thing", "thing")],
        "spare_tips": [("stand", "stand"), ("goal", "stand")],
        "sure_links": [("stand", "stand"), ("goal", "stand")],
        "gone_by": [("stand", "stand"), ("goal", "stand")],
    },
    "barred": {
        "can_tip_to": [("stand", "stand"), ("goal", "stand")],
        "bars": [("stand", "stand"), ("goal", "stand")],
        "why_not": [("stand", "stand"), ("goal", "stand")],
        "is_why_not": [("stand", "stand"), ("goal", "stand"), ("thing", "thing")],
        "why_no_fewer": [("stand", "stand"), ("goal", "stand")],
        "is_why_no_fewer": [("stand", "stand"), ("goal", "stand"), ("thing", "thing")],
        "stakes": [("stand", "stand"), ("goal", "stand")],
        "tips_told": [("stake", "stake")],
    },
    "slants": {
        "slants_between": [("stand", "stand"), ("goal", "stand")],
        "stand_by_slants": [("stand", "stand"), ("slants", "slants")],
        "can_turn_to": [("stand", "stand"), ("goal", "stand")],
        "why_not_turned": [("stand", "stand"), ("goal", "stand")],
        "pair_turned": [("move", "move")],
        "turn_for": [("number", "pair"), ("one", "sign"), ("other", "sign")],
        "fewest_turns": [("stand", "stand"), ("goal", "stand")],
        "first_turns": [("stand", "stand"), ("goal", "stand")],
        "turn_plan": [("stand", "stand"), ("goal", "stand")],
        "is_turn_plan": [("stand", "stand"), ("goal", "stand"), ("thing", "thing")],
    },
    "ways": {
        "how_many_turn_rows": [("stand", "stand"), ("goal", "stand")],
        "turn_row_at": [("stand", "stand"), ("goal", "stand"), ("number", "row_place")],
        "turn_row_number": [("stand", "stand"), ("goal", "stand"), ("row", "row")],
        "how_many_tip_rows": [("stand", "stand"), ("goal", "stand")],
        "tip_row_at": [("stand", "stand"), ("goal", "stand"), ("number", "row_place")],
        "tip_row_number": [("stand", "stand"), ("goal", "stand"), ("row", "row")],
        "links_gone": [("stand", "stand"), ("goal", "stand")],
    },
    "alike": {
        "are_alike": [("row", "row"), ("other", "row")],
        "alike_for": [("chest", "chest"), ("row", "row"), ("other", "row")],
        "parting_chest": [("row", "row"), ("other", "row")],
        "is_parting": [("row", "row"), ("other", "row"), ("thing", "thing")],
        "chests_for": [("row", "row"), ("other", "row"), ("most", "most")],
        "comes_home": [("row", "row")],
        "comes_home_for": [("chest", "chest"), ("row", "row")],
        "exchanged": [("row", "row"), ("place", "any_number")],
        "can_exchange": [("row", "row"), ("place", "any_number")],
        "exchanges": [("row", "row")],
    },
    "shortest": {
        "kind_of_row": [("row", "row")],
        "fewest_like": [("row", "row")],
        "shortest_like": [("row", "row")],
        "is_shortest_like": [("row", "row"), ("thing", "thing")],
        "is_shortest": [("row", "row")],
        "too_many": [("row", "row")],
        "first_loop": [("row", "row")],
        "without_loops": [("row", "row")],
    },
    "coins": {
        "is_coins": [("thing", "thing")],
        "can_pay": [("coins", "coins"), ("number", "any_number")],
        "is_paying": [("coins", "coins"), ("number", "any_number"), ("thing", "thing")],
        "cost_of": [("coins", "coins"), ("paying", "paying")],
        "least_cost": [("coins", "coins"), ("number", "any_number")],
        "paying": [("coins", "coins"), ("number", "any_number")],
        "is_least_paying": [("coins", "coins"), ("number", "any_number"), ("thing", "thing")],
        "bar": [("coins", "coins"), ("number", "any_number")],
        "is_bar": [("coins", "coins"), ("number", "any_number"), ("thing", "thing")],
    },
    "told": {
        "link_coins": [("chest", "chest"), ("arc", "arc"), ("axis", "axis")],
        "way_left": [("chest", "chest"), ("stand", "stand"), ("middle", "middle")],
        "can_tip_there": THERE,
        "fewest_to": THERE,
        "best_counts": THERE,
        "best_goal": THERE,
        "tip_row": THERE,
        "is_tip_row": THERE + [("thing", "thing")],
        "why_never": THERE,
        "is_why_never": THERE + [("thing", "thing")],
    },
    "toldturns": {
        "can_turn_there": THERE,
        "fewest_turns_to": THERE,
        "best_slants": THERE,
        "best_turn_goal": THERE,
        "is_best_turn_goal": THERE + [("thing", "thing")],
        "turn_row": THERE,
        "is_turn_row": THERE + [("thing", "thing")],
        "turn_rests": THERE[:3],
    },
    "covered": {
        "spacing": [("chest", "chest")],
        "rests_there": THERE[:3],
        "shapes_there": [("chest", "chest"), ("stand", "stand"), ("middle", "middle")],
        "nearest_there": THERE,
        "middles_in": THERE[:3] + [("low", "low"), ("high", "high")],
        "turns_in": THERE[:3] + [("low", "low"), ("high", "high")],
    },
    "prices": {
        "price_of": [("stand", "stand"), ("row", "row"), ("prices", "prices")],
        "cheapest": PRICED,
        "cheap_and_few": PRICED,
        "left_links": PRICED,
        "cheap_plan": PRICED,
        "is_cheap_plan": PRICED + [("thing", "thing")],
        "dearer": PRICED + [("link", "link")],
    },
    "cubes": {
        "cube_seen": [("stand", "stand")],
        "cube_fewest": [("stand", "stand"), ("goal", "stand")],
        "cube_best": [("stand", "stand"), ("goal", "stand")],
        "is_cube_best": [("stand", "stand"), ("goal", "stand"), ("thing", "thing")],
        "blank_fewest": [("stand", "stand"), ("goal", "stand")],
        "bar_seen": [("stand", "stand"), ("side", "side")],
        "bar_fewest": AS_BARS,
        "bar_best": AS_BARS,
        "is_bar_best": AS_BARS + [("thing", "thing")],
    },
    "boards": {
        "is_board": [("thing", "thing")],
        "is_lying": [("thing", "thing")],
        "lying_of": [("chest", "small"), ("base", "base"), ("stand", "stand")],
        "covered": [("chest", "small"), ("lying", "lying")],
        "fits": ON_BOARD[:3],
        "lain": [("chest", "small"), ("lying", "lying"), ("move", "move")],
        "moves_on": ON_BOARD,
        "reached_on": ON_BOARD,
        "far_on": ON_BOARD,
        "fewest_on": TO_OTHER,
        "plan_on": TO_OTHER,
        "is_plan_on": TO_OTHER + [("thing", "thing")],
        "why_shut": TO_OTHER,
        "is_why_shut": TO_OTHER + [("thing", "thing")],
    },
    "texts": {
        "move_text": [("move", "move")],
        "read_move": [("text", "row_text")],
        "is_sheet": [("thing", "thing")],
        "sheet_text": [("sheet", "sheet")],
        "read_sheet": [("text", "sheet_text")],
        "board_picture": ON_BOARD[:3],
        "read_picture": [("text", "picture")],
        "lyings_in": [("board", "board"), ("chest", "small"), ("squares", "squares")],
    },
    "judge": {
        "is_demand": [("thing", "thing")],
        "is_so": [("demand", "demand")],
        "paper_against": [("demand", "demand")],
        "is_paper_against": [("demand", "demand"), ("thing", "thing")],
        "reason_for": [("demand", "demand")],
        "is_reason_for": [("demand", "demand"), ("thing", "thing")],
        "first_fallen": [("demands", "demands")],
    },
}
