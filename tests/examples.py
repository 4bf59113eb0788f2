"""Things that several test files hand in, and ways to look at what comes back."""


class Odd:
    """A thing that is nothing the program knows."""


class EqualToAll:
    """A thing that says it is equal to each other one."""

    def __eq__(self, other):
        return True

    def __ne__(self, other):
        return False

    def __hash__(self):
        return hash("number")


class Raising:
    """A thing that cannot be asked anything."""

    def __eq__(self, other):
        raise RuntimeError("not to be compared")

    __ne__ = __lt__ = __gt__ = __le__ = __ge__ = __contains__ = __getitem__ = __eq__

    def __hash__(self):
        raise RuntimeError("not to be hashed")

    __len__ = __bool__ = __iter__ = __str__ = __hash__


def odd_things():
    """Things of all sorts that are no name, kind, value, term, row, part, program or text."""
    return [
        None,
        1.0,
        -1,
        10 ** 12,
        float("nan"),
        float("inf"),
        1j,
        b"",
        b"number",
        b"r0",
        bytearray(b"a"),
        [],
        ["number"],
        ["list", ["number"]],
        ["go", 0],
        [[], [], []],
        {},
        {"number": 1},
        set(),
        frozenset(["a"]),
        object(),
        Odd(),
        Odd,
        EqualToAll(),
        Raising(),
        len,
        lambda: None,
        range(3),
        NotImplemented,
        ...,
        (None,),
        ([],),
        ({},),
        (set(), set()),
        ([], "x"),
        ({}, "x", "y"),
        (b"number",),
        (b"name", "x"),
        (b"go", 0),
        (1.5, 2.5, 3.5),
        ({}, [], {}),
        (Odd(), Odd(), Odd()),
        (EqualToAll(),),
        (EqualToAll(), ("number",)),
        (EqualToAll(), "x"),
        (EqualToAll(), ("name", "x"), ("name", "x")),
        (EqualToAll(), 0),
        (Raising(),),
        (Raising(), ("number",)),
        (Raising(), "x", ("name", "x")),
        ("list", EqualToAll()),
        ("list", Raising()),
        ("record", EqualToAll()),
        ("record", Raising()),
        ("name", Raising()),
        ("truth", EqualToAll()),
        ("go", Raising()),
        ("list", None),
        ("record", None),
        ("let", [], {}),
    ]


def alike(one, other):
    """Whether two things are equal and of one class at each place, so that 1 is not True."""
    if type(one) is not type(other):
        return False
    if isinstance(one, (tuple, list)):
        return len(one) == len(other) and all(alike(a, b) for a, b in zip(one, other))
    if isinstance(one, dict):
        return one.keys() == other.keys() and all(alike(one[key], other[key]) for key in one)
    return one == other


def deep(depth, bottom, wrap):
    """A thing wrapped so many times."""
    for _ in range(depth):
        bottom = wrap(bottom)
    return bottom


def tampered(text, signs):
    """All texts that have one sign of the text less, twice, exchanged, or one more."""
    found = []
    for at in range(len(text) + 1):
        found.extend(text[:at] + sign + text[at:] for sign in signs)
        if at < len(text):
            found.append(text[:at] + text[at + 1:])
            found.extend(text[:at] + sign + text[at + 1:] for sign in signs)
        if at + 1 < len(text):
            found.append(text[:at] + text[at + 1] + text[at] + text[at + 2:])
    return [one for one in dict.fromkeys(found) if one != text]


NUMBER = ("number",)
TRUTH = ("truth",)

GOOD_NAMES = ["a", "z", "ab", "pair", "abcdefgh", "zzzzzzzz", "list", "record", "add", "let", "kind",
              "box", "part", "r", "numbers", "numbe", "truths", "yess", "ye", "n", "nor", "out", "lead",
              "go", "name", "empty"]

BAD_NAMES = ["number", "truth", "yes", "no", "", "abcdefghi", "zzzzzzzzz", "a" * 100, "A", "Pair", "aB",
             "NO", "a1", "1a", "1", "0", "a_b", "_", "a b", " a", "a ", "a\n", "\n", "a\t", "a-b", "a.b",
             "#a", "[a]", "\u00e9", "stra\u00dfe", "\u03b1", "\uff41", "a\u0301", "\u00aa", "\u0131"]

# Pairs of a kind and its text.
KINDS = [
    (NUMBER, "number"),
    (TRUTH, "truth"),
    (("list", NUMBER), "[number]"),
    (("list", TRUTH), "[truth]"),
    (("list", ("list", NUMBER)), "[[number]]"),
    (("record", "pair"), "pair"),
    (("record", "list"), "list"),
    (("record", "record"), "record"),
    (("record", "abcdefgh"), "abcdefgh"),
    (("list", ("record", "a")), "[a]"),
    (("list", ("list", ("list", ("record", "node")))), "[[[node]]]"),
    (deep(8, NUMBER, lambda kind: ("list", kind)), "[[[[[[[[number]]]]]]]]"),
    (deep(8, TRUTH, lambda kind: ("list", kind)), "[[[[[[[[truth]]]]]]]]"),
    (deep(8, ("record", "z"), lambda kind: ("list", kind)), "[[[[[[[[z]]]]]]]]"),
]

BAD_KINDS = [
    "number", "truth", "pair", "[number]", "", 0, 1, True, None,
    (), ("list",), ("record",), ("list", NUMBER, NUMBER), ("list", NUMBER, "a"), ("record", "a", "b"),
    ("number", "number"), ("number", NUMBER), ("number", ()), ("truth", True), ("truth", TRUTH), ("pair",),
    ("name", "x"), ("numbers",), ("Number",), ("",), ("lists", NUMBER), ("records", "a"), ("", NUMBER),
    ("list", "number"), ("list", "a"), ("list", ()), ("list", None), ("list", ("list",)),
    ("list", ("number", 1)), ("list", ("records", "a")),
    ("record", "number"), ("record", "truth"), ("record", "yes"), ("record", "no"), ("record", ""),
    ("record", "abcdefghi"), ("record", "Pair"), ("record", "a1"), ("record", "a\n"), ("record", 1),
    ("record", NUMBER), ("record", ("record", "a")), ("record", ["a"]),
    ["number"], ["list", NUMBER], ("list", ["number"]), ["record", "a"], ("list", ["record", "a"]),
    (NUMBER,), (("number",), ("number",)), (["list"], NUMBER), (("list",), NUMBER), ({}, NUMBER),
]

# Pairs of a plain value and its text.
VALUES = [
    (0, "0"),
    (1, "1"),
    (9, "9"),
    (10, "10"),
    (100200300, "100200300"),
    (10 ** 12 - 1, "999999999999"),
    (10 ** 11, "100000000000"),
    (True, "yes"),
    (False, "no"),
    ((), "[]"),
    ((0,), "[0]"),
    ((True,), "[yes]"),
    ((1, True), "[1, yes]"),
    ((0, False, 1, True), "[0, no, 1, yes]"),
    (((),), "[[]]"),
    (((), ()), "[[], []]"),
    (((1, 2), (), (3,)), "[[1, 2], [], [3]]"),
    ((1, (True, (2, (False,))), 3), "[1, [yes, [2, [no]]], 3]"),
    (((((((((7,),),),),),),),), "[[[[[[[[7]]]]]]]]"),
    (((((((((), 1), 2), 3), 4), 5), 6), True), "[[[[[[[[], 1], 2], 3], 4], 5], 6], yes]"),
    ((1,) * 60, "[" + ", ".join(["1"] * 60) + "]"),
    (((True,) * 60,), "[[" + ", ".join(["yes"] * 60) + "]]"),
]

REFS = ["r0", "r1", "r9", "r10", "r12", "r100", "r" + "1" * 60, "r" + "9" * 60, "r" + str(10 ** 59)]

BAD_REFS = ["r", "r00", "r01", "r012", "r0" + "1" * 59, "R1", "1", "12", "", "a", "x1", "rr1", "r1r", "r-1",
            "r+1", "r 1", " r1", "r1 ", "r1\n", "r1.0", "r1_0", "r0x1", "r\u0661", "r\u00b2", "r\uff11",
            "yes", "no", "number", "[]", "r" + "0" * 60, "1r"]

# Things that are no values, besides those of above.
BAD_VALUES = [
    -1, -10 ** 12, 10 ** 12, 10 ** 12 + 1, 10 ** 30, 0.0, 1.0, 1.5, None, [], [1], {}, {1: 2}, set(), b"r1",
    (1, [2]), ([],), ((), [()]), (1, -1), (1, 10 ** 12), (None,), ((((None,),),),), (1.0,), ("r01",), ("", 1),
    (1,) * 61, ((1,) * 61,), ((),) * 61, (1, ((1,) * 61,)),
]

RECORDS = {
    "r0": ("pair", (("a", 1), ("b", "r2"))),
    "r1": ("", ()),
    "r2": ("node", ()),
    "r3": ("pair", (("a", 2), ("b", "r2"))),
}


def name(word):
    return ("name", word)


def number(n):
    return ("number", n)


X, Y, XS, I = name("x"), name("y"), name("xs"), name("i")
YES, NO = ("truth", True), ("truth", False)

TWO_PART_WORDS = ["add", "less", "times", "under", "same", "both", "join"]
ONE_PART_WORDS = ["not", "many"]
THREE_PART_WORDS = ["pick", "at"]

# Pairs of a term and its text.
TERMS = [
    (number(0), "0"),
    (number(1), "1"),
    (number(10 ** 12 - 1), "999999999999"),
    (YES, "yes"),
    (NO, "no"),
    (X, "x"),
    (name("add"), "add"),
    (name("abcdefgh"), "abcdefgh"),
    (("box", "b"), "#b"),
    (("box", "list"), "#list"),
    (("add", X, number(1)), "(add x 1)"),
    (("less", number(1), X), "(less 1 x)"),
    (("times", X, Y), "(times x y)"),
    (("under", I, number(9)), "(under i 9)"),
    (("same", YES, NO), "(same yes no)"),
    (("both", YES, X), "(both yes x)"),
    (("join", XS, ("empty", NUMBER)), "(join xs (empty number))"),
    (("not", X), "(not x)"),
    (("many", XS), "(many xs)"),
    (("pick", X, number(1), ("box", "b")), "(pick x 1 #b)"),
    (("at", XS, number(0), X), "(at xs 0 x)"),
    (("empty", TRUTH), "(empty truth)"),
    (("empty", ("record", "pair")), "(empty pair)"),
    (("empty", ("list", ("list", ("record", "x")))), "(empty [[x]])"),
    (("empty", deep(8, NUMBER, lambda kind: ("list", kind))), "(empty [[[[[[[[number]]]]]]]])"),
    (("list", X), "(list x)"),
    (("list", number(1), YES, number(0), NO, X, Y, ("box", "b"), ("list", X)),
     "(list 1 yes 0 no x y #b (list x))"),
    (("field", X, "f"), "(field x f)"),
    (("field", ("at", XS, number(0), X), "f"), "(field (at xs 0 x) f)"),
    (("field", ("field", X, "x"), "y"), "(field (field x x) y)"),
    (("add", name("add"), name("add")), "(add add add)"),
    (("field", name("field"), "field"), "(field field field)"),
    (("empty", ("record", "empty")), "(empty empty)"),
    (("not", ("not", ("not", ("many", ("list", ("list", ("empty", TRUTH))))))),
     "(not (not (not (many (list (list (empty truth)))))))"),
    (deep(11, X, lambda inner: ("add", number(1), inner)), "(add 1 " * 11 + "x" + ")" * 11),
    (deep(11, X, lambda inner: ("field", inner, "f")), "(field " * 11 + "x" + " f)" * 11),
    (deep(11, ("box", "b"), lambda inner: ("list", inner)), "(list " * 11 + "#b" + ")" * 11),
    (("pick", ("under", ("many", XS), number(3)), ("join", XS, ("list", number(1), number(2))), XS),
     "(pick (under (many xs) 3) (join xs (list 1 2)) xs)"),
]

BAD_TERMS = (
    ["x", "add", "", 0, 1, True, False, (), ("x",), ("add",), ("number",), ("truth",), ("name",), ("box",), ("empty",),
     ("list",), ("field",), ("not",), ("many",), ("pick",), ("at",)]
    + [(word, X) for word in TWO_PART_WORDS] + [(word, X, X, X) for word in TWO_PART_WORDS]
    + [(word, X, X) for word in ONE_PART_WORDS] + [(word, X, X, X) for word in ONE_PART_WORDS]
    + [(word, X, X) for word in THREE_PART_WORDS] + [(word, X, X, X, X) for word in THREE_PART_WORDS]
    + [(word, X) for word in THREE_PART_WORDS]
    + [(word, X, "x") for word in TWO_PART_WORDS] + [(word, "x", X) for word in TWO_PART_WORDS]
    + [(word, X, 1) for word in TWO_PART_WORDS] + [(word, X, [X]) for word in TWO_PART_WORDS]
    + [(word, X, ["name", "x"]) for word in TWO_PART_WORDS] + [[word, X, X] for word in TWO_PART_WORDS]
    + [(word, "x") for word in ONE_PART_WORDS] + [(word, "x", X, X) for word in THREE_PART_WORDS]
    + [(word, X, None, X) for word in THREE_PART_WORDS] + [(word, X, X, ()) for word in THREE_PART_WORDS]
    + [("number", n) for n in (-1, 10 ** 12, 10 ** 30, True, False, 1.0, "1", None, (1,), X)]
    + [("number", 1, 1), ("number", 1, X), ["number", 1], ("truth", True, True), ["truth", True]]
    + [("truth", truth) for truth in (0, 1, "yes", "no", None, (), 1.0)]
    + [(word, other) for word in ("name", "box") for other in BAD_NAMES + [1, None, True, X, ["a"], ("a",), b"a"]]
    + [("name", "x", "y"), ("name", "x", X), ("box", "b", "b"), ["name", "x"], ["box", "b"]]
    + [("empty", kind) for kind in BAD_KINDS] + [("empty", NUMBER, NUMBER), ["empty", NUMBER], ("empty", X)]
    + [("list",) + (X,) * 9, ("list",) + (X,) * 10, ("list", X, "x"), ("list", "x"), ("list", (X, X)), ["list", X],
       ("list", [X]), ("list", X, X, X, X, X, X, X, 1)]
    + [("field", X), ("field", X, "f", "g"), ("field", X, "f", X), ("field", "x", "f"), ("field", X, X),
       ("field", "f", X), ("field", X, 1), ["field", X, "f"], ("field", ["name", "x"], "f")]
    + [("field", X, other) for other in BAD_NAMES + [None, ["f"], ("f",)]]
    + [("sub", X, X), ("or", X, X), ("plus", X, X), ("Add", X, X), ("add ", X, X), ("", X), ("let", "x", X),
       ("lists", X), ("record", "a"), NUMBER, ("list", NUMBER), (X, X), (["add"], X, X), ({}, X, X), (None, X), (1, X)]
)

# Pairs of a row and its text.
ROWS = [
    (("let", "x", ("add", X, number(1))), "let x (add x 1)"),
    (("let", "let", name("let")), "let let let"),
    (("put", "b", X), "put b x"),
    (("put", "put", ("box", "put")), "put put #put"),
    (("set", X, "f", number(3)), "set x f 3"),
    (("set", ("at", XS, number(0), X), "f", ("field", X, "f")), "set (at xs 0 x) f (field x f)"),
    (("new", "x", "pair", (("a", number(1)), ("b", YES))), "new x pair a 1, b yes"),
    (("new", "x", "pair", ()), "new x pair"),
    (("new", "new", "new", (("new", name("new")),)), "new new new new new"),
    (("new", "x", "n", (("a", ("list", X, Y)), ("aa", NO), ("b", ("empty", NUMBER)))),
     "new x n a (list x y), aa no, b (empty number)"),
    (("new", "x", "n", tuple((letter, number(k)) for k, letter in enumerate("abcdefgh"))),
     "new x n a 0, b 1, c 2, d 3, e 4, f 5, g 6, h 7"),
    (("call", "x", "sum", (XS, number(0))), "call x sum xs 0"),
    (("call", "x", "run", ()), "call x run"),
    (("call", "call", "call", (name("call"),)), "call call call call"),
    (("call", "x", "p", (("add", X, number(1)), ("list", X), YES, ("box", "b"))),
     "call x p (add x 1) (list x) yes #b"),
    (("tell", number(0)), "tell 0"),
    (("tell", ("times", X, number(2))), "tell (times x 2)"),
    (("mark", "m"), "mark m"),
    (("mark", "mark"), "mark mark"),
    (("go", 0), "go 0"),
    (("go", 4), "go 4"),
    (("go", 10 ** 12), "go 1000000000000"),
    (("go", 10 ** 119), "go 1" + "0" * 119),
    (("go", 10 ** 120 - 1), "go " + "9" * 120),
    (("unless", ("under", I, number(9)), 12), "unless (under i 9) 12"),
    (("unless", X, 0), "unless x 0"),
    (("unless", YES, 10 ** 120 - 1), "unless yes " + "9" * 120),
    (("back", X), "back x"),
    (("back", ("empty", ("list", ("record", "pair")))), "back (empty [pair])"),
]

BAD_ROWS = (
    ["go 0", "", 0, (), ("let",), ("put",), ("set",), ("new",), ("call",), ("tell",), ("mark",), ("go",), ("unless",),
     ("back",), X, number(1)]
    + [(word, "x") for word in ("let", "put")] + [(word, X, X) for word in ("let", "put")]
    + [(word, "x", X, X) for word in ("let", "put")] + [[word, "x", X] for word in ("let", "put")]
    + [(word, other, X) for word in ("let", "put") for other in BAD_NAMES + [None, 1, ("x",), ["x"]]]
    + [(word, "x", other) for word in ("let", "put") for other in BAD_TERMS]
    + [("set", X, "f"), ("set", X, "f", X, X), ["set", X, "f", X], ("set", "x", "f", X), ("set", X, X, X),
       ("set", X, "f", "x"), ("set", X, "no", X), ("set", X, "F", X), ("set", ["name", "x"], "f", X), ("set", X, 1, X)]
    + [("new", "x", "n"), ("new", "x", "n", (), ()), ["new", "x", "n", ()], ("new", "x", "n", []),
       ("new", "x", "n", {}), ("new", "x", "n", None), ("new", "x", "n", X), ("new", "X", "n", ()),
       ("new", "yes", "n", ()), ("new", "x", "N", ()), ("new", "x", "number", ()), ("new", X, "n", ()),
       ("new", "x", ("record", "n"), ())]
    + [("new", "x", "n", fields) for fields in [
        (("b", X), ("a", X)), (("a", X), ("a", X)), (("a", X), ("a", Y)), (("a", X), ("c", X), ("b", X)),
        (("a", X), ("b", X), ("b", Y)), (("b", X), ("a", X), ("c", X)), (("aa", X), ("a", X)), ("a", X),
        (("a",),), (("a", X, X),), (("a", "x"),), (("A", X),), (("yes", X),), (("", X),), (["a", X],), [("a", X)],
        ((1, X),), ((None, X),), ((X, "a"),), (("a", ["name", "x"]),), (X,), (None,), ((),), (("a", X), None)]]
    + [("call", "x", "p"), ("call", "x", "p", (), ()), ["call", "x", "p", ()], ("call", "x", "p", []),
       ("call", "x", "p", [X]), ("call", "x", "p", X), ("call", "x", "p", ("x",)), ("call", "x", "p", (X, 1)),
       ("call", "x", "p", (X, ("a", X))), ("call", "X", "p", ()), ("call", "no", "p", ()), ("call", "x", "P", ()),
       ("call", "x", "truth", ()), ("call", "x", X, ()), ("call", X, "p", ()), ("call", "x", "p", None),
       ("call", "x", "p", (["name", "x"],)), ("call", "p", (X,)), ("call", "x", "p", X, X)]
    + [("tell", "x"), ("tell", 1), ("tell", X, X), ("tell", "x", X), ["tell", X], ("tell", ["name", "x"]), ("tell", ())]
    + [("back", "x"), ("back", 1), ("back", X, X), ["back", X], ("back", ["name", "x"]), ("back", ())]
    + [("mark", other) for other in BAD_NAMES + [None, 1, X, ["m"], ("m",)]] + [("mark", "m", "m"), ["mark", "m"]]
    + [("go", n) for n in (-1, -2, True, False, 1.0, "1", None, number(1), (1,), [1])] + [("go", 1, 1), ["go", 1]]
    + [("unless", X, n) for n in (-1, True, False, 1.0, "1", None, number(1), (1,), [1])]
    + [("unless", X), ("unless", 1), ("unless", 1, X), ("unless", X, 1, 1), ["unless", X, 1], ("unless", "x", 1),
       ("unless", True, 1), ("unless", ["name", "x"], 1), ("unless", X, Y, 1)]
    + [("Let", "x", X), ("lets", "x", X), ("when", X, 1), ("say", X), ("", X), (["let"], "x", X), ({}, "x", X),
       (None, "x", X), (("let",), "x", X), ("part", "x", X), ("add", X, X)]
)

FIELDS = (("a", NUMBER), ("b", ("list", TRUTH)))
BACK = (("back", X),)
PART = ((), NUMBER, (("back", number(0)),))

# Pairs of a part and its lines, where it is called p.
PARTS = [
    (PART, "part p () number\n  back 0\n"),
    (((("x", NUMBER),), NUMBER, BACK), "part p (x number) number\n  back x\n"),
    (((("x", NUMBER), ("a", ("list", ("record", "pair")))), ("list", TRUTH), (("go", 0),)),
     "part p (x number, a [pair]) [truth]\n  go 0\n"),
    ((tuple((letter, TRUTH) for letter in "hgfedcba"), ("record", "node"), BACK),
     "part p (h truth, g truth, f truth, e truth, d truth, c truth, b truth, a truth) node\n  back x\n"),
    (((), NUMBER, (("unless", X, 3), ("tell", X), ("unless", X, 0), ("unless", X, 4), ("go", 1))),
     "part p () number\n  unless x 3\n  tell x\n  unless x 0\n  unless x 4\n  go 1\n"),
    (((), NUMBER, (("tell", X),) * 59 + (("go", 59),)), "part p () number\n" + "  tell x\n" * 59 + "  go 59\n"),
    (((("p", NUMBER),), NUMBER, (("mark", "p"), ("mark", "x"), ("back", name("p")))),
     "part p (p number) number\n  mark p\n  mark x\n  back p\n"),
    (((), NUMBER, tuple(row for row, _ in ROWS if row[0] not in ("go", "unless")) + BACK),
     "part p () number\n" + "".join("  " + text + "\n" for row, text in ROWS if row[0] not in ("go", "unless"))
     + "  back x\n"),
]

BAD_PARTS = (
    ["part p () number\n  back 0\n", 0, (), ((), NUMBER), ((), NUMBER, BACK, ()), (NUMBER, BACK), BACK,
     [(), NUMBER, BACK], ([], NUMBER, BACK), ({}, NUMBER, BACK), (None, NUMBER, BACK), ((), NUMBER, ()),
     ((), NUMBER, []), ((), NUMBER, [("back", X)]), ((), NUMBER, None), ((), NUMBER, ("back", X)), ((), NUMBER, X),
     ((), NUMBER, {0: ("back", X)}), ((), BACK, NUMBER)]
    + [((), kind, BACK) for kind in BAD_KINDS]
    + [((("x", kind),), NUMBER, BACK) for kind in BAD_KINDS]
    + [(((word, NUMBER),), NUMBER, BACK) for word in BAD_NAMES + [None, 1, X, ["x"]]]
    + [((), NUMBER, (row,)) for row in BAD_ROWS]
    + [((), NUMBER, (row, ("back", X))) for row in BAD_ROWS]
    + [((), NUMBER, (("tell", X), row, ("back", X))) for row in BAD_ROWS]
    + [((), NUMBER, (row,)) for row, _ in ROWS if row[0] not in ("go", "back")]
    + [((), NUMBER, (("back", X), row)) for row, _ in ROWS if row[0] not in ("go", "back")]
    + [((), NUMBER, rows) for rows in [
        (("go", 1),), (("go", 2),), (("go", 10 ** 100),), (("go", 2), ("back", X)), (("back", X), ("go", 2)),
        (("unless", X, 2), ("back", X)), (("unless", X, 0),), (("unless", X, 1),), (("back", X), ("unless", X, 0)),
        (("tell", X),) * 59 + (("go", 60),), (("go", -1),), (("tell", X), ("unless", X, 3), ("back", X)),
        [["back", X]], (["back", X],), (("back", X), ["back", X])]]
    + [(takes, NUMBER, BACK) for takes in [
        (("x", NUMBER), ("x", NUMBER)), (("x", NUMBER), ("x", TRUTH)), (("x", NUMBER), ("y", NUMBER), ("x", TRUTH)),
        ("x", NUMBER), ("x",), (("x",),), (("x", NUMBER, NUMBER),), (["x", NUMBER],), [("x", NUMBER)],
        {"x": NUMBER}, ((NUMBER, "x"),), (("x", NUMBER), None), (("x", NUMBER), ()), ((),), (None,)]]
)

# Pairs of a program and its text.
PROGRAMS = [
    (({}, {}, {}), ""),
    (({"unit": ()}, {}, {}), "kind unit\n"),
    (({"pair": FIELDS}, {}, {}), "kind pair a number, b [truth]\n"),
    (({"n": (("n", ("record", "n")),)}, {}, {}), "kind n n n\n"),
    (({"n": tuple((letter, ("record", "n")) for letter in "abcdefgh")}, {}, {}),
     "kind n a n, b n, c n, d n, e n, f n, g n, h n\n"),
    (({"kind": (("kind", ("record", "kind")),)}, {}, {}), "kind kind kind kind\n"),
    (({"a": (("a", NUMBER), ("aa", TRUTH), ("b", NUMBER))}, {}, {}), "kind a a number, aa truth, b number\n"),
    (({}, {"b": (NUMBER, 5)}, {}), "box b number = 5\n"),
    (({}, {"b": (NUMBER, True)}, {}), "box b number = yes\n"),
    (({}, {"b": (TRUTH, 1)}, {}), "box b truth = 1\n"),
    (({}, {"box": (("record", "box"), ())}, {}), "box box box = []\n"),
    (({}, {"b": (("list", ("list", NUMBER)), ((1, 2), (), (3,)))}, {}), "box b [[number]] = [[1, 2], [], [3]]\n"),
    (({}, {"b": (TRUTH, False), "a": (NUMBER, 10 ** 12 - 1), "ab": (("list", NUMBER), (0,))}, {}),
     "box a number = 999999999999\nbox ab [number] = [0]\nbox b truth = no\n"),
    (({}, {}, {"part": ((("part", NUMBER),), ("record", "part"), (("back", name("part")),))}),
     "part part (part number) part\n  back part\n"),
    (({"z": (), "b": (("x", NUMBER),), "ab": ()}, {"y": (NUMBER, 1), "a": (TRUTH, True)},
      {"x": PART, "c": (((("x", NUMBER),)), NUMBER, (("mark", "m"), ("go", 0)))}),
     "kind ab\nkind b x number\nkind z\nbox a truth = yes\nbox y number = 1\n"
     "part c (x number) number\n  mark m\n  go 0\npart x () number\n  back 0\n"),
    (({"pair": FIELDS}, {"count": (NUMBER, 0)},
      {"run": ((), NUMBER, (("let", "xs", ("list", number(1), number(2))), ("mark", "a"),
                            ("call", "x", "sum", (XS, number(0))), ("put", "count", ("add", ("box", "count"), X)),
                            ("new", "p", "pair", (("a", X), ("b", ("empty", TRUTH)))), ("mark", "b"),
                            ("set", name("p"), "a", number(3)), ("tell", ("field", name("p"), "a")), ("back", X))),
       "sum": ((("xs", ("list", NUMBER)), ("i", NUMBER)), NUMBER,
               (("unless", ("under", I, ("many", XS)), 3), ("call", "x", "sum", (XS, ("add", I, number(1)))),
                ("back", ("add", X, ("at", XS, I, number(0)))), ("mark", "c"), ("back", number(0))))}),
     "kind pair a number, b [truth]\nbox count number = 0\npart run () number\n  let xs (list 1 2)\n  mark a\n"
     "  call x sum xs 0\n  put count (add #count x)\n  new p pair a x, b (empty truth)\n  mark b\n  set p a 3\n"
     "  tell (field p a)\n  back x\npart sum (xs [number], i number) number\n  unless (under i (many xs)) 3\n"
     "  call x sum xs (add i 1)\n  back (add x (at xs i 0))\n  mark c\n  back 0\n"),
] + [(({}, {}, {"p": part}), text) for part, text in PARTS]


def marked(*marks):
    """A part with such marks."""
    return ((), NUMBER, tuple(("mark", mark) for mark in marks) + (("back", number(0)),))


BAD_PROGRAMS = (
    ["", "kind n\n", 0, {}, [], (), ({}, {}), ({},), ({}, {}, {}, {}), [{}, {}, {}], ([], {}, {}), ({}, [], {}),
     ({}, {}, []), ((), {}, {}), ({}, (), {}), ({}, {}, ()), (None, {}, {}), ({}, None, {}), ({}, {}, None),
     ({}, {}, set()), ("", "", "")]
    + [({"n": ()}, {"n": (NUMBER, 1)}, {}), ({"n": ()}, {}, {"n": PART}), ({}, {"n": (NUMBER, 1)}, {"n": PART}),
       ({"a": (), "n": ()}, {"b": (NUMBER, 1), "n": (NUMBER, 1)}, {"n": PART}),
       ({"a": (), "n": ()}, {"b": (NUMBER, 1)}, {"c": PART, "n": PART}),
       ({"a": ()}, {"n": (NUMBER, 1), "b": (NUMBER, 1)}, {"c": PART, "n": PART})]
    + [({word: ()}, {}, {}) for word in BAD_NAMES + [None, 1, True, ("n",), X, b"n", 1.5]]
    + [({}, {word: (NUMBER, 1)}, {}) for word in BAD_NAMES + [None, 1, True, ("n",), X, b"n", 1.5]]
    + [({}, {}, {word: PART}) for word in BAD_NAMES + [None, 1, True, ("n",), X, b"n", 1.5]]
    + [({"a": (), word: ()}, {}, {}) for word in (None, 1, "yes", ("b",))]
    + [({"n": fields}, {}, {}) for fields in [
        (("b", NUMBER), ("a", NUMBER)), (("a", NUMBER), ("a", NUMBER)), (("a", NUMBER), ("a", TRUTH)),
        (("a", NUMBER), ("c", NUMBER), ("b", NUMBER)), (("aa", NUMBER), ("a", NUMBER)), ("a", NUMBER), ("a",),
        (("a",),), (("a", NUMBER, NUMBER),), (["a", NUMBER],), [("a", NUMBER)], [], {}, {"a": NUMBER}, None, NUMBER,
        ((NUMBER, "a"),), (("a", NUMBER), None), ((),), (None,), 0, "a"]]
    + [({"n": (("a", kind),)}, {}, {}) for kind in BAD_KINDS]
    + [({"n": ((word, NUMBER),)}, {}, {}) for word in BAD_NAMES + [None, 1, ("a",), ["a"]]]
    + [({}, {"b": (kind, 1)}, {}) for kind in BAD_KINDS]
    + [({}, {"b": (NUMBER, value)}, {}) for value in BAD_VALUES + BAD_REFS + REFS]
    + [({}, {"b": (NUMBER, (value,))}, {}) for value in BAD_VALUES + REFS]
    + [({}, {"b": box}, {}) for box in [
        (), (NUMBER,), (NUMBER, 1, 1), [NUMBER, 1], (1, NUMBER), NUMBER, 1, None, {NUMBER: 1}, ((NUMBER, 1),)]]
    + [({}, {}, {"p": part}) for part in BAD_PARTS]
    + [({}, {}, {"a": PART, "p": part}) for part in BAD_PARTS]
    + [({}, {}, {"p": marked("m", "m")}), ({}, {}, {"p": marked("m", "n", "m")}),
       ({}, {}, {"p": marked("m"), "q": marked("m")}), ({}, {}, {"p": marked("a", "m"), "q": marked("m", "b")}),
       ({}, {}, {"p": marked("a"), "q": marked("b"), "s": marked("c", "a")})]
)
