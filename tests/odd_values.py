"""Values of all kinds, to be handed to what takes any value."""


def nested(kind, depth):
    """A value of one kind within one of the same kind, and so on."""
    value = 1
    for _ in range(depth):
        if kind is dict:
            value = {"a": value}
        else:
            value = kind([value])
    return value


def any_values():
    """A new list of values of all kinds at each call."""
    numbers = [0, 1, 2, 3, 4, 5, 6, 7, 8, 10, 11, 12, 13, 14, 17, -1, -2, -13, 10 ** 59, -10 ** 59]
    texts = ["", "0", "5", "(1, 2)", "None", "True", "|()|", "a\tb\n", "~" * 200]
    pairs = [
        (0, 1), (0, 2), (0, -1), (0, 0), (1, 1), (1, 2), (-1, 2), (1, -2), (-1, -2), (2, 4), (-2, 4), (6, 3),
        (5, 0), (3, 9), (10 ** 59, 1), (10 ** 59, 10), (1, 10 ** 59), (True, 1), (1, True), (False, 1),
        (None, 1), (1, None), ("1", "2"), ("1", 2), ((1,), 2), (1, (2,)), ([1], 2), ({}, 2), ("a", "b"),
    ]
    lists = [[list(pair)[0], list(pair)[1]] for pair in pairs]
    others = [
        None, True, False, (), (1,), (2,), (1, 2, 3), (0, 1, 1), ((1, 2),), ((1, 2), (1, 2)), [], [1], [5],
        [1, 2, 3], [(1, 2)], {}, {1: 2}, {0: 1, 1: 2}, {"u": 1, "e": 2}, {(1, 2): [3]}, ("term", 1), ("form",),
    ]
    deep = [nested(kind, 10) for kind in (list, tuple, dict)]
    return numbers + texts + pairs + lists + others + deep + half_like() + picture_like() + element_like() + bar_like()


def half_like():
    """Texts that are halves, and some that are nearly so."""
    texts = ["|", "()", "||", ")(", "(", ")", "(|)", "(()", "())", "()|()", "(())", "((|))", "|(|)", ")", "()()", "|)"]
    far = ["(" * 100 + ")" * 100, "()" * 100, "|" * 200, "(" * 200, "(" + "|" * 198 + ")"]
    other_signs = ["( )", "[]", "()\n", " ", "\t", "I", "()l", "(x)", "{}", "<>"]
    return texts + far + other_signs


def picture_like():
    """Values that are pictures, and some that are nearly so."""
    right = [("", ""), ("|", "|"), ("()", "()"), ("||", "||"), ("()|", "|()"), ("(())", "()()"), ("|" * 30, "|" * 30)]
    texts = [("()", "||"), ("()", "()()"), ("|", "||"), ("(|)", "(|)"), (")(", ")("), ("", "|"), ("()|", "()||")]
    kinds = [("()",), ("()", "()", "()"), ("()", 1), (None, "()"), (("()",), "()"), ("()", ["()"]), ({}, {}), "()()"]
    return right + [list(pair) for pair in right] + texts + kinds + [{"()": "()"}, [("()", "()")]]


def element_like():
    """Values that are elements over some field, and some that are nearly so."""
    cup, two = ("()", "()"), ("||", "||")
    right = [((cup, 1),), ((two, 1),), ((cup, 1), (two, 1)), ((cup, (-1, 2)), (two, (1, 1))), ((("", ""), 1),)]
    orders = [((two, 1), (cup, 1)), ((cup, 1), (cup, 1)), ((cup, 0),), ((cup, (0, 1)),), ((cup, (2, 2)),)]
    kinds = [
        (cup, 1), ([cup, 1],), [(cup, 1)], ((cup,),), ((cup, 1, 1),), ((list(cup), 1),), ((cup, True),), ((cup, None),),
        ((cup, "1"),), ((cup, -1),), ((cup, 13),), {cup: 1}, ((1, cup),), ((("()", "||"), 1),), ((cup, 1), 1),
    ]
    mixed = [((cup, 1), (("|", "|"), 1)), ((("()|", "|()"), 1),), ((("()|", "()|"), 1), (("|||", "|||"), 1))]
    return right + orders + kinds + mixed


def bar_like():
    """Values that are pairs of a number of loose ends and a row, and some that are nearly so."""
    right = [(0, (1,)), (0, (1, 1)), (0, (0, 0)), (1, (1, 1)), (1, ((1, 1), (-1, 1))), (0, ((0, 1),)), (2, (1, 1, 1))]
    kinds = [
        (0, [1]), [0, (1,)], (0, 1), (True, (1, 1)), (False, (1,)), (None, (1,)), ("0", (1,)), (0, ()), (0, (True,)),
        (0, (1,), 1), (-2, (1,)), (10 ** 59, (1,)), (0, (None,)), (0, ("1",)), ((0,), (1,)), (0, {0: 1}),
    ]
    return right + kinds


def house_like():
    """Values that are things, deeds, questions or names, and some that are nearly so."""
    cup, two = ("()", "()"), ("||", "||")
    told = [
        (7, 3, 6, 2), (0, (1, 2), 60, 0), (7, 3, 6, 3), (7, 7, 6, 2), (3, (0, 1, 0)), (1, ()), (2, (0,) * 21), (9, ()), cup, two,
        ("", ""), ("|" * 9, "|" * 9), (5, 2, ((cup, 2),)), (5, 2, ()), (0, 2, ((cup, (10 ** 20, 1)),)), (5, 5, ()),
        (0, 4, (("|" * 4, "|" * 4), (1, 10 ** 19))), (0, 4, ((("|" * 4, "|" * 4), (1, 10 ** 19)),)),
    ]
    things = [(kind, part) for kind in ("room", "word", "picture", "element") for part in told]
    deeds = [
        ("room", "a", 7, 3, 6, 2), ("word", "a", 3, (0, 1)), ("picture", "a", "()|", "|()"), ("after", "a", "word", "word"),
        ("turn", "a", "pic"), ("mirror", "a", "sum"), ("drawn", "a", "word"), ("led", "a", "word", 5, 2), ("plus", "a", "sum", "sum"),
        ("times", "a", "sum", "sum", 1), ("scaled", "a", "sum", 3), ("away", "sum"), ("away",), ("away", "a", "b"), ("led", "a"),
    ]
    questions = [
        ("rank", "room"), ("pieces", "room"), ("middle", "room"), ("change", "room", "small"), ("alike", "word", "other"),
        ("round", "sum", 2), ("rank",), ("rank", 1), ("round", "sum"), ("change", "room"),
    ]
    names = ["a", "room", "sum", "frac", "word", "abcdefgh", "abcdefghi", "A", "a b", "sum ", ["sum"], ("sum",), (0,) * 20, (6,), (7,)]
    return told + things + deeds + questions + names + [list(deed) for deed in deeds]
