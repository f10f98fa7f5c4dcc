"""The examples of the document, word for word, and how they are run."""

FRACTIONS = '''
>>> [is_integer(True), is_integer(10 ** 60 - 1), is_fraction((2, 4)), is_fraction((0, 1)), is_number((3, 1)), is_number((1, -2)), lowest(6, -4), lowest(0, 7)]
[False, True, False, True, True, False, (-3, 2), (0, 1)]
>>> [plus(1, (1, 2)), minus((1, 6), (2, 3)), times((-2, 3), (3, 4)), over((1, 2), -2), compare((2, 5), (3, 7)), compare(2, (2, 1))]
[(3, 2), (-1, 2), (-1, 2), (-1, 4), -1, 0]
>>> [floor_of((-3, 2)), rest_of((-3, 2)), floor_of(4), rest_of(4), rest_of((7, 3))]
[-2, (1, 2), 4, (0, 1), (1, 3)]
'''

TREES = '''
>>> LINE, STAR = Tree.line((2, 3, 2)), Tree.star(2, ((2,), (3,), (2, 4)))
>>> [LINE.ties, STAR.numbers, STAR.ties, LINE.table]
[((0, 1), (1, 2)), (2, 2, 3, 2, 4), ((0, 1), (0, 2), (0, 3), (3, 4)), ((-2, 1, 0), (1, -3, 1), (0, 1, -2))]
>>> [STAR.degrees, STAR.neighbours(0), len(STAR), STAR[2], 5 in STAR, list(LINE), str(LINE), str(Tree((2,), ()))]
[(3, 1, 1, 2, 1), (1, 2, 3), 5, 3, False, [2, 3, 2], 'tree 2 3 2: 0-1 1-2', 'tree 2']
>>> [LINE.press((1, 1, 1)), LINE.press(((1, 2), 0, 0)), LINE.product((1, 1, 1), (2, 0, 0))]
[((-1, 1), (-1, 1), (-1, 1)), ((-1, 1), (1, 2), (0, 1)), (-2, 1)]
>>> [STAR.part((0, 3, 4)) == Tree.line((2, 2, 4)), tree_code(LINE), tree_code(STAR)]
[True, ((0, 2), (1, 3), (2, 2)), ((0, 2), (1, 2), (1, 2), (2, 4), (1, 3))]
>>> [are_alike(Tree.line((2, 2, 3, 3)), Tree.line((2, 3, 2, 3))), list(likenesses(LINE, LINE)), renamed(LINE, (1, 0, 2)) == Tree.star(3, ((2,), (2,)))]
[False, [(0, 1, 2), (2, 1, 0)], True]
>>> STAR[5]
raises InvalidNumber(5)
>>> Tree((2, 2), ())
raises InvalidTree
'''

TABLES = '''
>>> LINE, EVEN, FLAT = ((-2, 1), (1, -3)), ((2, 4), (6, 8)), ((1, 2, 3), (2, 4, 6))
>>> [determinant(LINE), undone(LINE), rank(FLAT), is_table(((1, 2), (3,))), is_table(((True,),))]
[5, (((-3, 5), (-1, 5)), ((-1, 5), (-2, 5))), 1, False, False]
>>> [factors(LINE), factors(EVEN), determinant(EVEN), factors(FLAT), factors(((2, 0), (0, 3))), factors(((0, 0),)), factors(((4, 0), (0, 2)))]
[(1, 5), (2, 4), -8, (1,), (1, 6), (), (2, 4)]
>>> undone(((1, 2), (2, 4)))
raises Refused(("singular",))
>>> determinant(FLAT)
raises InvalidOperation
'''

DEFINITE = '''
>>> FORK = Tree((2, 2, 2, 2), ((0, 1), (0, 2), (0, 3)))
>>> FIVE = Tree((2, 2, 2, 2, 2), ((0, 1), (0, 2), (0, 3), (0, 4)))
>>> [pivots(Tree.line((2, 2, 2))), pivots(FORK), pivots(Tree.line((3, 1, 1)))]
[((4, 3), (3, 2), (2, 1)), ((1, 2), (2, 1), (2, 1), (2, 1)), (None, (0, 1), (1, 1))]
>>> [is_definite(FORK), is_definite(FIVE), determinant_of(FORK), determinant_of(FIVE), minors(FORK), minors(FIVE)]
[True, False, 4, 0, (2, 3, 4, 4), (2, 3, 4, 4, 0)]
>>> [definite_paper(Tree.line((2, 2))), is_definite_paper(FIVE, ("bar", (2, 1, 1, 1, 1))), is_definite_paper(FIVE, ("bar", (-4, -2, -2, -2, -2)))]
[('pivots', ((3, 2), (2, 1))), True, True]
>>> [is_definite_paper(FORK, ("bar", (2, 1, 1, 1))), is_definite_paper(FIVE, ("bar", (0, 0, 0, 0, 0))), definite_paper(Tree((0,), ()))[0]]
[False, False, 'bar']
>>> [determinant_of(Tree.line((1,) * 6)), is_definite(Tree.line((1,) * 6)), determinant_of(Tree.line((1, 1, 3))), pivots(Tree.line((1, 1, 3)))]
[1, False, -1, ((-1, 2), (2, 3), (3, 1))]
>>> is_definite(((2,), ()))
raises InvalidTree
'''

DUALS = '''
>>> FORK, BENT = Tree.star(2, ((2,), (2,), (2,))), Tree.line((2, 1, 3))
>>> [path_between(FORK, 1, 3), path_between(BENT, 2, 0), path_between(BENT, 1, 1)]
[(1, 0, 3), (2, 1, 0), (1,)]
>>> [left_determinant(FORK, ()), left_determinant(FORK, (0,)), left_determinant(FORK, (1,)), left_determinant(FORK, (0, 1, 2, 3))]
[4, 8, 4, 1]
>>> [left_determinant(Tree.line((1, 1)), ()), left_determinant(Tree.line((0, 0, 0)), (1,)), left_determinant(Tree.line((0, 5)), ())]
[0, 0, -1]
>>> [undone_entry(FORK, 0, 0), undone_entry(FORK, 1, 2), dual_row(FORK, 1), dual_row(BENT, 0)]
[(2, 1), (1, 2), ((1, 1), (1, 1), (1, 2), (1, 2)), ((2, 1), (3, 1), (1, 1))]
>>> [is_dual(FORK, (0, (1, 2), (1, 2), 0)), is_dual(FORK, ((1, 2), 0, 0, 0)), is_dual(BENT, (1, 0, -7)), is_dual(BENT, (1, 0)), is_dual(BENT, (1, 0, True))]
[True, False, True, False, False]
>>> dual_row(Tree.line((1, 1)), 5)
raises Refused(('bar',))
'''

GROUPS = '''
>>> LINE, STAR, LONE = Tree.line((2, 2)), Tree.star(2, ((2,), (2,), (2,))), Tree.line((3,))
>>> LEGS = Tree.star(2, ((2,), (2,), (3,)))
>>> [classes_of(LINE), classes_of(LONE), classes_of(STAR)]
[((0, 0), (1, 2), (2, 1)), ((0,), (1,), (2,)), ((0, 0, 0, 0), (0, 0, 2, 2), (0, 2, 0, 2), (0, 2, 2, 0))]
>>> [class_product(LINE, (1, 2), (1, 2)), class_product(LINE, (1, 2), (2, 1)), class_product(LONE, (1,), (1,))]
[1, 2, 2]
>>> [class_product(STAR, (0, 2, 2, 0), (0, 2, 2, 0)), class_product(STAR, (0, 2, 2, 0), (0, 0, 2, 2))]
[0, 2]
>>> [class_factors(LINE), class_factors(STAR), class_factors(LEGS), len(halves_of(STAR)), halves_of(LINE)]
[(3,), (2, 2), (8,), 4, ((0, 0),)]
>>> [place_class(LINE, 0), place_class(STAR, 0), class_sum(LINE, (1, 2), (1, 2)), class_order(LEGS, place_class(LEGS, 3)), boxed_row(LINE, (1, 2))]
[(2, 1), (0, 0, 0, 0), (2, 1), 4, ((1, 3), (2, 3))]
>>> class_of(LINE, ((7, 3), (-1, 3)))
(1, 2)
>>> class_of(LINE, ((1, 2), 0))
raises InvalidOperation
'''


def steps_of(text):
    """The pairs (what is asked, what is told) of a text of examples; nothing is told of an assignment."""
    steps = []
    for line in text.strip().splitlines():
        if line.startswith(">>> "):
            steps.append((line[4:], None))
        else:
            steps[-1] = (steps[-1][0], line)
    return steps


def run_step(case, asked, told, names):
    """Runs one example, and compares what comes of it with what is told."""
    if told is None:
        exec(asked, names)
    elif told.startswith("raises "):
        expected = eval(told[len("raises "):], names)
        kind = expected if isinstance(expected, type) else type(expected)
        with case.assertRaises(kind) as caught:
            eval(asked, names)
        case.assertIs(type(caught.exception), kind)
        if expected is not kind:
            case.assertEqual(vars(caught.exception), vars(expected))
    else:
        case.assertEqual(repr(eval(asked, names)), repr(eval(told, {})))


def run_examples(case, text, names):
    """Runs all examples of a text; `names` is a dict of what they use."""
    steps = steps_of(text)
    case.assertTrue(any(told is not None for _, told in steps))
    for asked, told in steps:
        with case.subTest(asked):
            run_step(case, asked, told, names)
