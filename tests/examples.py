"""The examples of the document, word for word, and how they are run."""

FRACTIONS = '''
>>> [is_integer(True), is_integer(10 ** 60 - 1), is_fraction((2, 4)), is_fraction((0, 1)), is_number((3, 1)), is_number((1, -2)), lowest(6, -4), lowest(0, 7)]
[False, True, False, True, True, False, (-3, 2), (0, 1)]
>>> [plus(1, (1, 2)), minus((1, 6), (2, 3)), times((-2, 3), (3, 4)), over((1, 2), -2), compare((2, 5), (3, 7)), compare(2, (2, 1))]
[(3, 2), (-1, 2), (-1, 2), (-1, 4), -1, 0]
>>> [floor_of((-3, 2)), rest_of((-3, 2)), floor_of(4), rest_of(4), rest_of((7, 3))]
[-2, (1, 2), 4, (0, 1), (1, 3)]
'''

TREES = '''
>>> LINE, STAR = Tree.line((2, 3, 2)), Tree.star(2, ((2,), (3,), (2, 4)))
>>> [LINE.ties, STAR.numbers, STAR.ties, LINE.table]
[((0, 1), (1, 2)), (2, 2, 3, 2, 4), ((0, 1), (0, 2), (0, 3), (3, 4)), ((-2, 1, 0), (1, -3, 1), (0, 1, -2))]
>>> [STAR.degrees, STAR.neighbours(0), len(STAR), STAR[2], 5 in STAR, list(LINE), str(LINE), str(Tree((2,), ()))]
[(3, 1, 1, 2, 1), (1, 2, 3), 5, 3, False, [2, 3, 2], 'tree 2 3 2: 0-1 1-2', 'tree 2']
>>> [LINE.press((1, 1, 1)), LINE.press(((1, 2), 0, 0)), LINE.product((1, 1, 1), (2, 0, 0))]
[((-1, 1), (-1, 1), (-1, 1)), ((-1, 1), (1, 2), (0, 1)), (-2, 1)]
>>> [STAR.part((0, 3, 4)) == Tree.line((2, 2, 4)), tree_code(LINE), tree_code(STAR)]
[True, ((0, 2), (1, 3), (2, 2)), ((0, 2), (1, 2), (1, 2), (2, 4), (1, 3))]
>>> [are_alike(Tree.line((2, 2, 3, 3)), Tree.line((2, 3, 2, 3))), list(likenesses(LINE, LINE)), renamed(LINE, (1, 0, 2)) == Tree.star(3, ((2,), (2,)))]
[False, [(0, 1, 2), (2, 1, 0)], True]
>>> STAR[5]
raises InvalidNumber(5)
>>> Tree((2, 2), ())
raises InvalidTree
'''


def steps_of(text):
    """The pairs (what is asked, what is told) of a text of examples; nothing is told of an assignment."""
    steps = []
    for line in text.strip().splitlines():
        if line.startswith(">>> "):
            steps.append((line[4:], None))
        else:
            steps[-1] = (steps[-1][0], line)
    return steps


def run_step(case, asked, told, names):
    """Runs one example, and compares what comes of it with what is told."""
    if told is None:
        exec(asked, names)
    elif told.startswith("raises "):
        expected = eval(told[len("raises "):], names)
        kind = expected if isinstance(expected, type) else type(expected)
        with case.assertRaises(kind) as caught:
            eval(asked, names)
        case.assertIs(type(caught.exception), kind)
        if expected is not kind:
            case.assertEqual(vars(caught.exception), vars(expected))
    else:
        case.assertEqual(repr(eval(asked, names)), repr(eval(told, {})))


def run_examples(case, text, names):
    """Runs all examples of a text; `names` is a dict of what they use."""
    steps = steps_of(text)
    case.assertTrue(any(told is not None for _, told in steps))
    for asked, told in steps:
        with case.subTest(asked):
            run_step(case, asked, told, names)
