"""The examples of the document, word for word, and how they are run."""

FRACTIONS = '''
>>> [is_integer(True), is_integer(10 ** 60 - 1), is_fraction((2, 4)), is_fraction((0, 1)), is_number((3, 1)), is_number((1, -2)), lowest(6, -4), lowest(0, 7)]
[False, True, False, True, True, False, (-3, 2), (0, 1)]
>>> [plus(1, (1, 2)), minus((1, 6), (2, 3)), times((-2, 3), (3, 4)), over((1, 2), -2), compare((2, 5), (3, 7)), compare(2, (2, 1))]
[(3, 2), (-1, 2), (-1, 2), (-1, 4), -1, 0]
>>> [floor_of((-3, 2)), rest_of((-3, 2)), floor_of(4), rest_of(4), rest_of((7, 3))]
[-2, (1, 2), 4, (0, 1), (1, 3)]
'''

TREES = '''
>>> LINE, STAR = Tree.line((2, 3, 2)), Tree.star(2, ((2,), (3,), (2, 4)))
>>> [LINE.ties, STAR.numbers, STAR.ties, LINE.table]
[((0, 1), (1, 2)), (2, 2, 3, 2, 4), ((0, 1), (0, 2), (0, 3), (3, 4)), ((-2, 1, 0), (1, -3, 1), (0, 1, -2))]
>>> [STAR.degrees, STAR.neighbours(0), len(STAR), STAR[2], 5 in STAR, list(LINE), str(LINE), str(Tree((2,), ()))]
[(3, 1, 1, 2, 1), (1, 2, 3), 5, 3, False, [2, 3, 2], 'tree 2 3 2: 0-1 1-2', 'tree 2']
>>> [LINE.press((1, 1, 1)), LINE.press(((1, 2), 0, 0)), LINE.product((1, 1, 1), (2, 0, 0))]
[((-1, 1), (-1, 1), (-1, 1)), ((-1, 1), (1, 2), (0, 1)), (-2, 1)]
>>> [STAR.part((0, 3, 4)) == Tree.line((2, 2, 4)), tree_code(LINE), tree_code(STAR)]
[True, ((0, 2), (1, 3), (2, 2)), ((0, 2), (1, 2), (1, 2), (2, 4), (1, 3))]
>>> [are_alike(Tree.line((2, 2, 3, 3)), Tree.line((2, 3, 2, 3))), list(likenesses(LINE, LINE)), renamed(LINE, (1, 0, 2)) == Tree.star(3, ((2,), (2,)))]
[False, [(0, 1, 2), (2, 1, 0)], True]
>>> STAR[5]
raises InvalidNumber(5)
>>> Tree((2, 2), ())
raises InvalidTree
'''

TABLES = '''
>>> LINE, EVEN, FLAT = ((-2, 1), (1, -3)), ((2, 4), (6, 8)), ((1, 2, 3), (2, 4, 6))
>>> [determinant(LINE), undone(LINE), rank(FLAT), is_table(((1, 2), (3,))), is_table(((True,),))]
[5, (((-3, 5), (-1, 5)), ((-1, 5), (-2, 5))), 1, False, False]
>>> [factors(LINE), factors(EVEN), determinant(EVEN), factors(FLAT), factors(((2, 0), (0, 3))), factors(((0, 0),)), factors(((4, 0), (0, 2)))]
[(1, 5), (2, 4), -8, (1,), (1, 6), (), (2, 4)]
>>> undone(((1, 2), (2, 4)))
raises Refused(("singular",))
>>> determinant(FLAT)
raises InvalidOperation
'''

DEFINITE = '''
>>> FORK = Tree((2, 2, 2, 2), ((0, 1), (0, 2), (0, 3)))
>>> FIVE = Tree((2, 2, 2, 2, 2), ((0, 1), (0, 2), (0, 3), (0, 4)))
>>> [pivots(Tree.line((2, 2, 2))), pivots(FORK), pivots(Tree.line((3, 1, 1)))]
[((4, 3), (3, 2), (2, 1)), ((1, 2), (2, 1), (2, 1), (2, 1)), (None, (0, 1), (1, 1))]
>>> [is_definite(FORK), is_definite(FIVE), determinant_of(FORK), determinant_of(FIVE), minors(FORK), minors(FIVE)]
[True, False, 4, 0, (2, 3, 4, 4), (2, 3, 4, 4, 0)]
>>> [definite_paper(Tree.line((2, 2))), is_definite_paper(FIVE, ("bar", (2, 1, 1, 1, 1))), is_definite_paper(FIVE, ("bar", (-4, -2, -2, -2, -2)))]
[('pivots', ((3, 2), (2, 1))), True, True]
>>> [is_definite_paper(FORK, ("bar", (2, 1, 1, 1))), is_definite_paper(FIVE, ("bar", (0, 0, 0, 0, 0))), definite_paper(Tree((0,), ()))[0]]
[False, False, 'bar']
>>> [determinant_of(Tree.line((1,) * 6)), is_definite(Tree.line((1,) * 6)), determinant_of(Tree.line((1, 1, 3))), pivots(Tree.line((1, 1, 3)))]
[1, False, -1, ((-1, 2), (2, 3), (3, 1))]
>>> is_definite(((2,), ()))
raises InvalidTree
'''

DUALS = '''
>>> FORK, BENT = Tree.star(2, ((2,), (2,), (2,))), Tree.line((2, 1, 3))
>>> [path_between(FORK, 1, 3), path_between(BENT, 2, 0), path_between(BENT, 1, 1)]
[(1, 0, 3), (2, 1, 0), (1,)]
>>> [left_determinant(FORK, ()), left_determinant(FORK, (0,)), left_determinant(FORK, (1,)), left_determinant(FORK, (0, 1, 2, 3))]
[4, 8, 4, 1]
>>> [left_determinant(Tree.line((1, 1)), ()), left_determinant(Tree.line((0, 0, 0)), (1,)), left_determinant(Tree.line((0, 5)), ())]
[0, 0, -1]
>>> [undone_entry(FORK, 0, 0), undone_entry(FORK, 1, 2), dual_row(FORK, 1), dual_row(BENT, 0)]
[(2, 1), (1, 2), ((1, 1), (1, 1), (1, 2), (1, 2)), ((2, 1), (3, 1), (1, 1))]
>>> [is_dual(FORK, (0, (1, 2), (1, 2), 0)), is_dual(FORK, ((1, 2), 0, 0, 0)), is_dual(BENT, (1, 0, -7)), is_dual(BENT, (1, 0)), is_dual(BENT, (1, 0, True))]
[True, False, True, False, False]
>>> dual_row(Tree.line((1, 1)), 5)
raises Refused(('bar',))
'''

GROUPS = '''
>>> LINE, STAR, LONE = Tree.line((2, 2)), Tree.star(2, ((2,), (2,), (2,))), Tree.line((3,))
>>> LEGS = Tree.star(2, ((2,), (2,), (3,)))
>>> [classes_of(LINE), classes_of(LONE), classes_of(STAR)]
[((0, 0), (1, 2), (2, 1)), ((0,), (1,), (2,)), ((0, 0, 0, 0), (0, 0, 2, 2), (0, 2, 0, 2), (0, 2, 2, 0))]
>>> [class_product(LINE, (1, 2), (1, 2)), class_product(LINE, (1, 2), (2, 1)), class_product(LONE, (1,), (1,))]
[1, 2, 2]
>>> [class_product(STAR, (0, 2, 2, 0), (0, 2, 2, 0)), class_product(STAR, (0, 2, 2, 0), (0, 0, 2, 2))]
[0, 2]
>>> [class_factors(LINE), class_factors(STAR), class_factors(LEGS), len(halves_of(STAR)), halves_of(LINE)]
[(3,), (2, 2), (8,), 4, ((0, 0),)]
>>> [place_class(LINE, 0), place_class(STAR, 0), class_sum(LINE, (1, 2), (1, 2)), class_order(LEGS, place_class(LEGS, 3)), boxed_row(LINE, (1, 2))]
[(2, 1), (0, 0, 0, 0), (2, 1), 4, ((1, 3), (2, 3))]
>>> class_of(LINE, ((7, 3), (-1, 3)))
(1, 2)
>>> class_of(LINE, ((1, 2), 0))
raises InvalidOperation
'''


KIN = '''
>>> from tametrees.trees.trees import Tree
>>> ONE, LONG, SEVEN = Tree((1,), ()), Tree.line((2, 1, 3)), Tree((1, 2, 3, 7), ((0, 1), (0, 2), (0, 3)))
>>> [takeable(LONG), takeable(ONE), takeable(SEVEN), takeable(Tree.line((1, 1))), takeable(Tree.line((1, 0)))]
[(1,), (), (), (0, 1), ()]
>>> [taken_down(LONG, 1) == Tree.line((1, 2)), taken_down(Tree.line((1, 1)), 0) == Tree((0,), ()), least_tree(LONG) == ONE, least_tree(SEVEN) == SEVEN]
[True, True, True, True]
>>> [put_at_place(Tree((2,), ()), 0) == Tree.line((3, 1)), put_at_tie(Tree.line((2, 2)), 1, 0) == Tree((3, 3, 1), ((0, 2), (1, 2)))]
[True, True]
>>> [are_kin(LONG, ONE), are_kin(SEVEN, ONE), is_kin_paper(LONG, ONE, ("kin", (1, 0), (), (0,))), is_kin_paper(LONG, ONE, ("kin", (1, 1), (), (0,))), is_kin_paper(SEVEN, ONE, ("apart", (), ()))]
[True, False, True, False, True]
>>> taken_down(LONG, 0)
raises InvalidOperation
>>> least_tree(Tree.line((1, 1)))
raises Refused(('bar',))
'''

CHAINS = '''
>>> [chain_numbers(7, 3), chain_numbers(5, 4), chain_numbers(9, 1), chain_fraction((3, 2, 2)), chain_fraction((2, 4)), chain_fraction((60,))]
[(3, 2, 2), (2, 2, 2, 2), (9,), (7, 3), (7, 4), (60, 1)]
>>> [turned_chain((3, 2, 2)), chain_fraction((2, 2, 3)), beside_chain((3, 2, 2)), beside_chain((3,)), joined_chain((3, 2, 2))]
[(2, 2, 3), (7, 5), (2, 4), (2, 2), (3, 2, 2, 1, 4, 2)]
>>> [chain_down((3, 2, 2, 1, 4, 2)), chain_down((3, 1, 2, 2)), chain_down((2, 2)), chain_down((1,)), chain_down((1, 0)), chain_down((2, 1, 5))]
[(0,), (0,), (2, 2), (1,), (-1,), (3,)]
>>> [saw_sum(1, 2), saw_sum(1, 3), saw_sum(3, 7), saw_sum(8, 65), saw_sum(-1, 3), saw_sum(5, 1)]
[(0, 1), (1, 18), (-1, 14), (0, 1), (-1, 18), (0, 1)]
>>> [chain_share(2, 1), chain_share(3, 1), chain_share(7, 3), chain_share(5, 4)]
[(1, 1), (2, 3), (18, 7), (4, 1)]
>>> chain_numbers(6, 4)
raises InvalidOperation
>>> chain_numbers(7, 7)
raises InvalidNumber(7)
>>> chain_numbers(100, 99)
raises TooMany(60)
'''

STEPS = '''
>>> from tametrees.trees.trees import Tree
>>> LINE, SEVEN = Tree.line((2, 2)), Tree((1, 2, 3, 7), ((0, 1), (0, 2), (0, 3)))
>>> [is_quiet(LINE, (1, 1)), is_quiet(LINE, (1, 0)), is_quiet(LINE, (1, 0), bounds=(0, 1)), is_quiet(LINE, ((1, 3), (2, 3)))]
[True, False, True, True]
>>> [quiet_above(LINE, (1, 0)), quiet_above(LINE, (0, (1, 2))), quiet_above(LINE, (0, 0), bounds=(-1, -1)), quiet_above(LINE, (-3, 1))]
[((1, 1), (1, 1)), ((1, 1), (1, 2)), ((1, 1), (1, 1)), ((1, 1), (1, 1))]
>>> [steps_above(LINE, (1, 0)), is_steps(LINE, (1, 0), (1, 1)), is_steps(LINE, (1, 0), ()), is_steps(LINE, (0, 0), (1, 0), bounds=(-1, -1)), is_steps(LINE, (0, 0), (0, 1), bounds=(-1, -1))]
[(1,), False, False, True, True]
>>> [least_cycle(LINE), least_cycle(SEVEN), least_cycle(Tree.line((2, 1, 5))), len(steps_above(SEVEN, (1, 0, 0, 0)))]
[(1, 1), (6, 3, 2, 1), (1, 2, 1), 11]
>>> quiet_above(LINE, (20001, 0))
raises TooMany(10000)
>>> least_cycle(Tree.line((1, 1)))
raises Refused(("bar",))
'''

TAME = '''
>>> STAR, WILD = Tree.star(2, ((2,), (2,), (2,))), Tree.star(2, ((2,), (2,), (2,), (3,)))
>>> [worth(STAR, (2, 1, 1, 1)), worth(STAR, (0, 0, 3, 0)), worth(WILD, (2, 1, 1, 1, 1)), worth(WILD, (1, 1, 1, 1, 1))]
[1, 9, 0, 1]
>>> [is_tame(STAR), is_tame(WILD), is_tame(Tree.line((5, 1, 2))), multiplicity(STAR), multiplicity(WILD), multiplicity(Tree.line((3, 4)))]
[True, False, True, 2, 1, 5]
>>> [is_tame_paper(STAR, ("steps", (1, 0, 2, 3, 0))), is_tame_paper(STAR, ("steps", (1, 0, 2, 3))), is_tame_paper(WILD, ("sink", (2, 1, 1, 1, 1)))]
[True, False, True]
>>> [least_sink(WILD), least_sink(STAR), is_least_sink(WILD, (2, 1, 1, 1, 1)), is_least_sink(WILD, (2, 1, 1, 1, 2)), tame_paper(Tree.line((1,)))]
[(2, 1, 1, 1, 1), None, True, False, ('steps', (0,))]
>>> worth(STAR, (1, 2, 3))
raises InvalidRow
>>> is_tame(Tree.line((1, 1)))
raises Refused(("bar",))
'''

TWOS = '''
>>> LINE, FORK = Tree((2, 2), ((0, 1),)), Tree((2, 2, 2, 2), ((0, 1), (0, 2), (0, 3)))
>>> LEGS = Tree((2,) * 8, ((0, 1), (0, 2), (0, 4), (2, 3), (4, 5), (5, 6), (6, 7)))
>>> [twos_kind(LINE), twos_kind(FORK), twos_kind(LEGS), twos_kind(Tree((2,), ())), two_rows(LINE)]
[('line', 2), ('fork', 4), ('legs', 8), ('line', 1), ((-1, -1), (-1, 0), (0, -1), (0, 1), (1, 0), (1, 1))]
>>> [two_count(FORK), two_count(LEGS), greatest_two(FORK), greatest_two(LEGS), two_heights(LINE), two_heights(FORK)]
[24, 240, (2, 1, 1, 1), (6, 3, 4, 2, 5, 4, 3, 2), (2, 1), (4, 3, 3, 1, 1)]
>>> twos_kind(Tree((2,) * 7, ((0, 1), (0, 3), (0, 5), (1, 2), (3, 4), (5, 6))))
None
>>> two_rows(Tree((2, 3, 1), ((0, 1), (0, 2))))
raises Refused(('number', 1))
>>> two_count(Tree((2,) * 5, ((0, 1), (0, 2), (0, 3), (0, 4))))
raises Refused(('bar',))
'''

DEPTH = '''
>>> from tametrees.rows.steps import least_cycle
>>> from tametrees.rows.tame import worth
>>> SEVEN, FOUR = Tree.star(1, ((2,), (3,), (7,))), Tree.star(2, ((2,), (2,), (2,), (3,)))
>>> LEGS = Tree.star(2, ((3,), (3,), (3,), (3,), (3,)))
>>> [k_row(SEVEN), k_multiple(SEVEN), share_of(SEVEN), k_row(Tree.line((3,))), k_multiple(Tree.line((3,))), share_of(Tree.line((3,)))]
[((-2, 1), (-1, 1), (-1, 1), (-1, 1)), 1, (0, 1), ((-1, 3),), 3, (2, 3)]
>>> [least_cycle(SEVEN), least_cycle(FOUR), least_cycle(LEGS)]
[(6, 3, 2, 1), (2, 1, 1, 1, 1), (3, 1, 1, 1, 1, 1)]
>>> [worth(SEVEN, (6, 3, 2, 1)), worth(FOUR, (2, 1, 1, 1, 1)), worth(LEGS, (3, 1, 1, 1, 1, 1)), depth_of(SEVEN), depth_of(FOUR), depth_of(LEGS), depth_of(Tree.line((2, 2)))]
[0, 0, -1, 'even', 'even', 'deep', 'tame']
>>> [even_row(SEVEN), even_row(FOUR), k_row(FOUR) == ((-2, 1), (-1, 1), (-1, 1), (-1, 1), (-1, 1)), share_of(Tree.line((2, 2, 2)))]
[(2, 1, 1, 1), (2, 1, 1, 1, 1), True, (3, 1)]
>>> even_row(LEGS)
raises Refused(('deep',))
>>> k_row(Tree.line((1, 1)))
raises Refused(('bar',))
'''

HEIGHTS = '''
>>> from tametrees.trees.trees import Tree
>>> TWO, THREE, LINE = Tree((2,), ()), Tree((3,), ()), Tree.line((2, 2))
>>> EIGHT, SEVEN = Tree.star(2, ((2,), (2, 2), (2, 2, 2, 2))), Tree.star(1, ((2,), (3,), (7,)))
>>> [odd_class(TWO, (0,)), odd_class(TWO, (2,)), odd_square(TWO, (2,)), odd_square(THREE, (1,)), odd_class(LINE, (2, 0))]
[(0,), (1,), (-2, 1), (-1, 3), (1, 2)]
>>> [height_path(TWO, (2,)), height_path(TWO, (-6,)), height_path(LINE, (2, 0)), height_path(LINE, (2, 2))]
[((0,), (-2,)), ((), (-6,)), ((0, 1), (0, -2)), ((0,), (-2, 4))]
>>> [height(TWO, (0,)), height(TWO, (1,)), [height(THREE, (number,)) for number in range(3)], height(EIGHT, (0,) * 8), height(SEVEN, (0,) * 4)]
[(1, 4), (-1, 4), [(1, 6), (1, 6), (-1, 2)], (2, 1), (0, 1)]
>>> [highest(TWO, (0,)), is_highest(TWO, (1,), (2,)), is_highest(TWO, (1,), (-2,)), is_highest(TWO, (1,), (-6,)), is_highest(TWO, (1,), (0,))]
[(0,), True, True, False, False]
>>> odd_class(THREE, (2,))
raises InvalidRow
>>> height(TWO, (2,))
raises InvalidClass
'''

PIECES = '''
>>> SEVEN, THREE, WIDE = Tree.star(1, ((2,), (3,), (7,))), Tree((3,), ()), Tree.star(4, ((2,),) * 7)
>>> ZERO, NIL = (0,) * 4, (0,) * 8
>>> [worth_in(SEVEN, ZERO, (6, 3, 2, 1)), worth_in(SEVEN, ZERO, (1, 1, 1, 1)), worth_in(THREE, (1,), (1,)), worth_in(THREE, (2,), (-1,))]
[0, 1, 2, 0]
>>> [least_level(SEVEN, ZERO), len(low_rows(SEVEN, ZERO, 0)), len(low_rows(SEVEN, ZERO, 1)), [len(piece) for piece in low_pieces(SEVEN, ZERO, 0)]]
[0, 16, 80, [8, 8]]
>>> [low_pieces(SEVEN, ZERO, 0)[0][-1], low_pieces(SEVEN, ZERO, 0)[1][0]]
[(0, 0, 0, 0), (2, 1, 1, 1)]
>>> [piece_counts(SEVEN, ZERO, 2), stair_code(SEVEN, ZERO, 1), leaf_count(SEVEN, ZERO, 1), stair_code(SEVEN, ZERO, 0), stair_code(SEVEN, ZERO, -1)]
[(2, 1, 1), (1, 0, 0), 2, (0, 0), ()]
>>> [low_rows(THREE, (0,), 2), low_rows(THREE, (1,), 1), low_rows(THREE, (2,), 0), piece_counts(THREE, (2,), 2), stair_code(THREE, (0,), 1)]
[((-1,), (0,), (1,)), ((-1,), (0,)), ((-1,), (0,)), (1, 1, 1), (1, 0)]
>>> [least_level(WIDE, NIL), piece_counts(WIDE, NIL, 0), leaf_count(WIDE, NIL, 0), stair_code(WIDE, NIL, 0), low_rows(WIDE, NIL, -1)]
[-1, (1, 3), 3, (0, 0, 0, -1), ((2, 1, 1, 1, 1, 1, 1, 1),)]
>>> low_rows(SEVEN, ZERO, 10 ** 50)
raises TooMany(2000)
'''

NEAR = '''
>>> SEVEN, STAR = Tree.star(1, ((2,), (3,), (7,))), Tree.star(2, ((2,), (2,), (2,)))
>>> ZERO, TWO = (0, 0, 0, 0), Tree((2, 2, 2, 2, 4, 2, 2, 2, 2, 4), ((0, 1), (0, 2), (0, 3), (0, 4), (4, 9), (5, 6), (5, 7), (5, 8), (5, 9)))
>>> [near_places(SEVEN), near_places(STAR), near_places(TWO), tau(SEVEN, 0, ZERO, 13)]
[(0,), (0, 1, 2, 3), (), (0, 1, 0, 0, 0, 0, 0, 1, 1, 1, 1, 1, 1, 2)]
>>> [lifted_row(SEVEN, 0, ZERO, 2), lifted_row(SEVEN, 0, ZERO, 7), tau(STAR, 0, ZERO, 3), tau(STAR, 1, ZERO, 3)]
[(2, 1, 1, 1), (7, 4, 3, 1), (0, 1, 1, 3), (0, 1, 2, 5)]
>>> [tau_code(SEVEN, 0, ZERO, 1), tau_code(SEVEN, 0, ZERO, 0), tau_code(SEVEN, 0, ZERO, -1), near_count(SEVEN, 0, ZERO), near_count(STAR, 2, (0, 2, 2, 0))]
[(1, 0, 0), (0, 0), (), 1, 0]
>>> near_count(SEVEN, 1, ZERO)
raises Refused(("near",))
'''

STARS = '''
>>> from tametrees.trees.trees import Tree
>>> HALVES = ((2, 1), (3, 1), (7, 1))
>>> [star_tree(1, HALVES) == Tree((1, 2, 3, 7), ((0, 1), (0, 2), (0, 3))), star_tree(3, ((5, 3), (2, 1))) == Tree((3, 2, 3, 2), ((0, 1), (0, 3), (1, 2)))]
[True, True]
>>> [is_star_definite(1, HALVES), is_star_definite(1, ((2, 1), (3, 1), (6, 1))), is_star_definite(0, ()), star_tree(5, ()) == Tree((5,), ())]
[True, False, False, True]
>>> [star_tau(1, HALVES, 8), star_tau(2, ((2, 1), (3, 2), (5, 4)), 6)]
[(0, 1, 0, 0, 0, 0, 0, 1, 1), (0, 1, 1, 1, 1, 1, 1)]
>>> [star_count(1, HALVES), star_count(2, ((2, 1), (3, 2), (5, 4))), triple_star(2, 3, 7), triple_star(2, 3, 5)]
[1, 0, (1, ((2, 1), (3, 1), (7, 1))), (2, ((2, 1), (3, 2), (5, 4)))]
>>> [triple_count(2, 3, 5), triple_count(2, 3, 7), triple_count(2, 3, 11), triple_count(2, 3, 13), triple_count(3, 4, 5)]
[0, 1, 1, 2, 2]
>>> triple_star(2, 3, 4)
raises InvalidOperation
>>> star_count(1, ((2, 1), (2, 1)))
raises Refused(('bar',))
'''

BOXES = '''
>>> from tametrees.trees.trees import Tree
>>> TIES, ONE3 = ((0, 1), (0, 2), (0, 3)), Tree((3,), ())
>>> SEVEN, THIRD = Tree((1, 2, 3, 7), TIES), Tree((1, 2, 3, 13), TIES)
>>> [sure_box(ONE3, (0,)), sure_box(ONE3, (2,)), sure_box(SEVEN, (0, 0, 0, 0)), sure_box(THIRD, (1, 4, 5, 6))]
[((0,), (1,)), ((0,), (0,)), ((0, 0, 0, 0), (2, 1, 1, 1)), ((5, 2, 1, 0), (7, 3, 2, 1))]
>>> [box_count(ONE3, (0,), (0,), (1,)), box_count(ONE3, (0,), (-2,), (3,)), box_count(SEVEN, (0, 0, 0, 0), (0, 0, 0, 0), (1, 1, 1, 1))]
[0, 0, 0]
>>> [class_count(ONE3, (0,)), class_count(SEVEN, (0, 0, 0, 0)), class_count(THIRD, (0, 0, 0, 0)), class_count(THIRD, (1, 4, 5, 6))]
[0, 1, 1, 1]
>>> [euler_numbers(ONE3, (0,), 2), euler_numbers(SEVEN, (0, 0, 0, 0), 2), euler_numbers(THIRD, (1, 4, 5, 6), 0), euler_numbers(SEVEN, (0, 0, 0, 0), -1)]
[(0, (1, 1, 1)), (0, (2, 1, 1)), (-1, (1, 1)), (0, ())]
>>> box_count(ONE3, (0,), (1,), (0,))
raises InvalidOperation
>>> class_count(ONE3, (3,))
raises InvalidClass
'''

SERIES = '''
>>> from tametrees.trees.trees import Tree
>>> TWO, LINE = Tree((2,), ()), Tree.line((2, 2))
>>> FOUR, SEVEN = Tree.star(2, ((2,), (2,), (2,))), Tree.star(1, ((2,), (3,), (7,)))
>>> [coefficient(TWO, (3,)), coefficient(TWO, (-1,)), coefficient(LINE, (2, 5)), coefficient(Tree.line((2, 2, 2)), (1, 1, 1)), coefficient(FOUR, (1, 0, 4, 2)), coefficient(FOUR, (2, 0, 0, 0))]
[4, 0, 1, 0, -1, 0]
>>> [is_far(TWO, (0,), (0,)), is_far(TWO, (0,), (-1,)), is_far(TWO, (1,), (-1,)), is_far(SEVEN, (0,) * 4, (2, 1, 1, 1)), is_far(SEVEN, (0,) * 4, (6, 3, 2, 1))]
[True, False, False, True, False]
>>> [left_behind(TWO, (0,), (3,)), left_behind(TWO, (1,), (2,)), left_behind(TWO, (0,), (0,)), left_behind(SEVEN, (0,) * 4, (2, 1, 1, 1))]
[9, 6, 0, 1]
>>> left_behind(TWO, (1,), (-1,))
raises InvalidOperation
'''

NUMBER = '''
>>> from tametrees.trees.trees import Tree
>>> EIGHT, SEVEN = Tree.star(2, ((2,), (2, 2), (2, 2, 2, 2))), Tree.star(1, ((2,), (3,), (7,)))
>>> ONE, TWO, THREE = Tree((1,), ()), Tree((2,), ()), Tree((3,), ())
>>> [number_by_table(tree) for tree in (ONE, TWO, THREE, EIGHT, SEVEN, Tree.line((2, 1)))]
[(0, 1), (0, 1), (-2, 3), (24, 1), (24, 1), (0, 1)]
>>> [number_by_classes(tree) for tree in (ONE, TWO, THREE, EIGHT, SEVEN)]
[(0, 1), (0, 1), (-2, 3), (24, 1), (24, 1)]
>>> [list(class_shares(THREE).values()), list(class_shares(TWO).values()), list(class_shares(EIGHT).values()), list(class_shares(SEVEN).values())]
[[(1, 12), (1, 12), (-1, 4)], [(1, 8), (-1, 8)], [(1, 1)], [(1, 1)]]
>>> [number_by_table(Tree.line((3, 2, 2))), class_share(THREE, (2,)), class_share(TWO, (1,)), list(class_shares(THREE))]
[(6, 7), (-1, 4), (-1, 8), [(0,), (1,), (2,)]]
>>> number_by_table(Tree((0,), ()))
raises Refused(('bar',))
'''

HALVES = '''
>>> FORK, SEVEN = Tree((2, 2, 2, 2), ((0, 1), (0, 2), (0, 3))), Tree.star(1, ((2,), (3,), (7,)))
>>> [wu_lots(Tree.line((2, 2, 2))), wu_lots(FORK), wu_lots(SEVEN), wu_lots(Tree((3,), ())), wu_lots(Tree((0,), ()))]
[((), (0, 2)), ((), (1, 2), (1, 3), (2, 3)), ((1, 2, 3),), ((0,),), ((), (0,))]
>>> [wu_number(Tree.line((2, 2, 2)), ()), wu_number(Tree.line((2, 2, 2)), (0, 2)), wu_number(SEVEN, (1, 2, 3)), wu_number(Tree((3,), ()), (0,))]
[-3, 1, 8, 2]
>>> [wu_class(Tree.line((2, 2, 2)), ()), wu_class(Tree.line((2, 2, 2)), (0, 2)), wu_class(Tree((3,), ()), (0,)), wu_class(SEVEN, (1, 2, 3))]
[(0, 0, 0), (2, 0, 2), (2,), (0, 0, 0, 0)]
>>> [is_wu_lot(FORK, (1, 2)), is_wu_lot(FORK, (0,)), is_wu_lot(FORK, (2, 1)), is_wu_lot(FORK, [1, 2]), is_wu_lot(SEVEN, (0, 2, 3))]
[True, False, False, False, False]
>>> wu_number(FORK, (1,))
raises InvalidOperation
>>> wu_class(Tree((0,), ()), ())
raises Refused(('bar',))
'''

DESK = '''
>>> desk = Desk()
>>> [desk.keep("a", Tree((2, 2), ((0, 1),))), desk.promise("d", ("determinant", "a", 3)), desk.promise("t", ("tame", "a")), desk.put_up("a", 0), desk.tree("a").numbers, str(desk)]
[1, 2, 3, 4, (3, 2, 1), 'desk of 1 trees, 2 promises']
>>> [desk.put_up("a", 0, 1), desk.tree("a").numbers, desk.undo(times=2), desk.redo(), desk.keep("b", Tree((2,), ())), "b" in desk, desk.names, desk.labels]
[5, (4, 3, 1, 1), 3, 4, 5, True, ('a', 'b'), ('d', 't')]
>>> desk.raise_number("a", 1)
raises Refused(('promise', 'd'))
>>> [desk.release("d"), desk.raise_number("a", 1, by=4), desk.tree("a").numbers, desk.deeds, desk == desk.twin()]
[6, 7, (3, 6, 1), 7, True]
>>> desk.promise("k", ("kin", "a", "b"))
raises Refused(('promise', 'k'))
'''

TEXTS = '''
>>> from tametrees.trees.trees import Tree
>>> CHAIN = Tree.line((2, 1, 3))
>>> [write_value(CHAIN, kind="tree"), write_value(Tree((5,), ()), kind="tree"), write_value((1, -2, (1, 2)), kind="row")]
['tree 2 1 3 | 0 1 | 1 2', 'tree 5', 'row 1 -2 1/2']
>>> [write_value((2, 1), kind="row"), write_value((2, 1), kind="fraction"), write_value(((2, 1),), kind="row"), write_value((0, 1), kind="class")]
['row 2 1', 'fraction 2/1', 'row 2/1', 'class 0 1']
>>> [read_value("tree 2 1 3 | 0 1 | 1 2") == CHAIN, read_value("row 1 -2 1/2"), kind_of_text("class 0"), is_text("class -1"), is_text("tree 2 2")]
[True, (1, -2, (1, 2)), 'class', False, False]
>>> read_value("tree 2 2")
raises ParseError(3)
>>> read_value("tree 2 2 | 1 0")
raises ParseError(5)
>>> read_value("row 4/6")
raises ParseError(1)
>>> write_value((1, 2), kind="fractions")
raises UnknownName('fractions')
'''


def steps_of(text):
    """The pairs (what is asked, what is told) of a text of examples; nothing is told of an assignment."""
    steps = []
    for line in text.strip().splitlines():
        if line.startswith(">>> "):
            steps.append((line[4:], None))
        else:
            steps[-1] = (steps[-1][0], line)
    return steps


def run_step(case, asked, told, names):
    """Runs one example, and compares what comes of it with what is told."""
    if told is None:
        exec(asked, names)
    elif told.startswith("raises "):
        expected = eval(told[len("raises "):], names)
        kind = expected if isinstance(expected, type) else type(expected)
        with case.assertRaises(kind) as caught:
            eval(asked, names)
        case.assertIs(type(caught.exception), kind)
        if expected is not kind:
            case.assertEqual(vars(caught.exception), vars(expected))
    else:
        case.assertEqual(repr(eval(asked, names)), repr(eval(told, {})))


def run_examples(case, text, names):
    """Runs all examples of a text; `names` is a dict of what they use."""
    steps = steps_of(text)
    case.assertTrue(any(told is not None for _, told in steps))
    for asked, told in steps:
        with case.subTest(asked):
            run_step(case, asked, told, names)
