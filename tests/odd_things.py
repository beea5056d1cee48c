"""Things of many kinds, for what is told or refused of anything."""


class EqualToAll:
    def __eq__(self, other):
        return True

    def __hash__(self):
        return 1


class BearsNothing:
    def __eq__(self, other):
        raise RuntimeError("compared")

    def __lt__(self, other):
        raise RuntimeError("compared")

    def __hash__(self):
        raise RuntimeError("hashed")

    def __len__(self):
        raise RuntimeError("measured")

    def __iter__(self):
        raise RuntimeError("walked")

    def __bool__(self):
        raise RuntimeError("asked for its truth")


def odd_things():
    """Things that are no plan, no number from 0 on, no kind, no row and no ring, made anew."""
    return [
        None, True, False, -1, -10 ** 24, "", "1", "3", "1 2 3: 3 5", "Squares", "squares ", "square", b"1",
        [], (), {}, set(), frozenset([1]), {1: 2}, {1, 2}, [None], [True], [False], ["1"], [[1]], [[[1]]], [-1],
        (1,), (1, 2), ([1],), ([1], [], []), ([], []), [[1], []], ([1], ()), ((1,), []), (None, None),
        ([1], None), (None, [1]), ([True], []), ([False], []), ([1], [True]), ([1], [False]), ([1], ["1"]),
        ("1", []), ([1], ""), ({1: 1}, []), ([1], {}), ({1}, set()), ([[1]], []), ([(1,)], []), ([1], [None]),
        {"numbers": [1], "sums": []}, range(3), iter([1]), len, int, ValueError, object(), EqualToAll(), BearsNothing(),
        [EqualToAll()], [BearsNothing()], ([EqualToAll()], []), ([BearsNothing()], []), ([1], [EqualToAll()]),
        ([1], [BearsNothing()]), (BearsNothing(), EqualToAll()),
    ]


def check_refused(case, refusal, asked, *arguments):
    """Sees that this very refusal comes, none that stands under it or above it."""
    try:
        asked(*arguments)
    except refusal as taken:
        case.assertIs(type(taken), refusal)
    else:
        case.fail(refusal.__name__ + " did not come")
