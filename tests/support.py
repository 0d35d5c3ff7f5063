"""What several tests need: panels, wrong values, and checks that tell True from 1."""

import copy
import itertools

P = ((1,), (0,), (0, 1))
Q = ((1,), (2,), (0,), (0,))
ALONE = ((),)

HUGE = 10 ** 39 + 7

# Values of every kind that point 3 lists, none of which is a number.
NO_NUMBERS = (
    None, True, False, "", "0", "1", "a text\nof two lines", (), (0,), ((0,),),
    [], [0], [[0]], {}, {"a": 0}, {"0": (0,)},
)


def no_buttons(many):
    """Values that are not buttons of a panel with that many buttons."""
    return (-1, -many, many, many + 1, HUGE, -HUGE) + NO_NUMBERS


def bare_panel(many):
    return tuple(() for _ in range(many))


def full_panel(many):
    return tuple(tuple(c for c in range(many) if c != b) for b in range(many))


def round_panel(many):
    """Each button releases the next one, the last one the first one."""
    if many == 1:
        return ALONE
    return tuple(((b + 1) % many,) for b in range(many))


def mixed_panel(many):
    """A few links without much order, the same ones each time."""
    return tuple(
        tuple(c for c in range(many) if c != b and (b * b + 3 * c + b * c) % 4 == 1)
        for b in range(many)
    )


def down_panel(many):
    """Each button releases all smaller ones."""
    return tuple(tuple(range(b)) for b in range(many))


def sample_panels(most=10):
    made = []
    for many in range(1, most + 1):
        for make in (bare_panel, full_panel, round_panel, mixed_panel, down_panel):
            made.append(make(many))
    return made + [P, Q]


def small_panels():
    """All panels with at most three buttons."""
    made = []
    for many in range(1, 4):
        choices = [
            [row for row in subsets(many) if button not in row] for button in range(many)
        ]
        made.extend(itertools.product(*choices))
    return made


def subsets(many):
    """All ascending tuples of buttons, out of that many."""
    return [
        row for size in range(many + 1) for row in itertools.combinations(range(many), size)
    ]


def sample_states(many):
    everything = tuple(range(many))
    return [(), everything, everything[::2], everything[1::2], everything[:1], everything[-1:]]


def shown(value):
    """The repr, since 1 == True and so (1,) == (True,)."""
    return repr(value)


class Checks:
    """Mixed into a TestCase."""

    def same(self, got, wanted, about=None):
        self.assertEqual(shown(got), shown(wanted), about)

    def call(self, function, *values):
        """Call twice: the arguments stay as they are, and the results are equal."""
        before = copy.deepcopy(values)
        first = function(*values)
        self.same(values, before)
        self.same(function(*copy.deepcopy(values)), first, values)
        self.same(values, before)
        return first

    def fails(self, wanted, function, *values):
        """The call raises an error of just this class with just these fields."""
        before = copy.deepcopy(values)
        for _ in range(2):
            with self.assertRaises(type(wanted)) as caught:
                function(*values)
            self.assertIs(type(caught.exception), type(wanted))
            self.same(vars(caught.exception), vars(wanted), values)
            self.same(values, before)

    def example(self, session):
        """Run an example of DOC.md as it stands there."""
        lines = [line.strip() for line in session.strip().splitlines()]
        *commands, wanted = lines
        names = {}
        for command in commands:
            self.assertTrue(command.startswith(">>> "), command)
        for command in commands[:-1]:
            exec(command[4:], names)
        last = commands[-1][4:]
        if not wanted.startswith("raises "):
            self.assertEqual(repr(eval(last, names)), wanted)
            return
        with self.assertRaises((ValueError, LookupError)) as caught:
            eval(last, names)
        fields = ", ".join(repr(field) for field in vars(caught.exception).values())
        self.assertEqual(f"raises {type(caught.exception).__name__}({fields})", wanted)
