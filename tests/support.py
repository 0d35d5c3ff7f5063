"""What several tests need: panels, wrong values, and checks that tell True from 1."""

import copy
import itertools
import time

P = ((1,), (0,), (0, 1))
Q = ((1,), (2,), (0,), (0,))
ALONE = ((),)

HUGE = 10 ** 39 + 7

# Values of every kind that point 3 lists, none of which is a number.
NO_NUMBERS = (
    None, True, False, "", "0", "1", "a text\nof two lines", (), (0,), ((0,),),
    [], [0], [[0]], {}, {"a": 0}, {"0": (0,)},
)


def no_buttons(many):
    """Values that are not buttons of a panel with that many buttons."""
    return (-1, -many, many, many + 1, HUGE, -HUGE) + NO_NUMBERS


def bare_panel(many):
    return tuple(() for _ in range(many))


def full_panel(many):
    return tuple(tuple(c for c in range(many) if c != b) for b in range(many))


def round_panel(many):
    """Each button releases the next one, the last one the first one."""
    if many == 1:
        return ALONE
    return tuple(((b + 1) % many,) for b in range(many))


def mixed_panel(many):
    """A few links without much order, the same ones each time."""
    return tuple(
        tuple(c for c in range(many) if c != b and (b * b + 3 * c + b * c) % 4 == 1)
        for b in range(many)
    )


def down_panel(many):
    """Each button releases all smaller ones."""
    return tuple(tuple(range(b)) for b in range(many))


def sample_panels(most=10):
    made = []
    for many in range(1, most + 1):
        for make in (bare_panel, full_panel, round_panel, mixed_panel, down_panel):
            made.append(make(many))
    return made + [P, Q]


def small_panels():
    """All panels with at most three buttons."""
    made = []
    for many in range(1, 4):
        choices = [
            [row for row in subsets(many) if button not in row] for button in range(many)
        ]
        made.extend(itertools.product(*choices))
    return made


def subsets(many):
    """All ascending tuples of buttons, out of that many."""
    return [
        row for size in range(many + 1) for row in itertools.combinations(range(many), size)
    ]


def sample_states(many):
    everything = tuple(range(many))
    return [(), everything, everything[::2], everything[1::2], everything[:1], everything[-1:]]


def sample_row(many, length):
    return tuple((at * at + at // 3) % many for at in range(length))


class Draws:
    """Numbers without much order, the same ones for the same seed under every Python."""

    def __init__(self, seed):
        self.now = seed * 2654435761 % 2 ** 32

    def below(self, bound):
        self.now = (self.now * 1664525 + 1013904223) % 2 ** 32
        return (self.now >> 8) % bound

    def row(self, many, length):
        return tuple(self.below(many) for _ in range(length))

    def state(self, many):
        return tuple(button for button in range(many) if self.below(2))

    def panel(self, many, links):
        """Each link is there in so many of ten cases."""
        return tuple(
            tuple(c for c in range(many) if c != b and self.below(10) < links)
            for b in range(many)
        )


def drawn_panels(seed, sizes, each=3):
    """Panels with few, some and many links."""
    draws = Draws(seed)
    return [
        draws.panel(many, links) for many in sizes for links in (1, 2, 3, 5, 8) for _ in range(each)
    ]


def rows_in_order(many):
    """All rows in which no button is twice, shorter ones first, then in the order of tuples."""
    for size in range(many + 1):
        yield from itertools.permutations(range(many), size)


def plain_rows(many):
    """The same as a list; there are millions of them for ten buttons."""
    return list(rows_in_order(many))


def all_states(many):
    """All states in the order of tuples."""
    return sorted(subsets(many))


def pressed(panel, latched, button):
    """What a press does, told button by button."""
    after = []
    for other in range(len(panel)):
        if other == button:
            after.append(other)
        elif other not in panel[button] and other in latched:
            after.append(other)
    return tuple(after)


def state_bits(state):
    return sum(1 << button for button in state)


def bits_state(bits):
    return tuple(button for button in range(bits.bit_length()) if bits >> button & 1)


def row_bits(panel, bits, row):
    """The state after the row; states are bits here, as many of them are asked for."""
    for button in row:
        bits = bits & ~state_bits(panel[button]) | 1 << button
    return bits


def told_effect(panel, row):
    """The effect as point 6 tells it: by the last press that matters to each button."""
    words = []
    for button in range(len(panel)):
        matters = [one for one in row if one == button or button in panel[one]]
        if not matters:
            words.append("same")
        else:
            words.append("on" if matters[-1] == button else "off")
    return tuple(words)


def ways_by_presses(panel, start):
    """Every state that can be reached, with its smallest shortest row."""
    released = [~state_bits(row) for row in panel]
    first = state_bits(start)
    ways = {first: ()}
    waiting = [first]
    for bits in waiting:
        for button in range(len(panel)):
            after = bits & released[button] | 1 << button
            if after not in ways:
                ways[after] = ways[bits] + (button,)
                waiting.append(after)
    return {bits_state(bits): way for bits, way in ways.items()}


def rows_by_effect(panel):
    """Every effect, as (on, off) in bits, with its smallest shortest row."""
    released = [state_bits(row) for row in panel]
    rows = {(0, 0): ()}
    waiting = [(0, 0)]
    for on, off in waiting:
        for button in range(len(panel)):
            bit = 1 << button
            after = (on & ~released[button] | bit, (off | released[button]) & ~bit)
            if after not in rows:
                rows[after] = rows[on, off] + (button,)
                waiting.append(after)
    return rows


def effect_bits(effect):
    """An effect as a key of rows_by_effect."""
    return tuple(
        sum(1 << button for button, word in enumerate(effect) if word == wanted)
        for wanted in ("on", "off")
    )


def shown(value):
    """The repr, since 1 == True and so (1,) == (True,)."""
    return repr(value)


class Checks:
    """Mixed into a TestCase."""

    def same(self, got, wanted, about=None):
        self.assertEqual(shown(got), shown(wanted), about)

    def call(self, function, *values):
        """Call twice: the arguments stay as they are, and the results are equal."""
        before = copy.deepcopy(values)
        first = function(*values)
        self.same(values, before)
        self.same(function(*copy.deepcopy(values)), first, values)
        self.same(values, before)
        return first

    def soon(self, function, *values, seconds=10):
        """Call once; far more than enough time, but none for trying out everything."""
        begun = time.process_time()
        result = function(*values)
        self.assertLess(time.process_time() - begun, seconds, values)
        return result

    def ascending(self, row):
        for one, other in zip(row, row[1:]):
            self.assertLess(one, other)

    def no_button_twice(self, row):
        self.assertEqual(len(set(row)), len(row), row)

    def fails(self, wanted, function, *values):
        """The call raises an error of just this class with just these fields."""
        before = copy.deepcopy(values)
        for _ in range(2):
            with self.assertRaises(type(wanted)) as caught:
                function(*values)
            self.assertIs(type(caught.exception), type(wanted))
            self.same(vars(caught.exception), vars(wanted), values)
            self.same(values, before)

    def example(self, session):
        """Run an example of DOC.md as it stands there."""
        lines = [line.strip() for line in session.strip().splitlines()]
        *commands, wanted = lines
        names = {}
        for command in commands:
            self.assertTrue(command.startswith(">>> "), command)
        for command in commands[:-1]:
            exec(command[4:], names)
        last = commands[-1][4:]
        if not wanted.startswith("raises "):
            self.assertEqual(repr(eval(last, names)), wanted)
            return
        with self.assertRaises((ValueError, LookupError)) as caught:
            eval(last, names)
        fields = ", ".join(repr(field) for field in vars(caught.exception).values())
        self.assertEqual(f"raises {type(caught.exception).__name__}({fields})", wanted)
