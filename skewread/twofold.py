"""Two texts that a loose table writes alike."""

from skewread.overhangs import rest_between


def twofold(table):
    """Two unlike texts of the fewest bytes that are written alike, the one ahead in order first; None.

    Such texts differ from their first signs on, and their rows go from overhang to overhang until none is left. A step
    is (size, rest, longer, shorter): the bytes of the longer row, the rest by which it is longer, and the two texts.
    Sizes never fall from step to step, so the least step that waits is the best one that comes to its rest.
    """
    settled = {}
    waiting = first_steps(table)
    while len(waiting) > 0:
        step = min(waiting)
        if step[1] == ():
            return (min(step[2], step[3]), max(step[2], step[3]))
        settled[step[1]] = True
        waiting = [other for other in waiting + further_steps(table, step) if other[1] not in settled]
    return None


def first_steps(table):
    """The steps of each two signs of which the one's word begins the other's or is the same."""
    steps = []
    for place, pair in enumerate(table):
        steps.extend(further_steps(table[:place], (len(pair[1]), pair[1], [pair[0]], [])))
    return steps


def further_steps(table, step):
    """The steps in which the text with the shorter row takes one sign of the table more."""
    steps = [step_with(step, sign, word) for sign, word in table]
    return [further for further in steps if further is not None]


def step_with(step, sign, word):
    """The step in which the text with the shorter row takes this sign; None where the rows are then unlike."""
    rest = rest_between(step[1], word)
    if rest is None:
        return None
    text = step[3] + [sign]
    if len(word) > len(step[1]):
        return (step[0] + len(rest), rest, text, step[2])
    return (step[0], rest, step[2], text)
