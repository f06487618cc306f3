"""Forms of two numbers of any degree: where they are below 0 (Sturm 1829)."""

from stringrods.rows import common_divisor, times


def trimmed(numbers):
    """Return the numbers without noughts ahead, divided by their greatest common divisor; the signs stay."""
    divisor = common_divisor(numbers)
    if divisor == 0:
        return ()
    ahead = 0
    while numbers[ahead] == 0:
        ahead += 1
    return tuple([number // divisor for number in numbers[ahead:]])


def value_at(line, place, part):
    """Return the value, but for a factor above 0, at place / part, part being above 0."""
    total = 0
    power = 1
    for number in line:
        total = total * place + number * power
        power = power * part
    return total


def slope_of(line):
    """Return the line of the slopes."""
    degree = len(line) - 1
    return trimmed([(degree - at) * number for at, number in enumerate(line[:degree])])


def rest_turned(line, divisor):
    """Return what is left of the line divided by the divisor, with all signs turned round, but for a factor above 0."""
    rest = list(line)
    size = abs(divisor[0])
    while len(rest) >= len(divisor):
        head = rest[0] if divisor[0] > 0 else -rest[0]
        padded = list(divisor) + [0] * (len(rest) - len(divisor))
        rest = [size * number - head * step for number, step in zip(rest, padded)][1:]
    return trimmed(times(-1, rest))


def chain_of(line):
    """Return the chain of Sturm, down to the greatest common divisor of the line and its slopes."""
    chain = [line]
    lower = slope_of(line)
    while lower:
        chain.append(lower)
        lower = rest_turned(chain[-2], lower)
    return chain


def changes_at(chain, place, part):
    """Return how often the sign changes along the chain, noughts left out."""
    values = [value_at(line, place, part) for line in chain]
    signs = [value > 0 for value in values if value != 0]
    return len([at for at in range(1, len(signs)) if signs[at] != signs[at - 1]])


def halves(line, low, high, part):
    """Return the spans from low and up to high, both with this part below, cut where the line is not 0."""
    # A line of degree 4 has no more than four places, so one of five is free.
    cuts = [8 * low + eighth * (high - low) for eighth in (4, 3, 5, 2, 6)]
    cut = [place for place in cuts if value_at(line, place, 8 * part) != 0][0]
    spans = [(8 * low, cut, 8 * part), (cut, 8 * high, 8 * part)]
    return [tuple([number // common_divisor(span) for number in span]) for span in spans]


def pair_below(form):
    """Return whole numbers s and t at which the form is below 0, None if it is nowhere below 0.

    The form is told by its five numbers ahead of s s s s, s s s t, s s t t, s t t t, t t t t. Each
    two neighbours among the places where it is 0 are parted by an end of a span: so it is below 0
    somewhere exactly if it is at such an end, or at 1 : 0.
    """
    if form[0] < 0:
        return (1, 0)
    line = trimmed(form)
    if not line:
        return None
    chain = chain_of(line)
    # All places where the line is 0 are nearer to 0 than this (Cauchy 1829).
    bound = 2 + max([abs(number) for number in line]) // abs(line[0])
    spans = [(-bound, bound, 1)]
    while spans:
        low, high, part = spans.pop()
        below = [place for place in (low, high) if value_at(line, place, part) < 0]
        if below:
            return (below[0], part)
        if changes_at(chain, low, part) - changes_at(chain, high, part) > 1:
            spans.extend(halves(line, low, high, part))
    return None
