"""The document's words done plainly, cell by cell and size by size, to compare the program with."""

from math import prod

WORDS = ["window", "window", "repeat", "crop", "pad", "join"]

BRIDGE = [("window", 0, 3, 2, 1), ("window", 1, 3, 2, 1), ("repeat", 2, 4), ("join", 3, 0)]
TWICE = [("repeat", 0, 2), ("pad", 0, 5, 5), ("join", 1, 2)]
APART = [("crop", 0, 0, 20), ("crop", 0, 20, 0), ("join", 1, 2)]


def plain_sizes(steps, size):
    """The sizes of all rows, straight from [5]."""
    sizes = [size]
    for step in steps:
        cells = sizes[step[1]]
        if step[0] == "window":
            _, _, length, stride, pad = step
            sizes.append((cells + 2 * pad - length) // stride + 1)
        elif step[0] == "repeat":
            sizes.append(step[2] * cells)
        elif step[0] == "crop":
            sizes.append(cells - step[2] - step[3])
        elif step[0] == "pad":
            sizes.append(cells + step[2] + step[3])
        else:
            sizes.append(cells)
    return sizes


def plain_fault(steps, size):
    """What why_not is to return, straight from [6]."""
    sizes = plain_sizes(steps, size)
    for row in range(1, len(sizes)):
        step = steps[row - 1]
        if sizes[row] < 1:
            return ("small", row, sizes[row])
        if step[0] == "join" and sizes[step[1]] != sizes[step[2]]:
            return ("join", row, sizes[step[1]], sizes[step[2]])
    return None


def plain_fits(steps, size):
    return plain_fault(steps, size) is None


def plain_output(steps, size):
    """The size of the output, None if the size does not fit."""
    return plain_sizes(steps, size)[-1] if plain_fits(steps, size) else None


def plain_parting(first, second, most):
    """The least size to most that parts two lists of steps, or None."""
    for size in range(1, most + 1):
        if plain_output(first, size) != plain_output(second, size):
            return size
    return None


def plain_uses(step, cell, sizes):
    """The (row, cell) pairs that a cell of a step's row uses, straight from [5]."""
    row = step[1]
    if step[0] == "window":
        _, _, length, stride, pad = step
        places = range(stride * cell - pad, stride * cell - pad + length)
    elif step[0] == "repeat":
        places = [cell // step[2]]
    elif step[0] == "crop":
        places = [cell + step[2]]
    elif step[0] == "pad":
        places = [cell - step[2]]
    else:
        return [(step[1], cell), (step[2], cell)]
    return [(row, place) for place in places if 0 <= place < sizes[row]]


def plain_table(steps, size):
    """The set of the input cells that each output cell needs, cell by cell [8]."""
    sizes = plain_sizes(steps, size)
    rows = [[{cell} for cell in range(size)]]
    for number, step in enumerate(steps):
        rows.append([set().union(*[rows[row][place] for row, place in plain_uses(step, cell, sizes)])
                     for cell in range(sizes[number + 1])])
    return rows[-1]


def plain_needs(steps, size):
    """For each output cell the list of the sets of the cells of each row that it needs, cell by cell [8]."""
    sizes = plain_sizes(steps, size)
    told = []
    for cell in range(sizes[-1]):
        needed = [set() for _ in sizes]
        needed[-1].add(cell)
        for number in reversed(range(len(steps))):
            for one in needed[number + 1]:
                for row, place in plain_uses(steps[number], one, sizes):
                    needed[row].add(place)
        told.append(needed)
    return told


def plain_kept(table, row):
    """For each output cell the set of the cells of a row that are kept while it is made [10]; table: plain_needs."""
    first, last = {}, {}
    for cell, needed in enumerate(table):
        for one in needed[row]:
            first.setdefault(one, cell)
            last[one] = cell
    return [{one for one in first if first[one] <= cell <= last[one]} for cell in range(len(table))]


def plain_piece(table, count):
    """The greatest number of input cells that so many neighbouring outputs need, 0 if there are not so many."""
    pieces = [table[cell:cell + count] for cell in range(len(table) - count + 1)]
    return max([len(set().union(*[needed[0] for needed in piece])) for piece in pieces], default=0)


def as_ranges(cells):
    """The ranges of a set of cells [8]."""
    told = []
    for cell in sorted(cells):
        if told and told[-1][1] == cell - 1:
            told[-1] = (told[-1][0], cell)
        else:
            told.append((cell, cell))
    return told


def in_form(form, size):
    """Whether a size is one of a form, straight from [7]."""
    if form[0] == "some":
        return size in form[1]
    _, least, period, residues = form
    return size >= least and size % period in residues


def moved_ranges(ranges, by):
    return [(first + by, last + by) for first, last in ranges]


def random_step(chance, steps, word):
    """A step with a word that the bounds of [2] allow behind these steps, or None."""
    row = chance.choice([len(steps), len(steps), chance.randint(0, len(steps))])
    if word == "window":
        length = chance.randint(1, 9)
        stride = chance.randint(1, min(6, length))
        if stride * prod(step[3] for step in steps if step[0] == "window") > 60:
            return None
        return (word, row, length, stride, chance.randint(0, length - 1))
    if word == "repeat":
        times = chance.randint(1, 6)
        if times * prod(step[2] for step in steps if step[0] == "repeat") > 24:
            return None
        return (word, row, times)
    if word == "join":
        other = chance.randint(0, len(steps))
        if other == row or len([step for step in steps if step[0] == "join"]) > 2:
            return None
        return (word, row, other)
    most = chance.choice([2, 5, 30])
    return (word, row, chance.randint(0, most), chance.randint(0, most))


def random_steps(chance, most=8):
    """The steps of a pipeline within the bounds of [2]."""
    many = chance.randint(0, most)
    steps = []
    while len(steps) < many:
        step = random_step(chance, steps, chance.choice(WORDS))
        if step is not None:
            steps.append(step)
    return steps


def levelled_steps(chance, most=8):
    """Steps in which one size goes through joins, by a crop or a pad ahead of each of them; with that size."""
    size = chance.randint(1, 60)
    steps = []
    many = chance.randint(1, most)
    while len(steps) < many:
        step = random_step(chance, steps, chance.choice(WORDS))
        if step is None:
            continue
        added = [step]
        if step[0] == "join":
            sizes = plain_sizes(steps, size)
            more = sizes[step[1]] - sizes[step[2]]
            left = chance.randint(0, abs(more))
            word = "pad" if more >= 0 else "crop"
            added = [(word, step[2], left, abs(more) - left), ("join", step[1], len(steps) + 1)]
            if abs(more) > 30:
                continue
        if len(steps) + len(added) > 8 or not plain_fits(steps + added, size):
            many -= 1
            continue
        steps.extend(added)
    return steps, size


def split_in_two(chance, number):
    left = chance.randint(0, number)
    return left, number - left


def round_steps(chance, size):
    """Two or three steps that bring a row back to the rise of the input and join both; one size goes through."""
    strides = chance.choice([(2,), (3,), (4,), (5,), (6,), (2, 2), (2, 3), (3, 2), (2, 6), (4, 3)])
    steps = []
    for stride in strides:
        length = chance.randint(stride, 9)
        steps.append(("window", len(steps), length, stride, chance.randint(0, length - 1)))
    times = list(strides) if chance.randint(0, 1) else [prod(strides)]
    for number in times:
        steps.append(("repeat", len(steps), number))
    back = plain_sizes(steps, size)[-1]
    word = "crop" if back > size else "pad"
    steps.append((word, len(steps)) + split_in_two(chance, abs(back - size)))
    pair = (len(steps), 0) if chance.randint(0, 1) else (0, len(steps))
    return steps + [("join",) + pair]


def spread_steps(chance, most=20):
    """Joins of rows that are cropped or padded by as much, but not at the same ends."""
    steps = []
    for _ in range(chance.randint(1, 2)):
        at = len(steps)
        word, many = chance.choice(["crop", "pad"]), chance.randint(1, most)
        for _ in range(2):
            steps.append((word, at) + split_in_two(chance, many))
        steps.append(("join", at + 1, at + 2))
    more = random_step(chance, steps, chance.choice(["window", "repeat"]))
    return steps if more is None else steps + [more]


def steady_steps(chance):
    """Steps that all sizes of some classes fit: with windows, joins and more behind them."""
    size = chance.randint(1, 40)
    kind = chance.randint(0, 3)
    if kind == 0:
        steps = spread_steps(chance)
    elif kind == 1:
        steps = round_steps(chance, size)
    elif kind == 2:
        steps = two_round_steps(chance, size)
    else:
        steps = random_steps(chance, 5)
    while len(steps) < 8 and chance.randint(0, 2):
        step = random_step(chance, steps, chance.choice(["window", "repeat", "crop", "pad"]))
        if step is not None:
            steps.append(step)
    return steps


def two_round_steps(chance, size):
    """Two rows that rise as the input does, each by a window and its repetition, joined; one size goes through."""
    steps = []
    for _ in range(2):
        stride = chance.randint(2, 6)
        length = chance.randint(stride, 9)
        steps.append(("window", 0, length, stride, chance.randint(0, length - 1)))
        steps.append(("repeat", len(steps), stride))
    sizes = plain_sizes(steps, size)
    more = sizes[4] - sizes[2]
    steps.append(("pad" if more >= 0 else "crop", 2) + split_in_two(chance, abs(more)))
    return steps + [("join", 4, 5)]
