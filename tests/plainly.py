"""Steps of a worker, done in a second way: on lists that are changed, for comparing."""

import random

CONDITIONS = ["first", "empty", "mine", "other", "none", "full", "enough", "behind"]
SINGLE_WORDS = ["rest", "room", "take", "give", "on", "take*", "give*", "on*"]


def holds(condition, state, worker, places, capacity):
    """Whether the condition holds for the worker, whose own cell k is at places[k]."""
    contents, spots = state
    pointer = spots[worker - 1][1]
    here = contents[places[pointer]]
    shares = {number: 0 for number in range(len(spots) + 1)}
    for content in contents:
        shares[content] += 1
    others = [shares[number] for number in range(1, len(spots) + 1) if number != worker]
    return {
        "first": pointer == 0,
        "empty": here == 0,
        "mine": here == worker,
        "other": here not in (0, worker),
        "none": shares[0] == len(contents),
        "full": shares[0] == 0,
        "enough": (capacity + 1) * shares[worker] > len(contents),
        "behind": max(others, default=0) > shares[worker],
    }[condition]


def stepped(instructions, all_places, capacity, state, worker):
    """The state after a step of the worker."""
    contents = list(state[0])
    spots = [list(spot) for spot in state[1]]
    places = all_places[worker - 1]
    line, pointer = state[1][worker - 1]
    words = instructions[line].split()
    following = line + 1 if line + 1 < len(instructions) else 0
    here = places[pointer]
    if words[0] in ("take", "take*", "give", "give*", "on", "on*"):
        if words[0][:4] == "take" and contents[here] == 0:
            contents[here] = worker
        if words[0][:4] == "give" and contents[here] == worker:
            contents[here] = 0
        moved = pointer + 1 if pointer + 1 < len(contents) else 0
        again = words[0][-1] == "*" and moved > 0
        spots[worker - 1] = [line if again else following, moved]
    elif words[0] in ("rest", "room"):
        spots[worker - 1][0] = following
    elif words[0] == "go":
        spots[worker - 1][0] = int(words[1])
    else:
        truth = holds(words[1], state, worker, places, capacity)
        if words[0] == "if":
            spots[worker - 1][0] = int(words[2]) if truth else following
        if words[0] == "unless":
            spots[worker - 1][0] = following if truth else int(words[2])
        if words[0] == "wait":
            spots[worker - 1][0] = following if truth else line
    return (tuple(contents), tuple(tuple(spot) for spot in spots))


def some_places(chance, cells):
    places = list(range(cells))
    chance.shuffle(places)
    return tuple(places)


def some_instructions(chance, count):
    """A program of that many lines, every kind of instruction as likely as another."""
    lines = ["rest"]
    while len(lines) < count:
        kind = chance.choice([*SINGLE_WORDS, "go", "if", "if", "unless", "unless", "wait"])
        words = [kind]
        if kind in ("if", "unless", "wait"):
            words.append(chance.choice(CONDITIONS))
        if kind in ("go", "if", "unless"):
            words.append(str(chance.randrange(count)))
        lines.append(" ".join(words))
    return lines


def some_state(chance, cells, workers, lines):
    """Any state of this size, whether or not it can be reached."""
    contents = tuple(chance.choice([0, chance.randint(1, workers)]) for _ in range(cells))
    if chance.random() < 0.2:
        contents = (chance.choice([0, 1, workers]),) * cells
    spots = tuple((chance.randrange(lines), chance.randrange(cells)) for _ in range(workers))
    return (contents, spots)


def some_sizes(chance):
    """Numbers of cells, of workers and of lines, and a capacity."""
    return chance.randint(1, 12), chance.randint(1, 6), chance.randint(1, 24), chance.randint(1, 6)


def samples(seed, count):
    """Instructions, places of all numberings, a capacity and a state, the same ones in each run."""
    chance = random.Random(seed)
    for _ in range(count):
        cells, workers, lines, capacity = some_sizes(chance)
        yield (some_instructions(chance, lines),
               [some_places(chance, cells) for _ in range(workers)],
               capacity, some_state(chance, cells, workers, lines))
