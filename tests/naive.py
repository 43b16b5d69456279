"""What the document says of boards, done as plainly as can be, for the tests to compare with."""


def naive_step(rule, board):
    """What a board becomes in one step, looked at cell by cell in the box around it."""
    births, stays, states = rule
    state_of = {(x, y): state for x, y, state in board}
    later = []
    for x, y in sorted({(x + right, y + down) for x, y in state_of for right in (-1, 0, 1) for down in (-1, 0, 1)}):
        around = [(x + right, y + down) for right in (-1, 0, 1) for down in (-1, 0, 1) if (right, down) != (0, 0)]
        many = [state_of.get(place, 0) for place in around].count(1)
        state = state_of.get((x, y), 0)
        if state == 0:
            state = 1 if many in births else 0
        elif state > 1 or many not in stays:
            state = state + 1 if state + 1 < states else 0
        if state > 0:
            later.append((x, y, state))
    return tuple(later)


def naive_steps(rule, board, many):
    """What a board becomes in many steps."""
    for _ in range(many):
        board = naive_step(rule, board)
    return board


def naive_near(board, other):
    """Whether some cell of a board is near one of the other."""
    return any(abs(a[0] - b[0]) <= 2 and abs(a[1] - b[1]) <= 2 for a in board for b in other)


class NaiveTrack:
    """What boards of one period are at all generations, by a step for each generation of the period."""

    def __init__(self, rule, board, period, move):
        self.boards = [naive_steps(rule, board, generation) for generation in range(period)]
        self.period = period
        self.move = move

    def at(self, generation):
        rounds, rest = divmod(generation, self.period)
        return [(x + rounds * self.move[0], y + rounds * self.move[1], state) for x, y, state in self.boards[rest]]


def naive_parts(rule, paper, generations):
    """For each generation, what each part of a paper is by itself: the pieces, the core and each thrown piece."""
    pieces, throwers = paper[1:]
    tracks = [NaiveTrack(rule, *piece) for piece in pieces]
    cores = [NaiveTrack(rule, *thrower[:3]) for thrower in throwers]
    thrown = [NaiveTrack(rule, *piece) for thrower in throwers for piece in thrower[3]]
    for generation in range(generations):
        boards = [track.at(generation) for track in tracks + cores]
        for core in cores:
            for throw in range(1, generation // core.period + 1):
                right, down = (throw - 1) * core.move[0], (throw - 1) * core.move[1]
                for track in thrown:
                    there = track.at(generation - throw * core.period)
                    boards.append([(x + right, y + down, state) for x, y, state in there])
        yield boards


def naive_meeting(rule, paper, generations):
    """The first generation, if below generations, at which two parts of a paper are near; None if there is none."""
    for generation, boards in enumerate(naive_parts(rule, paper, generations)):
        owners = {}
        for index, board in enumerate(boards):
            for x, y, _ in board:
                near = {owners.get((x + right, y + down), index) for right in range(-2, 3) for down in range(-2, 3)}
                if near != {index}:
                    return generation
            owners.update({(x, y): index for x, y, _ in board})
    return None
