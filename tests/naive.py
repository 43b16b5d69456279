"""What the document says of boards, done as plainly as can be, for the tests to compare with."""


def naive_step(rule, board):
    """What a board becomes in one step, looked at cell by cell in the box around it."""
    births, stays, states = rule
    state_of = {(x, y): state for x, y, state in board}
    later = []
    for x, y in sorted({(x + right, y + down) for x, y in state_of for right in (-1, 0, 1) for down in (-1, 0, 1)}):
        around = [(x + right, y + down) for right in (-1, 0, 1) for down in (-1, 0, 1) if (right, down) != (0, 0)]
        many = [state_of.get(place, 0) for place in around].count(1)
        state = state_of.get((x, y), 0)
        if state == 0:
            state = 1 if many in births else 0
        elif state > 1 or many not in stays:
            state = state + 1 if state + 1 < states else 0
        if state > 0:
            later.append((x, y, state))
    return tuple(later)


def naive_steps(rule, board, many):
    """What a board becomes in many steps."""
    for _ in range(many):
        board = naive_step(rule, board)
    return board


def naive_near(board, other):
    """Whether some cell of a board is near one of the other."""
    return any(abs(a[0] - b[0]) <= 2 and abs(a[1] - b[1]) <= 2 for a in board for b in other)
