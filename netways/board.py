"""The function that is called from outside, `answers`: a list of calls in, a list of answers out."""

from netways.calls import begin, block, costs, drop, free, pin, prefer, rip, route, soft
from netways.state import Board

# How many whole numbers a call has behind its number, which is the index.
LENGTHS = (3, 3, 2, 5, 5, 6, 1, 1, 1, 1)


class UnknownCall(ValueError):
    pass


def answers(calls):
    return answers_on(Board(), calls)


def answers_on(board, calls):
    said = []
    at = 0
    while at < len(calls):
        number = calls[at]
        if not 0 <= number < len(LENGTHS):
            raise UnknownCall(f"there is no call {number}")
        end = at + 1 + LENGTHS[number]
        answer = answer_of(board, number, calls[at + 1:end])
        said.append(len(answer))
        said.extend(answer)
        at = end
    return said


# A box is handed on as the list of its five numbers.
def answer_of(board, number, given):
    if number == 0:
        return begin(board, given[0], given[1], given[2])
    if number == 1:
        return costs(board, given[0], given[1], given[2])
    if number == 2:
        return prefer(board, given[0], given[1])
    if number == 3:
        return block(board, given)
    if number == 4:
        return free(board, given)
    if number == 5:
        return pin(board, given[0], given[1:])
    if number == 6:
        return drop(board, given[0])
    if number == 7:
        return route(board, given[0])
    if number == 8:
        return rip(board, given[0])
    return soft(board, given[0])
