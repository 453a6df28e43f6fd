"""The function that is called from outside, `answers`: a list of calls in, a list of answers out."""

from netways.asks import ask_cell, ask_cost, ask_nets, ask_soft, ask_total, ask_tree, ask_unlaid, ask_way
from netways.calls import auto, begin, block, costs, drop, free, improve, order, pin, prefer, rip, route
from netways.state import Board

# How many whole numbers a call has behind its number, which is the index. Order has as many
# more as the one it has tells.
LENGTHS = (3, 3, 2, 5, 5, 6, 1, 1, 1, 1, 1, 1, 1, 3, 2, 1, 7, 0, 0, 0)
ORDER = 10


class UnknownCall(ValueError):
    pass


def answers(calls):
    return answers_on(Board(), calls)


def answers_on(board, calls):
    said = []
    at = 0
    while at < len(calls):
        end = end_of_call(calls, at)
        answer = answer_of(board, calls[at], calls[at + 1:end])
        said.append(len(answer))
        said.extend(answer)
        at = end
    return said


def end_of_call(calls, at):
    number = calls[at]
    if not 0 <= number < len(LENGTHS):
        raise UnknownCall(f"there is no call {number}")
    end = at + 1 + LENGTHS[number]
    if number == ORDER:
        return end + calls[at + 1]
    return end


# A box is handed on as the list of its five numbers, a cell as that of its three.
def answer_of(board, number, given):
    if number == 0:
        return begin(board, given[0], given[1], given[2])
    if number == 1:
        return costs(board, given[0], given[1], given[2])
    if number == 2:
        return prefer(board, given[0], given[1])
    if number == 3:
        return block(board, given)
    if number == 4:
        return free(board, given)
    if number == 5:
        return pin(board, given[0], given[1:])
    if number == 6:
        return drop(board, given[0])
    if number == 7:
        return route(board, given[0])
    if number == 8:
        return rip(board, given[0])
    if number == ORDER:
        return order(board, given[1:])
    if number == 11:
        return auto(board, given[0])
    if number == 12:
        return improve(board, given[0])
    return answer_of_asking(board, number, given)


def answer_of_asking(board, number, given):
    if number == 9:
        return ask_soft(board, given[0])
    if number == 13:
        return ask_cell(board, given)
    if number == 14:
        return ask_way(board, given[0], given[1])
    if number == 15:
        return ask_tree(board, given[0])
    if number == 16:
        return ask_cost(board, given[0], (given[1:4], given[4:]))
    if number == 17:
        return ask_nets(board)
    if number == 18:
        return ask_unlaid(board)
    return ask_total(board)
