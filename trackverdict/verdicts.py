"""The interface: a list of calls is read, and the list of their answers is built."""

from trackverdict.commands import cut, move, paint, put
from trackverdict.judging import judge, judgeby, judgelist
from trackverdict.text import Text, set_author, set_clock, set_tracking, tell_size

AUTHOR = 0
CLOCK = 1
TRACK = 2
PUT = 3
CUT = 4
PAINT = 5
MOVE = 6
JUDGE = 7
JUDGEBY = 8
SIZE = 19

# By the number of the call: how many whole numbers stand behind it, its list not counted.
NUMBER_COUNTS = {0: 1, 1: 1, 2: 1, 3: 1, 4: 2, 5: 4, 6: 3, 7: 2, 8: 5, 9: 1, 19: 0}

CALLS_WITH_LIST = (3, 9)


def answer_setting(text, call, number):
    if call == AUTHOR:
        return set_author(text, number)
    if call == CLOCK:
        return set_clock(text, number)
    return set_tracking(text, number)


def answer_command(text, call, numbers, signs):
    if call == PUT:
        return put(text, numbers[0], signs)
    if call == CUT:
        return cut(text, numbers[0], numbers[1])
    if call == PAINT:
        return paint(text, numbers[0], numbers[1], numbers[2], numbers[3])
    return move(text, numbers[0], numbers[1], numbers[2])


def answer_judging(text, call, numbers, changes):
    if call == JUDGE:
        return judge(text, numbers[0], numbers[1])
    if call == JUDGEBY:
        return judgeby(text, numbers[0], numbers[1], numbers[2], numbers[3], numbers[4])
    return judgelist(text, numbers[0], changes)


def answer_call(text, call, numbers, listed):
    if call in (AUTHOR, CLOCK, TRACK):
        return answer_setting(text, call, numbers[0])
    if call in (PUT, CUT, PAINT, MOVE):
        return answer_command(text, call, numbers, listed)
    if call == SIZE:
        return tell_size(text)
    return answer_judging(text, call, numbers, listed)


def answers(calls):
    text = Text()
    told = []
    at = 0
    while at < len(calls):
        call = calls[at]
        behind = at + 1 + NUMBER_COUNTS[call]
        numbers = calls[at + 1:behind]
        listed = []
        if call in CALLS_WITH_LIST:
            start = behind + 1
            behind = start + calls[behind]
            listed = calls[start:behind]
        answer = answer_call(text, call, numbers, listed)
        told.append(len(answer))
        told.extend(answer)
        at = behind
    return told
