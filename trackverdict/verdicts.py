"""The interface: a list of calls is read, and the list of their answers is built."""

from trackverdict.commands import cut, move, paint, put
from trackverdict.judging import judge, judgeby, judgelist, judgepart, judgetouching
from trackverdict.telling import tell_falls, tell_fate, tell_people, tell_row
from trackverdict.telling import tell_size, tell_spots, tell_standing, tell_what
from trackverdict.text import Text, set_author, set_clock, set_tracking

AUTHOR = 0
CLOCK = 1
TRACK = 2
PUT = 3
CUT = 4
PAINT = 5
MOVE = 6
JUDGE = 7
JUDGEBY = 8
JUDGELIST = 9
JUDGETOUCHING = 10
JUDGEPART = 11
FALLS = 12
SPOTS = 13
STANDING = 14
FATE = 15
WHAT = 16
ROW = 17
PEOPLE = 18

# By the number of the call: how many whole numbers stand behind it, its list not counted.
NUMBER_COUNTS = (1, 1, 1, 1, 2, 4, 3, 2, 5, 1, 3, 3, 2, 1, 0, 1, 0, 0, 0, 0)


def has_list(call):
    return call in (PUT, JUDGELIST, WHAT)


def answer_setting(text, call, number):
    if call == AUTHOR:
        return set_author(text, number)
    if call == CLOCK:
        return set_clock(text, number)
    return set_tracking(text, number)


def answer_command(text, call, numbers, signs):
    if call == PUT:
        return put(text, numbers[0], signs)
    if call == CUT:
        return cut(text, numbers[0], numbers[1])
    if call == PAINT:
        return paint(text, numbers[0], numbers[1], numbers[2], numbers[3])
    return move(text, numbers[0], numbers[1], numbers[2])


def answer_judging(text, call, numbers, changes):
    if call == JUDGE:
        return judge(text, numbers[0], numbers[1])
    if call == JUDGEBY:
        return judgeby(text, numbers[0], numbers[1], numbers[2], numbers[3], numbers[4])
    if call == JUDGELIST:
        return judgelist(text, numbers[0], changes)
    if call == JUDGETOUCHING:
        return judgetouching(text, numbers[0], numbers[1], numbers[2])
    return judgepart(text, numbers[0], numbers[1], numbers[2])


def answer_telling(text, call, numbers, changes):
    if call == FALLS:
        return tell_falls(text, numbers[0], numbers[1])
    if call == SPOTS:
        return tell_spots(text, numbers[0])
    if call == STANDING:
        return tell_standing(text)
    if call == FATE:
        return tell_fate(text, numbers[0])
    if call == WHAT:
        return tell_what(text, changes)
    if call == ROW:
        return tell_row(text)
    if call == PEOPLE:
        return tell_people(text)
    return tell_size(text)


def answer_call(text, call, numbers, listed):
    if call <= TRACK:
        return answer_setting(text, call, numbers[0])
    if call <= MOVE:
        return answer_command(text, call, numbers, listed)
    if call <= JUDGEPART:
        return answer_judging(text, call, numbers, listed)
    return answer_telling(text, call, numbers, listed)


def answers(calls):
    text = Text()
    told = []
    at = 0
    while at < len(calls):
        call = calls[at]
        behind = at + 1 + NUMBER_COUNTS[call]
        numbers = calls[at + 1:behind]
        listed = []
        if has_list(call):
            start = behind + 1
            behind = start + calls[behind]
            listed = calls[start:behind]
        answer = answer_call(text, call, numbers, listed)
        told.append(len(answer))
        told.extend(answer)
        at = behind
    return told
