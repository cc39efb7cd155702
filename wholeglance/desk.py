"""A desk: a case that is stepped on and taken back line by line, and asked about."""

from wholeglance.desklines import answer_to
from wholeglance.errors import NoLine
from wholeglance.kinds import is_within
from wholeglance.manners import hands_of
from wholeglance.reading import read_case
from wholeglance.readvalues import read_number
from wholeglance.rooms import may_step, rooms_along, stepped

MOST_STEPS = 1000


class Desk:
    def __init__(self, text):
        case = read_case(text)
        self.manner = case[0]
        self.jobs = case[1]
        self.weaving = list(case[2])
        # One room more than there are steps, so that a step can be taken back.
        self.rooms = rooms_along(self.manner, self.jobs, case[2])

    def say(self, line):
        if not isinstance(line, str):
            raise NoLine()
        words = line.split(" ")
        if words == ["back"]:
            return self.take_back()
        if words[0] == "run" and len(words) == 3:
            return self.run(read_number(words[1]), read_number(words[2]))
        if words[0] == "step" and len(words) == 2:
            return self.run(read_number(words[1]), 1)
        return answer_to(words, self.manner, self.jobs, tuple(self.weaving), self.rooms[-1])

    def run(self, hand, steps):
        if not is_within(hand, 0, hands_of(self.manner) - 1) or not is_within(steps, 0, MOST_STEPS):
            raise NoLine()
        done = 0
        while done < steps and hand in may_step(self.manner, self.jobs, self.rooms[-1]):
            self.rooms.append(stepped(self.manner, self.jobs, self.rooms[-1], hand))
            self.weaving.append(hand)
            done += 1
        return f"done {done}"

    def take_back(self):
        if len(self.weaving) == 0:
            return "none"
        self.weaving.pop()
        self.rooms.pop()
        return "done"
