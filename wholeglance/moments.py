"""The moments at which what looks told stood."""

from wholeglance.stories import stood, story


def moments(manner, jobs, weaving):
    states = stood(manner, jobs, weaving)
    return tuple([moment_of(row, states) for row in story(manner, jobs, weaving)])


def moment_of(row, states):
    end = row[3]
    if end is None or row[1][0] == "put":
        return end
    fitting = [number for number in range(row[2], end + 1) if states[number] == row[4]]
    return min(fitting, default=None)
