"""What the jobs answer in a room."""

from wholeglance.jobs import answer_of


def answers_of(jobs, room):
    rows = room[1]
    return [answer_of(hand, job, rows[hand][0]) for hand, job in enumerate(jobs)]
