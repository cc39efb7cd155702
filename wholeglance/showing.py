"""The texts of values and of cases."""


def show_value(value):
    if not isinstance(value, tuple):
        return str(value)
    parts = " ".join([show_value(part) for part in value])
    return f"({parts})"


def show_case(manner, jobs, weaving):
    rows = [show_row(["manner", manner[0]], manner[1:])]
    rows.extend([show_job(job) for job in jobs])
    rows.append(show_row(["weave"], weaving))
    return "\n".join(rows)


def show_job(job):
    word = job[0]
    if word == "deeds":
        return show_deeds(job[1])
    return show_row(["hand", word], job[1] if word == "sums" else job[1:])


def show_deeds(deeds):
    # A comma alone parts the deeds, so there is none ahead of the first.
    shown = ", ".join([show_deed(deed) for deed in deeds])
    return " ".join(["hand", "deeds"] + ([shown] if len(deeds) > 0 else []))


def show_deed(deed):
    if deed[0] == "look":
        return "look"
    return show_row(["put"], deed[1:])


def show_row(words, things):
    return " ".join(words + ["?" if thing is None else show_value(thing) for thing in things])
