"""What is raised where something is refused."""


class GlanceError(ValueError):
    pass


class NoStep(GlanceError):
    def __init__(self, place):
        GlanceError.__init__(self, f"step {place} can not be")
        self.place = place


class NoEnd(GlanceError):
    def __init__(self, hand):
        GlanceError.__init__(self, f"a deed of hand {hand} does not end")
        self.hand = hand


class NoText(GlanceError):
    def __init__(self, row):
        GlanceError.__init__(self, f"no case can be read at row {row}")
        self.row = row


class NoLine(GlanceError):
    def __init__(self):
        GlanceError.__init__(self, "no such line is answered")
