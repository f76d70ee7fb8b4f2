"""The refusals: one class for each, all of them under CountError alone."""


class CountError(ValueError):
    pass


class NoNote(CountError):
    pass


class Crowded(CountError):
    pass


class Twice(CountError):
    pass


class NoRange(CountError):
    pass


class NoName(CountError):
    pass


class NoGround(CountError):
    def __init__(self, ring):
        CountError.__init__(self, "names lead back to themselves by uses alone")
        self.ring = ring


class NoDraw(CountError):
    pass


class NoValue(CountError):
    def __init__(self, value):
        CountError.__init__(self, "this is no value of the shape")
        self.value = value


class NoNumber(CountError):
    def __init__(self, number, count):
        CountError.__init__(self, "the number is below 0, or not below the count")
        self.number = number
        self.count = count


class TooMany(CountError):
    def __init__(self, count, most):
        CountError.__init__(self, "there are more values than the told most")
        self.count = count
        self.most = most


class Astray(CountError):
    def __init__(self, mark):
        CountError.__init__(self, "a term cannot take what an inner one says")
        self.mark = mark


class NoBreach(CountError):
    pass
