"""What the program refuses, one class for each refusal."""


class SayError(ValueError):
    pass


class NoSayings(SayError):
    pass


class NoSaying(SayError):
    pass


class NoCase(SayError):
    pass


class NoThing(SayError):
    pass


class Clash(SayError):
    pass


class Fits(SayError):
    pass


class NotPlain(SayError):
    pass


class NoKinds(SayError):
    pass


class NoSentence(SayError):
    pass


class NoText(SayError):
    pass
