"""The refusals: every one stands right under WebError, so each is caught by its own name alone."""


class WebError(ValueError):
    """Any refusal."""


class NoText(WebError):
    """A text that is no program's; at is the number of the first word that can't stand there."""

    def __init__(self, at):
        super().__init__(f"no program has such a text, as seen at word {at}")
        self.at = at


class Twice(WebError):
    """An input's name that is there twice."""

    def __init__(self, name):
        super().__init__(f"the input {name} is there twice")
        self.name = name


class NoName(WebError):
    """A name that is bound nowhere around and is no input; at is the number of the part."""

    def __init__(self, at):
        super().__init__(f"part {at} is a name that is bound nowhere")
        self.at = at


class NoKind(WebError):
    """A term whose terms right in it have kinds that don't fit; at is the number of the part."""

    def __init__(self, at):
        super().__init__(f"the kinds in part {at} don't fit")
        self.at = at


class TooLong(WebError):
    """More steps or moves than most would be due."""

    def __init__(self, most):
        super().__init__(f"more than {most} would be due")
        self.most = most


class TooMany(WebError):
    """More parts or stands than most would be there."""

    def __init__(self, most):
        super().__init__(f"more than {most} would be there")
        self.most = most


class NoStep(WebError):
    """A stop that has no next one, or no last one."""


class NoRow(WebError):
    """What is no row for the desk."""


class NoMessenger(WebError):
    """A row that asks for the messenger where none is set."""


class Unknown(WebError):
    """A name by which nothing is kept."""

    def __init__(self, name):
        super().__init__(f"nothing is kept as {name}")
        self.name = name
