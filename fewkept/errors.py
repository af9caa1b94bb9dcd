"""What fewkept refuses: one class for each kind of refusal."""


class KeepError(ValueError):
    """Whatever fewkept refuses."""


class NoLink(KeepError):
    """What stands at this number, from 0, is no link, or none of those that are asked for."""

    def __init__(self, at):
        super().__init__(f"no link at {at}")
        self.at = at


class NoPlace(KeepError):
    """This is none of the links' places, or the same one twice."""

    def __init__(self, place):
        super().__init__(f"no place: {place!r}")
        self.place = _own(place)


class TooMany(KeepError):
    """This is no number from the least to the most that may be asked for."""

    def __init__(self, most):
        super().__init__(f"at most {most}")
        self.most = most


class NoKept(KeepError):
    """What stands at this number, from 0, is not kept."""

    def __init__(self, at):
        super().__init__(f"not kept at {at}")
        self.at = at


class NoPage(KeepError):
    """This is no page."""


class NoText(KeepError):
    """The row of this number, from 0, is none with which such a text goes on."""

    def __init__(self, at):
        super().__init__(f"no text at {at}")
        self.at = at


def _own(thing):
    # What was refused may be of any kind, and its owner may change it later.
    if isinstance(thing, list):
        return [_own(part) for part in thing]
    if isinstance(thing, tuple):
        return tuple([_own(part) for part in thing])
    if isinstance(thing, dict):
        return {key: _own(part) for key, part in thing.items()}
    return thing
