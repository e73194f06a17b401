"""The errors that the program raises."""


class NetworkError(ValueError):
    """The base class of all errors that the program raises."""


class InvalidNetwork(NetworkError):
    """There is no network with these wires and comparers."""


class InvalidText(NetworkError):
    """A text is not the text of a network."""

    def __init__(self, where):
        NetworkError.__init__(self, "this is the text of no network")
        self.where = where
