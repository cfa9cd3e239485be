"""The errors of the package.

Each error keeps its arguments as attributes. No message shows a value:
an argument may be an integer that is too long for Python to write out.
"""


class FewError(ValueError):
    """The base class of all errors of the package."""


class BadServices(FewError):
    """The value is not the services of a system."""

    def __init__(self, value):
        super().__init__("not an ascending tuple of 1 to 12 names")
        self.value = value


class BadChannels(FewError):
    """The value is not the channels of a system."""

    def __init__(self, value):
        super().__init__("not a tuple of at most 40 channels between the services, ascending by name")
        self.value = value


class NoChannel(FewError):
    """No channel of the system has this name."""

    def __init__(self, name):
        super().__init__("no channel has this name")
        self.name = name


class NoService(FewError):
    """The system does not have this service."""

    def __init__(self, service):
        super().__init__("not a service of the system")
        self.service = service


class NoStep(FewError):
    """The system does not have this step."""

    def __init__(self, step):
        super().__init__("not a step of the system")
        self.step = step


class NotSteps(FewError):
    """The value is not the steps that are asked for."""

    def __init__(self, value):
        super().__init__("not an ascending tuple of such steps")
        self.value = value


class HasCycle(FewError):
    """A cycle of services is left."""

    def __init__(self, cycle):
        super().__init__("a cycle of services is left")
        self.cycle = cycle


class BadSplit(FewError):
    """The value is not an ascending tuple of services."""

    def __init__(self, value):
        super().__init__("not an ascending tuple of services")
        self.value = value


class NotForced(FewError):
    """A forced service is missing among the services that are split."""

    def __init__(self, service):
        super().__init__("a forced service is missing")
        self.service = service


class NoNumber(FewError):
    """No split set has this number."""

    def __init__(self, number):
        super().__init__("no split set has this number")
        self.number = number


class BadCosts(FewError):
    """The value is not the costs of the services."""

    def __init__(self, value):
        super().__init__("not an ascending tuple of each service with its cost from 1 to 1000")
        self.value = value


class Fault(FewError):
    """A message is refused during a release."""

    def __init__(self, index, name):
        super().__init__("a message is refused during a release")
        self.index = index
        self.name = name


class NothingToUndo(FewError):
    """There is no release to take back."""

    def __init__(self):
        super().__init__("there is no release to take back")


class BadText(FewError):
    """The text does not describe a system or a plan."""

    def __init__(self, row):
        super().__init__("the rows are not those of such a text")
        self.row = row


class BadLine(FewError):
    """The line has none of the forms that the desk knows."""

    def __init__(self, line):
        super().__init__("the line has none of the known forms")
        self.line = line
