"""A rollout: the releases of a system, done one after another."""

from fewreleases.errors import Fault, NoService, NotSteps, NothingToUndo
from fewreleases.making import releases_with
from fewreleases.moments import least_refusal
from fewreleases.names import is_some_of
from fewreleases.splits import fewest_count, fewest_splits
from fewreleases.steps import all_chains, chains_left, parts_of, steps_by_service


class Rollout:
    """A system and the releases that were done and not taken back."""

    def __init__(self, system):
        self.system = system
        self.chains = all_chains(system)
        self.past = []

    def release(self, service, steps):
        """Do these steps of a service in one release."""
        self.check_service(service)
        own = steps_by_service(self.system.services, self.chains_ahead())
        if steps == () or not is_some_of(own[service], steps):
            raise NotSteps(steps)
        name = least_refusal(self.system, self.done_steps(), steps)
        if name is not None:
            raise Fault(len(self.past), name)
        self.past.append((service, steps))

    def undo(self):
        """Take back the last release and return it."""
        if not self.past:
            raise NothingToUndo()
        return self.past.pop()

    def releases(self):
        """Return the tuple of the releases that were done and not taken back."""
        return tuple(self.past)

    def done_steps(self):
        """Return the ascending tuple of the steps that are done."""
        return tuple(sorted([step for service, steps in self.past for step in steps]))

    def left_steps(self):
        """Return the ascending tuple of the steps that are not done."""
        return tuple(sorted([step for service, step in parts_of(self.chains_ahead())]))

    def ready_steps(self, service):
        """Return the ascending tuple of the ready steps that a service owns."""
        self.check_service(service)
        heads = [chain[:1] for chain in self.chains_ahead()]
        return steps_by_service(self.system.services, heads)[service]

    def fewest_left(self):
        """Return the fewest releases with which all steps that are left can be done safely."""
        return fewest_count(self.system.services, self.chains_ahead())

    def finish(self):
        """Return a tuple of so many releases that does all steps that are left."""
        chains = self.chains_ahead()
        split = fewest_splits(self.system.services, chains)[0]
        return releases_with(self.system.services, chains, split)

    def copy(self):
        """Return a separate rollout with the same system and releases."""
        other = Rollout(self.system)
        other.past = list(self.past)
        return other

    def chains_ahead(self):
        """Return the list of what is left of the chains: of each chain the steps behind those that are done."""
        return chains_left(self.chains, self.done_steps())

    def check_service(self, service):
        """Raise NoService if any value is not a service of the system."""
        if service not in self.system.services:
            raise NoService(service)

    def __eq__(self, other):
        if not isinstance(other, Rollout):
            return False
        return self.system == other.system and self.done_steps() == other.done_steps()

    def __len__(self):
        return len(self.past)
