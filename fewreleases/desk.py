"""A desk that answers lines about a rollout."""

from fewreleases.errors import BadLine
from fewreleases.fewest import fewest_split
from fewreleases.graph import edges, forced
from fewreleases.names import is_ascending, is_name
from fewreleases.rollout import Rollout
from fewreleases.systems import kind_of
from fewreleases.texts import read_system, release_from, release_row, step_word
from fewreleases.waves import fewest_waves

STEP_WORDS = ("read", "switch", "widen", "narrow")


def listed(words):
    """Return the words with spaces between, or a dash."""
    return " ".join(words) if words else "-"


def listed_steps(steps):
    """Return the steps with spaces between, or a dash."""
    return listed([step_word(step) for step in steps])


def answer_undo(rollout):
    """Take back the last release and return its row."""
    return release_row(rollout.undo())


def answer_done(rollout):
    """Return the steps that are done."""
    return listed_steps(rollout.done_steps())


def answer_left(rollout):
    """Return the steps that are left."""
    return listed_steps(rollout.left_steps())


def answer_fewest(rollout):
    """Return the fewest releases that are left."""
    return str(rollout.fewest_left())


def answer_count(rollout):
    """Return the number of releases done."""
    return str(len(rollout))


def answer_edges(rollout):
    """Return the edges of the whole system."""
    return listed([f"{start}>{end}" for start, end in edges(rollout.system)])


def answer_forced(rollout):
    """Return the forced services of the whole system with their numbers."""
    return listed([f"{service}:{number}" for service, number in forced(rollout.system)])


def answer_split(rollout):
    """Return the services of the least split set with fewest services of the whole system."""
    return listed(fewest_split(rollout.system))


def answer_waves(rollout):
    """Return the fewest waves of the whole system."""
    return str(fewest_waves(rollout.system))


def answer_ready(rollout, service):
    """Return the ready steps of a service."""
    return listed_steps(rollout.ready_steps(service))


def answer_kind(rollout, name):
    """Return the kind of a channel."""
    return kind_of(rollout.system, name)


# The lines of one word.
ANSWERS = {
    "undo": answer_undo,
    "done": answer_done,
    "left": answer_left,
    "fewest": answer_fewest,
    "count": answer_count,
    "edges": answer_edges,
    "forced": answer_forced,
    "split": answer_split,
    "waves": answer_waves,
}

# The lines of one word and a name.
NAMED_ANSWERS = {
    "ready": answer_ready,
    "kind": answer_kind,
}


class Desk:
    """A rollout of the system that a text describes."""

    def __init__(self, text):
        self.rollout = Rollout(read_system(text))

    def say(self, line):
        """Do what a line says and return the answer."""
        if not isinstance(line, str):
            raise BadLine(line)
        word, *others = line.split(" ")
        if word in ANSWERS and not others:
            answer = ANSWERS[word]
            return answer(self.rollout)
        if word in NAMED_ANSWERS and len(others) == 1 and is_name(others[0]):
            named_answer = NAMED_ANSWERS[word]
            return named_answer(self.rollout, others[0])
        if word == "release" and is_release_form(others):
            service, steps = release_from(others)
            self.rollout.release(service, steps)
            return "done"
        raise BadLine(line)


def is_release_form(words):
    """Return whether the words are a name and one or more ascending steps."""
    if len(words) < 2:
        return False
    service, steps = release_from(words)
    return is_name(service) and all([is_step_form(step) for step in steps]) and is_ascending(steps)


def is_step_form(step):
    """Return whether the parts of a word are a name and a word of a step."""
    return len(step) == 2 and is_name(step[0]) and step[1] in STEP_WORDS
