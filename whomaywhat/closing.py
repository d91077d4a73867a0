"""Closing lines: papers that no request meets a case."""

from whomaywhat.bounds import find_ring
from whomaywhat.clusters import clusters_of
from whomaywhat.papers import cases_of_split
from whomaywhat.sameness import find_steps


def closing_lines(case):
    """The list of the lines that close the case; it is not possible."""
    lines = []
    waiting = [case]
    while waiting:
        current = waiting.pop()
        line = _closing_line(current)
        if line is None:
            # Some member of a listed set can be none of the listed words, but each for a reason
            # of its own, so the word is told first.
            term, word = clusters_of(current).untold_word()
            line = ("split", ("is", min(term, ("name", word)), max(term, ("name", word))))
            waiting.extend(cases_of_split(current, line[1]))
        lines.append(line)
    return lines


def _closing_line(case):
    """A line that closes the case at once, or None."""
    ring = find_ring(tuple([literal for literal in case if literal[0][0] == "most"]))
    if ring != ():
        return ("ring", ring)
    steps = find_steps(case)
    return None if steps == () else ("steps", steps)
