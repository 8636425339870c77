"""Rounds: programs that are done again and again."""

from lotmarks.checks import is_count
from lotmarks.errors import BadNumber
from lotmarks.kinds import Kinds
from lotmarks.programs import check_program
from lotmarks.webs import ring


def settles(web, program):
    """The least number of times behind which one time more changes nothing, or None if there is none."""
    check_program(web, program)
    if ring(web, program.renewed()) is not None:
        return None
    # Without a ring each time settles those cells at least whose sources are settled.
    told = Kinds(web, len(program) * (len(web) + 1))
    many = 0
    ahead = told.none
    behind = told.behind(program, ahead)
    while behind != ahead:
        many += 1
        ahead = behind
        behind = told.behind(program, ahead)
    return many


def alike_at(web, one, other, most):
    """The list of the numbers from 0 to most of times for which two programs do the same."""
    check_program(web, one)
    check_program(web, other)
    if not is_count(most):
        raise BadNumber(most)
    told = Kinds(web, (len(one) + len(other)) * most)
    first = second = told.none
    found = [0]
    for many in range(1, most + 1):
        first = told.behind(one, first)
        second = told.behind(other, second)
        if first == second:
            found.append(many)
    return found
