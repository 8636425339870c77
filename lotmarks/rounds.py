"""Rounds: programs that are done again and again."""

from lotmarks.checks import is_count
from lotmarks.errors import BadNumber
from lotmarks.programs import check_program
from lotmarks.versions import same
from lotmarks.webs import ring


def settles(web, program):
    """The least number of times behind which one time more changes nothing, or None if there is none."""
    check_program(web, program)
    if ring(web, program.renewed()) is not None:
        return None
    # Without a ring this ends: one time more settles those cells at least whose sources are settled.
    many = 0
    while not same(web, program.times(many), program.times(many + 1)):
        many += 1
    return many


def alike_at(web, one, other, most):
    """The list of the numbers from 0 to most of times for which two programs do the same."""
    check_program(web, one)
    check_program(web, other)
    if not is_count(most):
        raise BadNumber(most)
    return [many for many in range(most + 1) if same(web, one.times(many), other.times(many))]
