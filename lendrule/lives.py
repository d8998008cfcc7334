"""Lives: the acts ahead of which a lending is held and needed."""

from lendrule.acts import acts, is_lending
from lendrule.held import held
from lendrule.needs import needs
from lendrule.spread import numbers_of


def lives(program, at):
    needed = numbers_of(needs(program, at))
    lendings = [n for n, act in enumerate(acts(program, at)) if is_lending(act)]
    spans = dict([(n, {}) for n in lendings])
    for fact in held(program, at):
        if fact[3] in spans and fact[:3] in needed:
            spans[fact[3]][fact[0]] = True
    return [(n, tuple(sorted(spans[n]))) for n in lendings]
