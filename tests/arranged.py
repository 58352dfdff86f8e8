"""Arrangements of conditions, their guards and their means, for tests, with nothing taken from the program."""

from fractions import Fraction
from itertools import permutations, product


def arrangements(condition, first=0):
    """For all orders: (places by nodes, a node ahead of its parts; the arrangement; the numbers of its tests)."""
    if condition[0] == "not":
        return [(key, ("not", part), numbers) for key, part, numbers in arrangements(condition[1], first)]
    if condition[0] not in ("all", "any"):
        return [((), condition, (first,))]
    own = []
    for part in condition[1]:
        own.append(arrangements(part, first))
        first += len(own[-1][0][2])
    told = []
    for order in permutations(range(len(own))):
        for choice in product(*own):
            key = (order,) + tuple(places for one in choice for places in one[0])
            parts = tuple(choice[place][1] for place in order)
            told.append((key, (condition[0], parts), tuple(n for place in order for n in choice[place][2])))
    return told


def lacking(condition, inner=()):
    """The paths of the eqs and lesses that lack a guard, going down with what alls around have."""
    if condition[0] in ("eq", "less"):
        return [] if {("row",), ("has", condition[1])} <= set(inner) else [()]
    if condition[0] == "not":
        return [(0,) + path for path in lacking(condition[1], inner)]
    if condition[0] not in ("all", "any"):
        return []
    inner += condition[1] if condition[0] == "all" else ()
    return [(place,) + path for place, part in enumerate(condition[1]) for path in lacking(part, inner)]


def is_led(condition, around=()):
    """Whether each guard stands ahead: around tells of each all ahead its parts, and at which of them we are."""
    if condition[0] in ("eq", "less"):
        for guard in (("row",), ("has", condition[1])):
            places = [parts.index(guard) - at for parts, at in around if guard in parts]
            if places[-1] > 0:
                return False
        return True
    if condition[0] == "not":
        return is_led(condition[1], around)
    if condition[0] not in ("all", "any"):
        return True
    for at, part in enumerate(condition[1]):
        more = ((condition[1], at),) if condition[0] == "all" else ()
        if not is_led(part, around + more):
            return False
    return True


def count_tests(condition):
    if condition[0] == "not":
        return count_tests(condition[1])
    return sum(map(count_tests, condition[1])) if condition[0] in ("all", "any") else 1


def asked_by(condition, answers, first=0):
    """Whether it is so by these truths, and the numbers of the tests that are asked."""
    if condition[0] == "not":
        is_so, numbers = asked_by(condition[1], answers, first)
        return not is_so, numbers
    if condition[0] not in ("all", "any"):
        return answers[first], [first]
    numbers = []
    for part in condition[1]:
        is_so, more = asked_by(part, answers, first)
        numbers += more
        first += count_tests(part)
        if is_so == (condition[0] == "any"):
            return is_so, numbers
    return condition[0] == "all", numbers


def chance_of(answers, shares):
    told = Fraction(1)
    for answer, share in zip(answers, shares):
        told *= Fraction(*share) if answer else 1 - Fraction(*share)
    return told


def plain_mean(condition, costs, shares):
    """The mean cost, by adding up all answers."""
    told = Fraction(0)
    for answers in product((False, True), repeat=len(costs)):
        numbers = asked_by(condition, answers)[1]
        told += chance_of(answers, shares) * sum(Fraction(*costs[number]) for number in numbers)
    return told


def quick_mean(condition, costs, shares):
    """The mean cost and the share, part by part."""
    if condition[0] == "not":
        own, share = quick_mean(condition[1], costs, shares)
        return own, 1 - share
    if condition[0] not in ("all", "any"):
        return Fraction(*costs[0]), Fraction(*shares[0])
    whole, reached, at = Fraction(0), Fraction(1), 0
    for part in condition[1]:
        many = count_tests(part)
        own, share = quick_mean(part, costs[at:at + many], shares[at:at + many])
        whole += own * reached
        reached *= share if condition[0] == "all" else 1 - share
        at += many
    return whole, reached if condition[0] == "all" else 1 - reached


def some_costs(rng, many):
    """Costs and shares of so many tests; often several are alike."""
    costs = [rng.choice(((1, 1), (1, 1), (2, 1), (1, 2), (20, 1), (3, 20), (7, 3))) for _ in range(many)]
    shares = [rng.choice(((1, 2), (1, 2), (1, 3), (2, 3), (1, 20), (19, 20), (3, 7))) for _ in range(many)]
    return costs, shares


def told(fraction):
    return (fraction.numerator, fraction.denominator)
