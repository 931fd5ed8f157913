"""One judge of DEMANDS: what stands, the PAPERS against it and the REASONS for it."""

from movedchest.barred import can_tip_to, is_why_no_fewer, is_why_not, why_no_fewer, why_not
from movedchest.errors import Unfit
from movedchest.fewest import fewest_tips, plan
from movedchest.kinds import is_just, is_number, tupled
from movedchest.rows import behind, is_row, tips_alone, turns_alone
from movedchest.slants import can_turn_to, fewest_turns, slants_between, turn_plan
from movedchest.stands import HOME, is_stand

# How many parts DEMANDS of each word have.
PARTS = {"come": 3, "fewest": 4, "turns": 4, "alike": 3}


def is_demand(thing):
    """Whether thing is a DEMAND."""
    if not isinstance(thing, tuple) or len(thing) == 0 or not isinstance(thing[0], str):
        return False
    word = thing[0]
    if word not in PARTS or len(thing) != PARTS[word]:
        return False
    if word == "alike":
        return is_row(thing[1]) and is_row(thing[2])
    if not is_stand(thing[1]) or not is_stand(thing[2]):
        return False
    return word == "come" or is_number_demand(thing)


def is_number_demand(demand):
    """Whether MOVES of the kind asked for lead from STAND to STAND, and are asked for by a number from 0."""
    word, stand, goal, number = demand
    if not is_number(number) or number < 0:
        return False
    return can_tip_to(stand, goal) if word == "fewest" else can_turn_to(stand, goal)


def fit_demand(demand):
    """The DEMAND as a tuple of tuples, else Unfit()."""
    own = tupled(demand, 3)
    if not is_demand(own):
        raise Unfit()
    return own


def ends_of(demand):
    """The pair of the STANDS to which both ROWS of a DEMAND that they are alike lead HOME."""
    return behind(HOME, demand[1]), behind(HOME, demand[2])


def stands_up(demand):
    """Whether what is known to be a DEMAND stands."""
    word = demand[0]
    if word == "alike":
        first, second = ends_of(demand)
        return first == second
    if word == "come":
        return can_tip_to(demand[1], demand[2])
    fewest = fewest_tips(demand[1], demand[2]) if word == "fewest" else fewest_turns(demand[1], demand[2])
    return fewest <= demand[3]


def is_so(demand):
    """Whether a DEMAND stands."""
    return stands_up(fit_demand(demand))


def paper_against(demand):
    """A PAPER against a DEMAND; None if it stands."""
    own = fit_demand(demand)
    if stands_up(own):
        return None
    word = own[0]
    if word == "alike":
        return ends_of(own)
    if word == "come":
        return why_not(own[1], own[2])
    return why_no_fewer(own[1], own[2]) if word == "fewest" else slants_between(own[1], own[2])


def is_paper_against(demand, thing):
    """Whether thing is a PAPER against a DEMAND."""
    own = fit_demand(demand)
    if stands_up(own):
        return False
    word = own[0]
    if word == "come":
        return is_why_not(own[1], own[2], thing)
    if word == "fewest":
        return is_why_no_fewer(own[1], own[2], thing)
    return is_just(thing, ends_of(own) if word == "alike" else slants_between(own[1], own[2]))


def reason_for(demand):
    """A REASON for a DEMAND; None if it does not stand, TooMany() if the shortest ROW has more than 2,000 MOVES."""
    own = fit_demand(demand)
    if not stands_up(own):
        return None
    if own[0] == "alike":
        return ends_of(own)[0]
    return turn_plan(own[1], own[2]) if own[0] == "turns" else plan(own[1], own[2])


def leads(stand, goal, thing, turns):
    """Whether thing is a ROW that leads from stand to goal, of turns or else of tips."""
    if not is_row(thing) or not (turns_alone(thing) if turns else tips_alone(thing)):
        return False
    return behind(stand, thing) == goal


def is_reason_for(demand, thing):
    """Whether thing is a REASON for a DEMAND."""
    own = fit_demand(demand)
    if own[0] == "alike":
        return stands_up(own) and is_just(thing, ends_of(own)[0])
    if not leads(own[1], own[2], thing, own[0] == "turns"):
        return False
    return own[0] == "come" or len(thing) <= own[3]


def first_fallen(demands):
    """The number of the first of DEMANDS that does not stand; None if all stand."""
    told = tupled(demands, 4)
    if not isinstance(told, tuple) or not all([is_demand(own) for own in told]):
        raise Unfit()
    fallen = [number for number, own in enumerate(told) if not stands_up(own)]
    return fallen[0] if fallen else None
