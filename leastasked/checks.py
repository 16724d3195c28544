"""What is taken as a name, a number or a rule of ageing; all else is refused."""

from leastasked.errors import NoName, NoNumber, NoRule


def is_whole_within(value, least, most):
    # Python counts True and False among its ints; here they are no numbers.
    if isinstance(value, bool) or not isinstance(value, int):
        return False
    return least <= value <= most


def is_name(value):
    if not isinstance(value, str):
        return False
    return 1 <= len(value) <= 40 and all([" " <= sign <= "~" for sign in value])


# The words of a refusal leave out what was refused: it may be of any kind,
# and not everything can be shown (a number of too many digits can't).
def check_name(name):
    if not is_name(name):
        raise NoName("a name is a text of 1 to 40 signs, each from the blank to ~")


def check_weight(weight):
    if not is_whole_within(weight, 1, 10 ** 30):
        raise NoNumber("a weight is a whole number from 1 to 10 ** 30")


def check_steps(steps):
    if not is_whole_within(steps, 0, 10 ** 30):
        raise NoNumber("steps of time are a whole number from 0 to 10 ** 30")


def check_places(places):
    if not is_whole_within(places, 1, 1000):
        raise NoNumber("places are a whole number from 1 to 1000")


def check_many(many):
    if not is_whole_within(many, 0, 10 ** 30):
        raise NoNumber("a number of asks is a whole number from 0 to 10 ** 30")


def check_rule(span, part):
    if not is_whole_within(span, 1, 10 ** 20):
        raise NoRule("a span is a whole number from 1 to 10 ** 20")
    if not is_whole_within(part, 2, 10 ** 30):
        raise NoRule("a part is a whole number from 2 to 10 ** 30")
