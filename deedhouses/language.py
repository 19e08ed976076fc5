"""A language of houses: named houses, and the texts that tell them."""

from deedhouses.errors import InvalidNamed, InvalidNumber, InvalidOrder, InvalidText
from deedhouses.forms import house_form
from deedhouses.houses import check_house, is_house
from deedhouses.lines import DIGITS, LETTERS
from deedhouses.ratios import is_tuple, is_within
from deedhouses.readings import named_house


def is_named(value):
    """Whether any value is a named house."""
    if not is_tuple(value, 2) or not is_house(value[0]) or not is_tuple(value[1], 3):
        return False
    _, many, stands = value[0]
    pays, names, deeds = value[1]
    if not are_names(pays, many) or not are_names(names, len(stands)) or not is_tuple(deeds, len(stands)):
        return False
    return all([are_names(row, len(stand)) for row, stand in zip(deeds, stands)])


def are_names(value, many):
    """Whether any value is a tuple of so many different names."""
    if not is_tuple(value, many) or not all([is_name(each) for each in value]):
        return False
    return len(set(value)) == many


def is_name(value):
    """Whether any value is a name."""
    if not isinstance(value, str) or not is_within(len(value), 1, 12) or value[0] not in LETTERS:
        return False
    return all([sign in LETTERS + DIGITS for sign in value])


def read_house(text):
    """The named house that the text tells."""
    if not isinstance(text, str):
        raise InvalidText(None, None)
    return named_house(house_form(text))


def house_text(named):
    """The text of the named house."""
    check_named(named)
    (share, _, stands), (pays, names, deeds) = named
    lines = ["share " + number_text(share), "pays " + ", ".join(pays)]
    for stand, name, own in zip(stands, names, deeds):
        lines.append("stand " + name)
        lines.extend([deed_text(deed, each, names) for deed, each in zip(stand, own)])
    return "\n".join(lines)


def deed_text(deed, name, names):
    """The line of a deed."""
    chances, gains = deed
    parts = [number_text(chance) + " " + names[at] for at, chance in chances]
    row = [number_text(gain) for gain in gains]
    return "deed " + name + ": " + ", ".join(parts) + " gets " + ", ".join(row)


def number_text(number):
    """The fraction as it is printed; InvalidNumber for more than 60 digits."""
    top, bottom = number
    if abs(top) >= 10 ** 60 or bottom >= 10 ** 60:
        raise InvalidNumber(number)
    return str(top) if bottom == 1 else str(top) + "/" + str(bottom)


def named_of(house):
    """The house with the names p0, p1, .. of the pays, s0, s1, .. of the stands, d0, d1, .. of deeds."""
    check_house(house)
    _, many, stands = house
    deeds = tuple([numbered("d", len(stand)) for stand in stands])
    return house, (numbered("p", many), numbered("s", len(stands)), deeds)


def numbered(letter, many):
    """So many names of the letter and a number from 0 on."""
    return tuple([letter + str(at) for at in range(many)])


def reordered(named, order):
    """The named house whose stand of index j is the one with the index ORDER[j]."""
    check_named(named)
    check_order(named, order)
    (share, many, stands), (pays, names, deeds) = named
    made = []
    for at in order:
        made.append(tuple([(moved(chances, order), gains) for chances, gains in stands[at]]))
    turned = tuple([names[at] for at in order]), tuple([deeds[at] for at in order])
    return (share, many, tuple(made)), (pays, turned[0], turned[1])


def moved(chances, order):
    """The CHANCES by the stands' new indexes."""
    return tuple(sorted([(order.index(at), chance) for at, chance in chances]))


def check_named(named):
    """Raises InvalidNamed for no named house."""
    if not is_named(named):
        raise InvalidNamed(named)


def check_order(named, order):
    """Raises InvalidOrder for no tuple of all stands' indexes, each once."""
    many = len(named[0][2])
    if not is_tuple(order, many):
        raise InvalidOrder(None)
    for at, stand in enumerate(order):
        if not is_within(stand, 0, many - 1) or stand in order[:at]:
            raise InvalidOrder(at)
