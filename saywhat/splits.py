"""Tables without chance: all ways to split the cases into parts, where the teller tells the part."""

from saywhat.errors import BadSplit
from saywhat.exact import first_greatest, is_ascending_within
from saywhat.matters import check_matter
from saywhat.tellings import acts_after, worth_of


def _with_case(split, case):
    """Return a list of the splits with one case more: in each of the parts, or in a part of its own."""
    joined = [split[:at] + (part + (case,),) + split[at + 1:] for at, part in enumerate(split)]
    return joined + [split + ((case,),)]


def _all_splits(matter):
    """Return a list of all splits of the cases, by the number of their parts, then as tuples."""
    found = [()]
    for case in range(len(matter)):
        found = [larger for split in found for larger in _with_case(split, case)]
    return sorted(found, key=lambda each: (len(each), each))


def _check_split(matter, split):
    """Refuse what is no Matter, then what is no split of its cases."""
    check_matter(matter)
    good = isinstance(split, tuple) and all([is_ascending_within(part, 0, len(matter) - 1) for part in split])
    if not good or split not in _all_splits(matter):
        raise BadSplit("this is not a split of the cases of the matter")


def _table(matter, split):
    """Return the table that says the index of the part in which the case is."""
    cases = range(len(matter))
    return tuple([tuple([(1, 1) if case in part else (0, 1) for part in split]) for case in cases])


def splits(matter):
    """Return a dict from all splits, in order, to what they are worth."""
    check_matter(matter)
    return {split: worth_of(matter, _table(matter, split)) for split in _all_splits(matter)}


def best_split(matter):
    """Return the first split with the greatest worth."""
    return first_greatest(splits(matter))


def acts_by(matter, split):
    """Return a list with the act that is done after each part of a split."""
    _check_split(matter, split)
    return acts_after(matter, _table(matter, split))


def split_table(matter, split):
    """Return the table that says the index of the part in which the case is."""
    _check_split(matter, split)
    return _table(matter, split)
