"""Records kept in names."""

from passpapers.flow import arrivals_of, labels_met
from passpapers.kept import fields_of, is_of_record, is_used_as_record, with_record_kept
from passpapers.middle import all_names
from passpapers.numbering import numbering_behind


def keep(program):
    """(outcome, paper): the first record that nothing but gets and sets use kept in names, or nothing."""
    for function in program:
        met = labels_met(function)
        for label, params, rows, end in function[3]:
            for row in rows:
                if label in met and row[1] == "new" and may_be_kept(function, row[0], met):
                    body = (function[0], row[0], blocks_told(function, label, row[0]))
                    return with_record_kept(program, body), ("kept", body)
    return program, ("kept", ())


def labels_using(function, name):
    """The labels of the blocks whose rows get or set fields of that record."""
    return [block[0] for block in function[3] if any([is_of_record(row, name) for row in block[2]])]


def may_be_kept(function, name, met):
    return is_used_as_record(function, name) and all([label in met for label in labels_using(function, name)])


def blocks_told(function, home, name):
    """The blocks at whose beginnings the fields have to be known, each with a name for each field.

    These are the blocks from which a way leads to a get or a set, not by the record's own block: this lies on every
    way to such a get or set. Where no way leads to a block, it is told all the same if it leads to a told one.
    """
    arrivals = arrivals_of(function)
    told = {}
    waiting = labels_using(function, name)
    while len(waiting) > 0:
        label = waiting.pop()
        if label != home and label not in told:
            told[label] = True
            waiting.extend([led for led, args in arrivals[label]])
    numbering = numbering_behind(all_names(function), [])
    count = fields_of(function, name)
    labels = [block[0] for block in function[3] if block[0] in told]
    return tuple([(label, tuple([numbering.number_for(name) for field in range(count)])) for label in labels])
