"""The stair that stretches of indices make, by values that belong to the indices. Nothing is checked here."""


def stretch_code(values, level):
    """The code of the stair of the stretches of indices, one behind the other, with values of at most the level."""
    if level < min(values):
        return ()
    spots_at = {at: [] for at in range(min(values), level + 1)}
    for spot, value in enumerate(values):
        if value <= level:
            spots_at[value].append(spot)
    stretches = []
    for step in spots_at:
        if len(spots_at[step]) > 0:
            stretches = _joined(stretches, spots_at[step])
        for _, _, trail in stretches:
            trail.append(step)
    return tuple(_put_together([told for _, _, told in stretches]))


def _joined(stretches, spots):
    """The stretches, ascending, that some stretches and some more indices make.

    A stretch is a triple: its first and its last index, and its trail. The trail is the list of its code, backwards:
    so a further level is put to it at its end. The trails here still lack the level of the new indices.
    """
    groups = []
    for part in sorted(stretches + [(spot, spot, []) for spot in spots]):
        if len(groups) > 0 and groups[-1][-1][1] + 1 == part[0]:
            groups[-1].append(part)
        else:
            groups.append([part])
    return [(group[0][0], group[-1][1], _one_trail([trail for _, _, trail in group])) for group in groups]


def _one_trail(trails):
    """The trail of a stretch that is made of several ones; new indices have an empty trail."""
    told = [trail for trail in trails if len(trail) > 0]
    if len(told) == 1:
        return told[0]
    return _put_together(told)[::-1]


def _put_together(trails):
    """The list of all parts of the codes that some trails tell, these ascending."""
    codes = sorted([trail[::-1] for trail in trails])
    return [part for code in codes for part in code]
