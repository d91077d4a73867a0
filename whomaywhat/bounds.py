"""Cases of numbers: bounds, rings of bounds, and the nearest numbers that keep them."""


def bound_of(literal):
    """The bound (x, y, c) for which the literal stands: x minus y is at most c."""
    (_, one, other, most), truth = literal
    return (one, other, most) if truth else (other, one, -most - 1)


def is_ring(literals):
    """True if the tuple of literals is a ring."""
    if len(literals) == 0:
        return False
    bounds = [bound_of(literal) for literal in literals]
    followers = bounds[1:] + bounds[:1]
    if any(bound[1] != follower[0] for bound, follower in zip(bounds, followers)):
        return False
    return sum([bound[2] for bound in bounds]) < 0


def find_ring(literals):
    """A ring of literals out of the tuple, or () if none can be formed."""
    bounds = [bound_of(literal) for literal in literals]
    # The least sum of a walk along bounds to each place, and the last literal of that walk.
    sums = {place: 0 for bound in bounds for place in bound[:2]}
    last = {}
    end = None
    for _ in range(len(sums)):
        end = _shorten_walks(literals, bounds, sums, last)
        if end is None:
            return ()
    # Without a ring some round, of as many as there are places, finds no shorter walk.
    return () if end is None else _ring_before(end, last)


def _shorten_walks(literals, bounds, sums, last):
    """A place to which a shorter walk was found, or None."""
    end = None
    for literal, (one, other, most) in zip(literals, bounds):
        if sums[one] + most < sums[other]:
            sums[other] = sums[one] + most
            last[other] = literal
            end = other
    return end


def _ring_before(end, last):
    """The ring into which the literals lead that are followed back from the end."""
    for _ in range(len(last)):
        end = bound_of(last[end])[0]
    ring = []
    place = end
    while len(ring) == 0 or place != end:
        ring.append(last[place])
        place = bound_of(last[place])[0]
    return tuple(ring[::-1])


def nearest_numbers(literals, fields):
    """The nearest numbers that meet the literals, a tuple in the order of the fields."""
    limits = _limits_between([bound_of(literal) for literal in literals])
    values = {"": 0}
    for field in fields:
        values[field] = _nearest_number(limits, values, field)
    return tuple([values[field] for field in fields])


def _nearest_number(limits, values, field):
    """The number nearest to 0 that the values of the other fields leave to the field."""
    most = [values[other] + limit for other, limit in limits.get(field, {}).items() if other in values]
    least = [values[other] - limits[other][field] for other in values if field in limits.get(other, {})]
    return min([max([0, *least]), *most])


def _limits_between(bounds):
    """The least c, for each x and y, such that the bounds together keep x minus y at most c."""
    limits = {}
    for one, other, most in bounds:
        limits.setdefault(other, {})
        row = limits.setdefault(one, {})
        row[other] = min(most, row.get(other, most))
    for middle in list(limits):
        for place in list(limits):
            if place != middle and middle in limits[place]:
                _limit_through(limits[place], limits[place][middle], limits[middle])
    return limits


def _limit_through(row, first, further):
    for place, most in further.items():
        row[place] = min(first + most, row.get(place, first + most))
