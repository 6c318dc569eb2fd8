"""Whole points of polytopes, one number after another, within the exact bounds that those ahead leave."""

from etasure.errors import TooMany


class Section:
    """A polytope, told from one of its corners.

    Each variable is told by a number of its own. columns are those that are 0 at the corner and not
    below 0 elsewhere; rows tells each other one as a list: its worth at the corner and the factors of
    the columns, all of them times common, which is above 0. Those in bounded are not below 0 either.
    """

    def __init__(self, rows, columns, bounded, common):
        self.rows = {key: list(rows[key]) for key in rows}
        self.columns = list(columns)
        self.bounded = {key: True for key in bounded}
        self.common = common

    def twin(self):
        """Another one of the same polytope, to be changed by itself."""
        return Section(self.rows, self.columns, self.bounded, self.common)

    def swap(self, key, place):
        """Exchange the variable of a row for that of a column; all entries stay whole (Edmonds)."""
        lead_row = self.rows.pop(key)
        lead = lead_row[place]
        sign = 1 if lead > 0 else -1
        for other in list(self.rows):
            row = self.rows[other]
            factor = row[place]
            changed = [sign * (lead * x - factor * y) // self.common for x, y in zip(row, lead_row)]
            changed[place] = sign * factor
            self.rows[other] = changed
        entered = [-sign * y for y in lead_row]
        entered[place] = sign * self.common
        self.rows[self.columns[place - 1]] = entered
        self.columns[place - 1] = key
        self.common = abs(lead)

    def way_on(self, key, sign):
        """The place of a column that moves the variable by this sign; None if there is none.

        By Bland's rule it is the one with the least number, so that walks end.
        """
        row = self.rows[key]
        places = [place for place in range(1, len(row)) if sign * row[place] > 0]
        if not places:
            return None
        least = min([self.columns[place - 1] for place in places])
        return self.columns.index(least) + 1

    def first_stop(self, place):
        """The bounded variable that is 0 first as the column of this place grows; None if there is none."""
        best = None
        for key in self.bounded:
            row = self.rows.get(key)
            if row is None or row[place] >= 0:
                continue
            if best is None or row[0] * -self.rows[best][place] < self.rows[best][0] * -row[place]:
                best = key
        return best

    def go_far(self, key, sign):
        """Go to a corner where the variable is greatest (sign 1) or least (sign -1)."""
        place = self.way_on(key, sign)
        while place is not None:
            self.swap(self.first_stop(place), place)
            place = self.way_on(key, sign)

    def bound_below(self, key):
        """Cut off all where the variable is below 0, and tell whether something is left."""
        while self.rows[key][0] < 0:
            place = self.way_on(key, 1)
            if place is None:
                return False
            stop = self.first_stop(place)
            if stop is None or self.is_reached(key, 0, place, stop):
                stop = key
                self.bounded[key] = True
            self.swap(stop, place)
            if stop == key:
                return True
        self.bounded[key] = True
        return True

    def is_reached(self, key, worth, place, stop):
        """Whether the variable comes to the worth, as the column grows, no later than the one that stops it."""
        row, last = self.rows[key], self.rows[stop]
        missing = abs(worth * self.common - row[0])
        return missing * -last[place] <= last[0] * abs(row[place])

    def fix(self, key, worth):
        """Leave only the part where the variable has this worth, which it has somewhere."""
        while True:
            missing = worth * self.common - self.rows[key][0]
            place = self.way_on(key, 1 if missing >= 0 else -1)
            if place is None and missing == 0:
                place = self.way_on(key, -1)
            if place is None:
                # The variable is the same everywhere.
                self.rows.pop(key)
                return
            stop = self.first_stop(place)
            if stop is None or missing == 0 or self.is_reached(key, worth, place, stop):
                break
            self.swap(stop, place)
        self.swap(key, place)
        self.columns.pop(place - 1)
        for other in list(self.rows):
            row = self.rows[other]
            moved = worth * row[place]
            self.rows[other] = [row[0] + moved] + row[1:place] + row[place + 1:]

    def span(self, key, scale):
        """All whole numbers from the least to the greatest worth of the variable divided by scale."""
        self.go_far(key, -1)
        low = -(-self.rows[key][0] // (self.common * scale))
        self.go_far(key, 1)
        return list(range(low, self.rows[key][0] // (self.common * scale) + 1))


def whole_points(section, keys, scale, most):
    """The list of all lists of whole numbers that the variables, divided by scale, have in the polytope.

    TooMany(most) if there are more.
    """
    found = []
    _gather(section.twin(), keys, scale, [], found, most)
    return found


def _gather(section, keys, scale, chosen, found, most):
    """Add to found all points that begin with the chosen numbers, those of the variables ahead."""
    at = len(chosen)
    if at == len(keys):
        if len(found) == most:
            raise TooMany(most)
        found.append(chosen)
        return
    numbers = section.span(keys[at], scale)
    middle = len(numbers) // 2
    # Where there are far too many points, most of them are in the middle.
    for number in numbers[middle:] + numbers[:middle][::-1]:
        smaller = section
        if at < len(keys) - 1:
            smaller = section.twin()
            smaller.fix(keys[at], scale * number)
        _gather(smaller, keys, scale, chosen + [number], found, most)
