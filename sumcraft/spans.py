"""Vectors of polynomials: whether one hangs on others, and by which relation."""

from sumcraft.polys import poly_plus, poly_times, poly_value, quotient
from sumcraft.reaches import common_of

# Where a span looks first: polynomials have a value of 0 at small places often, here seldom.
START = 97


def lowered(row, table, columns):
    """The row with noughts in the columns of the table's rows, each of which is lowered by those ahead of it."""
    # Without fractions: every number that comes up is a determinant of numbers of the rows that were there at first,
    # so each division leaves no rest.
    before = 1
    for base, column in zip(table, columns):
        pivot = base[column]
        factor = row[column]
        row = [(pivot * number - factor * other) // before for number, other in zip(row, base)]
        before = pivot
    return row


def through(places, values):
    """The polynomial with these values at these places, of fewer numbers than there are places or as many."""
    # It has whole numbers, so all its divided differences at whole places are whole numbers, too.
    steps = list(values)
    for gap in range(1, len(steps)):
        for place in range(len(steps) - 1, gap - 1, -1):
            steps[place] = (steps[place] - steps[place - 1]) // (places[place] - places[place - gap])
    answer = []
    for place in range(len(steps) - 1, -1, -1):
        answer = poly_plus(poly_times(answer, [-places[place], 1]), [steps[place]])
    return answer


def greatest_degree(polys):
    """The greatest degree of the polynomials; 0 where there is none but []."""
    return max([max(len(poly) - 1, 0) for poly in polys], default=0)


def degree_bound(vectors, columns):
    """A degree that no determinant of all of the columns and all of the vectors but one goes beyond."""
    by_vector = [greatest_degree([vector[column] for column in columns]) for vector in vectors]
    by_column = [greatest_degree([vector[column] for vector in vectors]) for column in columns]
    return min(sum(by_vector) - min(by_vector), sum(by_column))


def cleared(polys):
    """The polynomials, the last one not [], without what they have in common, the last one's last number above 0."""
    shared = common_of(polys)
    if polys[-1][-1] < 0:
        shared = [-number for number in shared]
    return [quotient(poly, shared) for poly in polys]


class Span:
    """Vectors of one width of which none hangs on those ahead of it."""

    def __init__(self, width):
        self.width = width
        self.kept = []
        # For each kept vector a column, and a place: there no row of the table has 0 in its vector's column.
        self.columns = []
        self.place = START
        self.tables = {}

    def row_at(self, vector, number, place):
        """The vector's values at a place, and behind them what tells it from the other ones."""
        mark = [1 if other == number else 0 for other in range(self.width + 1)]
        return [poly_value(poly, place) for poly in vector] + mark

    def table_at(self, place):
        """The kept vectors' rows at a place, each lowered by those ahead; None where one has 0 in its column."""
        table = self.tables.setdefault(place, [])
        while len(table) < len(self.kept):
            number = len(table)
            row = lowered(self.row_at(self.kept[number], number, place), table, self.columns)
            if row[self.columns[number]] == 0:
                return None
            table.append(row)
        return table

    def lowered_at(self, vector, place):
        """The vector's row at a place, lowered by those of all kept ones; None where there is no table."""
        table = self.table_at(place)
        if table is None:
            return None
        return lowered(self.row_at(vector, len(self.kept), place), table, self.columns)

    def only_choice(self, vector):
        """The only relation by which the vector can hang on the kept ones: in their columns it holds."""
        # What a lowered row has behind its values are, up to signs, the determinants that solve the equations of
        # these columns. They are values of polynomials, which are known by as many places as their degree and one.
        many = 1 + degree_bound(self.kept + [vector], self.columns)
        places = []
        marks = []
        place = 0
        while len(places) < many:
            row = self.lowered_at(vector, place)
            if row is not None:
                places.append(place)
                marks.append(row[self.width:])
            place += 1
        return cleared([through(places, [mark[number] for mark in marks]) for number in range(len(self.kept) + 1)])

    def failing_column(self, vector, weights):
        """The first column in which the vectors, times these weights, do not sum up to []; None where all do."""
        for column in range(self.width):
            # In the columns of the kept vectors they do: so the weights were chosen.
            if column in self.columns:
                continue
            answer = []
            for other, weight in zip(self.kept + [vector], weights):
                answer = poly_plus(answer, poly_times(other[column], weight))
            if len(answer) > 0:
                return column
        return None

    def keep(self, vector, column):
        """Keeps a vector that stands apart from the kept ones in their columns and this one."""
        self.kept.append(vector)
        self.columns.append(column)
        while self.table_at(self.place) is None:
            self.place += 1

    def by_few(self, vector, few):
        """The relation by which the vector hangs on these few of the kept ones; None where it does not."""
        span = Span(self.width)
        for number in few:
            span.take(self.kept[number])
        found = span.take(vector)
        if found is None:
            return None
        weights = [[] for other in self.kept] + found[-1:]
        for number, weight in zip(few, found):
            weights[number] = weight
        return weights

    def take(self, vector):
        """The relation by which the vector hangs on the kept ones; None where it does not, and then it is kept."""
        own = [list(poly) for poly in vector]
        row = self.lowered_at(own, self.place)
        for column in range(self.width):
            if row[column] != 0:
                self.keep(own, column)
                return None
        # Most vectors whose weight is 0 at the place have no part in the relation; without them it is found sooner.
        few = [number for number in range(len(self.kept)) if row[self.width + number] != 0]
        weights = self.by_few(own, few) if len(few) < len(self.kept) else None
        if weights is not None:
            return weights
        weights = self.only_choice(own)
        column = self.failing_column(own, weights)
        if column is None:
            return weights
        self.keep(own, column)
        return None

    def apart(self):
        """A place and columns in which the values of the kept vectors have a determinant that is not 0."""
        return (self.place, list(self.columns))


def relation(vectors):
    """The relation of the first vector that hangs on those ahead of it; None where none does."""
    if len(vectors) == 0:
        return None
    span = Span(len(vectors[0]))
    for vector in vectors:
        found = span.take(vector)
        if found is not None:
            return found
    return None
