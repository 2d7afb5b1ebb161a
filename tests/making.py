"""What the tests share: plain reckoning by the document's own words, tables to try, and things of every kind."""

import copy
import itertools
import random

# Full tables that do not bend, each with the first place at which a slack is below 0.
CROOKED_TABLES = (
    (((0, 0), (0, 1)), (0, 0)), (((0, 0, 0), (0, 0, 1)), (0, 1)), (((0, 0), (0, 0), (0, 1)), (1, 0)),
    (((0, 0, 0), (0, 0, 1), (0, 1, 5)), (0, 1)), (((0, 5, 5), (0, 0, 1), (0, 3, 4)), (0, 1)),
)


def is_crooked_at(table, i, j, k, l):
    """Point 7, word by word."""
    if table[i][l] is None or table[j][k] is None:
        return False
    if table[i][k] is None or table[j][l] is None:
        return True
    return table[i][k] + table[j][l] > table[i][l] + table[j][k]


def crooks(table):
    """All places at which a table is crooked, as tuples rise."""
    pairs = list(itertools.combinations(range(len(table)), 2))
    columns = list(itertools.combinations(range(len(table[0])), 2))
    return [(i, j, k, l) for i, j in pairs for k, l in columns if is_crooked_at(table, i, j, k, l)]


def plain_slack(table, i, k):
    """Point 8, word by word."""
    if table[i][k + 1] is None or table[i + 1][k] is None:
        return None
    return table[i][k + 1] + table[i + 1][k] - table[i][k] - table[i + 1][k + 1]


def plain_slacks(table):
    """The slacks of a stepped table."""
    rows, columns = len(table), len(table[0])
    return tuple(tuple(plain_slack(table, i, k) for k in range(columns - 1)) for i in range(rows - 1))


def first_slack_below(table):
    """Point 22's first place, word by word, None where there is none."""
    rows, columns = len(table), len(table[0])
    for i, k in itertools.product(range(rows - 1), range(columns - 1)):
        if plain_slack(table, i, k) < 0:
            return (i, k)
    return None


def plain_bend(table):
    """Point 25, word by word; bending by all two by twos."""
    one = not crooks(table)
    other = all(slack <= 0 for row in plain_slacks(table) for slack in row)
    return {(True, True): "both", (True, False): "one", (False, True): "other", (False, False): "none"}[(one, other)]


def steps_right(table):
    """Point 4's stepped, word by word."""
    ahead = None
    for row in table:
        columns = [k for k, number in enumerate(row) if number is not None]
        if not columns or columns != list(range(columns[0], columns[-1] + 1)):
            return False
        if ahead is not None and (columns[0] < ahead[0] or columns[-1] < ahead[-1]):
            return False
        ahead = columns
    return True


def plain_stretches(table):
    """The first and the last column of each row of a stepped table."""
    found = []
    for row in table:
        columns = [k for k, number in enumerate(row) if number is not None]
        found.append((columns[0], columns[-1]))
    return tuple(found)


def plain_least(table, side):
    """Point 10, word by word."""
    places = []
    for row in table:
        numbers = [number for number in row if number is not None]
        if not numbers:
            places.append(None)
            continue
        least = min(numbers)
        columns = [k for k, number in enumerate(row) if number == least]
        places.append(columns[0] if side == "first" else columns[-1])
    return tuple(places)


def all_tables(rows, columns, numbers):
    """Every table of a size whose entries are among these."""
    for row_choice in itertools.product(itertools.product(numbers, repeat=columns), repeat=rows):
        yield row_choice


def all_small_tables():
    """Every table of some small sizes, with and without places where nothing stands."""
    yield from all_tables(1, 1, (None, -1, 0, 1))
    yield from all_tables(1, 4, (None, 0, 1))
    yield from all_tables(4, 1, (None, 0, 1))
    yield from all_tables(2, 2, (None, -1, 0, 1))
    yield from all_tables(2, 3, (None, 0, 1))
    yield from all_tables(3, 2, (None, 0, 1))
    yield from all_tables(3, 3, (None, 0))
    yield from all_tables(3, 3, (0, 1))


def some_stretches(chance, rows, columns):
    """Stretches of a stepped table within so many columns."""
    firsts = sorted(chance.randrange(columns) for _ in range(rows))
    lasts = sorted(chance.randrange(columns) for _ in range(rows))
    return tuple((first, max(first, last)) for first, last in zip(firsts, lasts))


def bending_table(chance, stretches, columns, most_slack, most_step):
    """A table that bends with these stretches; where no slack binds a number it is any."""
    rows = []
    for at, (first, last) in enumerate(stretches):
        row = [None] * columns
        for k in range(first, last + 1):
            row[k] = chance.randint(-most_step, most_step)
            if k > first:
                row[k] += row[k - 1]
            if at > 0 and k > first and rows[-1][k] is not None:
                row[k] = rows[-1][k] + row[k - 1] - rows[-1][k - 1] - chance.randint(0, most_slack)
        rows.append(row)
    return tuple(tuple(row) for row in rows)


def bending_tables(many, most_rows, most_columns, seed):
    """Tables that bend, stepped ones and full ones, with few and with many like numbers; the same ones each time."""
    chance = random.Random(seed)
    for _ in range(many):
        rows = chance.randint(1, most_rows)
        columns = chance.randint(1, most_columns)
        stretches = some_stretches(chance, rows, columns)
        if chance.random() < 0.4:
            stretches = ((0, columns - 1),) * rows
        yield bending_table(chance, stretches, columns, chance.choice((0, 1, 3, 50)), chance.choice((0, 1, 5, 10 ** 40)))


class CountedLook:
    """A look at a table that refuses to be asked of a place twice, or beyond the stretches, and counts."""

    def __init__(self, table):
        self.table = table
        self.seen = set()

    def __call__(self, row, column):
        if type(row) is not int or type(column) is not int:
            raise AssertionError("a row or a column is no whole number")
        if not 0 <= row < len(self.table) or not 0 <= column < len(self.table[0]) or self.table[row][column] is None:
            raise AssertionError(f"looked beyond the stretches at {(row, column)}")
        if (row, column) in self.seen:
            raise AssertionError(f"looked twice at {(row, column)}")
        self.seen.add((row, column))
        return self.table[row][column]


def deep(inner, make, many):
    """Something as deep as asked."""
    for _ in range(many):
        inner = make(inner)
    return inner


def things():
    """Things of every kind, new ones each time, none of which is a table, a rule, a paper or places."""
    return [
        None, True, False, 0, 1, -1, 10 ** 39, "", " ", "rows", "each", "bends", "1 2\n3 4", "x" * 4000,
        (), [], {}, ((),), ((), ()), ([],), [()], [[]], ({},), {"rows": 1}, {1: (1,), "a": [2]},
        (True,), (False,), ("",), ("a",), ((True,),), ((False, 0),), ((1, True),), (("1",),), ((1, "1"),),
        [1], [(1,)], [[1]], ([1],), ((1,), [1]), ((1,), (1, 2)), ((1, 2), (1,)), ((1,), ()), ((1,), 1), ((1,), None),
        (((1,),),), ((1,), ((1,),)), (None, None), ((1, [None]),), ((1, {}),),
        ("rows",), ("each", "each"), ["each"], {"each": True}, ("each", None), ("bends",), ("crooked",),
        deep((), lambda inner: (inner,), 30), deep([], lambda inner: [inner], 30), deep({}, lambda inner: {1: inner}, 30),
        deep(1, lambda inner: (inner, inner), 10), deep(None, lambda inner: (None, inner), 29),
        deep("x", lambda inner: ("both", inner, inner), 9), deep(1, lambda inner: ("both", inner), 29),
        tuple(range(3999)) + ("",), [0] * 4000, tuple([()] * 4000), tuple([(1,)] * 1999 + [(True,)]),
    ]


def copied(thing):
    """A copy that shares no list or dict with the thing."""
    return copy.deepcopy(thing)


def kinds_of(thing):
    """A thing with the kind of each part told, so that 1 and True, or a list and a tuple, differ."""
    if isinstance(thing, (tuple, list)):
        return (type(thing).__name__, [kinds_of(part) for part in thing])
    if isinstance(thing, dict):
        return ("dict", [(kinds_of(key), kinds_of(worth)) for key, worth in thing.items()])
    return (type(thing).__name__, thing)


def altered(thing):
    """A right thing with one part altered, at each place: of another kind, left out, one too many, a number off."""
    yield from altered_here(thing)
    if isinstance(thing, tuple):
        for at, part in enumerate(thing):
            for other in altered(part):
                yield thing[:at] + (other,) + thing[at + 1:]


def altered_here(thing):
    """What may stand for a part of a right thing, none of it right."""
    others = [None, True, False, "", "0", "r", (), [], {}, [thing], (thing,), {0: thing}, 10 ** 39, -10 ** 39, (0,), ((0,),)]
    if isinstance(thing, tuple):
        others += [list(thing), thing + (0,), thing + (None,), thing + ((),), (0,) + thing, thing + thing, dict(enumerate(thing))]
        others += [thing[1:], thing[:-1], tuple(reversed(thing)), thing + thing[-1:], thing[:1] + thing]
    elif isinstance(thing, int):
        others += [thing - 1, thing + 1, -thing, str(thing), thing + 10 ** 9]
    for other in others:
        if kinds_of(other) != kinds_of(thing):
            yield other


def square_bending_tables(many, most, seed):
    """Full tables that bend, of as many rows as columns; the same ones each time."""
    chance = random.Random(seed)
    for _ in range(many):
        size = chance.randint(1, most)
        yield full_bending_table(chance, size, size)


def full_bending_table(chance, rows, columns):
    """A full table that bends, with few or with many like numbers, small or great ones."""
    most_slack, most_step = chance.choice(((0, 0), (0, 1), (1, 0), (1, 1), (3, 5), (50, 40), (10 ** 9, 10 ** 9), (10 ** 40, 10 ** 40)))
    return bending_table(chance, ((0, columns - 1),) * rows, columns, most_slack, most_step)


def any_full_table(chance, rows, columns):
    """A full table, bending or not, with few or with many like numbers, small or great ones."""
    most = chance.choice((0, 1, 2, 9, 10 ** 9, 10 ** 50))
    return tuple(tuple(chance.randint(-most, most) for _ in range(columns)) for _ in range(rows))


def any_row(chance, many):
    """A row of so many numbers, with few or with many like ones, small or great ones."""
    most = chance.choice((0, 1, 2, 9, 10 ** 9, 10 ** 50))
    return tuple(chance.randint(-most, most) for _ in range(many))


def row_by_steps(start, steps):
    """The row with this first number and these steps."""
    return tuple(itertools.accumulate(steps, initial=start))


def rising_row(chance, many):
    """A row of so many numbers that bends up."""
    steps = sorted(any_row(chance, many - 1))
    return row_by_steps(chance.randint(-10 ** 9, 10 ** 9), steps)


def all_rows(most_many, numbers):
    """Every row of up to so many of these numbers."""
    for many in range(1, most_many + 1):
        yield from itertools.product(numbers, repeat=many)


def plain_bends_up(row):
    """Point 13's bending up, word by word."""
    steps = [row[k + 1] - row[k] for k in range(len(row) - 1)]
    return all(steps[k] <= steps[k + 1] for k in range(len(steps) - 1))


def plain_joined(one, other):
    """Point 13's joined rows, word by word."""
    sums, firsts = [], []
    for k in range(len(one) + len(other) - 1):
        there = [i for i in range(len(one)) if 0 <= k - i < len(other)]
        least = min(one[i] + other[k - i] for i in there)
        sums.append(least)
        firsts.append([i for i in there if one[i] + other[k - i] == least][0])
    return (tuple(sums), tuple(firsts))


def plain_product(one, other):
    """Point 15's product and mids, word by word."""
    sums, firsts = [], []
    for i in range(len(one)):
        line = [[one[i][j] + other[j][k] for j in range(len(other))] for k in range(len(other[0]))]
        sums.append(tuple(min(worths) for worths in line))
        firsts.append(tuple(worths.index(min(worths)) for worths in line))
    return (tuple(sums), tuple(firsts))


def way_sum(table, way):
    """What the entries of a way come to."""
    return sum(table[one][other] for one, other in zip(way, way[1:]))


def all_ways(table, many, one, other):
    """Every way of so many steps, as tuples rise."""
    for between in itertools.product(range(len(table)), repeat=many - 1):
        yield (one, *between, other)


def cost_table(many, cost):
    """Point 17's costs as a table: numbers just at i < k."""
    return tuple(tuple(cost(i, k) if i < k else None for k in range(many + 1)) for i in range(many))


def any_costs(chance, many):
    """Costs that bend, as a table, with few or with many ties, few or many stretches worth their cost."""
    kind = chance.randrange(4)
    if kind == 0:
        stretches = tuple((i + 1, many) for i in range(many))
        slack, step = chance.choice(((0, 0), (1, 0), (1, 1), (2, 5), (50, 3), (3, 400), (10 ** 50, 10 ** 60)))
        return bending_table(chance, stretches, many + 1, slack, step)
    far = chance.choice((0, 1, many, 20 * many, 10 ** 30))
    places = sorted(chance.randint(-far, far) for _ in range(many + 1))
    fee = chance.choice((0, 1, far, far * far // (many + 1), far * far))
    if kind == 1:
        return cost_table(many, lambda i, k: (places[k] - places[i]) ** 2 + fee)
    if kind == 2:
        # Adding any number for where a stretch begins, and any for where it ends, keeps what bends.
        befores, behinds, weight = any_row(chance, many), any_row(chance, many + 1), chance.choice((0, 1, 2, 6))
        return cost_table(many, lambda i, k: (k - i) ** 2 * weight + befores[i] + behinds[k])
    return cost_table(many, lambda i, k: abs(places[k] - places[i] - far // 3) + fee)


def all_small_costs():
    """Every table of costs of few things and few small numbers that bends."""
    for many, numbers in ((1, (-1, 0, 1)), (2, (-1, 0, 1, 2)), (3, (-1, 0, 1)), (4, (0, 1))):
        for flat in itertools.product(numbers, repeat=many * (many + 1) // 2):
            left = list(flat)
            table = cost_table(many, lambda i, k: left.pop())
            if not crooks(table):
                yield table


def plain_planned(table):
    """Point 18, word by word, from the first thing on."""
    worths, froms = [0], []
    for j in range(1, len(table) + 1):
        costs = [worths[i] + table[i][j] for i in range(j)]
        worths.append(min(costs))
        froms.append(costs.index(min(costs)))
    return (tuple(worths), tuple(froms))


def all_plans(many):
    """Every plan of so many things."""
    for count in range(many):
        for inner in itertools.combinations(range(1, many), count):
            yield (0, *inner, many)


def plan_cost(table, cuts):
    """What a plan costs."""
    return sum(table[one][other] for one, other in zip(cuts, cuts[1:]))


def any_web(chance, rows, columns):
    """A web with few or many links that lack, small or great lengths."""
    most = chance.choice((0, 1, 2, 9, 10 ** 9))
    lack = chance.choice((0, 0, 0.1, 0.3, 0.6))

    def link():
        return None if chance.random() < lack else chance.randint(-most, most)

    return (
        tuple(chance.randint(-most, most) for _ in range(rows)),
        tuple(tuple(link() for _ in range(columns - 1)) for _ in range(rows)),
        tuple(tuple(link() for _ in range(columns)) for _ in range(rows - 1)),
        tuple(chance.randint(-most, most) for _ in range(columns)),
    )


def all_small_webs():
    """Every web of some small sizes, with few small lengths."""
    for links in itertools.product((None, 0, 1), repeat=4):
        for ins in itertools.product((0, 3), repeat=2):
            yield (ins, (links[0:1], links[1:2]), (links[2:4],), (5, -5))
    for links in itertools.product((None, 0), repeat=12):
        yield ((0, 0, 0), (links[0:2], links[2:4], links[4:6]), (links[6:9], links[9:12]), (0, 0, 0))


def way_length(web, row, column, way):
    """What a way is long, None where a link lacks or it does not lead there."""
    ins, rights, ups, outs = web
    at, over, total = row, 0, ins[row] + outs[column]
    for letter in way:
        if letter == "r":
            link = rights[at][over] if over + 1 < len(outs) else None
            over += 1
        else:
            link = ups[at - 1][over] if at > 0 else None
            at -= 1
        if link is None:
            return None
        total += link
    return total if (at, over) == (0, column) else None


def web_ways(web, row, column):
    """Every way from a row to a column, as texts rise, with its length."""
    found = []
    for rights in itertools.combinations(range(row + column), column):
        way = "".join("r" if at in rights else "u" for at in range(row + column))
        length = way_length(web, row, column, way)
        if length is not None:
            found.append((way, length))
    return sorted(found)


def rows_that_bend(table):
    """Every choice of rows, in order, whose table bends, by all choices of one row or more."""
    for many in range(1, len(table) + 1):
        for rows in itertools.combinations(range(len(table)), many):
            if not crooks(tuple(table[i] for i in rows)):
                yield rows


def most_that_stay(table):
    """Point 23: how many rows can stay and bend, by all choices."""
    return max(len(rows) for rows in rows_that_bend(table))


def mend_sum(table, mend):
    """Point 24: by how much the entries differ, together."""
    return sum(abs(number - other) for row, under in zip(table, mend) for number, other in zip(row, under))


def rises_of(table):
    """What stands below less what stands above, of two rows."""
    return [below - above for above, below in zip(*table)]


def least_mend_sum(table):
    """The least sum of a mend of two rows, column by column over all rises that a mend may have there.

    What a mend adds to a column's rise it adds to one of its entries or shares among both, so it is no less than that;
    and some mend of the least sum has no rises but those of the table.
    """
    rises = rises_of(table)
    best = {rise: 0 for rise in rises}
    for rise in rises:
        best = {other: min(best[ahead] for ahead in best if ahead >= other) + abs(rise - other) for other in best}
    return min(best.values())


def is_plain_table(thing):
    """Point 4's table, word by word, of anything."""
    if type(thing) is not tuple or not thing or any(type(row) is not tuple or not row for row in thing):
        return False
    if len({len(row) for row in thing}) > 1:
        return False
    return all(number is None or type(number) is int for row in thing for number in row)


def is_plain_full_table(thing):
    """A table without places where nothing stands."""
    return is_plain_table(thing) and all(number is not None for row in thing for number in row)


def plain_shown(table, thing):
    """Point 24's twos, word by word: by how much the table is crooked at all of them, None of no twos."""
    if type(thing) is not tuple or any(type(place) is not tuple or len(place) != 4 for place in thing):
        return None
    if any(type(number) is not int for place in thing for number in place):
        return None
    if list(thing) != sorted(thing) or any(place not in crooks(table) for place in thing):
        return None
    taken = [{(i, k), (i, l), (j, k), (j, l)} for i, j, k, l in thing]
    if any(one & other for one, other in itertools.combinations(taken, 2)):
        return None
    return sum(table[i][k] + table[j][l] - table[i][l] - table[j][k] for i, j, k, l in thing)


def is_plain_mended(table, thing):
    """Point 24's (sum, mend, pairs) of two rows, word by word."""
    if type(thing) is not tuple or len(thing) != 3:
        return False
    total, mend, pairs = thing
    if type(total) is not int or total != least_mend_sum(table):
        return False
    if not is_plain_full_table(mend) or (len(mend), len(mend[0])) != (2, len(table[0])):
        return False
    if crooks(mend) or mend_sum(table, mend) != total:
        return False
    if type(pairs) is not tuple or any(type(pair) is not tuple or len(pair) != 2 for pair in pairs):
        return False
    if any(type(column) is not int or not 0 <= column < len(table[0]) for pair in pairs for column in pair):
        return False
    columns = [column for pair in pairs for column in pair]
    if list(pairs) != sorted(pairs) or any(k >= l for k, l in pairs) or len(columns) != len(set(columns)):
        return False
    rises = rises_of(table)
    return all(rises[l] > rises[k] for k, l in pairs) and sum(rises[l] - rises[k] for k, l in pairs) == total


def is_numbers_in(thing, many):
    """Whether it is a tuple of whole numbers from 0 to below so many."""
    return type(thing) is tuple and all(type(number) is int and 0 <= number < many for number in thing)


def is_plain_gone(table, most, thing):
    """Point 23, word by word, as many rows as can stay being known."""
    if type(thing) is not tuple or len(thing) != 2:
        return False
    stays, levels = thing
    if not is_numbers_in(stays, len(table)) or len(stays) != most or list(stays) != sorted(set(stays)):
        return False
    if crooks(tuple(table[row] for row in stays)):
        return False
    if not is_numbers_in(levels, most) or len(levels) != len(table):
        return False
    pairs = [(i, j) for i, j in itertools.combinations(range(len(table)), 2) if levels[i] == levels[j]]
    return all(crooks((table[i], table[j])) for i, j in pairs)


def is_plain_web(thing):
    """Point 20's web, word by word, of anything."""
    if type(thing) is not tuple or len(thing) != 4 or any(type(part) is not tuple for part in thing):
        return False
    ins, rights, ups, outs = thing
    many, columns = len(ins), len(outs)
    if many < 1 or columns < 1 or any(type(number) is not int for number in ins + outs):
        return False
    if len(rights) != many or len(ups) != many - 1 or any(type(line) is not tuple for line in rights + ups):
        return False
    if any(len(line) != columns - 1 for line in rights) or any(len(line) != columns for line in ups):
        return False
    return all(link is None or type(link) is int for line in rights + ups for link in line)


def plain_web_table(web):
    """The least length of all ways from each row to each column, None where there is none."""
    lengths = [[[length for way, length in web_ways(web, row, column)] for column in range(len(web[3]))] for row in range(len(web[0]))]
    return tuple(tuple(min(found, default=None) for found in line) for line in lengths)
