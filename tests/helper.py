"""What several files of tests need: things drawn without chance, and the document's words done the plainest way."""

import copy

SUM_SIGNS = ("+", "-", "/", "rest", "&", "^")
TEST_SIGNS = ("<", "=")
NAMES = ("x", "y", "z")


class Draw:
    """Numbers that look drawn, the same under every Python and in every run."""

    def __init__(self, seed):
        self.state = seed * 2654435761 % 2 ** 64 + 1

    def below(self, count):
        self.state = (self.state * 6364136223846793005 + 1442695040888963407) % 2 ** 64
        return (self.state >> 33) % count

    def one_of(self, things):
        return things[self.below(len(things))]

    def operand(self):
        return self.one_of(NAMES) if self.below(2) else self.below(9) - 4

    def asked(self, signs):
        return (self.operand(), self.one_of(signs), self.operand())

    def memory(self):
        return {name: self.below(13) - 6 for name in NAMES if self.below(3)}

    def rows(self, count):
        numbers = []
        for place in range(count):
            numbers.append((numbers[-1] if numbers else -1) + 1 + self.below(3))
        return [self.row(numbers, place) for place in range(count)]

    def row(self, numbers, place):
        kind = self.below(12) if place < len(numbers) - 1 else 9 + self.below(3)
        if kind < 5:
            return (numbers[place], "sum", self.one_of(NAMES)) + self.asked(SUM_SIGNS)
        if kind < 9:
            return (numbers[place], "test") + self.asked(TEST_SIGNS) + (self.one_of(numbers),)
        if kind < 11:
            return (numbers[place], "jump", self.one_of(numbers))
        return (numbers[place], "end")

    def graph(self, count, tests=6, ends=1, goals="any", deep=2):
        """A graph of just so many nodes; of ten about so many are tests, or ends and spins.

        Each node is hung into a free way of an earlier one, the more often into the newest the greater deep is; the ways
        that are left go to any node, on to a later one, to a near one, or up to one from which the node hangs.
        """
        nodes, froms, free = [], [], []
        for place in range(count):
            hung = None
            if place:
                hung = free.pop(-1 if self.below(deep) else self.below(len(free)))
                nodes[hung[0]][1][hung[1]] = place
            froms.append(None if hung is None else hung[0])
            told, slots = self.node(tests, ends if free or place == count - 1 else 0)
            nodes.append((told, [None] * slots))
            free += [(place, slot) for slot in range(slots)]
        for place, slot in free:
            nodes[place][1][slot] = self.goal(place, count, froms, goals)
        return renumbered([told + tuple(slots) for told, slots in nodes])

    def node(self, tests, ends):
        kind = self.below(10)
        if kind < ends:
            return self.one_of([("end",), ("spin",)]), 0
        if kind < ends + tests:
            return ("test",) + self.asked(TEST_SIGNS), 2
        return ("sum", self.one_of(NAMES)) + self.asked(SUM_SIGNS), 1

    def goal(self, place, count, froms, goals):
        if goals == "mixed":
            goals = self.one_of(["any", "near", "up", "up", "up", "up", "up"])
        if goals == "any":
            return self.below(count)
        if goals == "on" and place < count - 1:
            return place + 1 + self.below(min(count - place - 1, 1 + self.below(count)))
        if goals == "near":
            return min(count - 1, max(0, place - 4 + self.below(9)))
        above = [place]
        while froms[above[-1]] is not None:
            above.append(froms[above[-1]])
        return self.one_of(above)

    def form(self, count, jumps=4, sums=3, deep=12):
        """A sound form of about so many statements; the greater jumps is, the more leaves, agains and ends it has."""
        self.number = self.below(10000)
        return self.statements(count, (), jumps, sums, deep)

    def statements(self, count, opened, jumps, sums, deep):
        """Opened are the lines of the rounds and parts within which the statements stand."""
        told = []
        while count > 0:
            kind = self.below(sums + 6) if deep else 0
            inner = self.below(count)
            if kind < sums:
                told.append(("sum", self.one_of(NAMES)) + self.asked(SUM_SIGNS))
                inner = 0
            elif kind < sums + 3:
                yes = self.below(inner + 1)
                lists = [self.statements(size, opened, jumps, sums, deep - 1) for size in (yes, inner - yes)]
                told.append(("choice",) + self.asked(TEST_SIGNS) + tuple(lists))
            else:
                self.number = (self.number + 3703) % 10000
                line = ("round" if self.below(2) else "part", self.number)
                told.append(line + (self.statements(inner, opened + (line,), jumps, sums, deep - 1),))
            count -= inner + 1
            if self.below(10) < (jumps if count <= 0 else jumps // 3):
                told.append(self.jump(opened))
        return told

    def jump(self, opened):
        """A leave or an again of one of the rounds and parts, the inner ones more often, or an end."""
        if not opened or not self.below(8):
            return ("end",)
        kind, number = opened[-1] if self.below(2) else self.one_of(opened)
        return ("again" if kind == "round" and self.below(2) else "leave", number)

    def sets_in_a_row(self, count):
        """The shape of so many sets on rings, one behind another, each come to by two nodes or more, and an end."""
        shape = []
        for turn in range(count):
            size, begin = 2 + self.below(4 if self.below(2) else 8), len(shape)
            plain = size > 4 or self.below(2)
            entered = sorted({self.below(size) for door in range(1 + self.below(3))} | {0, size - 1})
            first = begin + len(entered) - 1
            shape += led_to([first + door for door in entered], begin)
            leaving = self.below(size)
            for place in range(size):
                goals = [first + (place + 1) % size]
                goals += [first + size] if place == leaving else [] if plain else [first + self.below(size)]
                shape.append(tuple(goals))
        return shape + [()]


def drawn_graphs(seed, count, least=1, most=40, **settings):
    """So many graphs, of sizes between both bounds."""
    draw = Draw(seed)
    for turn in range(count):
        yield draw.graph(least + draw.below(most - least + 1), **settings)


def mixed_graphs(seed, count, least=1, most=40):
    """Graphs of several makings, in all so many: knotted ones, and ones that look more like programs."""
    draw = Draw(seed)
    for turn in range(count):
        yield draw.graph(least + draw.below(most - least + 1), 3 + draw.below(7), draw.below(3),
                         draw.one_of(["any", "near", "up", "mixed"]), 1 + draw.below(4))


def drawn_forms(seed, count, least=0, most=40):
    """So many sound forms, of about so many statements each."""
    draw = Draw(seed)
    for turn in range(count):
        yield draw.form(least + draw.below(most - least + 1), draw.below(10), 1 + draw.below(5), 1 + draw.below(14))


def every_form(count):
    """Each sound form of just so many statements, all sums and all tests alike, numbers in the order of their lines."""
    for form, number in every_list(count, (), (), 0):
        yield form


def every_list(count, rounds, parts, number):
    """Lists of statements within these rounds and parts, each with the next number that is free."""
    if count == 0:
        yield [], number
    for size in range(1, count + 1):
        for first, after in every_statement(size, rounds, parts, number):
            for rest, last in every_list(count - size, rounds, parts, after):
                yield [first] + rest, last


def every_statement(count, rounds, parts, number):
    if count == 1:
        plain = [("sum", "x", "x", "+", 1), ("end",)] + [("again", one) for one in rounds]
        for statement in plain + [("leave", one) for one in rounds + parts]:
            yield statement, number
    for size in range(count):
        for yes, after in every_list(size, rounds, parts, number):
            for no, last in every_list(count - 1 - size, rounds, parts, after):
                yield ("choice", "x", "<", 3, yes, no), last
    for body, last in every_list(count - 1, rounds + (number,), parts, number + 1):
        yield ("round", number, body), last
    for body, last in every_list(count - 1, rounds, parts + (number,), number + 1):
        yield ("part", number, body), last


def orderly_graphs(seed, count, least=1, most=40):
    """So many orderly graphs of several makings, those of drawn forms among them."""
    draw, told = Draw(seed), 0
    while told < count:
        size = least + draw.below(most - least + 1)
        if draw.below(3):
            kinds = (3 + draw.below(7), draw.below(3), draw.one_of(["on", "up", "near", "mixed", "on"]), 1 + draw.below(4))
            graph = draw.graph(size, *kinds)
        else:
            graph = plain_form_graph(draw.form(2 * size, draw.below(6), 1 + draw.below(4), 1 + draw.below(14)))
        if least <= len(graph) <= most and is_orderly(graph):
            told += 1
            yield graph


def every_graph(count):
    """Each shape of graph of just so many nodes, all of which can be come to, numbered as point [12] tells."""
    seen = set()
    kinds = [("end",), ("spin",)]
    kinds += [("sum", "x", "x", "+", 1, goal) for goal in range(count)]
    kinds += [("test", "x", "<", 3, yes, no) for yes in range(count) for no in range(count)]
    stack = [()]
    while stack:
        nodes = stack.pop()
        if len(nodes) < count:
            stack.extend(nodes + (kind,) for kind in kinds)
        else:
            graph = tuple(renumbered(nodes))
            if len(graph) == count and graph not in seen:
                seen.add(graph)
                yield list(graph)


def goals_of(node):
    return {"sum": node[5:], "test": node[4:], "end": (), "spin": ()}[node[0]]


def with_goals(node, goals):
    return node[:len(node) - len(goals)] + tuple(goals)


def renumbered(nodes, start=0):
    """The nodes that can be come to, numbered by the walk of point [12], as its words go."""
    been, finished = set(), []

    def walk(place):
        been.add(place)
        for goal in reversed(goals_of(nodes[place])):
            if goal not in been:
                walk(goal)
        finished.append(place)

    walk(start)
    order = finished[::-1]
    return [with_goals(nodes[place], [order.index(goal) for goal in goals_of(nodes[place])]) for place in order]


def come_to(graph, start=0, left_out=()):
    """All nodes that can be come to where some are left out."""
    found, left = set(), [start]
    while left:
        place = left.pop()
        if place not in found and place not in left_out:
            found.add(place)
            left.extend(goals_of(graph[place]))
    return found


def must(graph, one, other):
    """Whether the one must be come through to come to the other, by leaving it out."""
    return other not in come_to(graph, 0, (one,))


def is_orderly(graph):
    """Point [17] by its words."""
    return all(goal > place or must(graph, goal, place)
               for place, node in enumerate(graph) for goal in goals_of(node))


def sets_on_rings(graph, left_out=()):
    """The sets of nodes that lie on a ring together, as sorted lists."""
    places = [place for place in range(len(graph)) if place not in left_out]
    beyond = {}
    for place in places:
        beyond[place] = set()
        for goal in goals_of(graph[place]):
            beyond[place] |= come_to(graph, goal, left_out)
    return sorted({tuple(other for other in places if other in beyond[place] and place in beyond[other])
                   for place in places if place in beyond[place]})


def doors(graph, together):
    """The nodes of a set to which a way goes from outside of it, or at which the run begins."""
    reached = {goal for place, node in enumerate(graph) if place not in together for goal in goals_of(node)}
    return [place for place in together if place == 0 or place in reached]


def of_shape(shape):
    """A graph of the goals of its nodes: sums, tests and ends that can be told from one another."""
    kinds = {0: lambda place: ("end",), 1: lambda place: ("sum", "x", "x", "+", place),
             2: lambda place: ("test", "x", "<", place)}
    return renumbered([kinds[len(goals)](place) + tuple(goals) for place, goals in enumerate(shape)])


def padded(shape, count):
    """The shape behind so many sums."""
    return [(place + 1,) for place in range(count)] + [tuple(goal + count for goal in goals) for goals in shape]


def led_to(doors, place):
    """Tests, of which the first has that place, that lead to all the doors; one fewer than doors."""
    shape = [(door, place + turn + 1) for turn, door in enumerate(doors[:-1])]
    shape[-1] = (doors[-2], doors[-1])
    return shape


def is_way(graph, nodes):
    return all(after in goals_of(graph[before]) for before, after in zip(nodes, nodes[1:]))


def exact(value):
    """A text that tells values and kinds, so that True is not 1 and a tuple is not a list; a dict's order is free."""
    if isinstance(value, dict):
        return "{" + ", ".join(f"{key!r}: {exact(value[key])}" for key in sorted(value, key=repr)) + "}"
    if isinstance(value, (list, tuple)):
        inner = ", ".join(exact(thing) for thing in value)
        return f"[{inner}]" if isinstance(value, list) else f"({inner},)" if len(value) == 1 else f"({inner})"
    return repr(value)


def kept_things(value):
    """The lists and dicts in a value, however deep."""
    inner = list(value.values()) if isinstance(value, dict) else value if isinstance(value, (list, tuple)) else []
    found = [value] if isinstance(value, (list, dict)) else []
    for thing in inner:
        found += kept_things(thing)
    return found


def check_fresh(case, function, *given):
    """Point [2]: what is given stays, what is told is the same each time and made anew, and may be changed."""
    before = copy.deepcopy(given)
    one, other = function(*given), function(*given)
    told = exact(one)
    case.assertEqual(told, exact(other))
    case.assertEqual(exact(given), exact(before))
    things = [kept_things(one), kept_things(other), kept_things(given)]
    owners = {}
    for owner, found in enumerate(things):
        for thing in found:
            case.assertEqual(owners.setdefault(id(thing), owner), owner, "a list or dict is shared")
    for thing in kept_things(one):
        thing.clear()
    case.assertEqual(exact(other), told)
    case.assertEqual(exact(given), exact(before))
    case.assertEqual(exact(function(*given)), told)


def plain_worth(operand, memory):
    return memory.get(operand, 0) if isinstance(operand, str) else operand


def plain_made(sign, a, b):
    """The sum, or None where it is refused; numbers below nought by the words of point [4]."""
    if sign in ("/", "rest"):
        if b == 0:
            return None
        rest = a - b * (a // b)
        return rest if sign == "rest" else (a - rest) // b
    return {"+": a + b, "-": a - b, "&": a & b, "^": (a | b) - (a & b)}[sign]


def plain_run(rows, memory, most):
    """Point [9], row by row."""
    memory, deeds, place, jumps = dict(memory), [], 0, 0
    places = {row[0]: place for place, row in enumerate(rows)}
    while True:
        row = rows[place]
        if row[1] == "end":
            return deeds, "end", memory
        if row[1] == "jump":
            place, jumps = places[row[2]], jumps + 1
            if jumps > len(rows):
                return deeds, "on", memory
            continue
        if len(deeds) == most:
            return deeds, "on", memory
        jumps = 0
        one, sign, other = row[-3:] if row[1] == "sum" else row[2:5]
        a, b = plain_worth(one, memory), plain_worth(other, memory)
        place += 1
        if row[1] == "test":
            truth = a < b if sign == "<" else a == b
            deeds.append(("test", a, sign, b, truth))
            place = places[row[5]] if truth else place
        else:
            made = plain_made(sign, a, b)
            if made is None:
                return deeds, "fault", memory
            deeds.append(("sum", row[2], a, sign, b, made))
            memory[row[2]] = made


def plain_graph(rows):
    """Points [11] and [12], without the bound of [13]: rows as nodes, a ring of jumps by its least row."""
    places = {row[0]: place for place, row in enumerate(rows)}

    def lands(place):
        passed = []
        while rows[place][1] == "jump":
            if place in passed:
                return min(passed[passed.index(place):])
            passed.append(place)
            place = places[rows[place][2]]
        return place

    nodes = []
    for place, row in enumerate(rows):
        if row[1] == "sum":
            nodes.append(("sum",) + row[2:] + (lands(place + 1),))
        elif row[1] == "test":
            nodes.append(("test",) + row[2:5] + (lands(places[row[5]]), lands(place + 1)))
        else:
            nodes.append(("end",) if row[1] == "end" else ("spin",))
    return renumbered(nodes, lands(0))


def lists_of(statement):
    """The lists of statements that stand in a statement itself."""
    return {"choice": statement[4:], "round": statement[2:], "part": statement[2:]}.get(statement[0], ())


def all_statements(statements):
    """All statements, however deep, in the order of the text."""
    told = []
    for statement in statements:
        told.append(statement)
        for inner in lists_of(statement):
            told += all_statements(inner)
    return told


def lists_within(statements):
    """How many lists stand within one another, the one that is given among them."""
    return 1 + max([lists_within(inner) for statement in statements for inner in lists_of(statement)], default=0)


def plain_form_lines(statements, ahead=""):
    """Point [25], statement by statement."""
    told = []
    for statement in statements:
        kind, rest = statement[0], statement[1:]
        if kind == "sum":
            told.append(f"{ahead}{rest[0]} = {rest[1]} {rest[2]} {rest[3]}")
        elif kind == "choice":
            told.append(f"{ahead}if {rest[0]} {rest[1]} {rest[2]}")
            told += plain_form_lines(rest[3], ahead + "  ")
            told += [ahead + "else"] + plain_form_lines(rest[4], ahead + "  ") if rest[4] else []
            told.append(ahead + "done")
        elif kind in ("round", "part"):
            told += [f"{ahead}{kind} {rest[0]}"] + plain_form_lines(rest[1], ahead + "  ") + [ahead + "done"]
        else:
            told.append(ahead + " ".join([kind] + [str(number) for number in rest]))
    return told


def plain_sound(form):
    """Point [23]."""
    numbers = [statement[1] for statement in all_statements(form) if statement[0] in ("round", "part")]
    if len(numbers) != len(set(numbers)) or any(number not in range(10000) for number in numbers):
        return False

    def keeps(statements, rounds, parts):
        for statement in statements:
            inner = (rounds, parts)
            if statement[0] == "leave" and statement[1] not in rounds + parts:
                return False
            if statement[0] == "again" and statement[1] not in rounds:
                return False
            if statement[0] == "round":
                inner = (rounds + [statement[1]], parts)
            if statement[0] == "part":
                inner = (rounds, parts + [statement[1]])
            if not all(keeps(within, *inner) for within in lists_of(statement)):
                return False
        return True

    return keeps(form, [], [])


class Stopped(Exception):
    """A run of a form that is over, with its word."""


def plain_run_form(form, memory, most):
    """Point [24] by the words of point [22]; a body that is begun twice without a deed between goes on for ever."""
    memory, deeds, begun = dict(memory), [], set()

    def do_test(one, sign, other):
        if len(deeds) == most:
            raise Stopped("on")
        a, b = plain_worth(one, memory), plain_worth(other, memory)
        deeds.append(("test", a, sign, b, a < b if sign == "<" else a == b))
        return deeds[-1][4]

    def do_sum(name, one, sign, other):
        if len(deeds) == most:
            raise Stopped("on")
        a, b = plain_worth(one, memory), plain_worth(other, memory)
        if plain_made(sign, a, b) is None:
            raise Stopped("fault")
        memory[name] = plain_made(sign, a, b)
        deeds.append(("sum", name, a, sign, b, memory[name]))

    def do_round(number, body):
        while True:
            if (number, len(deeds)) in begun:
                raise Stopped("on")
            begun.add((number, len(deeds)))
            gone = do_all(body)
            if gone not in (None, ("again", number)):
                return None if gone == ("leave", number) else gone

    def do_all(statements):
        """Does statements; tells the leave or the again that goes out of them, or None."""
        for statement in statements:
            gone = None
            if statement[0] == "sum":
                do_sum(*statement[1:])
            elif statement[0] == "choice":
                gone = do_all(statement[4] if do_test(*statement[1:4]) else statement[5])
            elif statement[0] == "round":
                gone = do_round(*statement[1:])
            elif statement[0] == "part":
                gone = do_all(statement[2])
                gone = None if gone == ("leave", statement[1]) else gone
            elif statement[0] == "end":
                raise Stopped("end")
            else:
                gone = statement
            if gone:
                return gone

    try:
        do_all(form)
        return deeds, "end", memory
    except Stopped as stopped:
        return deeds, stopped.args[0], memory


def nested(lists, kinds=("round", "choice", "part"), innermost=()):
    """A form of so many lists within one another, of these kinds by turns; sums stand ahead of and behind each."""
    form = list(innermost)
    for depth in range(lists - 2, -1, -1):
        kind = kinds[depth % len(kinds)]
        if kind == "yes":
            form = [("choice", "x", "<", depth, form, [])]
        elif kind == "choice":
            form = [("choice", "x", "<", depth, [("sum", "x", "x", "+", 1)], form)]
        else:
            form = [(kind, depth, form)]
        form = [("sum", "y", "y", "+", depth)] + form if depth % 7 == 3 else form
    return form


def plain_steps(form):
    """What is done next, by the words of point [22]: for the form's begin, and for each sum, choice and end in it.

    Told are tuples of goals, one for each way. A goal is (begins, place): the numbers of the rounds whose begins are come
    to on the way, and how many sums, choices and ends stand ahead of what is done; "last" where the run ends behind the
    last statement; and where nothing is done any more the frozenset of the begins that are come to again and again.
    """
    count = iter(range(10 ** 6))

    def counted(statements):
        return [(next(count) if statement[0] in ("sum", "choice", "end") else None, statement,
                 [counted(inner) for inner in lists_of(statement)]) for statement in statements]

    def go(items, place, behind, known, passed):
        if place == len(items):
            return behind(passed)
        number, (kind, *rest), inner = items[place]
        if number is not None:
            return (passed, number)
        if kind in ("leave", "again"):
            return known[(kind, rest[0])](passed)
        after, begin, more = opened(items, place, behind, known)
        return begin(passed)

    def opened(items, place, behind, known):
        number, (kind, *rest), inner = items[place]

        def after(passed):
            return go(items, place + 1, behind, known, passed)

        def begin(passed):
            if kind == "round" and rest[0] in passed:
                return (passed, frozenset(passed[passed.index(rest[0]):]))
            passed = passed + [rest[0]] if kind == "round" else passed
            return go(inner[0], 0, begin if kind == "round" else after, more, passed)

        more = {**known, ("leave", rest[0]): after, ("again", rest[0]): begin} if kind in ("round", "part") else known
        return after, begin, more

    def visit(items, behind, known):
        for place, (number, statement, inner) in enumerate(items):
            after, begin, more = opened(items, place, behind, known) if len(statement) > 1 else (None, None, known)
            if statement[0] == "sum":
                steps[number] = (after([]),)
            if statement[0] == "end":
                steps[number] = ()
            if statement[0] == "choice":
                steps[number] = tuple(go(within, 0, after, known, []) for within in inner)
            for within in inner:
                visit(within, begin if statement[0] == "round" else after, more)

    def finish(passed):
        return (passed, "last")

    steps, items = {}, counted(form)
    visit(items, finish, {})
    return go(items, 0, finish, {}, []), [steps[number] for number in range(len(steps))]


def plain_form_graph(form):
    """The graph of a form's rows, without its rows."""
    start, steps = plain_steps(form)
    told = [statement for statement in all_statements(form) if statement[0] in ("sum", "choice", "end")]
    goals = sorted({place for begins, place in [start] + [goal for step in steps for goal in step]}, key=str)
    keys = list(range(len(told))) + [goal for goal in goals if goal == "last" or isinstance(goal, frozenset)]
    nodes = []
    for key in keys:
        if isinstance(key, int):
            statement = ("test",) + told[key][1:4] if told[key][0] == "choice" else told[key]
            nodes.append(statement + tuple(keys.index(place) for begins, place in steps[key]))
        else:
            nodes.append(("end",) if key == "last" else ("spin",))
    return renumbered(nodes, keys.index(start[1]))


def has_within(statements, line):
    """Whether a leave or an again stands somewhere in the statements."""
    return line in all_statements(statements)


def goes_on(statements):
    """Whether one goes on behind a list, by the words of point [28]."""
    if statements == []:
        return True
    kind, *rest = statements[-1]
    if kind == "choice":
        return goes_on(rest[3]) or goes_on(rest[4])
    if kind == "round":
        return has_within(rest[1], ("leave", rest[0]))
    if kind == "part":
        return has_within(rest[1], ("leave", rest[0])) or goes_on(rest[1])
    return kind == "sum"


def at_tail(statements):
    """What stands at the tail of a list."""
    if statements == []:
        return []
    last = statements[-1]
    return [last] + (at_tail(last[4]) + at_tail(last[5]) if last[0] == "choice" else [])


def all_lists(statements):
    """The list itself, and all within."""
    return [statements] + [inner for statement in all_statements(statements) for inner in lists_of(statement)]


def untidy(form):
    """What of point [28] doesn't hold, as a list of words."""
    faults = []
    for statements in all_lists(form):
        if any(not goes_on(statements[:count]) for count in range(1, len(statements))):
            faults.append("behind")
    numbers = []
    for kind, *rest in all_statements(form):
        if kind in ("round", "part"):
            numbers.append(rest[0])
        if kind == "part":
            faults += [] if has_within(rest[1], ("leave", rest[0])) else ["part without a leave"]
            faults += ["leave at the tail"] if ("leave", rest[0]) in at_tail(rest[1]) else []
            faults += ["part of a round"] if [inner[0] for inner in rest[1]] == ["round"] else []
        if kind == "round":
            again = goes_on(rest[1]) or has_within(rest[1], ("again", rest[0]))
            faults += [] if again else ["round without again"]
            faults += ["again at the tail"] if ("again", rest[0]) in at_tail(rest[1]) else []
    return faults + ([] if numbers == list(range(len(numbers))) else ["numbers"])


def count_kinds(form):
    """How many statements of each kind a form has."""
    kinds = [statement[0] for statement in all_statements(form)]
    return {kind: kinds.count(kind) for kind in ("sum", "choice", "round", "part", "leave", "again", "end")}
