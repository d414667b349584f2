"""Turnings, the plain way: each tells a refusal (word, part, at), or (program, places taken, there, back)."""

from plaintrees import PlainTrees, laid, of_rows
from turnsame.words import is_name


def taken_by(changes):
    return {(part, at + more) for part, at, many, _ in changes for more in range(many)}


def told(program, changes, there=(), back=()):
    return laid(program, changes), taken_by(changes), tuple(there), tuple(back)


def least(word, places):
    return (word,) + min(places) if places else None


def put_plainly(program, place, k, name, number):
    trees = PlainTrees(program)
    if place not in trees.functions or not is_name(name) or not -32768 <= number <= 32767:
        return ("name",) + place
    first, last, params, body = trees.forms[place]
    if k not in range(len(params) + 1):
        return ("name",) + place
    part, at = place
    if trees.word((part, at - 1)) == "open":
        return ("open",) + place
    used = [spot for spot in params if trees.word(spot) == name] + [place] * (len(params) == 4)
    if used:
        return least("used", used)
    changes = [(part, at + 2 + k, 0, name)]
    for call in trees.calls_of(place):
        changes.append((call.part, call.kids[k].first if k < len(params) else call.last, 0, str(number)))
    return told(program, changes, back=[("param", trees.functions.index(place), k)])


def take_plainly(program, place):
    trees = PlainTrees(program)
    forms = [form for form in trees.functions if place in trees.forms[form][2]]
    if not forms:
        return ("name",) + place
    form, = forms
    k = trees.forms[form][2].index(place)
    if trees.word((form[0], form[1] - 1)) == "open":
        return ("open",) + form
    used = [spot for spot, thing in trees.meant.items() if thing == place and spot != place]
    if used:
        return least("used", used)
    things = [call.kids[k] for call in trees.calls_of(form)]
    restless = [thing.place for thing in things if not trees.idle(thing)]
    if restless:
        return least("deed", restless)
    outer = [one for one in things if not any(other is not one and other.has(one.place) for other in things)]
    changes = [place + (1, "")] + [(one.part, one.first, one.last - one.first + 1, "") for one in outer]
    return told(program, changes, there=[("param", trees.functions.index(form), k)])


def field_plainly(program, place, k):
    trees = PlainTrees(program)
    part = place[0]
    records = [spot for spot in trees.records if spot[0] == part and spot[1] < place[1] < trees.forms[spot][1]]
    if not records:
        return ("name",) + place
    record, = records
    fields = [(part, at) for at in range(record[1] + 1, trees.forms[record][1])]
    number = fields.index(place)
    if k not in range(len(fields)):
        return ("name",) + place
    if k == number:
        return program, set(), (), ()
    order = [one for one in range(len(fields)) if one != number]
    order[k:k] = [number]
    news = trees.news_of(record)
    for new in news:
        restless = [kid.place for kid in new.kids if not trees.calm(kid)]
        if len(restless) > 1:
            return ("deed",) + restless[1]
    # Places in their new order: each row is told in whole, so that inner ones go with outer ones.
    rows = [[(number, at) for at in range(len(row))] for number, row in enumerate(trees.rows)]

    def places_then(first, last, own):
        at, out = first, []
        inner = [new for new in news if new.part == own and first <= new.first <= last]
        inner = [new for new in inner if not any(new is not one and one.has(new.place) for one in inner)]
        for new in inner:
            out += [(own, spot) for spot in range(at, new.kids[0].first)]
            for one in order:
                out += kid_then(new.kids[one])
            at = new.last
        return out + [(own, spot) for spot in range(at, last + 1)]

    def kid_then(kid):
        return places_then(kid.first, kid.last, kid.part)

    rows = [places_then(0, len(row) - 1, number) for number, row in enumerate(trees.rows)]
    at = rows[part].index(fields[0])
    rows[part][at:at + len(fields)] = [fields[one] for one in order]
    tokens = [[trees.rows[own][spot] for own, spot in row] for row in rows]
    moved = {fields[number]} | {(new.part, spot) for new in news for spot in range(new.kids[number].first, new.kids[number].last + 1)}
    return of_rows(program, tokens), moved, (("fields", trees.records.index(record), tuple(order)),), ()


def step_of(trees, word, expr, *more):
    return (word, trees.functions.index(expr.form), expr.path()) + more


def count(expr):
    return expr.last - expr.first + 1


def change(trees, expr, text):
    return (expr.part, expr.first, count(expr), trees.gap(expr) + text)


def draw_plainly(program, place, name):
    trees = PlainTrees(program)
    piece = trees.exprs.get(place)
    if piece is None or not is_name(name):
        return ("name",) + place
    tables = trees.names.functions
    part = place[0]
    if name in tables[part]:
        return ("used",) + tables[part][name]
    shaded = []
    for spot, thing in trees.meant.items():
        if thing in trees.functions and spot != thing and trees.word(spot) == name:
            # It is meant first by its own part, else by the first one.
            if spot[0] == part or name not in tables[spot[0]] and part < thing[0]:
                shaded.append(spot)
    sets = [spot for spot, _ in trees.sets_in(piece)]
    if shaded or sets:
        return least("shade", shaded) or least("set", sets)
    params = []
    for spot, _ in trees.outer(piece):
        if trees.word(spot) not in params:
            params.append(trees.word(spot))
    form = f"\n(function {name} ({' '.join(params)}) {trees.signs(piece)})"
    changes = [change(trees, piece, f"({' '.join([name] + params)})"), (part, trees.forms[piece.form][1] + 1, 0, form)]
    spreads = [step_of(trees, "spread", piece)] * len(params)
    lose = ("lose", trees.functions.index(piece.form) + 1)
    return told(program, changes, back=[step_of(trees, "unfold", piece)] + spreads + [lose])


def flip_plainly(program, place):
    trees = PlainTrees(program)
    expr = trees.exprs.get(place)
    if expr is None or expr.word != "if":
        return ("name",) + place
    test, one, other = expr.kids
    is_not = test.word == "not"
    text = trees.signs(test.kids[0]) if is_not else f"(not {trees.signs(test)})"
    changes = [change(trees, test, text), change(trees, one, trees.signs(other)), change(trees, other, trees.signs(one))]
    steps = [step_of(trees, "flip", expr)]
    return told(program, changes, there=steps if is_not else (), back=() if is_not else steps)


def part_plainly(program, place, k):
    trees = PlainTrees(program)
    expr = trees.exprs.get(place)
    if expr is None or expr.word != "each" or expr.kids[1].word != "do" or k not in range(1, len(expr.kids[1].kids)):
        return ("name",) + place
    over, do = expr.kids
    sides = do.kids[:k], do.kids[k:]
    sets = []
    for side, across in (sides, sides[::-1]):
        barred = set(trees.reads(over)).union(*[trees.reads(one) | trees.sets(one) for one in across])
        sets += [spot for one in side for spot, thing in trees.sets_in(one) if thing in barred]
    if sets:
        return least("set", sets)
    if not trees.idle(over):
        return ("deed",) + over.place
    ahead, rest = [[one.place for one in side if not trees.quiet(one)] for side in sides]
    if ahead and rest:
        return ("deed",) + rest[0]
    x = trees.word((expr.part, expr.first + 2))
    changes = [place + (0, " (do"), (expr.part, do.kids[k].first, 0, f")) (each {x} {trees.signs(over)} (do"),
               (expr.part, expr.last + 1, 0, ")")]
    return told(program, changes, there=[step_of(trees, "part", expr, k)])


def name_plainly(program, place, name):
    trees = PlainTrees(program)
    piece = trees.exprs.get(place)
    if piece is None or not is_name(name):
        return ("name",) + place
    around = piece.parent
    if around is None:
        changes = [change(trees, piece, f"(let {name} {trees.signs(piece)} {name})")]
        return told(program, changes, back=[step_of(trees, "now", piece)])
    used = [spot for spot, thing in trees.outer(piece) if thing in around.bound]
    if used:
        return least("used", used)
    shaded = [spot for spot, _ in trees.outer(around) if not piece.has(spot) and trees.word(spot) == name]
    if piece.sees_bound() and name in [trees.word(spot) for spot in around.bound]:
        shaded.append(place)
    if shaded:
        return least("shade", shaded)
    first = any(one is piece for one in trees.first_spots(around, piece))
    if not first and not trees.calm(piece):
        if not trees.idle(piece):
            return ("deed",) + place
        sets = [spot for spot, thing in trees.sets_in(around) if thing in trees.reads(piece)]
        if sets:
            return least("set", sets)
    changes = [around.place + (0, f" (let {name} {trees.signs(piece)}"), change(trees, piece, name),
               (around.part, around.last + 1, 0, ")")]
    return told(program, changes, back=[step_of(trees, "now" if first else "spread", around)])


def spread_plainly(program, place):
    trees = PlainTrees(program)
    expr = trees.exprs.get(place)
    if expr is None or expr.word != "let":
        return ("name",) + place
    thing, body = expr.kids
    x, = expr.bound
    spots = sorted(spot for spot, meant in trees.meant.items() if meant == x and spot != x)
    shaded = []
    for spot in spots:
        # All that is bound between the let and the name, by name.
        between, one = [], trees.exprs[spot]
        while one is not body:
            between += one.parent.bound if one.sees_bound() else []
            one = one.parent
        names = [trees.word(binder) for binder in between]
        if any(trees.word(inner) in names for inner, _ in trees.outer(thing)):
            shaded.append(spot)
    if shaded:
        return least("shade", shaded)
    in_fun = any(one.word == "fun" and any(one.has(spot) for spot in spots) for one in body.everything())
    apart = not trees.reads(thing) & trees.sets(body)
    can_spread = trees.calm(thing) or trees.idle(thing) and apart and not in_fun
    firsts = [body] if body.place in spots else trees.first_spots(body, x)
    can_now = len(spots) == 1 and spots[0] in [one.place for one in firsts]
    if not can_spread and not can_now:
        sets = [spot for spot, meant in trees.sets_in(body) if meant in trees.reads(thing)]
        return least("set", sets) if trees.idle(thing) and sets else ("deed",) + thing.place
    changes = [place + (thing.last - expr.first + 1, ""), (expr.part, expr.last, 1, "")]
    changes += [change(trees, trees.exprs[spot], trees.signs(thing)) for spot in spots]
    return told(program, changes, there=[step_of(trees, "spread" if can_spread else "now", expr)])


def inplace_plainly(program, place):
    trees = PlainTrees(program)
    call = trees.exprs.get(place)
    if call is None or call.word != "call":
        return ("name",) + place
    if trees.word((call.called[0], call.called[1] - 1)) == "deep":
        return ("deep",) + place
    _, _, params, body = trees.forms[call.called]
    names = [trees.word(param) for param in params]
    shaded = [spot for k, kid in enumerate(call.kids) for spot, _ in trees.outer(kid) if trees.word(spot) in names[:k]]
    for spot, thing in trees.meant.items():
        if body.has(spot) and thing in trees.functions + trees.records:
            tables = trees.names.functions if thing in trees.functions else trees.names.records
            found = [table[trees.word(spot)] for table in [tables[call.part]] + tables if trees.word(spot) in table]
            if found[0] != thing:
                shaded.append(spot)
    if shaded:
        return least("shade", shaded)
    text = "".join(f"(let {name} {trees.signs(kid)} " for name, kid in zip(names, call.kids)) + trees.signs(body) + ")" * len(names)
    return told(program, [change(trees, call, text)], there=[step_of(trees, "unfold", call)])
