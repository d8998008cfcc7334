"""Rows: what stands in them, piece by piece."""

# The sorts of the pieces behind each row's word: a spot, an operand, a sign, the name N, the called function's name,
# args, a row to jump to.
SORTS = {
    "put": ("spot", "operand"), "set": ("spot", "sign", "operand", "operand"), "fill": ("spot", "operand"),
    "copy": ("spot", "spot"), "move": ("spot", "spot"), "drop": ("spot",), "lend": ("name", "spot"),
    "sole": ("name", "spot"), "call": ("name", "function", "args"), "if": ("operand", "operand", "row"),
    "go": ("row",), "say": ("operand",), "give": ("name",),
}


# None where there is no row of this word.
def sorts_of(word):
    return SORTS.get(word)


def pieces(row):
    return list(zip(SORTS[row[0]], row[1:]))


def operands(row):
    return [thing for sort, thing in pieces(row) if sort == "operand"]


def names_in(row):
    told = []
    for sort, thing in pieces(row):
        told.extend(names_of(sort, thing))
    return told


def names_of(sort, thing):
    if sort == "name":
        return [thing]
    if sort == "args":
        return list(thing)
    return names_of_spot(thing) if sort in ("spot", "operand") else []


# Of an operand that is a number there are none.
def names_of_spot(thing):
    if not isinstance(thing, tuple):
        return []
    return [name for name in (thing[0], thing[3]) if isinstance(name, str)]


def changes(row, owner):
    if row[0] in ("put", "set", "fill", "copy", "drop"):
        return row[1][0] == owner
    if row[0] == "move":
        return owner in (row[1][0], row[2][0])
    return row[0] == "call" and row[1] == owner
