"""Rows and recipes that are done with terms, over a heap of terms."""

from backframes.values import OPERATIONS


def blank_term(terms, kind):
    """The term of what a variable of a kind holds as long as nothing is put there."""
    return terms.constant(0) if kind == "number" else terms.nil()


def operated_term(terms, heap, word, one, other):
    """The number term of an operation; which objects are the same is known by the heap."""
    return heap.same(one, other) if word == "same" else terms.made(word, one, other)


def recipe_term(terms, heap, recipe, registers, unmade):
    """The term that a recipe tells, with the terms of registers and of unmade objects."""
    word = recipe[0]
    if word in OPERATIONS:
        one = recipe_term(terms, heap, recipe[1], registers, unmade)
        return operated_term(terms, heap, word, one, recipe_term(terms, heap, recipe[2], registers, unmade))
    if word == "in":
        return registers[recipe[1]]
    if word == "unmade":
        return unmade[recipe[1]]
    return terms.constant(recipe[1]) if word == "number" else terms.nil()


def do_term_row(terms, heap, row, held):
    """Do a row that goes on to the next one, on a dict of the terms of variables or registers."""
    word = row[0]
    if word == "number":
        held[row[1]] = terms.constant(row[2])
    elif word == "nil":
        held[row[1]] = terms.nil()
    elif word == "copy":
        held[row[1]] = held[row[2]]
    elif word in OPERATIONS:
        held[row[1]] = operated_term(terms, heap, word, held[row[2]], held[row[3]])
    elif word == "new":
        held[row[1]] = heap.new_object(row[2], {})
    elif word == "get":
        held[row[1]] = heap.get(held[row[2]], row[3])
    elif word == "put":
        heap.put(held[row[1]], row[2], held[row[3]])
    elif word == "see":
        heap.see(held[row[1]])
    else:
        held[row[1]] = heap.called(row[2], [held[name] for name in row[3]])


def blank_objects(heap, told):
    """New known objects of the classes that are told, by their numbers or names."""
    return {name: heap.new_object(told[name][0], {}) for name in sorted(list(told))}


def fill_objects(terms, heap, told, registers, objects):
    """Write to the fields of new objects what recipes tell; all objects are there, as recipes may refer to any."""
    for name in objects:
        recipes = told[name][1]
        for field in recipes:
            heap.put(objects[name], field, recipe_term(terms, heap, recipes[field], registers, objects))
