"""The desk: what is answered to a text."""

from lendrule.claims import refusals
from lendrule.errors import Misfit, NoText
from lendrule.plain import played
from lendrule.reader import read
from lendrule.turner import turner


def answer(text, inputs, most=400):
    try:
        program = read(text)
    except NoText:
        return ("unread", [])
    except Misfit:
        return ("misfit", [])
    refused = refusals(program)
    if refused != []:
        return ("refused", [show_refusal(program, at, claim) for at, claim in refused])
    told = played(turner(program)[0], inputs, most)
    return (told[0], told[1])


# The claim's meet is the place of its act's row in the way.
def show_refusal(program, at, claim):
    way = claim[7]
    return (program[at][0], claim[0], way[claim[6]], claim[2], way)
