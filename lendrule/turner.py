"""The turner: turns a program as long as there is a good paper of the rules that leave less to do."""

from lendrule.papers import against, turned

RULES = ("again", "known", "over", "back", "unread")


# Papers of one function lean on its own rows alone: so each is turned to its end ahead of the next one.
def turner(program):
    here = program
    papers = []
    for at in range(len(program)):
        paper = good_paper(here, at)
        while paper is not None:
            papers.append(paper)
            here = turned(here, paper)
            paper = good_paper(here, at)
    return (here, papers)


def good_paper(program, at):
    for paper in papers_to_try(program[at][4], at):
        if against(program, paper) == []:
            return paper
    return None


# Each of the rules speaks of rows that are puts or sets, the second one not ahead of the first.
def papers_to_try(rows, at):
    places = [k for k, row in enumerate(rows) if row[0] in ("put", "set")]
    told = []
    for i in places:
        for j in places:
            if i <= j:
                told.extend([(rule, at, i, j) for rule in RULES])
    return told
