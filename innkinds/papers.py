"""The papers of a night: each has a number, and no fewer guests than that are moved."""

from innkinds.houses import first_room
from innkinds.needs import lacking


def not_driven_out(rooms, wants, ahead):
    """The guests whose rooms ahead are among rooms: a dict from their numbers to these rooms."""
    return {number: ahead[number] for number in wants
            if number in ahead and ahead[number] in rooms}


def in_the_way(counts, wants, staying, kind):
    """Those of the staying (numbers to rooms) who want less than a kind and have it or better."""
    start = first_room(counts, kind)
    return [number for number, room in staying.items() if room >= start and wants[number] < kind]


def paper_number(counts, rooms, wants, ahead, paper):
    """The number of a paper: however the wants get rooms, no fewer guests are moved."""
    guests = [number for number in wants if number in ahead]
    staying = not_driven_out(rooms, wants, ahead)
    total = len(guests) - len(staying)
    standing = []
    for kind in paper:
        total += lacking(counts, rooms, wants, kind)
        standing.extend(in_the_way(counts, wants, staying, kind))
    # One move makes way for several kinds, so whoever stands in their way counts once.
    return total + len(set(standing))


def greatest_paper(counts, rooms, wants, ahead, papers):
    """The first one of the papers with the greatest number."""
    return max(papers, key=lambda paper: paper_number(counts, rooms, wants, ahead, paper))


def best_paper(counts, rooms, wants, ahead):
    """A rising list of kinds of which no other paper has a greater number."""
    # Whoever stands in the way of a kind and of a lesser one stands in the way of all between. So
    # what a kind adds to a paper depends on the paper's last kind alone, and of the papers with
    # the same last kind the best one will do.
    papers = [[]]
    for kind in range(len(counts)):
        longer = [[*paper, kind] for paper in papers]
        papers.append(greatest_paper(counts, rooms, wants, ahead, longer))
    return greatest_paper(counts, rooms, wants, ahead, papers)
