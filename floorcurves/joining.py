"""Things put together pair by pair: which of them hang together, and how many sets they fall into."""


def gathered(things, pairs):
    # Each thing is told with the one that stands for its set.
    standing = {}
    for thing in things:
        standing[thing] = thing
    for one, other in pairs:
        kept = standing[one]
        left = standing[other]
        for thing in things:
            if standing[thing] == left:
                standing[thing] = kept
    return standing


def how_many_sets(things, pairs):
    standing = gathered(things, pairs)
    return len([thing for thing in things if standing[thing] == thing])
