"""Rows of deeds done to a book."""

from turnsums.errors import BadDeed

# How many parts a deed of each word has, the word among them.
SIZES = {"plan_for": 3, "turned": 3, "learn": 3, "forget": 3, "retable": 2}


def is_deed(thing):
    """Whether a thing is a tuple of a deed's word and as many parts as it takes."""
    # A word may be anything, also what can't be looked up.
    if not isinstance(thing, tuple) or not thing or not isinstance(thing[0], str):
        return False
    return thing[0] in SIZES and len(thing) == SIZES[thing[0]]


def check_deeds(deeds):
    """BadDeed(place) of the first that is none."""
    for place, deed in enumerate(deeds):
        if not is_deed(deed):
            raise BadDeed(place)


def do_one(book, deed):
    """Does one deed; what it tells, refused as it is."""
    word = deed[0]
    if word == "plan_for":
        return book.plan_for(deed[1], deed[2])
    if word == "turned":
        return book.turned(deed[1], deed[2])
    if word == "learn":
        return book.learn(deed[1], deed[2])
    if word == "forget":
        return book.forget(deed[1], deed[2])
    return book.retable(deed[1])


def do(book, deeds):
    """Does all deeds, one behind the other; the list of what they tell; BadDeed(place), and as each is refused."""
    check_deeds(deeds)
    told = []
    done = 0
    book.working += 1
    book.events.append(("in", len(deeds)))
    try:
        for deed in deeds:
            told.append(do_one(book, deed))
            book.events.append(deed[0])
            done += 1
    finally:
        # Also where one is refused: the log has both ends, and the book is open again.
        book.events.append(("out", done))
        book.working -= 1
    return told
