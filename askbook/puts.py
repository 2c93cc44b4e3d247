"""What is put for stand-ins: numbers, or terms of another asking."""


def put_in(terms, put):
    return tuple([put[term] if isinstance(term, str) else term for term in terms])


def put_further(put, terms, becoming):
    # What is put already stays; None if nothing put beside it makes the terms
    # what they are to become. A new dict, so that a search can step back.
    if len(terms) != len(becoming):
        return None
    further = dict(put)
    for term, wanted in zip(terms, becoming):
        had = further.setdefault(term, wanted) if isinstance(term, str) else term
        if had != wanted:
            return None
    return further
