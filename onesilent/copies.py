"""New lists and dicts in the place of those that others keep."""


def renewed(thing, most):
    """Tell a thing with new lists and dicts in the place of all in it; as it is if it holds more than is passed."""
    waiting = [(thing, None)]
    done = []
    seen = 0
    while waiting:
        item, size = waiting.pop()
        if size is None:
            seen += 1
            # The memories of machines that keep all they heard grow beyond any bound, though they are small to hold.
            if seen > most:
                return thing
            held = _held(item)
            waiting.append((item, len(held)))
            waiting.extend([(each, None) for each in reversed(held)])
        else:
            place = len(done) - size
            done[place:] = [_made(item, done[place:])]
    return done[0]


def holds_loose(thing, most):
    """Tell whether a list or a dict is in a thing, looking at so many things in it."""
    waiting = [thing]
    seen = 0
    while waiting and seen <= most:
        item = waiting.pop()
        if type(item) in (list, dict):
            return True
        if type(item) is tuple:
            seen += len(item)
            waiting.extend(item)
    return False


def _held(thing):
    """List what a list, a tuple or a dict holds."""
    if type(thing) is dict:
        return list(thing.values())
    return list(thing) if type(thing) in (list, tuple) else []


def _made(thing, held):
    """Tell a thing like this one that holds these; the thing itself if it is no list, tuple or dict."""
    if type(thing) is dict:
        return {key: each for key, each in zip(list(thing), held)}
    if type(thing) is list:
        return held
    return tuple(held) if type(thing) is tuple else thing
