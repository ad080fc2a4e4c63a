"""Windows of time: from a time to another one, which does not belong to the window any more."""


def windows_of(window, times):
    """Return the windows in which one of the times of an ascending list lies, ascending."""
    if window[0] == "session":
        return sessions_of(window[1], times)
    size = window[1]
    slide = window[2] if window[0] == "hop" else size
    begins = sorted({begin for time in times for begin in begins_of(size, slide, time)})
    return [(begin, begin + size) for begin in begins]


def begins_of(size, slide, time):
    """Return the begins of the windows of this size in which a time lies; each is a multiple of slide."""
    latest = time // slide * slide
    return list(range(latest, time - size, -slide))


def sessions_of(gap, times):
    """Return the sessions of times."""
    sessions = []
    for time in times:
        if sessions and time < sessions[-1][1]:
            sessions[-1] = (sessions[-1][0], time + gap)
        else:
            sessions.append((time, time + gap))
    return sessions
