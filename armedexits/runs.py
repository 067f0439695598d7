"""The steps of both meanings, runs of the two side by side, and runs of the cells meaning by their events."""

from armedexits.errors import ArmedTwice, CrossedStretch, LeftStretch, LostReturn, RefusedPerform, WrongReturn
from armedexits.exits import Exits
from armedexits.moves import asks_at, behind, onward, performs_at, statement_at

START = (0, 0)


def empty_cells(program):
    """The cells at the start of a run."""
    return ((),) * len(program.names)


def cell_step(program, rule, point, cells, answer=None):
    """The next point and the cells after a step in the cells meaning."""
    paragraph, _ = point
    exits = Exits(rule, cells)
    if statement_at(program, point) is None and paragraph in exits:
        way = exits.take(paragraph)
        return way, exits.cells
    if performs_at(program, point):
        way = behind(point)
        exits.arm(program.stretch_of(way).last, way)
    return onward(program, point, answer), exits.cells


def stack_step(program, point, frames, answer=None):
    """The next point and the frames after a step in the stack meaning."""
    if statement_at(program, point) is None and _ends_here(program, point, frames):
        return frames[-1], frames[:-1]
    if performs_at(program, point):
        return onward(program, point, answer), frames + (behind(point),)
    return onward(program, point, answer), frames


def joint_step(program, rule, point, cells, frames, answer, *, made):
    """The next point, the cells and the frames after a step of both meanings.

    An error below Parted tells that the step parts them, with `made`, the number of steps made before it.
    """
    if statement_at(program, point) is None:
        _check_return(program, point, cells, frames, made)
    try:
        following, cells = cell_step(program, rule, point, cells, answer)
    except ArmedTwice as error:
        way = behind(point)
        raise RefusedPerform(program.stretch_of(way).last, way, made) from error
    _, frames = stack_step(program, point, frames, answer)
    return following, cells, frames


def _ends_here(program, point, frames):
    """Whether there is a frame and the newest one ends at the paragraph of the point."""
    paragraph, _ = point
    return len(frames) > 0 and program.stretch_of(frames[-1]).last == paragraph


def _check_return(program, point, cells, frames, made):
    """Raise an error if the meanings disagree on a return at this end of a paragraph."""
    paragraph, _ = point
    held = cells[paragraph]
    ends_here = _ends_here(program, point, frames)
    if ends_here and not held:
        raise LostReturn(paragraph, frames[-1], made)
    if held and not ends_here:
        stretch = program.stretch_of(frames[-1])
        if paragraph in stretch:
            raise WrongReturn(paragraph, held[-1], made, "crossed") from CrossedStretch(stretch.first, stretch.last)
        raise WrongReturn(paragraph, held[-1], made, "left") from LeftStretch(stretch.first, stretch.last)


def follow(program, rule, answers, *, steps):
    """The points of a run of both meanings, side by side, and its ending."""
    point, cells, frames = START, empty_cells(program), []
    points = [point]
    given = 0
    while point is not None:
        made = len(points) - 1
        if made == steps:
            return tuple(points), "cut"
        answer = None
        if asks_at(program, point):
            if given == len(answers):
                return tuple(points), "waits"
            answer = answers[given]
            given += 1
        # Older frames do not matter to a step, so a stack without bound need not be copied for each one.
        newest = tuple(frames[-1:])
        point, cells, newest = joint_step(program, rule, point, cells, newest, answer, made=made)
        frames[-1:] = newest
        if point is not None:
            points.append(point)
    return tuple(points), "done"


def settle(program, rule, point, cells):
    """The stand (event, point, cells) to which the cells meaning leads from here."""
    seen = set()
    while point is not None:
        if (point, cells) in seen:
            return ("loops",), None, ()
        seen.add((point, cells))
        match statement_at(program, point):
            case ("act", word):
                return ("act", word), point, cells
            case ("if", test, _):
                return ("ask", test), point, cells
        try:
            point, cells = cell_step(program, rule, point, cells)
        except ArmedTwice:
            return ("refused",), None, ()
    return ("done",), None, ()


def first_stand(program, rule):
    """The stand to which a run leads from its start."""
    return settle(program, rule, START, empty_cells(program))


def next_stand(program, rule, stand, answer):
    """The stand to which a run leads from another one, whose event is an act or a test."""
    _, point, cells = stand
    point, cells = cell_step(program, rule, point, cells, answer)
    return settle(program, rule, point, cells)


def answers_after(event):
    """The answers with which a run goes on from a stand: None at an act, and none at all if it has ended there."""
    match event[0]:
        case "ask":
            return (False, True)
        case "act":
            return (None,)
        case _:
            return ()


def all_runs(program, rule, *, most):
    """Yield each run of the cells meaning as its events and its ending."""
    ahead = [((), first_stand(program, rule))]
    while ahead:
        events, stand = ahead.pop()
        event = stand[0]
        answers = answers_after(event)
        if not answers:
            yield events, event[0]
        elif len(events) == most:
            yield events, "cut"
        else:
            # What is put down last is taken up first, and that is the run with the answer no.
            for answer in answers[::-1]:
                told = event if answer is None else event + (answer,)
                ahead.append((events + (told,), next_stand(program, rule, stand, answer)))
