"""A plain reading of points 40 and 41: the story of tables, their view, and what must hold of them."""

from wholecloth.meaning import execute


def decisions_of(tables):
    """The identifiers of the deals that some table has decided at a time that is not 0, with their times."""
    return {(deal, time) for table in tables.values() for deal, time in table.picture()[5] if time != 0}


def story_of(tables, deals, history):
    """The triples (time, client, n) of point 40; `tables` are those without the counter."""
    story = [(time, client, n) for (client, n, _), time in decisions_of(tables)]
    for event in history:
        if event[0] == "told" and not has_changes(deals[event[1]][event[2]], event[3]):
            story.append((event[5], event[1], event[2]))
    return sorted(story)


def has_changes(ops, outcome):
    return outcome == "done" and any(op[0] in ("put", "add") for op in ops)


def view_of(tables):
    """The dictionary of point 40."""
    view = {}
    for table in tables.values():
        _, low, high, versions, prepared, _, _ = table.picture()
        for key, pairs in versions:
            view[key] = pairs[-1][1]
        for deal, _, _, changes, lead in prepared:
            if tables[lead].decision(deal):
                view.update(dict(changes))
        assert all(low <= key < high for key, _ in versions)
    return {key: value for key, value in view.items() if value is not None}


def check_story(case, deals, history, story, view):
    """Hold a story and a view against the statements of point 41."""
    times = {(client, n): time for time, client, n in story}
    asked = {event[1:]: place for place, event in enumerate(history) if event[0] == "asked"}
    case.assertEqual(len(times), len(story), "a deal occurs twice")
    case.assertEqual(len({time for time, _, _ in story}), len(story), "a time occurs twice")
    case.assertLessEqual(set(times), set(asked))
    case.assertEqual(len(asked), sum(event[0] == "asked" for event in history))
    table, answers = {}, {}
    for _, client, n in story:
        outcome, results, table = execute(table, deals[client][n])
        answers[client, n] = (outcome, results)
    case.assertEqual(table, view)
    for place, event in enumerate(history):
        if event[0] == "told":
            _, client, n, outcome, results, time = event
            case.assertEqual(times[client, n], time)
            case.assertEqual(answers[client, n], (outcome, results), (client, n))
            case.assertLess(asked[client, n], place)
            for other, moment in asked.items():
                if moment > place and other in times:
                    case.assertLess(time, times[other])
    case.assertEqual(sum(event[0] == "told" for event in history),
                     len({event[1:3] for event in history if event[0] == "told"}))


def a_deal(pick, keys):
    """A deal over few keys, so that deals meet."""
    ops = []
    for _ in range(1 + pick(4)):
        key = keys[pick(len(keys))]
        low = pick(1001)
        ops.append([("get", key), ("put", key, None if pick(4) == 0 else pick(9)), ("add", key, pick(7) - 3),
                    ("need", key, (None, 0, 1, 2)[pick(4)]), ("scan", low, low + pick(1001 - low)),
                    ("add", key, 1), ("get", key), ("put", key, pick(3))][pick(8)])
    return ops
