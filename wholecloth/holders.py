"""Holders and configurations: what is kept of a group, and where (point 36)."""

from wholecloth.logs import is_change, is_majority


def changes_in(pairs):
    """Return the list of the members that entries, pairs of a term and a command, change to."""
    return [command[1] for _, command in pairs if is_change(command)]


def replicas_of(machines, group):
    """Return the list of the replicas of a group that are not blank."""
    found = [machine.replicas[group] for machine in machines if group in machine.replicas]
    return [replica for replica in found if replica.base is not None]


def holders(machines, group):
    """Return the list of the identities of the machines that hold a group."""
    return [replica.me for replica in replicas_of(machines, group)]


def configurations(machines, net, group):
    """Return the list of the configurations of a group, those of letters in the net included."""
    found = []
    for replica in replicas_of(machines, group):
        found.append(replica.base[2])
        found.extend(changes_in(replica.entries))
    for _, _, letter in net:
        if letter[0] == "base" and letter[1] == group:
            found.append(letter[3][2])
        elif letter[0] == "copy" and letter[1] == group:
            found.extend(changes_in(letter[5]))
    return found


def is_kept_without(machines, net, group, identity):
    """Tell whether the holders of a group are a majority of each configuration without one of them."""
    others = [holder for holder in holders(machines, group) if holder != identity]
    return all([are_enough(others, members) for members in configurations(machines, net, group)])


def are_enough(keeping, members):
    """Tell whether more than half of the members are among those that keep a group."""
    return is_majority([member for member in members if member in keeping], members)
