"""The words of a text, its size, and the known words that two rows of texts share."""


def is_word_sign(sign):
    # Asked by range, as isalnum would take letters of other alphabets too.
    return "a" <= sign <= "z" or "A" <= sign <= "Z" or "0" <= sign <= "9"


def words_of(text):
    spaced = "".join([sign if is_word_sign(sign) else " " for sign in text])
    return tuple(spaced.split())


def cores_of(text):
    return tuple([word.lower() for word in words_of(text)])


def size_of(text):
    return len(text) - text.count(" ") - text.count("\n")


def cores_among(texts):
    cores = {}
    for text in texts:
        for core in cores_of(text):
            cores[core] = True
    return cores


def places_known(texts, words, side):
    # By places, so that the hits of many rows of texts can be counted without a look into the texts each time.
    cores = cores_among(texts)
    return [place for place, pair in enumerate(words) if pair[side] in cores]


def hits_of_places(left, right):
    return len(set(left) & set(right))


def hits(ones, others, words):
    return hits_of_places(places_known(ones, words, 0), places_known(others, words, 1))
