import inspect
import unittest

from nearnames import buckets, names

FUNCTIONS = {
    "is_name": ["thing", "wide"],
    "far": ["one", "other"],
    "nearer": ["goal", "one", "other"],
    "by_nearness": ["goal", "names"],
    "step": ["one", "other"],
    "span": ["name", "k"],
    "shown": ["name", "wide"],
    "read": ["text", "wide"],
}
BUCKET_METHODS = {
    "__init__": ["self", "room"],
    "hears": ["self", "name", "answers"],
    "drops": ["self", "name"],
    "names": ["self"],
}


def arguments(function):
    return list(inspect.signature(function).parameters)


class TestInterface(unittest.TestCase):
    def test_functions_of_names(self):
        for word, wanted in FUNCTIONS.items():
            self.assertEqual(arguments(getattr(names, word)), wanted, word)

    def test_methods_of_a_bucket(self):
        for word, wanted in BUCKET_METHODS.items():
            self.assertEqual(arguments(getattr(buckets.Bucket, word)), wanted, word)


if __name__ == "__main__":
    unittest.main()
