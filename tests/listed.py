"""What the interface lists: where things are defined, and what their parameters are called."""

import inspect


def check_functions(case, module, names):
    """Each function is defined in its module, and takes its parameters by position and by name."""
    for name, parameters in names.items():
        with case.subTest(name=name):
            function = getattr(module, name)
            case.assertTrue(inspect.isfunction(function))
            case.assertEqual(function.__module__, module.__name__)
            found = inspect.signature(function).parameters
            case.assertEqual(list(found), parameters.split())
            kinds = {parameter.kind for parameter in found.values()}
            case.assertLessEqual(kinds, {inspect.Parameter.POSITIONAL_OR_KEYWORD})


def check_methods(case, kind, names):
    """Each method stands in the class itself, and takes its parameters by position and by name."""
    for name, parameters in names.items():
        with case.subTest(name=name):
            function = vars(kind)[name]
            if isinstance(function, property):
                function = function.fget
            elif isinstance(function, classmethod):
                function = function.__func__
            case.assertEqual(list(inspect.signature(function).parameters)[1:], parameters.split())
