"""The rules of the language that a look at the package's files can tell, and the interface's names."""

import ast
import builtins
import pathlib
import re
import unittest

PACKAGE = pathlib.Path(__file__).resolve().parent.parent / "plugproof"
FILES = sorted(path for path in PACKAGE.rglob("*") if "__pycache__" not in path.parts and path.is_file())

ALLOWED_BUILTINS = set(
    "len range enumerate zip min max sum abs sorted reversed int str bool bytes list tuple dict set isinstance ord repr"
    " any all divmod pow map iter next True False None Exception ValueError TypeError KeyError IndexError LookupError"
    " ZeroDivisionError ArithmeticError OverflowError RuntimeError NotImplementedError AttributeError StopIteration"
    " NotImplemented".split()
)
# An example that is run leaves its last value in the builtins, as _.
BUILTINS = set(dir(builtins)) - {"_"}
METHODS = set(
    "append clear copy count endswith extend find get index insert isalnum isalpha isdigit islower isspace isupper items"
    " join keys ljust lower lstrip partition pop remove replace reverse rfind rjust rpartition rsplit rstrip setdefault"
    " split splitlines startswith strip update upper values zfill bit_length".split()
)
DUNDERS = {"__init__", "__eq__", "__repr__", "__str__", "__len__"}
NEVER_NAMES = set("register mro elements open input law version_info with_traceback add_note".split())
BARRED_NAMES = NEVER_NAMES | set(
    "attrgetter breakpoint builtins compile copyright credits delattr dir eval exec exit gc getattr globals hasattr help"
    " id importlib license locals methodcaller os quit setattr super type vars sys chr".split()
)
BARRED_WORDS = set(
    "type typing typing_extensions enum Enum IntEnum StrEnum Flag IntFlag Generic Protocol ABC ABCMeta namedtuple"
    " NamedTuple TypedDict TYPE_CHECKING abstractmethod dataclass overload contextmanager _wall _WallAttr".split()
)
BARRED_STARTS = re.compile("(_wall|_pe_|_dcw_|_enum_|_cm_|_twin_re_|_lay_|_law_|_stub_|_sre|_WallAttr)")
BARRED_NODES = (
    ast.Global, ast.AsyncFunctionDef, ast.AsyncFor, ast.AsyncWith, ast.Await, ast.Yield, ast.YieldFrom, ast.GeneratorExp,
    ast.Set, ast.SetComp, ast.Div, ast.MatMult, ast.Delete, ast.Import, ast.AnnAssign, ast.TryStar,
)

# The calls of users, which a System and a Plain have.
CALLS = (
    "make(user,path) create(user,path) link(user,old,new) unlink(user,path) remove(user,path) move(user,old,new)"
    " copy(user,old,new) list_dir(user,path) tell(user,path) give(user,path,owner) limit(user,other,many) sync(user)"
    " open_file(user,path,mode) shut(user,number) read(user,number,many) write(user,number,numbers)"
    " seek(user,number,at) cut(user,number,size) lock(user,number,kind) unlock(user,number) view(user)"
    " view_list(user,number,path) view_read(user,number,path) view_tell(user,number,path) end_view(user,number)"
    " check_user(user)"
).split()

INTERFACE = {
    "errors": "StoreError BadShape(word) Refused(word) BadScript(line,word) BadImage(line,word)",
    "storeerrors": "BadPlate(plate) BadCells(plate) TooGreat(many) BadChoice(plate) NoHead BadMoment(many)"
                   " BadPrices(unit)",
    "shape": "WIDTH= NAMES= MOST_BLOCKS= MOST_SIZE= ROOT= FOUND= is_whole(thing,low,high) is_name(thing)"
             " number_of(name) name_of(number) Shape(dirs,rows,files,blocks,users) Shape.told() Shape.clock_cell()"
             " Shape.dir_cell(number) Shape.row_cell(number) Shape.user_cell(user) Shape.file_plate(file)"
             " Shape.block_plate(block) Shape.empty_home() Shape.__eq__(other)",
    "plates": "is_cells(value) checked_changes(plates,changes)",
    "disk": "TORN= Disk(many) Disk.write(plate,value) Disk.barrier() Disk.now(plate) Disk.versions(plate)"
            " Disk.count_falls() Disk.fallen(choice) disk_after(disk,trace,moment)",
    "heads": "head_plate(number) is_head(plate,value) read_head(disk)",
    "log": "slot_plate(slots,slot) log_rows(group,changes) is_log_plate(value) whole_group(disk,slots,slot,group)"
           " read_groups(disk,slots,head) last_seen(disk,slots)",
    "store": "home_plate(slots,plate) Store(plates,slots,disk) Store.home() Store.block(plate) Store.disk()"
             " Store.put(changes) Store.push() Store.sync() Store.lay() fresh_store(plates,slots,home)"
             " open_store(disk,plates,slots)",
    "falls": "written_groups(store,moment) settled_groups(store,moment) can_open(store,moment)"
             " opened_deeds(store,moment,choice) choice_for(store,moment,deeds) fallen_disk(store,moment,choice)",
    "twins": "best_head(disk) joined_disk(disks,plates,slots) Twins(disks,plates,slots) Twins.trace(which)"
             " Twins.moments() Twins.disk_at(which,moment) fresh_twins(plates,slots,home)"
             " open_twins(disks,plates,slots) fallen_twins(twins,moment,choices) opened_twins(twins,moment,choices)",
    "disktexts": "write_disk(disk) read_disk(lines)",
    "places": "all_units(shape) place_of(shape,home,unit) faults(shape,home) is_right(shape,home)",
    "parts": "Part(kind,dirs,units) Part.__eq__(other) parts_of(shape,home) need_of(shape,home,prices,part)"
             " least_price(shape,home,prices) count_lots(shape,home,prices) sure_units(shape,home,prices)"
             " possible_units(shape,home,prices)",
    "mending": "Mended(price,units,plates) mended(shape,home,prices) price_between(shape,home,other,prices)",
    "papers": "Paper(parts,needs,units) Paper.__eq__(other) paper_of(shape,home,prices)"
              " paper_holds(shape,home,prices,paper)",
    "readings": "dir_at(home,shape,number) row_at(home,shape,number) is_dir(home,shape,number) dirs_of(home,shape)"
                " rows_of(home,shape) named_files(home,shape) size_at(home,shape,file) owner_at(home,shape,file)"
                " time_at(home,shape,file) clock_at(home,shape) limit_at(home,shape,user) block_of(shape,pointer)"
                " spot_of(number) data_block(home,shape,file,number) numbers_at(home,shape,file,start,end)"
                " content_of(home,shape,file) pointers_at(home,shape,file) met_below(home,shape,pointer,level)"
                " met(home,shape,file) counts_of(home,shape,files) usage_of(home,shape,files,user) tree_of(home,shape)",
    "drafts": "Draft(shape,home,counts,pins) Draft.put(number,plate) Draft.put_cell(place,value) Draft.cell(place)"
              " Draft.count(block) Draft.put_count(block,value) Draft.tick()",
    "counted": "is_free(draft,block) free_blocks(draft) take(draft,plate) own(draft,pointer) share(draft,pointer,level)"
               " drop(draft,pointer,level)",
    "files": "own_data(draft,file,number) write(draft,file,start,numbers) grow(draft,file,size) cut(draft,file,size)"
             " empty_file(draft,file,owner,time) drop_file(draft,file) share_file(draft,file,late,owner,time)"
             " put_time(draft,file,time)",
    "names": "children_of(home,shape,up) child_of(home,shape,up,name) is_below(home,shape,number,top) is_path(thing)"
             " check_path(thing) walked(home,shape,names) place_of(home,shape,path) found_at(home,shape,path)"
             " row_found(home,shape,path) are_right(home,shape) free_dir(draft) free_row(draft)"
             " put_dir(draft,number,up,name) put_row(draft,number,up,name,file) free_cell(draft,kind,number)",
    "copies": "free_file(draft,held) copy_row(draft,held,file,up,name,owner,time)"
              " copy_dir(draft,held,number,up,name,owner,time)",
    "system": "System(shape,store) System.home() System.draft() System.used(home) System.usage(user) System.free_many() "
              + " ".join(f"System.{call}" for call in CALLS),
    "plain": "Plain(users,blocks) Plain.tree() Plain.copy_now() Plain.fallen() Plain.tick() Plain.fresh()"
             " PlainFile(owner,time,numbers) " + " ".join(f"Plain.{call}" for call in CALLS),
    "calls": "SIZES= is_call(thing) done(system,call) is_physical(answer)",
    "plainstore": "PlainStore(home) PlainStore.home() PlainStore.put(changes) PlainStore.sync()",
    "needs": "Room(blocks,dirs,rows,files) Room.told() Room.is_enough(need) Room.__eq__(other) free_room(system)"
             " need_of_copy(system,kind,number) need_of_write(system,file,start,many) need_of_cut(system,file,size)",
    "audits": "account(system) is_account(system,thing)",
    "moving": "moved(home,shape,late) used_many(home,shape)",
    "rebuilding": "calls_of(home,shape) without_times(tree)",
    "scripts": "read_script(text) write_script(calls) answer_text(answer) run_script(system,text)",
    "images": "write_image(shape,home) read_image(lines)",
}


def trees():
    return [(path, ast.parse(path.read_text())) for path in FILES]


def bound_names(tree):
    """The pairs (name, node) of what a file binds: variables, parameters, functions, classes, imports."""
    names = []
    for node in ast.walk(tree):
        if isinstance(node, ast.Name) and isinstance(node.ctx, ast.Store):
            names.append((node.id, node))
        elif isinstance(node, ast.arg):
            names.append((node.arg, node))
        elif isinstance(node, (ast.FunctionDef, ast.ClassDef)):
            names.append((node.name, node))
        elif isinstance(node, ast.alias):
            names.append((node.asname or node.name, node))
    return names


def parameters_of(arguments):
    stars = [argument for argument in (arguments.vararg, arguments.kwarg) if argument is not None]
    return {argument.arg for argument in arguments.posonlyargs + arguments.args + arguments.kwonlyargs + stars}


def variables_of(nodes):
    """What rows of a function bind themselves; what is nested in them and has variables of its own does not count."""
    names = set()
    for node in nodes:
        if isinstance(node, (ast.FunctionDef, ast.ClassDef, ast.Lambda)):
            continue
        if isinstance(node, (ast.ListComp, ast.SetComp, ast.DictComp, ast.GeneratorExp)):
            names |= {inner.target.id for inner in ast.walk(node) if isinstance(inner, ast.NamedExpr)}
            continue
        if isinstance(node, ast.Name) and isinstance(node.ctx, ast.Store):
            names.add(node.id)
        elif isinstance(node, (ast.MatchAs, ast.MatchStar, ast.ExceptHandler)) and node.name is not None:
            names.add(node.name)
        names |= variables_of(ast.iter_child_nodes(node))
    return names


def rows_past_local_names(node, local=frozenset()):
    """The numbers of the rows that assign an attribute through anything but a parameter or a local variable."""
    rows = []
    for child in ast.iter_child_nodes(node):
        inner = local
        if isinstance(child, (ast.FunctionDef, ast.Lambda)):
            inner = local | parameters_of(child.args)
        if isinstance(child, ast.FunctionDef):
            inner = inner | variables_of(child.body)
        if isinstance(child, ast.Attribute) and not isinstance(child.ctx, ast.Load):
            if not isinstance(child.value, ast.Name) or child.value.id not in local:
                rows.append(child.lineno)
        rows += rows_past_local_names(child, inner)
    return rows


def methods_of(tree):
    classes = [node for node in ast.walk(tree) if isinstance(node, ast.ClassDef)]
    return {(owner.name, node.name) for owner in classes for node in owner.body if isinstance(node, ast.FunctionDef)}


def told_names(tree):
    """What a file defines, as the interface's table tells it."""
    told = set()
    for node in tree.body:
        if isinstance(node, ast.Assign):
            told.add(node.targets[0].id + "=")
        elif isinstance(node, ast.FunctionDef):
            told.add(f"{node.name}({','.join(arg.arg for arg in node.args.args)})")
        elif isinstance(node, ast.ClassDef):
            told |= told_of_class(node)
    return told


def told_of_class(owner):
    told = {owner.name}
    for node in owner.body:
        if isinstance(node, ast.FunctionDef):
            arguments = ",".join(arg.arg for arg in node.args.args[1:])
            told.add(f"{owner.name}({arguments})" if node.name == "__init__" else f"{owner.name}.{node.name}({arguments})")
    return told


class FilesTest(unittest.TestCase):
    def test_names_and_sizes(self):
        self.assertIn(PACKAGE / "__init__.py", FILES)
        self.assertLessEqual(len(FILES), 100)
        for path in FILES:
            with self.subTest(path=path.name):
                self.assertRegex(path.name, r"^[a-z_][a-z0-9_]*\.py$")
                text = path.read_bytes().decode("ascii")
                self.assertTrue(all(sign == "\n" or " " <= sign <= "~" for sign in text))
                lines = text.split("\n")
                self.assertLessEqual(len(lines), 399)
                self.assertLessEqual(max(len(line) for line in lines), 120)

    def test_sizes_of_functions(self):
        for path, tree in trees():
            for node in ast.walk(tree):
                if isinstance(node, ast.FunctionDef):
                    self.assertLessEqual(node.end_lineno - node.lineno + 1, 40, f"{path.name}: {node.name}")

    def test_strings(self):
        for path, tree in trees():
            for node in ast.walk(tree):
                if isinstance(node, ast.Constant) and isinstance(node.value, str):
                    self.assertNotIn("%", node.value, path.name)
                    self.assertFalse(node.value.endswith(("._", ".__")), path.name)
                if isinstance(node, ast.Constant):
                    self.assertNotIsInstance(node.value, (float, complex, bytes), path.name)

    def test_module_level(self):
        for path, tree in trees():
            self.assertIsNotNone(ast.get_docstring(tree), path.name)
            for node in tree.body[1:]:
                self.assertIsInstance(node, (ast.ImportFrom, ast.FunctionDef, ast.ClassDef, ast.Assign), path.name)
                if isinstance(node, ast.Assign):
                    self.assertIsInstance(node.targets[0], ast.Name)
                    self.assertEqual(len(node.targets), 1)


class ImportsTest(unittest.TestCase):
    def test_each_names_the_file_that_defines_the_name(self):
        defined = {path.stem: {name.rstrip("=").split("(")[0] for name in told_names(tree)} for path, tree in trees()}
        for path, tree in trees():
            for node in ast.walk(tree):
                if isinstance(node, ast.ImportFrom):
                    self.assertIn(node, tree.body)
                    self.assertEqual((node.level, node.module.split(".")[0]), (0, "plugproof"))
                    for alias in node.names:
                        self.assertIsNone(alias.asname)
                        self.assertIn(alias.name, defined[node.module.split(".")[1]], path.name)

    def test_no_two_files_import_from_each_other(self):
        imports = {}
        for path, tree in trees():
            nodes = [node for node in tree.body if isinstance(node, ast.ImportFrom)]
            imports[path.stem] = {node.module.split(".")[1] for node in nodes}
        left = dict(imports)
        while left:
            free = [name for name in left if not left[name] & set(left)]
            self.assertTrue(free, left)
            left = {name: left[name] for name in left if name not in free}

    def test_what_is_imported_is_used_and_not_named_again(self):
        for path, tree in trees():
            imported = {alias.name for node in tree.body if isinstance(node, ast.ImportFrom) for alias in node.names}
            used = {node.id for node in ast.walk(tree) if isinstance(node, ast.Name)}
            self.assertEqual(imported - used, set(), path.name)
            names = [name for name, node in bound_names(tree) if not isinstance(node, ast.alias)]
            self.assertEqual(imported & set(names), set(), path.name)


class WordsTest(unittest.TestCase):
    def test_builtins(self):
        for path, tree in trees():
            used = {node.id for node in ast.walk(tree) if isinstance(node, ast.Name)}
            self.assertEqual((used & BUILTINS) - ALLOWED_BUILTINS, set(), path.name)

    def test_no_name_is_bound_anew_that_means_something_else(self):
        for path, tree in trees():
            methods = {name for _, name in methods_of(tree)}
            for name, node in bound_names(tree):
                if isinstance(node, ast.FunctionDef) and name in methods and name in DUNDERS:
                    continue
                self.assertNotIn(name, BUILTINS, path.name)
                self.assertNotIn(name, BARRED_NAMES, path.name)
                self.assertRegex(name, r"^_?[A-Za-z][A-Za-z0-9_]*$|^_$")
                self.assertIsNone(BARRED_STARTS.match(name), path.name)

    def test_attributes(self):
        own = {name for _, tree in trees() for _, name in methods_of(tree)}
        for path, tree in trees():
            for node in ast.walk(tree):
                if isinstance(node, ast.Attribute):
                    self.assertNotIn(node.attr, NEVER_NAMES | {"args", "sort", "format"}, path.name)
                    self.assertFalse(node.attr.startswith("__"), path.name)
                if isinstance(node, ast.Call) and isinstance(node.func, ast.Attribute):
                    self.assertIn(node.func.attr, own | METHODS, path.name)

    def test_words_that_stand_nowhere(self):
        for path, tree in trees():
            names = [node.id for node in ast.walk(tree) if isinstance(node, ast.Name)]
            names += [node.attr for node in ast.walk(tree) if isinstance(node, ast.Attribute)]
            names += [name for name, _ in bound_names(tree)]
            self.assertEqual(set(names) & BARRED_WORDS, set(), path.name)

    def test_statements_and_expressions(self):
        for path, tree in trees():
            for node in ast.walk(tree):
                self.assertNotIsInstance(node, BARRED_NODES, path.name)
                if isinstance(node, (ast.FunctionDef, ast.ClassDef)):
                    self.assertEqual(node.decorator_list, [], path.name)
                if isinstance(node, ast.ClassDef):
                    self.assertIn(node, tree.body)

    def test_each_error_is_made_on_the_spot_and_caught_by_an_own_name(self):
        errors = {name for path, tree in trees() if path.stem in ("errors", "storeerrors") for name in told_names(tree)}
        for path, tree in trees():
            for node in ast.walk(tree):
                if isinstance(node, ast.Raise):
                    self.assertIn(node.exc.func.id, errors, path.name)
                if isinstance(node, ast.ExceptHandler):
                    self.assertIn(node.type.id, errors | {"KeyError"}, path.name)

    def test_is_stands_beside_none_true_and_false(self):
        for path, tree in trees():
            for node in ast.walk(tree):
                if isinstance(node, ast.Compare) and isinstance(node.ops[0], (ast.Is, ast.IsNot)):
                    self.assertIsInstance(node.comparators[0], ast.Constant, path.name)

    def test_each_function_and_class_says_what_it_is(self):
        for path, tree in trees():
            for node in ast.walk(tree):
                if isinstance(node, ast.ClassDef):
                    self.assertIsNotNone(ast.get_docstring(node), f"{path.name}: {node.name}")
                if isinstance(node, ast.FunctionDef) and not node.name.startswith("_"):
                    self.assertIsNotNone(ast.get_docstring(node), f"{path.name}: {node.name}")


class AttributesTest(unittest.TestCase):
    """L18: attributes are assigned through a local name, never on a class or on a module-level name."""

    THROUGH_A_LOCAL_NAME = (
        "def put(self):\n    self.kind = 1", "def put(box):\n    box.many += 1", "def put(*, box):\n    box.many = 1",
        "def put(*box, **more):\n    box.many = more.many = 1", "def put(box, /):\n    box.many: int = 1",
        "def put():\n    box = made()\n    box.many = 1", "def put(boxes):\n    for box in boxes:\n        box.many, box.few = 1, 2",
        "def put():\n    with made() as box:\n        box.many = 1", "def put():\n    if box := made():\n        box.many = 1",
        "def put(boxes):\n    rows = [late for box in boxes if (late := box)]\n    late.many = rows",
        "def put(box):\n    def inner():\n        box.many = 1\n    inner()", "class Box:\n    def put(self):\n        self.many = 1",
        "def put(boxes):\n    match boxes:\n        case [box, *more]:\n            box.many = more.many = 1",
        "def put(box):\n    box.rows[0] = made().many", "def put():\n    made().rows[0] = 1", "def put(box):\n    box.rows[0].put(1)",
    )
    THROUGH_SOMETHING_ELSE = (
        ("def put(self, user):\n    self.handle(user).kind = 1", [2]), ("def put():\n    made().many += 1", [2]),
        ("def put():\n    made().many: int = 1", [2]), ("def put(box):\n    box.many = made(box).many = 1", [2]),
        ("def put(box):\n    box.many, (box.few, made(box).few) = 1, (2, 3)", [2]), ("def put(self):\n    self.rows[0].many = 1", [2]),
        ("def put(self):\n    self.box.many = 1", [2]), ("def put(one, two):\n    (one or two).many = 1", [2]),
        ("def put(rows):\n    for made().many in rows:\n        pass", [2]), ("def put():\n    with made() as made().many:\n        pass", [2]),
        ("def put(rows):\n    return [1 for made().many in rows]", [2]), ("def put():\n    del made().many", [2]),
        ("class Box:\n    def put(self):\n        Box.many = 1", [3]), ("BOX = None\n\n\ndef put():\n    BOX.many = 1", [5]),
        ("from plugproof.store import made\n\n\ndef put():\n    made.many = 1", [5]), ("def put():\n    put.many = 1", [2]),
        ("box = made()\nbox.many = 1", [2]), ("class Box:\n    box.many = 1", [2]),
        ("def put(boxes):\n    rows = [box for box in boxes]\n    box.many = rows", [3]),
        ("def put():\n    def inner(box):\n        late = box\n    box.many = 1\n    late.many = inner", [4, 5]),
        ("def put(box):\n    box.many = 1\n\n\ndef late():\n    box.many = 1\n    made().many = 1", [6, 7]),
    )

    def test_no_row_of_the_package_assigns_one_through_anything_else(self):
        for path, tree in trees():
            self.assertEqual(rows_past_local_names(tree), [], path.name)

    def test_such_rows_are_found(self):
        for text, rows in self.THROUGH_SOMETHING_ELSE:
            with self.subTest(text=text):
                self.assertEqual(rows_past_local_names(ast.parse(text)), rows)

    def test_no_other_rows_are_found(self):
        for text in self.THROUGH_A_LOCAL_NAME:
            with self.subTest(text=text):
                self.assertEqual(rows_past_local_names(ast.parse(text)), [])


class InterfaceTest(unittest.TestCase):
    def test_names_and_arguments(self):
        told = {path.stem: told_names(tree) for path, tree in trees()}
        for module, names in INTERFACE.items():
            for name in names.split():
                self.assertIn(name, told[module], module)

    def test_defaults(self):
        from plugproof.shape import is_whole
        self.assertEqual(is_whole.__defaults__, (None, None))


if __name__ == "__main__":
    unittest.main()
