import PyProof.Rows.All
import Wide.All
import OpenK.AllK
import Wide.FinOn
import KE.KStateDown
import HandS.ForMost
import HandS.More
import HandS.Words
import HandS.Defaults
import HandS.IsInst
import HandS.Head0
import HandS.Head1
import HandS.Head2
import HandS.HeadEnd
import HandS.HeadHook1
import HandS.HeadHook2
import HandS.HeadHook3
import HandS.HeadHook4
import HandS.Zip
import HandS.Conv
import HandS.Evl
import HandS.Wide
import HandS.WrittenGet
import HandS.Walk
import KE.KDictPairs
import HandS.Star
import PySem.Challenge.RW_backframes_k19_whole_known_wanted_rows
set_option Elab.async false
set_option linter.all false
set_option maxRecDepth 100000
set_option maxHeartbeats 0
namespace W19
open PySem PySem.Spec PyProof.Rows L2
def top (i : Nat) : Stmt := PySem.Challenge.pw_backframes_k19_whole_known_wanted_rows.main.body.getD i (.Pass ⟨0, 0, 0, 0⟩)
abbrev s_is_integer : Stmt := top 11
def d_is_integer : He.DefD := ⟨("is_integer", none), "is_integer", "is_integer", defArgs s_is_integer, defBody s_is_integer, defScope s_is_integer, [], []⟩
abbrev s_is_integer_in : Stmt := top 12
def d_is_integer_in : He.DefD := ⟨("is_integer_in", none), "is_integer_in", "is_integer_in", defArgs s_is_integer_in, defBody s_is_integer_in, defScope s_is_integer_in, [], []⟩
abbrev s_is_written_number : Stmt := top 13
def d_is_written_number : He.DefD := ⟨("is_written_number", none), "is_written_number", "is_written_number", defArgs s_is_written_number, defBody s_is_written_number, defScope s_is_written_number, [], []⟩
abbrev s_is_name : Stmt := top 14
def d_is_name : He.DefD := ⟨("is_name", none), "is_name", "is_name", defArgs s_is_name, defBody s_is_name, defScope s_is_name, [], []⟩
abbrev s_is_kind : Stmt := top 15
def d_is_kind : He.DefD := ⟨("is_kind", none), "is_kind", "is_kind", defArgs s_is_kind, defBody s_is_kind, defScope s_is_kind, [], []⟩
abbrev s_is_tuple_of : Stmt := top 16
def d_is_tuple_of : He.DefD := ⟨("is_tuple_of", none), "is_tuple_of", "is_tuple_of", defArgs s_is_tuple_of, defBody s_is_tuple_of, defScope s_is_tuple_of, [], []⟩
abbrev s_is_list_of : Stmt := top 17
def d_is_list_of : He.DefD := ⟨("is_list_of", none), "is_list_of", "is_list_of", defArgs s_is_list_of, defBody s_is_list_of, defScope s_is_list_of, [], []⟩
abbrev s_is_word_tuple : Stmt := top 19
def d_is_word_tuple : He.DefD := ⟨("is_word_tuple", none), "is_word_tuple", "is_word_tuple", defArgs s_is_word_tuple, defBody s_is_word_tuple, defScope s_is_word_tuple, [], []⟩
abbrev s_frozen : Stmt := top 20
def d_frozen : He.DefD := ⟨("frozen", none), "frozen", "frozen", defArgs s_frozen, defBody s_frozen, defScope s_frozen, [], []⟩
abbrev s_are_named_kinds : Stmt := top 21
def d_are_named_kinds : He.DefD := ⟨("are_named_kinds", none), "are_named_kinds", "are_named_kinds", defArgs s_are_named_kinds, defBody s_are_named_kinds, defScope s_are_named_kinds, [], []⟩
abbrev s_is_row : Stmt := top 26
def d_is_row : He.DefD := ⟨("is_row", none), "is_row", "is_row", defArgs s_is_row, defBody s_is_row, defScope s_is_row, [], []⟩
abbrev s_fills : Stmt := top 27
def d_fills : He.DefD := ⟨("_fills", none), "_fills", "_fills", defArgs s_fills, defBody s_fills, defScope s_fills, [], []⟩
abbrev s_row_sets : Stmt := top 28
def d_row_sets : He.DefD := ⟨("row_sets", none), "row_sets", "row_sets", defArgs s_row_sets, defBody s_row_sets, defScope s_row_sets, [], []⟩
abbrev s_row_reads : Stmt := top 29
def d_row_reads : He.DefD := ⟨("row_reads", none), "row_reads", "row_reads", defArgs s_row_reads, defBody s_row_reads, defScope s_row_reads, [], []⟩
abbrev s_row_kinds_fit : Stmt := top 30
def d_row_kinds_fit : He.DefD := ⟨("row_kinds_fit", none), "row_kinds_fit", "row_kinds_fit", defArgs s_row_kinds_fit, defBody s_row_kinds_fit, defScope s_row_kinds_fit, [], []⟩
abbrev s_names_in : Stmt := top 31
def d_names_in : He.DefD := ⟨("_names_in", none), "_names_in", "_names_in", defArgs s_names_in, defBody s_names_in, defScope s_names_in, [], []⟩
abbrev s_is_head : Stmt := top 45
def d_is_head : He.DefD := ⟨("_is_head", none), "_is_head", "_is_head", defArgs s_is_head, defBody s_is_head, defScope s_is_head, [], []⟩
abbrev s_wanted : Stmt := top 48
def d_wanted : He.DefD := ⟨("wanted", none), "wanted", "wanted", defArgs s_wanted, defBody s_wanted, defScope s_wanted, [], []⟩
abbrev s_wanting : Stmt := top 49
def d_wanting : He.DefD := ⟨("wanting", none), "wanting", "wanting", defArgs s_wanting, defBody s_wanting, defScope s_wanting, [], []⟩
abbrev s_function_with : Stmt := top 50
def d_function_with : He.DefD := ⟨("_function_with", none), "_function_with", "_function_with", defArgs s_function_with, defBody s_function_with, defScope s_function_with, [], []⟩
abbrev s_wanted_in : Stmt := top 51
def d_wanted_in : He.DefD := ⟨("_wanted_in", none), "_wanted_in", "_wanted_in", defArgs s_wanted_in, defBody s_wanted_in, defScope s_wanted_in, [], []⟩
abbrev s_way_to_reader : Stmt := top 52
def d_way_to_reader : He.DefD := ⟨("_way_to_reader", none), "_way_to_reader", "_way_to_reader", defArgs s_way_to_reader, defBody s_way_to_reader, defScope s_way_to_reader, [], []⟩
abbrev s_rows_behind : Stmt := top 53
def d_rows_behind : He.DefD := ⟨("_rows_behind", none), "_rows_behind", "_rows_behind", defArgs s_rows_behind, defBody s_rows_behind, defScope s_rows_behind, [], []⟩
abbrev s_L_well : Stmt := top 55
def d_L_well : He.DefD := ⟨("_law_well", none), "_law_well", "_law_well", defArgs s_L_well, defBody s_L_well, defScope s_L_well, [], []⟩
abbrev s_L_draw : Stmt := top 56
def d_L_draw : He.DefD := ⟨("_law_draw", none), "_law_draw", "_law_draw", defArgs s_L_draw, defBody s_L_draw, defScope s_L_draw, [], []⟩
abbrev s_L_one : Stmt := top 57
def d_L_one : He.DefD := ⟨("_law_one", none), "_law_one", "_law_one", defArgs s_L_one, defBody s_L_one, defScope s_L_one, [], []⟩
abbrev s_L_made : Stmt := top 58
def d_L_made : He.DefD := ⟨("_law_made", none), "_law_made", "_law_made", defArgs s_L_made, defBody s_L_made, defScope s_L_made, [], []⟩
abbrev s_L_chain_right : Stmt := top 59
def d_L_chain_right : He.DefD := ⟨("_law_chain_right", none), "_law_chain_right", "_law_chain_right", defArgs s_L_chain_right, defBody s_L_chain_right, defScope s_L_chain_right, [], []⟩
abbrev s_L_ring_right : Stmt := top 60
def d_L_ring_right : He.DefD := ⟨("_law_ring_right", none), "_law_ring_right", "_law_ring_right", defArgs s_L_ring_right, defBody s_L_ring_right, defScope s_L_ring_right, [], []⟩
abbrev s_L_loops_right : Stmt := top 61
def d_L_loops_right : He.DefD := ⟨("_law_loops_right", none), "_law_loops_right", "_law_loops_right", defArgs s_L_loops_right, defBody s_L_loops_right, defScope s_L_loops_right, [], []⟩
abbrev s_L_shifted : Stmt := top 62
def d_L_shifted : He.DefD := ⟨("_law_shifted", none), "_law_shifted", "_law_shifted", defArgs s_L_shifted, defBody s_L_shifted, defScope s_L_shifted, [], []⟩
abbrev s_L_put_right : Stmt := top 63
def d_L_put_right : He.DefD := ⟨("_law_put_right", none), "_law_put_right", "_law_put_right", defArgs s_L_put_right, defBody s_L_put_right, defScope s_L_put_right, [], []⟩
abbrev s_law : Stmt := top 64
def d_law : He.DefD := ⟨("law", none), "law", "law", defArgs s_law, defBody s_law, defScope s_law, [], []⟩
abbrev s_Function_init : Stmt := inClass (top 42) 0
def d_Function_init : He.DefD := ⟨("Function", some "__init__"), "__init__", "Function.__init__", defArgs s_Function_init, defBody s_Function_init, defScope s_Function_init, [], []⟩
abbrev s_Function_has_row : Stmt := inClass (top 42) 1
def d_Function_has_row : He.DefD := ⟨("Function", some "has_row"), "has_row", "Function.has_row", defArgs s_Function_has_row, defBody s_Function_has_row, defScope s_Function_has_row, [], []⟩
abbrev s_Source_init : Stmt := inClass (top 43) 0
def d_Source_init : He.DefD := ⟨("Source", some "__init__"), "__init__", "Source.__init__", defArgs s_Source_init, defBody s_Source_init, defScope s_Source_init, [], []⟩
abbrev s_Source_take_classes : Stmt := inClass (top 43) 1
def d_Source_take_classes : He.DefD := ⟨("Source", some "_take_classes"), "_take_classes", "Source._take_classes", defArgs s_Source_take_classes, defBody s_Source_take_classes, defScope s_Source_take_classes, [], []⟩
abbrev s_Source_take_heads : Stmt := inClass (top 43) 3
def d_Source_take_heads : He.DefD := ⟨("Source", some "_take_heads"), "_take_heads", "Source._take_heads", defArgs s_Source_take_heads, defBody s_Source_take_heads, defScope s_Source_take_heads, [], []⟩
abbrev s_Source_take_rows : Stmt := inClass (top 43) 4
def d_Source_take_rows : He.DefD := ⟨("Source", some "_take_rows"), "_take_rows", "Source._take_rows", defArgs s_Source_take_rows, defBody s_Source_take_rows, defScope s_Source_take_rows, [], []⟩
abbrev s_Source_is_row_of : Stmt := inClass (top 43) 5
def d_Source_is_row_of : He.DefD := ⟨("Source", some "_is_row_of"), "_is_row_of", "Source._is_row_of", defArgs s_Source_is_row_of, defBody s_Source_is_row_of, defScope s_Source_is_row_of, [], []⟩
abbrev s_Source_function_at : Stmt := inClass (top 43) 9
def d_Source_function_at : He.DefD := ⟨("Source", some "function_at"), "function_at", "Source.function_at", defArgs s_Source_function_at, defBody s_Source_function_at, defScope s_Source_function_at, [], []⟩
def fn : List He.DefD := [d_is_integer, d_is_integer_in, d_is_written_number, d_is_name, d_is_kind, d_is_tuple_of, d_is_list_of, d_is_word_tuple, d_frozen, d_are_named_kinds, d_is_row, d_fills, d_row_sets, d_row_reads, d_row_kinds_fit, d_names_in, d_is_head, d_wanted, d_wanting, d_function_with, d_wanted_in, d_way_to_reader, d_rows_behind, d_L_well, d_L_draw, d_L_one, d_L_made, d_L_chain_right, d_L_ring_right, d_L_loops_right, d_L_shifted, d_L_put_right, d_law, d_Function_init, d_Function_has_row, d_Source_init, d_Source_take_classes, d_Source_take_heads, d_Source_take_rows, d_Source_is_row_of, d_Source_function_at]
def fa : List He.Fa := [.glo "is_integer", .glo "is_integer_in", .glo "is_written_number", .glo "is_name", .glo "is_kind", .glo "is_tuple_of", .glo "is_list_of", .glo "is_word_tuple", .glo "frozen", .glo "are_named_kinds", .glo "is_row", .glo "_fills", .glo "row_sets", .glo "row_reads", .glo "row_kinds_fit", .glo "_names_in", .glo "_is_head", .glo "wanted", .glo "wanting", .glo "_function_with", .glo "_wanted_in", .glo "_way_to_reader", .glo "_rows_behind", .glo "_law_well", .glo "_law_draw", .glo "_law_one", .glo "_law_made", .glo "_law_chain_right", .glo "_law_ring_right", .glo "_law_loops_right", .glo "_law_shifted", .glo "_law_put_right", .glo "law", .free "isinstance", .free "int", .free "bool", .free "str", .free "list", .free "tuple", .free "len", .free "all", .free "zip", .free "enumerate", .free "dict", .free "sorted", .free "range", .int "GREATEST_WRITTEN" 1000000000, .int "MOST_CLASSES" 6, .int "MOST_FUNCTIONS" 6, .int "MOST_PARAMETERS" 4, .int "MOST_OTHERS" 8, .int "MOST_ROWS" 40, .str "LETTERS" "abcdefghijklmnopqrstuvwxyz", .str "MARKS" "abcdefghijklmnopqrstuvwxyz0123456789", .glo "Function", .glo "Source", .glo "KINDS", .glo "NUMBER_WORDS", .glo "ROW_WORDS", .glo "ROLES", .cls "Function", .mkr "Function", .noat "Function" "name", .noat "Function" "params", .noat "Function" "others", .noat "Function" "result", .noat "Function" "variables", .noat "Function" "body", .cls "Source", .mkr "Source", .noat "Source" "_field_kinds", .noat "Source" "_fields", .noat "Source" "_functions", .meth "Function" "has_row", .meth "Source" "_take_classes", .meth "Source" "_take_heads", .meth "Source" "_take_rows", .meth "Source" "_is_row_of", .meth "Source" "function_at"]
def v_KINDS : List He.Dv := [.str "number", .str "object"]
def v_NUMBER_WORDS : List He.Dv := [.str "number", .str "add", .str "sub", .str "times", .str "less", .str "if", .str "guard"]
def v_ROW_WORDS : List He.Dv := [.str "number", .str "add", .str "sub", .str "times", .str "less", .str "nil", .str "new", .str "copy", .str "same", .str "get", .str "put", .str "call", .str "see", .str "if", .str "jump", .str "return"]
def roles : List (Str × List Str) := [("number", ["sets", "number"]), ("nil", ["sets"]), ("copy", ["sets", "reads"]), ("add", ["sets", "reads", "reads"]), ("sub", ["sets", "reads", "reads"]), ("times", ["sets", "reads", "reads"]), ("less", ["sets", "reads", "reads"]), ("same", ["sets", "reads", "reads"]), ("new", ["sets", "class"]), ("get", ["sets", "reads", "field"]), ("put", ["reads", "field", "reads"]), ("call", ["sets", "function", "many"]), ("see", ["reads"]), ("if", ["reads", "row"]), ("jump", ["row"]), ("return", ["reads"]), ("guard", ["reads", "point"]), ("look", ["point"])]
/-- the tuple that the table ROLES has at a word -/
def rolA (K : PySem.W.Frag) (x : Str) : Addr := match PySem.W.nsIn K (He.ga K "ROLES") x with
  | some (some (.ref a)) => a
  | _ => 0
def tupAt (K : PySem.W.Frag) (a : Addr) (vs : List V) : Bool := match K.lookup a with
  | some ⟨.type c, _, .seq its _, _⟩ => decide (c = "tuple") && (decide (its.size ≤ sizeLine) && He.relAll vs its.toList)
  | _ => false
def rolB (K : PySem.W.Frag) (q : Str × List Str) : Bool := He.eqO (PySem.W.nsIn K (He.ga K "ROLES") q.1) (some (some (.ref (rolA K q.1)))) && tupAt K (rolA K q.1) (q.2.map V.str)
def isaB (K : PySem.W.Frag) (C : Addr) : Bool := He.eqO (PySem.W.findIn K (.ref C) "__class__") (some (some (.builtin "object.__class__"))) && (He.eqO (PySem.W.specialIn K (.builtin "object.__class__") "__get__") (some (some (.builtin "getset_descriptor.__get__"))) && (decide (PySem.W.takesIn K (.builtin "object.__class__") = some true) && (decide (PySem.W.mroIn K C (.type "object") = some true) && decide (PySem.W.kitOne K (.ref C) (.ref C) = some true))))
def ex (K : PySem.W.Frag) : Bool := He.tupB K "KINDS" v_KINDS && (He.tupB K "NUMBER_WORDS" v_NUMBER_WORDS && (He.tupB K "ROW_WORDS" v_ROW_WORDS && (roles.all (rolB K) && isaB K (He.ga K "Source"))))
def ts : List He.Tab := [(fun K => He.ga K "ROLES", roles.map (·.1))]
def nms : List Str := (["_wall", "CodeError", "InvalidSource", "InvalidArgument", "InvalidNumber", "GREATEST_WRITTEN", "LETTERS", "MARKS", "KINDS", "is_integer", "is_integer_in", "is_written_number", "is_name", "is_kind", "is_tuple_of", "is_list_of", "is_list_of_names", "is_word_tuple", "frozen", "are_named_kinds", "ROLES", "NUMBER_WORDS", "GREATEST_POINT", "is_row", "_fills", "row_sets", "row_reads", "row_kinds_fit", "_names_in", "_call_fits"] : List Str) ++ (["told_row", "MOST_CLASSES", "MOST_FIELDS", "MOST_FUNCTIONS", "MOST_PARAMETERS", "MOST_OTHERS", "MOST_ROWS", "ROW_WORDS", "Function", "Source", "_is_class", "_is_head", "_told_function", "wanted", "wanting", "_function_with", "_wanted_in", "_way_to_reader", "_rows_behind", "_law_well", "_law_draw", "_law_one", "_law_made", "_law_chain_right", "_law_ring_right", "_law_loops_right", "_law_shifted", "_law_put_right"] : List Str)
abbrev R : PySem.W.OpenRow := PySem.W.OpenLaw.row PySem.Challenge.rw_backframes_k19_whole_known_wanted_rows
abbrev hk : PySem.W.Hook := He.hookX 4 fa fn ts [] ex
def ob (s : PySem.W.SharedT) : He.AlX := He.obsX 4 fa fn ts [] ex (HandSHeadRun.getT s)
theorem ob_eq (s : PySem.W.SharedT) : ob s = hk.obs s.abs := He.obsX_eq (HandSHeadRun.getT_eq s)
theorem runF (w : World) : HandSHeadRun.RunEq R (PySem.W.view R.prog [64]) hk ob 4200 nms (w.withFollow "special-get-raises" false) := by
  intro os
  kernel_rfl
theorem runT (w : World) : HandSHeadRun.RunEq R (PySem.W.view R.prog [64]) hk ob 4200 nms (w.withFollow "special-get-raises" true) := by
  intro os
  kernel_rfl
theorem run (w : World) : HandSHeadRun.RunEq R (PySem.W.view R.prog [64]) hk ob 4200 nms w := PySem.W.byRow2 "special-get-raises" runF runT w
end W19
set_option Elab.async false
set_option linter.all false
set_option maxRecDepth 100000
set_option maxHeartbeats 4000000
namespace W19
open PySem PySem.Spec PyProof.Rows L2
/-- what stands behind the top -/
structure Ctx (w : World) (K : PySem.W.Frag) (mg : Str → Option Value) : Prop where
  ex_ : ∃ h : Heap, K.In h ∧ h.Ns mainGlobals mg
  says : He.SaysT fa fn ts w K
  more : ex K = true
section
variable {w : World} {K : PySem.W.Frag} {mg : Str → Option Value}
theorem Ctx.glo (T : Ctx w K mg) {x : Str} (i : Nat) (h : fa[i]? = some (.glo x) := by rfl) : mg x = some (.ref (He.ga K x)) := by
  obtain ⟨_, X, G⟩ := T.ex_
  exact He.glo_ok X G (T.says.d.fact i h)
theorem Ctx.free (T : Ctx w K mg) {x : Str} (i : Nat) (h : fa[i]? = some (.free x) := by rfl) : mg x = none := by
  obtain ⟨_, X, G⟩ := T.ex_
  exact He.free_ok X G (T.says.d.fact i h)
theorem Ctx.int (T : Ctx w K mg) {x : Str} {z : Int} (i : Nat) (h : fa[i]? = some (.int x z) := by rfl) : ∃ t, mg x = some (.int z t) := by
  obtain ⟨_, X, G⟩ := T.ex_
  exact He.int_ok X G (T.says.d.fact i h)
theorem Ctx.str (T : Ctx w K mg) {x z : Str} (i : Nat) (h : fa[i]? = some (.str x z) := by rfl) : ∃ t, mg x = some (.str z t) := by
  obtain ⟨_, X, G⟩ := T.ex_
  exact He.str_ok X G (T.says.d.fact i h)
/-- a def that keeps its promise, with all that a caller needs -/
structure Has (P : Program) (w : World) (K : PySem.W.Frag) (mg : Str → Option Value) (base : Heap) (k : Nat) (x : Str) (ps : List Str) (sp : Sp) : Prop where
  ex : ∃ fd, FnOk P w K mg base CX0 k (He.ga K x) fd ps sp ∧ Binds K fd ps []
  kp : PySem.W.keepIn K (.ref (He.ga K x)) = true
  gl : mg x = some (.ref (He.ga K x))
/-- the same of a method -/
structure HasM (P : Program) (w : World) (K : PySem.W.Frag) (mg : Str → Option Value) (base : Heap) (k : Nat) (C m : Str) (ps : List Str) (sp : Sp) : Prop where
  ex : ∃ fd, FnOk P w K mg base CX0 k (He.ma K (He.ga K C) m) fd ps sp ∧ Binds K fd ps []
theorem Ctx.g_is_integer (T : Ctx w K mg) : mg "is_integer" = some (.ref (He.ga K "is_integer")) := T.glo 0
theorem Ctx.g_is_integer_in (T : Ctx w K mg) : mg "is_integer_in" = some (.ref (He.ga K "is_integer_in")) := T.glo 1
theorem Ctx.g_is_written_number (T : Ctx w K mg) : mg "is_written_number" = some (.ref (He.ga K "is_written_number")) := T.glo 2
theorem Ctx.g_is_name (T : Ctx w K mg) : mg "is_name" = some (.ref (He.ga K "is_name")) := T.glo 3
theorem Ctx.g_is_kind (T : Ctx w K mg) : mg "is_kind" = some (.ref (He.ga K "is_kind")) := T.glo 4
theorem Ctx.g_is_tuple_of (T : Ctx w K mg) : mg "is_tuple_of" = some (.ref (He.ga K "is_tuple_of")) := T.glo 5
theorem Ctx.g_is_list_of (T : Ctx w K mg) : mg "is_list_of" = some (.ref (He.ga K "is_list_of")) := T.glo 6
theorem Ctx.g_is_word_tuple (T : Ctx w K mg) : mg "is_word_tuple" = some (.ref (He.ga K "is_word_tuple")) := T.glo 7
theorem Ctx.g_frozen (T : Ctx w K mg) : mg "frozen" = some (.ref (He.ga K "frozen")) := T.glo 8
theorem Ctx.g_are_named_kinds (T : Ctx w K mg) : mg "are_named_kinds" = some (.ref (He.ga K "are_named_kinds")) := T.glo 9
theorem Ctx.g_is_row (T : Ctx w K mg) : mg "is_row" = some (.ref (He.ga K "is_row")) := T.glo 10
theorem Ctx.g_fills (T : Ctx w K mg) : mg "_fills" = some (.ref (He.ga K "_fills")) := T.glo 11
theorem Ctx.g_row_sets (T : Ctx w K mg) : mg "row_sets" = some (.ref (He.ga K "row_sets")) := T.glo 12
theorem Ctx.g_row_reads (T : Ctx w K mg) : mg "row_reads" = some (.ref (He.ga K "row_reads")) := T.glo 13
theorem Ctx.g_row_kinds_fit (T : Ctx w K mg) : mg "row_kinds_fit" = some (.ref (He.ga K "row_kinds_fit")) := T.glo 14
theorem Ctx.g_names_in (T : Ctx w K mg) : mg "_names_in" = some (.ref (He.ga K "_names_in")) := T.glo 15
theorem Ctx.g_is_head (T : Ctx w K mg) : mg "_is_head" = some (.ref (He.ga K "_is_head")) := T.glo 16
theorem Ctx.g_wanted (T : Ctx w K mg) : mg "wanted" = some (.ref (He.ga K "wanted")) := T.glo 17
theorem Ctx.g_wanting (T : Ctx w K mg) : mg "wanting" = some (.ref (He.ga K "wanting")) := T.glo 18
theorem Ctx.g_function_with (T : Ctx w K mg) : mg "_function_with" = some (.ref (He.ga K "_function_with")) := T.glo 19
theorem Ctx.g_wanted_in (T : Ctx w K mg) : mg "_wanted_in" = some (.ref (He.ga K "_wanted_in")) := T.glo 20
theorem Ctx.g_way_to_reader (T : Ctx w K mg) : mg "_way_to_reader" = some (.ref (He.ga K "_way_to_reader")) := T.glo 21
theorem Ctx.g_rows_behind (T : Ctx w K mg) : mg "_rows_behind" = some (.ref (He.ga K "_rows_behind")) := T.glo 22
theorem Ctx.g_L_well (T : Ctx w K mg) : mg "_law_well" = some (.ref (He.ga K "_law_well")) := T.glo 23
theorem Ctx.g_L_draw (T : Ctx w K mg) : mg "_law_draw" = some (.ref (He.ga K "_law_draw")) := T.glo 24
theorem Ctx.g_L_one (T : Ctx w K mg) : mg "_law_one" = some (.ref (He.ga K "_law_one")) := T.glo 25
theorem Ctx.g_L_made (T : Ctx w K mg) : mg "_law_made" = some (.ref (He.ga K "_law_made")) := T.glo 26
theorem Ctx.g_L_chain_right (T : Ctx w K mg) : mg "_law_chain_right" = some (.ref (He.ga K "_law_chain_right")) := T.glo 27
theorem Ctx.g_L_ring_right (T : Ctx w K mg) : mg "_law_ring_right" = some (.ref (He.ga K "_law_ring_right")) := T.glo 28
theorem Ctx.g_L_loops_right (T : Ctx w K mg) : mg "_law_loops_right" = some (.ref (He.ga K "_law_loops_right")) := T.glo 29
theorem Ctx.g_L_shifted (T : Ctx w K mg) : mg "_law_shifted" = some (.ref (He.ga K "_law_shifted")) := T.glo 30
theorem Ctx.g_L_put_right (T : Ctx w K mg) : mg "_law_put_right" = some (.ref (He.ga K "_law_put_right")) := T.glo 31
theorem Ctx.g_law (T : Ctx w K mg) : mg "law" = some (.ref (He.ga K "law")) := T.glo 32
theorem Ctx.f_isinstance (T : Ctx w K mg) : mg "isinstance" = none := T.free 33
theorem Ctx.f_int (T : Ctx w K mg) : mg "int" = none := T.free 34
theorem Ctx.f_bool (T : Ctx w K mg) : mg "bool" = none := T.free 35
theorem Ctx.f_str (T : Ctx w K mg) : mg "str" = none := T.free 36
theorem Ctx.f_list (T : Ctx w K mg) : mg "list" = none := T.free 37
theorem Ctx.f_tuple (T : Ctx w K mg) : mg "tuple" = none := T.free 38
theorem Ctx.f_len (T : Ctx w K mg) : mg "len" = none := T.free 39
theorem Ctx.f_all (T : Ctx w K mg) : mg "all" = none := T.free 40
theorem Ctx.f_zip (T : Ctx w K mg) : mg "zip" = none := T.free 41
theorem Ctx.f_enumerate (T : Ctx w K mg) : mg "enumerate" = none := T.free 42
theorem Ctx.f_dict (T : Ctx w K mg) : mg "dict" = none := T.free 43
theorem Ctx.f_sorted (T : Ctx w K mg) : mg "sorted" = none := T.free 44
theorem Ctx.f_range (T : Ctx w K mg) : mg "range" = none := T.free 45
theorem Ctx.i_GREATEST_WRITTEN (T : Ctx w K mg) : ∃ t, mg "GREATEST_WRITTEN" = some (.int 1000000000 t) := T.int 46
theorem Ctx.i_MOST_CLASSES (T : Ctx w K mg) : ∃ t, mg "MOST_CLASSES" = some (.int 6 t) := T.int 47
theorem Ctx.i_MOST_FUNCTIONS (T : Ctx w K mg) : ∃ t, mg "MOST_FUNCTIONS" = some (.int 6 t) := T.int 48
theorem Ctx.i_MOST_PARAMETERS (T : Ctx w K mg) : ∃ t, mg "MOST_PARAMETERS" = some (.int 4 t) := T.int 49
theorem Ctx.i_MOST_OTHERS (T : Ctx w K mg) : ∃ t, mg "MOST_OTHERS" = some (.int 8 t) := T.int 50
theorem Ctx.i_MOST_ROWS (T : Ctx w K mg) : ∃ t, mg "MOST_ROWS" = some (.int 40 t) := T.int 51
theorem Ctx.s_LETTERS (T : Ctx w K mg) : ∃ t, mg "LETTERS" = some (.str "abcdefghijklmnopqrstuvwxyz" t) := T.str 52
theorem Ctx.s_MARKS (T : Ctx w K mg) : ∃ t, mg "MARKS" = some (.str "abcdefghijklmnopqrstuvwxyz0123456789" t) := T.str 53
theorem Ctx.g_Function (T : Ctx w K mg) : mg "Function" = some (.ref (He.ga K "Function")) := T.glo 54
theorem Ctx.g_Source (T : Ctx w K mg) : mg "Source" = some (.ref (He.ga K "Source")) := T.glo 55
theorem Ctx.g_KINDS (T : Ctx w K mg) : mg "KINDS" = some (.ref (He.ga K "KINDS")) := T.glo 56
theorem Ctx.g_NUMBER_WORDS (T : Ctx w K mg) : mg "NUMBER_WORDS" = some (.ref (He.ga K "NUMBER_WORDS")) := T.glo 57
theorem Ctx.g_ROW_WORDS (T : Ctx w K mg) : mg "ROW_WORDS" = some (.ref (He.ga K "ROW_WORDS")) := T.glo 58
theorem Ctx.g_ROLES (T : Ctx w K mg) : mg "ROLES" = some (.ref (He.ga K "ROLES")) := T.glo 59
theorem Ctx.c_Function (T : Ctx w K mg) : Cls K (He.ga K "Function") := He.cls_ok (T.says.d.fact 60 rfl)
theorem Ctx.k_Function (T : Ctx w K mg) : Mk K (He.ga K "Function") (He.ma K (He.ga K "Function") "__init__") := He.mkr_ok (T.says.d.fact 61 rfl)
theorem Ctx.n_Function_name (T : Ctx w K mg) : NoAttr K (He.ga K "Function") "name" := He.noat_ok (T.says.d.fact 62 rfl)
theorem Ctx.n_Function_params (T : Ctx w K mg) : NoAttr K (He.ga K "Function") "params" := He.noat_ok (T.says.d.fact 63 rfl)
theorem Ctx.n_Function_others (T : Ctx w K mg) : NoAttr K (He.ga K "Function") "others" := He.noat_ok (T.says.d.fact 64 rfl)
theorem Ctx.n_Function_result (T : Ctx w K mg) : NoAttr K (He.ga K "Function") "result" := He.noat_ok (T.says.d.fact 65 rfl)
theorem Ctx.n_Function_variables (T : Ctx w K mg) : NoAttr K (He.ga K "Function") "variables" := He.noat_ok (T.says.d.fact 66 rfl)
theorem Ctx.n_Function_body (T : Ctx w K mg) : NoAttr K (He.ga K "Function") "body" := He.noat_ok (T.says.d.fact 67 rfl)
theorem Ctx.c_Source (T : Ctx w K mg) : Cls K (He.ga K "Source") := He.cls_ok (T.says.d.fact 68 rfl)
theorem Ctx.k_Source (T : Ctx w K mg) : Mk K (He.ga K "Source") (He.ma K (He.ga K "Source") "__init__") := He.mkr_ok (T.says.d.fact 69 rfl)
theorem Ctx.n_Source_field_kinds (T : Ctx w K mg) : NoAttr K (He.ga K "Source") "_field_kinds" := He.noat_ok (T.says.d.fact 70 rfl)
theorem Ctx.n_Source_fields (T : Ctx w K mg) : NoAttr K (He.ga K "Source") "_fields" := He.noat_ok (T.says.d.fact 71 rfl)
theorem Ctx.n_Source_functions (T : Ctx w K mg) : NoAttr K (He.ga K "Source") "_functions" := He.noat_ok (T.says.d.fact 72 rfl)
theorem Ctx.m_Function_has_row (T : Ctx w K mg) : Meth K (He.ga K "Function") "has_row" (He.ma K (He.ga K "Function") "has_row") := He.meth_ok (T.says.d.fact 73 rfl)
theorem Ctx.m_Source_take_classes (T : Ctx w K mg) : Meth K (He.ga K "Source") "_take_classes" (He.ma K (He.ga K "Source") "_take_classes") := He.meth_ok (T.says.d.fact 74 rfl)
theorem Ctx.m_Source_take_heads (T : Ctx w K mg) : Meth K (He.ga K "Source") "_take_heads" (He.ma K (He.ga K "Source") "_take_heads") := He.meth_ok (T.says.d.fact 75 rfl)
theorem Ctx.m_Source_take_rows (T : Ctx w K mg) : Meth K (He.ga K "Source") "_take_rows" (He.ma K (He.ga K "Source") "_take_rows") := He.meth_ok (T.says.d.fact 76 rfl)
theorem Ctx.m_Source_is_row_of (T : Ctx w K mg) : Meth K (He.ga K "Source") "_is_row_of" (He.ma K (He.ga K "Source") "_is_row_of") := He.meth_ok (T.says.d.fact 77 rfl)
theorem Ctx.m_Source_function_at (T : Ctx w K mg) : Meth K (He.ga K "Source") "function_at" (He.ma K (He.ga K "Source") "function_at") := He.meth_ok (T.says.d.fact 78 rfl)
theorem Ctx.D_is_integer (T : Ctx w K mg) : ∃ fd, FunD K "is_integer" "is_integer" (defArgs s_is_integer) (defBody s_is_integer) (defScope s_is_integer) [] [] (He.ga K "is_integer") fd := T.says.d.def_ 0 (d := d_is_integer) rfl
theorem Ctx.D_is_integer_in (T : Ctx w K mg) : ∃ fd, FunD K "is_integer_in" "is_integer_in" (defArgs s_is_integer_in) (defBody s_is_integer_in) (defScope s_is_integer_in) [] [] (He.ga K "is_integer_in") fd := T.says.d.def_ 1 (d := d_is_integer_in) rfl
theorem Ctx.D_is_written_number (T : Ctx w K mg) : ∃ fd, FunD K "is_written_number" "is_written_number" (defArgs s_is_written_number) (defBody s_is_written_number) (defScope s_is_written_number) [] [] (He.ga K "is_written_number") fd := T.says.d.def_ 2 (d := d_is_written_number) rfl
theorem Ctx.D_is_name (T : Ctx w K mg) : ∃ fd, FunD K "is_name" "is_name" (defArgs s_is_name) (defBody s_is_name) (defScope s_is_name) [] [] (He.ga K "is_name") fd := T.says.d.def_ 3 (d := d_is_name) rfl
theorem Ctx.D_is_kind (T : Ctx w K mg) : ∃ fd, FunD K "is_kind" "is_kind" (defArgs s_is_kind) (defBody s_is_kind) (defScope s_is_kind) [] [] (He.ga K "is_kind") fd := T.says.d.def_ 4 (d := d_is_kind) rfl
theorem Ctx.D_is_tuple_of (T : Ctx w K mg) : ∃ fd, FunD K "is_tuple_of" "is_tuple_of" (defArgs s_is_tuple_of) (defBody s_is_tuple_of) (defScope s_is_tuple_of) [] [] (He.ga K "is_tuple_of") fd := T.says.d.def_ 5 (d := d_is_tuple_of) rfl
theorem Ctx.D_is_list_of (T : Ctx w K mg) : ∃ fd, FunD K "is_list_of" "is_list_of" (defArgs s_is_list_of) (defBody s_is_list_of) (defScope s_is_list_of) [] [] (He.ga K "is_list_of") fd := T.says.d.def_ 6 (d := d_is_list_of) rfl
theorem Ctx.D_is_word_tuple (T : Ctx w K mg) : ∃ fd, FunD K "is_word_tuple" "is_word_tuple" (defArgs s_is_word_tuple) (defBody s_is_word_tuple) (defScope s_is_word_tuple) [] [] (He.ga K "is_word_tuple") fd := T.says.d.def_ 7 (d := d_is_word_tuple) rfl
theorem Ctx.D_frozen (T : Ctx w K mg) : ∃ fd, FunD K "frozen" "frozen" (defArgs s_frozen) (defBody s_frozen) (defScope s_frozen) [] [] (He.ga K "frozen") fd := T.says.d.def_ 8 (d := d_frozen) rfl
theorem Ctx.D_are_named_kinds (T : Ctx w K mg) : ∃ fd, FunD K "are_named_kinds" "are_named_kinds" (defArgs s_are_named_kinds) (defBody s_are_named_kinds) (defScope s_are_named_kinds) [] [] (He.ga K "are_named_kinds") fd := T.says.d.def_ 9 (d := d_are_named_kinds) rfl
theorem Ctx.D_is_row (T : Ctx w K mg) : ∃ fd, FunD K "is_row" "is_row" (defArgs s_is_row) (defBody s_is_row) (defScope s_is_row) [] [] (He.ga K "is_row") fd := T.says.d.def_ 10 (d := d_is_row) rfl
theorem Ctx.D_fills (T : Ctx w K mg) : ∃ fd, FunD K "_fills" "_fills" (defArgs s_fills) (defBody s_fills) (defScope s_fills) [] [] (He.ga K "_fills") fd := T.says.d.def_ 11 (d := d_fills) rfl
theorem Ctx.D_row_sets (T : Ctx w K mg) : ∃ fd, FunD K "row_sets" "row_sets" (defArgs s_row_sets) (defBody s_row_sets) (defScope s_row_sets) [] [] (He.ga K "row_sets") fd := T.says.d.def_ 12 (d := d_row_sets) rfl
theorem Ctx.D_row_reads (T : Ctx w K mg) : ∃ fd, FunD K "row_reads" "row_reads" (defArgs s_row_reads) (defBody s_row_reads) (defScope s_row_reads) [] [] (He.ga K "row_reads") fd := T.says.d.def_ 13 (d := d_row_reads) rfl
theorem Ctx.D_row_kinds_fit (T : Ctx w K mg) : ∃ fd, FunD K "row_kinds_fit" "row_kinds_fit" (defArgs s_row_kinds_fit) (defBody s_row_kinds_fit) (defScope s_row_kinds_fit) [] [] (He.ga K "row_kinds_fit") fd := T.says.d.def_ 14 (d := d_row_kinds_fit) rfl
theorem Ctx.D_names_in (T : Ctx w K mg) : ∃ fd, FunD K "_names_in" "_names_in" (defArgs s_names_in) (defBody s_names_in) (defScope s_names_in) [] [] (He.ga K "_names_in") fd := T.says.d.def_ 15 (d := d_names_in) rfl
theorem Ctx.D_is_head (T : Ctx w K mg) : ∃ fd, FunD K "_is_head" "_is_head" (defArgs s_is_head) (defBody s_is_head) (defScope s_is_head) [] [] (He.ga K "_is_head") fd := T.says.d.def_ 16 (d := d_is_head) rfl
theorem Ctx.D_wanted (T : Ctx w K mg) : ∃ fd, FunD K "wanted" "wanted" (defArgs s_wanted) (defBody s_wanted) (defScope s_wanted) [] [] (He.ga K "wanted") fd := T.says.d.def_ 17 (d := d_wanted) rfl
theorem Ctx.D_wanting (T : Ctx w K mg) : ∃ fd, FunD K "wanting" "wanting" (defArgs s_wanting) (defBody s_wanting) (defScope s_wanting) [] [] (He.ga K "wanting") fd := T.says.d.def_ 18 (d := d_wanting) rfl
theorem Ctx.D_function_with (T : Ctx w K mg) : ∃ fd, FunD K "_function_with" "_function_with" (defArgs s_function_with) (defBody s_function_with) (defScope s_function_with) [] [] (He.ga K "_function_with") fd := T.says.d.def_ 19 (d := d_function_with) rfl
theorem Ctx.D_wanted_in (T : Ctx w K mg) : ∃ fd, FunD K "_wanted_in" "_wanted_in" (defArgs s_wanted_in) (defBody s_wanted_in) (defScope s_wanted_in) [] [] (He.ga K "_wanted_in") fd := T.says.d.def_ 20 (d := d_wanted_in) rfl
theorem Ctx.D_way_to_reader (T : Ctx w K mg) : ∃ fd, FunD K "_way_to_reader" "_way_to_reader" (defArgs s_way_to_reader) (defBody s_way_to_reader) (defScope s_way_to_reader) [] [] (He.ga K "_way_to_reader") fd := T.says.d.def_ 21 (d := d_way_to_reader) rfl
theorem Ctx.D_rows_behind (T : Ctx w K mg) : ∃ fd, FunD K "_rows_behind" "_rows_behind" (defArgs s_rows_behind) (defBody s_rows_behind) (defScope s_rows_behind) [] [] (He.ga K "_rows_behind") fd := T.says.d.def_ 22 (d := d_rows_behind) rfl
theorem Ctx.D_L_well (T : Ctx w K mg) : ∃ fd, FunD K "_law_well" "_law_well" (defArgs s_L_well) (defBody s_L_well) (defScope s_L_well) [] [] (He.ga K "_law_well") fd := T.says.d.def_ 23 (d := d_L_well) rfl
theorem Ctx.D_L_draw (T : Ctx w K mg) : ∃ fd, FunD K "_law_draw" "_law_draw" (defArgs s_L_draw) (defBody s_L_draw) (defScope s_L_draw) [] [] (He.ga K "_law_draw") fd := T.says.d.def_ 24 (d := d_L_draw) rfl
theorem Ctx.D_L_one (T : Ctx w K mg) : ∃ fd, FunD K "_law_one" "_law_one" (defArgs s_L_one) (defBody s_L_one) (defScope s_L_one) [] [] (He.ga K "_law_one") fd := T.says.d.def_ 25 (d := d_L_one) rfl
theorem Ctx.D_L_made (T : Ctx w K mg) : ∃ fd, FunD K "_law_made" "_law_made" (defArgs s_L_made) (defBody s_L_made) (defScope s_L_made) [] [] (He.ga K "_law_made") fd := T.says.d.def_ 26 (d := d_L_made) rfl
theorem Ctx.D_L_chain_right (T : Ctx w K mg) : ∃ fd, FunD K "_law_chain_right" "_law_chain_right" (defArgs s_L_chain_right) (defBody s_L_chain_right) (defScope s_L_chain_right) [] [] (He.ga K "_law_chain_right") fd := T.says.d.def_ 27 (d := d_L_chain_right) rfl
theorem Ctx.D_L_ring_right (T : Ctx w K mg) : ∃ fd, FunD K "_law_ring_right" "_law_ring_right" (defArgs s_L_ring_right) (defBody s_L_ring_right) (defScope s_L_ring_right) [] [] (He.ga K "_law_ring_right") fd := T.says.d.def_ 28 (d := d_L_ring_right) rfl
theorem Ctx.D_L_loops_right (T : Ctx w K mg) : ∃ fd, FunD K "_law_loops_right" "_law_loops_right" (defArgs s_L_loops_right) (defBody s_L_loops_right) (defScope s_L_loops_right) [] [] (He.ga K "_law_loops_right") fd := T.says.d.def_ 29 (d := d_L_loops_right) rfl
theorem Ctx.D_L_shifted (T : Ctx w K mg) : ∃ fd, FunD K "_law_shifted" "_law_shifted" (defArgs s_L_shifted) (defBody s_L_shifted) (defScope s_L_shifted) [] [] (He.ga K "_law_shifted") fd := T.says.d.def_ 30 (d := d_L_shifted) rfl
theorem Ctx.D_L_put_right (T : Ctx w K mg) : ∃ fd, FunD K "_law_put_right" "_law_put_right" (defArgs s_L_put_right) (defBody s_L_put_right) (defScope s_L_put_right) [] [] (He.ga K "_law_put_right") fd := T.says.d.def_ 31 (d := d_L_put_right) rfl
theorem Ctx.D_law (T : Ctx w K mg) : ∃ fd, FunD K "law" "law" (defArgs s_law) (defBody s_law) (defScope s_law) [] [] (He.ga K "law") fd := T.says.d.def_ 32 (d := d_law) rfl
theorem Ctx.D_Function_init (T : Ctx w K mg) : ∃ fd, FunD K "__init__" "Function.__init__" (defArgs s_Function_init) (defBody s_Function_init) (defScope s_Function_init) [] [] (He.ma K (He.ga K "Function") "__init__") fd := T.says.d.def_ 33 (d := d_Function_init) rfl
theorem Ctx.D_Function_has_row (T : Ctx w K mg) : ∃ fd, FunD K "has_row" "Function.has_row" (defArgs s_Function_has_row) (defBody s_Function_has_row) (defScope s_Function_has_row) [] [] (He.ma K (He.ga K "Function") "has_row") fd := T.says.d.def_ 34 (d := d_Function_has_row) rfl
theorem Ctx.D_Source_init (T : Ctx w K mg) : ∃ fd, FunD K "__init__" "Source.__init__" (defArgs s_Source_init) (defBody s_Source_init) (defScope s_Source_init) [] [] (He.ma K (He.ga K "Source") "__init__") fd := T.says.d.def_ 35 (d := d_Source_init) rfl
theorem Ctx.D_Source_take_classes (T : Ctx w K mg) : ∃ fd, FunD K "_take_classes" "Source._take_classes" (defArgs s_Source_take_classes) (defBody s_Source_take_classes) (defScope s_Source_take_classes) [] [] (He.ma K (He.ga K "Source") "_take_classes") fd := T.says.d.def_ 36 (d := d_Source_take_classes) rfl
theorem Ctx.D_Source_take_heads (T : Ctx w K mg) : ∃ fd, FunD K "_take_heads" "Source._take_heads" (defArgs s_Source_take_heads) (defBody s_Source_take_heads) (defScope s_Source_take_heads) [] [] (He.ma K (He.ga K "Source") "_take_heads") fd := T.says.d.def_ 37 (d := d_Source_take_heads) rfl
theorem Ctx.D_Source_take_rows (T : Ctx w K mg) : ∃ fd, FunD K "_take_rows" "Source._take_rows" (defArgs s_Source_take_rows) (defBody s_Source_take_rows) (defScope s_Source_take_rows) [] [] (He.ma K (He.ga K "Source") "_take_rows") fd := T.says.d.def_ 38 (d := d_Source_take_rows) rfl
theorem Ctx.D_Source_is_row_of (T : Ctx w K mg) : ∃ fd, FunD K "_is_row_of" "Source._is_row_of" (defArgs s_Source_is_row_of) (defBody s_Source_is_row_of) (defScope s_Source_is_row_of) [] [] (He.ma K (He.ga K "Source") "_is_row_of") fd := T.says.d.def_ 39 (d := d_Source_is_row_of) rfl
theorem Ctx.D_Source_function_at (T : Ctx w K mg) : ∃ fd, FunD K "function_at" "Source.function_at" (defArgs s_Source_function_at) (defBody s_Source_function_at) (defScope s_Source_function_at) [] [] (He.ma K (He.ga K "Source") "function_at") fd := T.says.d.def_ 40 (d := d_Source_function_at) rfl
theorem Ctx.kinds (T : Ctx w K mg) (H : Hp) : SqT K H (He.ga K "KINDS") (v_KINDS.map (He.Dv.v K)) := He.tupB_ok (He.ba T.more).1 H
theorem Ctx.numwords (T : Ctx w K mg) (H : Hp) : SqT K H (He.ga K "NUMBER_WORDS") (v_NUMBER_WORDS.map (He.Dv.v K)) := He.tupB_ok (He.ba (He.ba T.more).2).1 H
theorem Ctx.rowwords (T : Ctx w K mg) (H : Hp) : SqT K H (He.ga K "ROW_WORDS") (v_ROW_WORDS.map (He.Dv.v K)) := He.tupB_ok (He.ba (He.ba (He.ba T.more).2).2).1 H
theorem tupAt_ok {K : PySem.W.Frag} {a : Addr} {vs : List V} (h : tupAt K a vs = true) (H : Hp) : SqT K H a vs := by
  unfold tupAt at h
  cases q : K.lookup a with
  | none =>
    rw [q] at h
    cases h
  | some o =>
    obtain ⟨oc, od, dt, osl⟩ := o
    rw [q] at h
    cases oc with
    | type c =>
      cases dt with
      | seq its n =>
        obtain ⟨h1, h2⟩ := He.ba (show (decide (c = "tuple") && (decide (its.size ≤ sizeLine) && He.relAll vs its.toList)) = true from h)
        obtain ⟨h3, h4⟩ := He.ba h2
        exact .inr ⟨_, its, n, q, congrArg Value.type (of_decide_eq_true h1), rfl, of_decide_eq_true h3, He.relAll_ok h4⟩
      | _ => cases h
    | _ => cases dt <;> cases h
theorem Ctx.rolesD (T : Ctx w K mg) : ∃ es n, KDict K w (He.ga K "ROLES") es n := T.says.tab 0 (t := (fun K => He.ga K "ROLES", roles.map (·.1))) rfl
theorem Ctx.role (T : Ctx w K mg) {x : Str} {rs : List Str} (m : (x, rs) ∈ roles) (H : Hp) : PySem.W.nsIn K (He.ga K "ROLES") x = some (some (.ref (rolA K x))) ∧ SqT K H (rolA K x) (rs.map V.str) := by
  have e := List.all_eq_true.mp (He.ba (He.ba (He.ba (He.ba T.more).2).2).2).1 (x, rs) m
  obtain ⟨e1, e2⟩ := He.ba (show (He.eqO (PySem.W.nsIn K (He.ga K "ROLES") x) (some (some (.ref (rolA K x)))) && tupAt K (rolA K x) (rs.map V.str)) = true from e)
  exact ⟨He.eqO_ok e1, tupAt_ok e2 H⟩
theorem Ctx.isSource (T : Ctx w K mg) {H : Hp} {p dx : Addr} {fs : List (Str × V)} (h : H p = some (.ins (He.ga K "Source") dx fs)) : TyX K H (.ref p) (.ref (He.ga K "Source")) ∧ PySem.W.kitOne K (.ref (He.ga K "Source")) (.ref (He.ga K "Source")) = some true := by
  have e := (He.ba (He.ba (He.ba (He.ba T.more).2).2).2).2
  obtain ⟨e1, e⟩ := He.ba (show (He.eqO (PySem.W.findIn K (.ref (He.ga K "Source")) "__class__") (some (some (.builtin "object.__class__"))) && (He.eqO (PySem.W.specialIn K (.builtin "object.__class__") "__get__") (some (some (.builtin "getset_descriptor.__get__"))) && (decide (PySem.W.takesIn K (.builtin "object.__class__") = some true) && (decide (PySem.W.mroIn K (He.ga K "Source") (.type "object") = some true) && decide (PySem.W.kitOne K (.ref (He.ga K "Source")) (.ref (He.ga K "Source")) = some true))))) = true from e)
  obtain ⟨e2, e⟩ := He.ba e
  obtain ⟨e3, e⟩ := He.ba e
  obtain ⟨e4, e5⟩ := He.ba e
  exact ⟨.base (.ins h T.c_Source (He.eqO_ok e1) (He.eqO_ok e2) (of_decide_eq_true e3) (of_decide_eq_true e4)), of_decide_eq_true e5⟩
end
end W19
set_option Elab.async false
set_option linter.all false
set_option maxRecDepth 100000
set_option maxHeartbeats 4000000
namespace W19
open PySem PySem.Spec PyProof.Rows L2
/-! ### heaps that grow -/
theorem Same.new {H : Hp} {p : Addr} {o : HO} (h : H p = none) : Same H (upd H p o) := fun a u e => by
  rw [upd_ne (ne_of_none e h)]
  exact e
theorem Same.mut {H H' : Hp} {p : Addr} {o : HO} (e : Same H H') (h : H p = none) : Same H (upd H' p o) := fun a u ha => by
  rw [upd_ne (ne_of_none ha h)]
  exact e a u ha
theorem Same.tup {K : PySem.W.Frag} {H H' : Hp} {a : Addr} {xs : List V} (e : Same H H') (h : SqT K H a xs) : SqT K H' a xs := by
  rcases h with (h | ⟨o, h⟩) | h
  · exact .inl (.inl (e _ _ h))
  · exact .inl (.inr ⟨o, e _ _ h⟩)
  · exact .inr h
theorem sz_of {n : Nat} (h : n ≤ 100000) : n ≤ sizeLine := Nat.le_trans h (by decide)
theorem sz_lt {n : Nat} (h : n < 100000) : n < sizeLine := Nat.lt_of_lt_of_le h (by decide)
/-- a comprehension whose elements leave what stood as it was: the list of what they give -/
theorem lc_pure {J : It} {n : Nat} {G : Hp → Prop} {Y : Nat → Hp → V → Hp → Prop} (w : Walk J n G Y) {g : TG} {te : TE} {vs : List Nat} {σ : L2.St} {H0 : Hp} {D : Addr} {Qd : Hp → Prop} (hD : H0 D = none) (f : Nat → V) (hn : n < 100000)
    (hG : ∀ H, Same H0 H → G H)
    (hs : ∀ i H x H', i < n → Same H0 H → Y i H x H' → ∀ Qe : VK, (∀ H4, Same H H4 → Qe (f i) H4) → g x (wipe σ vs) H' fun σ2 H2 => wipe σ2 vs = wipe σ vs ∧ te σ2 H2 Qe)
    (hd : ∀ H, Same H0 H → H D = some (.lst ((List.range n).map f)) → Qd H) :
    ∃ W : Nat → Nat → Hp → Prop, (∃ m, W 0 m (upd H0 D (.lst []))) ∧ ∀ i m H, W i m H →
      (J.stop i H ∧ Qd H) ∨ (J.go i H ∧ ∃ Nx : Hp → Prop, (∀ H', Nx H' → ∃ m', m' < m ∧ W (i + 1) m' H') ∧ ∀ x H', J.yld i H x H' → g x (wipe σ vs) H' fun σ2 H2 => wipe σ2 vs = wipe σ vs ∧ tYes σ2 H2 fun b H3 =>
        if b = true then te σ2 H3 fun y H4 => ∃ acc, H4 D = some (.lst acc) ∧ acc.length < sizeLine ∧ Nx (upd H4 D (.lst (acc ++ [y]))) else Nx H3) := by
  refine lc_it w (fun i H => Same H0 H ∧ H D = some (.lst ((List.range i).map f))) ⟨Same.new hD, upd_same⟩ (fun i H _ p => hG H p.1) (fun i x H H' hi p y => ?_) (fun H p => hd H p.1 p.2)
  have q := hs i H x H' hi p.1 y (fun y H4 => ∃ acc, H4 D = some (.lst acc) ∧ acc.length < sizeLine ∧ (Same H0 (upd H4 D (.lst (acc ++ [y]))) ∧ upd H4 D (.lst (acc ++ [y])) D = some (.lst ((List.range (i + 1)).map f)))) (fun H4 s4 => ?_)
  · exact q
  · refine ⟨_, s4 _ _ p.2, sz_lt ?_, Same.mut (p.1.trans s4) hD, ?_⟩
    · rw [List.length_map, List.length_range]
      exact Nat.lt_trans hi hn
    · rw [upd_same, List.range_succ, List.map_append]
      rfl
theorem qT {Q : VK} {H : Hp} {b : Bool} (e : b = true) (k : Q (.bl true) H) : Q (.bl b) H := by
  rw [e]
  exact k
theorem qF {Q : VK} {H : Hp} {b : Bool} (e : b = false) (k : Q (.bl false) H) : Q (.bl b) H := by
  rw [e]
  exact k
theorem ifT {b : Bool} {A B : Prop} (e : b = true) (h : A) : if b = true then A else B := by
  rw [e]
  exact iteT h
theorem ifF {b : Bool} {A B : Prop} (e : b = false) (h : B) : if b = true then A else B := by
  rw [e]
  exact iteF h
theorem at0 {v : V} {xs : List V} : atI (v :: xs) 0 = some v := atI_nat (j := 0) rfl
theorem at1 {a v : V} {xs : List V} : atI (a :: v :: xs) 1 = some v := atI_nat (j := 1) rfl
theorem at2 {a b v : V} {xs : List V} : atI (a :: b :: v :: xs) 2 = some v := atI_nat (j := 2) rfl
theorem at3 {a b c v : V} {xs : List V} : atI (a :: b :: c :: v :: xs) 3 = some v := atI_nat (j := 3) rfl
theorem at4 {a b c d v : V} {xs : List V} : atI (a :: b :: c :: d :: v :: xs) 4 = some v := atI_nat (j := 4) rfl
/-- .. whose elements are new tuples -/
theorem lc_tups {J : It} {n : Nat} {G : Hp → Prop} {Y : Nat → Hp → V → Hp → Prop} (w : Walk J n G Y) {g : TG} {te : TE} {vs : List Nat} {σ : L2.St} {H0 : Hp} {D : Addr} {Qd : Hp → Prop} (hD : H0 D = none) (f : Nat → List V) (hn : n < 100000)
    (hG : ∀ H, Same H0 H → G H)
    (hs : ∀ i H x H', i < n → Same H0 H → Y i H x H' → ∀ Qe : VK, (∀ q H4, Same H H4 → H4 q = some (.tup (f i)) → Qe (.ref q) H4) → g x (wipe σ vs) H' fun σ2 H2 => wipe σ2 vs = wipe σ vs ∧ te σ2 H2 Qe)
    (hd : ∀ (H : Hp) (qs : List Addr), Same H0 H → qs.length = n → (∀ (i : Nat) (q : Addr), qs[i]? = some q → H q = some (.tup (f i))) → H D = some (.lst (qs.map V.ref)) → Qd H) :
    ∃ W : Nat → Nat → Hp → Prop, (∃ m, W 0 m (upd H0 D (.lst []))) ∧ ∀ i m H, W i m H →
      (J.stop i H ∧ Qd H) ∨ (J.go i H ∧ ∃ Nx : Hp → Prop, (∀ H', Nx H' → ∃ m', m' < m ∧ W (i + 1) m' H') ∧ ∀ x H', J.yld i H x H' → g x (wipe σ vs) H' fun σ2 H2 => wipe σ2 vs = wipe σ vs ∧ tYes σ2 H2 fun b H3 =>
        if b = true then te σ2 H3 fun y H4 => ∃ acc, H4 D = some (.lst acc) ∧ acc.length < sizeLine ∧ Nx (upd H4 D (.lst (acc ++ [y]))) else Nx H3) := by
  refine lc_it w (fun i H => Same H0 H ∧ ∃ qs : List Addr, qs.length = i ∧ (∀ (j : Nat) (q : Addr), qs[j]? = some q → H q = some (.tup (f j))) ∧ H D = some (.lst (qs.map V.ref))) ⟨Same.new hD, [], rfl, fun j q e => by simp at e, upd_same⟩ (fun i H _ p => hG H p.1) (fun i x H H' hi p y => ?_) (fun H p => ?_)
  · obtain ⟨s1, qs, hl, hq, hDD⟩ := p
    have q := hs i H x H' hi s1 y (fun y H4 => ∃ acc, H4 D = some (.lst acc) ∧ acc.length < sizeLine ∧ (Same H0 (upd H4 D (.lst (acc ++ [y]))) ∧ ∃ qs : List Addr, qs.length = i + 1 ∧ (∀ (j : Nat) (q : Addr), qs[j]? = some q → upd H4 D (.lst (acc ++ [y])) q = some (.tup (f j))) ∧ upd H4 D (.lst (acc ++ [y])) D = some (.lst (qs.map V.ref)))) (fun q H4 s4 hq4 => ?_)
    · exact q
    · have h4 := s4 _ _ hDD
      refine ⟨_, h4, sz_lt ?_, Same.mut (s1.trans s4) hD, qs ++ [q], by rw [List.length_append, hl]; rfl, fun j r e => ?_, by rw [upd_same, List.map_append]; rfl⟩
      · rw [List.length_map, hl]
        exact Nat.lt_trans hi hn
      · have z : H4 r = some (.tup (f j)) := by
          by_cases hj : j < qs.length
          · rw [List.getElem?_append_left hj] at e
            exact s4 _ _ (hq j r e)
          · rw [List.getElem?_append_right (by omega)] at e
            have hj2 : j - qs.length = 0 := by
              have := (List.getElem?_eq_some_iff.mp e).1
              simp at this
              omega
            rw [hj2] at e
            have er : q = r := Option.some.inj e
            have ej : j = i := by omega
            rw [← er, ej]
            exact hq4
        rw [upd_ne]
        · exact z
        · intro c
          rw [c, h4] at z
          cases z
  · obtain ⟨s1, qs, hl, hq, hDD⟩ := p
    exact hd H qs s1 hl hq hDD
theorem map_range_getD {xs : List V} : (List.range xs.length).map (fun i => xs.getD i .non) = xs := by
  apply List.ext_getElem
  · simp
  · intro i h1 h2
    simp at h1
    simp [h1]
theorem getD_of {xs : List V} {i : Nat} {x : V} (h : xs[i]? = some x) : xs.getD i .non = x := by
  rw [List.getD_eq_getElem?_getD, h]
  rfl
/-- pairs of a name and "number" -/
structure Pairs (H : Hp) (ps : List Addr) (ns : List Str) : Prop where
  len : ps.length = ns.length
  at_ : ∀ (i : Nat) p x, ps[i]? = some p → ns[i]? = some x → H p = some (.tup [.str x, .str "number"])
theorem Pairs.mono {H H' : Hp} {ps : List Addr} {ns : List Str} (h : Pairs H ps ns) (e : Same H H') : Pairs H' ps ns := ⟨h.len, fun i p x a b => e _ _ (h.at_ i p x a b)⟩
theorem Pairs.append {H : Hp} {ps qs : List Addr} {ns ms : List Str} (h : Pairs H ps ns) (h2 : Pairs H qs ms) : Pairs H (ps ++ qs) (ns ++ ms) := by
  refine ⟨by rw [List.length_append, List.length_append, h.len, h2.len], fun i p x a b => ?_⟩
  by_cases hi : i < ps.length
  · rw [List.getElem?_append_left hi] at a
    rw [List.getElem?_append_left (by rw [← h.len]; exact hi)] at b
    exact h.at_ i p x a b
  · rw [List.getElem?_append_right (by omega)] at a
    rw [List.getElem?_append_right (by rw [← h.len]; omega), ← h.len] at b
    exact h2.at_ _ p x a b
theorem Pairs.get {H : Hp} {ps : List Addr} {ns : List Str} (h : Pairs H ps ns) {i : Nat} {y : V} (e : (ps.map V.ref)[i]? = some y) : ∃ p x, y = .ref p ∧ ps[i]? = some p ∧ ns[i]? = some x ∧ H p = some (.tup [.str x, .str "number"]) := by
  rw [List.getElem?_map] at e
  cases q : ps[i]? with
  | none =>
    rw [q] at e
    cases e
  | some p =>
    rw [q] at e
    have hi : i < ps.length := (List.getElem?_eq_some_iff.mp q).1
    have hx : ns[i]? = some (ns[i]'(by rw [← h.len]; exact hi)) := by
      rw [List.getElem?_eq_getElem]
    exact ⟨p, _, (Option.some.inj e).symm, rfl, hx, h.at_ i p _ q hx⟩
theorem take_snoc {α : Type} : ∀ {l : List α} {i : Nat} {x : α}, l[i]? = some x → l.take (i + 1) = l.take i ++ [x]
  | [], i, x, h => by simp at h
  | a :: l, 0, x, h => by
    have e : a = x := Option.some.inj h
    subst e
    rfl
  | a :: l, i + 1, x, h => by
    have ih := take_snoc (l := l) (i := i) (x := x) h
    show a :: l.take (i + 1) = a :: l.take i ++ [x]
    rw [ih]
    rfl
theorem not_in_take {α : Type} {l : List α} (hN : l.Nodup) {i : Nat} {x : α} (h : l[i]? = some x) : x ∉ l.take i := fun m => by
  obtain ⟨j, hj, e⟩ := List.mem_iff_getElem.mp m
  rw [List.getElem_take] at e
  have hj2 : j < i := by
    rw [List.length_take] at hj
    omega
  have hi := (List.getElem?_eq_some_iff.mp h)
  obtain ⟨hi1, hi2⟩ := hi
  have q := (List.getElem_inj hN).mp (e.trans hi2.symm)
  omega
/-- a dict whose keys are these names -/
def kvT (l : List Str) (f : Str → V) : List (Key × V) := l.map fun x => (Sum.inr x, f x)
theorem valV_kvT {l : List Str} {f : Str → V} {x : Str} (h : x ∉ l) : valV (kvT l f) (Sum.inr x : Key) = none := by
  cases e : valV (kvT l f) (Sum.inr x : Key) with
  | none => rfl
  | some v =>
    have m := valV_in e
    obtain ⟨q, hq, e2⟩ := List.mem_map.mp m
    obtain ⟨y, hy, e3⟩ := List.mem_map.mp hq
    rw [← e3] at e2
    have e4 : y = x := Sum.inr.inj e2
    rw [← e4] at h
    exact absurd hy h
theorem putK_kvT {l : List Str} {f : Str → V} {x : Str} (h : x ∉ l) : putK (kvT l f) (Sum.inr x : Key) (f x) = kvT (l ++ [x]) f := by
  rw [putK_new _ (valV_kvT h)]
  unfold kvT
  rw [List.map_append]
  rfl
/-! ### truth of a list of true things -/
theorem all_true {n : Nat} : (((List.range n).map fun _ => true).all id) = true := by
  simp
/-! ### names -/
def LETS : Str := "abcdefghijklmnopqrstuvwxyz"
def MRKS : Str := "abcdefghijklmnopqrstuvwxyz0123456789"
structure Nam (x : Str) : Prop where
  pos : 0 < x.cps.size
  le : x.cps.size ≤ 8
  one : ∃ c : Nat, x.cps[0]? = some c ∧ c ∈ LETS.cps.toList
  all : ∀ (i c : Nat), x.cps[i]? = some c → c ∈ MRKS.cps.toList
theorem pe_fldK {X : Cx} {K : PySem.W.Frag} {e : Expr} {ta : TE} {f : Str} {pos : Pos} (hk : X.K = K) (he : PE X e ta) (hb : attributeBase e f X.env (eval e X.env) = eval e X.env) : PE X (.Attribute e f pos) (tFld K ta f) := by
  subst hk
  exact pe_fld he hb
end W19
set_option Elab.async false
set_option linter.all false
set_option maxRecDepth 100000
set_option maxHeartbeats 4000000
namespace W19
open PySem PySem.Spec PyProof.Rows L2
/-! ### tuples whose objects are known to have no dict -/
def PlT (o : Obj) : Prop := o.cls = .type "tuple" ∧ o.dict = none
/-- a plain tuple -/
def TupP (H : Hp) (a : Addr) (xs : List V) : Prop := ∃ o, H a = some (.frz o (.tup xs)) ∧ PlT o
theorem TupP.sq {K : PySem.W.Frag} {H : Hp} {a : Addr} {xs : List V} (h : TupP H a xs) : SqT K H a xs := by
  obtain ⟨o, e, _⟩ := h
  exact .inl (.inr ⟨o, e⟩)
theorem TupP.mono {H H' : Hp} {a : Addr} {xs : List V} (h : TupP H a xs) (e : Same H H') : TupP H' a xs := by
  obtain ⟨o, q, p⟩ := h
  exact ⟨o, e _ _ q, p⟩
section
variable {X : Cx}
/-- tuple(list) -/
theorem call_tupleP : CallR X (.type "tuple") (fun xs H Q => ∃ p ys, xs = [.ref p] ∧ SqL X.K H p ys ∧ ∀ l o, H l = none → PlT o → Q (.ref l) (upd H l (.frz o (.tup ys)))) := by
  intro pins s σ H xs us Q I r h
  obtain ⟨p, ys, rfl, hq, q⟩ := h
  obtain ⟨u, rfl, rx⟩ := vals1 r
  cases rx
  obtain ⟨its, r', pl, hz⟩ := I.list hq
  have hlen := r'.length
  refine call_tuple_list pl.isList (fun h' kp => ?_) (by simp only [List.size_toArray] <;> omega)
  have I1 : Inv X pins σ H { s with heap := h' } := I.kept (t' := s.toks) kp
  have I2 : Inv X pins σ (upd H h'.objs.size (.frz { cls := .type "tuple", data := .seq its.toArray } (.tup ys))) { s with heap := h'.push { cls := .type "tuple", data := .seq its.toArray } } :=
    I1.laid (t' := s.toks) (fun b o e => Heap.get?_push_of_some _ e) (Nat.le_refl _) (show ObjOk X.prog X.w _ _ _ (.frz _ (.tup ys)) from ⟨Heap.get?_push_size _ rfl, hz, its, r', IsTup.new _ _⟩)
  exact ⟨.ref h'.objs.size, _, I2, rfl, q _ _ (I1.hok.fresh (Nat.le_refl _)) ⟨rfl, rfl⟩⟩
/-- t + u of plain tuples -/
theorem op_catP : OpR X (binaryOp .Add) (fun x y H Q => ∃ a b xs ys, x = .ref a ∧ y = .ref b ∧ SqT X.K H a xs ∧ SqT X.K H b ys ∧ xs ≠ [] ∧ xs.length + ys.length ≤ sizeLine ∧ (ys = [] → Q (.ref a) H) ∧ (ys ≠ [] → ∀ p o, H p = none → PlT o → Q (.ref p) (upd H p (.frz o (.tup (xs ++ ys)))))) := by
  intro pins s σ H x y v u Q I rx ry h
  obtain ⟨a, b, xs, ys, rfl, rfl, ha, hb, hx, hz, q1, q2⟩ := h
  cases rx
  cases ry
  obtain ⟨its, r1, p1, _⟩ := I.tuple ha
  obtain ⟨its2, r2, p2, _⟩ := I.tuple hb
  refine HT.cat_tup p1 p2 (fun z => hx (r1.nil_iff.mp z)) (fun z => ⟨.ref a, H, I, rfl, q1 (r2.nil_iff.mp z)⟩) (fun z => ?_) (by rw [← r1.length, ← r2.length]; exact hz)
  refine ⟨.ref s.heap.objs.size, _, I.laid (t' := s.toks) (o := .frz { cls := .type "tuple", data := .seq (its ++ its2).toArray } (.tup (xs ++ ys))) (fun b ob q => Heap.get?_push_of_some _ q) (Nat.le_refl _) ?_, rfl, q2 (fun w => z (r2.nil_iff.mpr w)) _ _ (I.hok.fresh (Nat.le_refl _)) ⟨rfl, rfl⟩⟩
  exact ⟨Heap.get?_push_size _ rfl, by rw [List.length_append]; exact hz, _, r1.append r2, IsTup.new _ _⟩
/-- dict(t) of a plain tuple of pairs (key, value) -/
theorem call_dictT (hcalm : X.calm = true) : CallR X (.type "dict") (fun xs H Q => ∃ (a : Addr) (ps : List Addr) (kvs : List (Key × V)), xs = [.ref a] ∧ TupP H a (ps.map V.ref) ∧ Paired (fun p kv => SqT X.K H p [kV kv.1, kv.2]) ps kvs ∧
    ∀ p, H p = none → Q (.ref p) (upd H p (.dK (mergeK [] kvs)))) := by
  intro pins s σ H xs us Q I r q
  obtain ⟨a, ps, kvs, ex, ⟨o, ho, hc, hd⟩, hp, q⟩ := q
  subst ex
  obtain ⟨u, eu, rx⟩ := vals1 r
  subst eu
  cases rx
  obtain ⟨e0, hz, its, rv, ⟨o', e1, _, n, hdat⟩⟩ := (show ObjOk X.prog X.w H s.heap a (.frz o (.tup (ps.map V.ref))) from I.hok a _ ho)
  have eo : o' = o := Option.some.inj (e1.symm.trans e0)
  subst eo
  have ei := refs_at rv
  subst ei
  rw [List.length_map] at hz
  obtain ⟨prs, rel, hl, hpr⟩ := pairs_of I hp
  -- the keys as they stand
  have keyed : ∃ qs : List (Value × Value), qs.length = prs.length ∧ ∀ (j : Nat) (q : Key × Value), prs[j]? = some q → ∃ (b : Addr) (u : Value), ps[j]? = some b ∧ IsTup s.heap b #[u, q.2] ∧ keyIs q.1 u = true ∧ qs[j]? = some (u, q.2) := by
    have go : ∀ (prs : List (Key × Value)) (f : Nat → Key × Value → Value → Prop), (∀ j q, prs[j]? = some q → ∃ u, f j q u) → ∃ qs : List (Value × Value), qs.length = prs.length ∧ ∀ j q, prs[j]? = some q → ∃ u, f j q u ∧ qs[j]? = some (u, q.2) := by
      intro prs
      induction prs with
      | nil => exact fun f _ => ⟨[], rfl, fun j q e => by simp at e⟩
      | cons p r ih =>
        intro f hf
        obtain ⟨u0, h0⟩ := hf 0 p rfl
        obtain ⟨qs, h1, h2⟩ := ih (fun j q u => f (j + 1) q u) fun j q e => hf (j + 1) q (by simpa using e)
        refine ⟨(u0, p.2) :: qs, by simp [h1], fun j q e => ?_⟩
        cases j with
        | zero =>
          have e' : p = q := Option.some.inj e
          subst e'
          exact ⟨u0, h0, rfl⟩
        | succ j =>
          obtain ⟨u, h3, h4⟩ := h2 j q (by simpa using e)
          exact ⟨u, h3, by simpa using h4⟩
    obtain ⟨qs, h1, h2⟩ := go prs (fun j q u => ∃ b, ps[j]? = some b ∧ IsTup s.heap b #[u, q.2] ∧ keyIs q.1 u = true) fun j q e => by
      obtain ⟨b, u, x1, x2, x3⟩ := hpr j q e
      exact ⟨u, b, x1, x2, x3⟩
    refine ⟨qs, h1, fun j q e => ?_⟩
    obtain ⟨u, ⟨b, x1, x2, x3⟩, x4⟩ := h2 j q e
    exact ⟨b, u, x1, x2, x3, x4⟩
  obtain ⟨qs, hql, hqs⟩ := keyed
  have hz' : prs.length ≤ sizeLine := by
    rw [hl]
    exact hz
  have items : PairItems s.heap (ps.map Value.ref).toArray (fun j => ps.getD j 0) qs := by
    refine ⟨by simp [hql, hl], fun j k v e => ?_⟩
    have hj : j < prs.length := by
      rw [← hql]
      exact (List.getElem?_eq_some_iff.mp e).1
    obtain ⟨b, u, x1, x2, x3, x4⟩ := hqs j prs[j] (List.getElem?_eq_getElem hj)
    have e2 : (u, prs[j].2) = (k, v) := Option.some.inj (x4.symm.trans e)
    have eb : ps.getD j 0 = b := by
      rw [List.getD_eq_getElem?_getD, x1]
      rfl
    refine ⟨by simp [x1, eb], .inl ?_⟩
    obtain ⟨e3, e4⟩ := Prod.mk.inj e2
    show s.heap.IsTuple (ps.getD j 0) #[k, v]
    rw [eb, ← e3, ← e4]
    exact x2
  have have_ : PairsHave (mixKind X.prog X.w) qs.length (PairRel qs) prs := by
    refine ⟨hql.symm, fun i key v e => ?_⟩
    have hj : i < prs.length := by
      rw [← hql]
      exact (List.getElem?_eq_some_iff.mp e).1
    obtain ⟨b, u, x1, x2, x3, x4⟩ := hqs i prs[i] (List.getElem?_eq_getElem hj)
    have e2 : (u, prs[i].2) = (key, v) := Option.some.inj (x4.symm.trans e)
    obtain ⟨e3, e4⟩ := Prod.mk.inj e2
    refine ⟨prs[i].1, ?_, ?_⟩
    · rw [List.getElem?_eq_getElem hj, ← e4]
    · rw [← e3]
      exact x3
  refine PySem.call_dict_pairs (knd := mixKind X.prog X.w) (kvs := prs) (PairArg.tuple a (ps.map Value.ref).toArray (fun j => ps.getD j 0) qs) (I.ok.hd hcalm) ⟨⟨o', n, e0, hc, hd, hdat⟩, items⟩ have_ (by rw [hql]; exact hz') fun h' tk hd' k => ?_
  have hm : (s.heap.objs.size == sysModules) = false := beq_eq_false_iff_ne.mpr (Nat.ne_of_gt I.big)
  have hlen : (mergeK [] kvs).length ≤ sizeLine := by
    refine Nat.le_trans (length_mergeK kvs []) ?_
    rw [List.length_nil, Nat.zero_add, rel.length, hl]
    exact hz
  exact ⟨.ref s.heap.objs.size, upd H s.heap.objs.size (.dK (mergeK [] kvs)), I.laid (t' := tk) (fun b o e => k b o (by simp) e) (Nat.le_refl _) (show ObjOk X.prog X.w _ _ _ (.dK (mergeK [] kvs)) from ⟨hlen, hm, merged [] prs, KV.merge rel .nil, hd'⟩), rfl, q _ (I.hok.fresh (Nat.le_refl _))⟩
end
end W19
set_option Elab.async false
set_option linter.all false
set_option maxRecDepth 100000
set_option maxHeartbeats 4000000
namespace W19
open PySem PySem.Spec PyProof.Rows L2
section
variable {P : Program} {w : World} {K : PySem.W.Frag} {mg : Str → Option Value} {base : Heap}

def spIsInt : Sp := fun vs H Q _ => ∃ i, vs = [.int i] ∧ Q (.bl true) H
def spIntIn : Sp := fun vs H Q _ => ∃ i lo hi, vs = [.int i, .int lo, .int hi] ∧ lo ≤ i ∧ i ≤ hi ∧ Q (.bl true) H
def spWritten : Sp := fun vs H Q _ => ∃ i : Int, vs = [.int i] ∧ -1000000000 ≤ i ∧ i ≤ 1000000000 ∧ Q (.bl true) H
def spName : Sp := fun vs H Q _ => ∃ x, vs = [.str x] ∧ Nam x ∧ ∀ H', Same H H' → Q (.bl true) H'
def spKind : Sp := fun vs H Q _ => vs = [.str "number"] ∧ Q (.bl true) H
def spTupOf : Sp := fun vs H Q _ => ∃ a xs n, vs = [.ref a, .int n] ∧ H a = some (.tup xs) ∧ n = (xs.length : Int) ∧ Q (.bl true) H
def spListOf : Sp := fun vs H Q _ => ∃ a xs lo hi, vs = [.ref a, .int lo, .int hi] ∧ H a = some (.lst xs) ∧ lo ≤ (xs.length : Int) ∧ (xs.length : Int) ≤ hi ∧ Q (.bl true) H
def spWord : Sp := fun vs H Q _ => ∃ a x xs, vs = [.ref a] ∧ H a = some (.tup (.str x :: xs)) ∧ Q (.bl true) H
theorem sc_is_integer : FnScope ["thing"] ["thing"] (defScope s_is_integer) := ⟨rfl, rfl, rfl, by decide +kernel, rfl, by decide +kernel, by decide +kernel⟩
theorem ok_is_integer (T : Ctx w K mg) : Has P w K mg base 1 "is_integer" ["thing"] spIsInt := by
  obtain ⟨fd, F⟩ := T.D_is_integer
  refine ⟨⟨fd, F.ok sc_is_integer (fun vs H Q E h => ?_) (fun cdv A outer s H vs Q E hr h => ?_), F.bindsN fun _ _ _ _ _ _ us hl => match us, hl with | [_], _ => rfl⟩, F.kp, T.g_is_integer⟩
  · obtain ⟨i, rfl, k⟩ := h; rfl
  · obtain ⟨i, rfl, k⟩ := h
    have hu := hu_of hr
    refine ⟨_, PSs.nox (pss_one (ps_ret (pe_and (pe_callB call_isi (by rfl) T.f_isinstance (by decide +kernel) (pa_cons (pv 0) (pa_cons (pe_bltn (v := .ty "int") (u := .type "int") rfl T.f_int (by decide +kernel) rfl) pa_nil))) (pe_one (pe_not (pe_callB call_isi (by rfl) T.f_isinstance (by decide +kernel) (pa_cons (pv 0) (pa_cons (pe_bltn (v := .ty "bool") (u := .type "bool") rfl T.f_bool (by decide +kernel) rfl) pa_nil)))))))), ?_⟩
    refine ⟨_, rfl, _, _, _, _, true, rfl, .ty _, .base (.int i), kit_ty (by decide +kernel), true, rfl, iteT ?_⟩
    exact ⟨_, rfl, _, _, _, _, false, rfl, .ty _, .base (.int i), kit_ty (by decide +kernel), false, rfl, k⟩
theorem sc_is_integer_in : FnScope ["thing", "least", "most"] ["thing", "least", "most"] (defScope s_is_integer_in) := ⟨rfl, rfl, rfl, by decide +kernel, rfl, by decide +kernel, by decide +kernel⟩
theorem ok_is_integer_in (T : Ctx w K mg) (H_is_integer : Has P w K mg base 1 "is_integer" ["thing"] spIsInt) : Has P w K mg base 2 "is_integer_in" ["thing", "least", "most"] spIntIn := by
  obtain ⟨fd, F⟩ := T.D_is_integer_in
  obtain ⟨fd_is_integer, G_is_integer, b_is_integer⟩ := H_is_integer.ex
  refine ⟨⟨fd, F.ok sc_is_integer_in (fun vs H Q E h => ?_) (fun cdv A outer s H vs Q E hr h => ?_), F.bindsN fun _ _ _ _ _ _ us hl => match us, hl with | [_, _, _], _ => rfl⟩, F.kp, T.g_is_integer_in⟩
  · obtain ⟨i, lo, hi, rfl, h1, h2, k⟩ := h; rfl
  · obtain ⟨i, lo, hi, rfl, h1, h2, k⟩ := h
    have hr_is_integer : Room 1 _ := hr.mono (by decide)
    have hu := hu_of hr
    refine ⟨_, PSs.nox (pss_one (ps_ret (pe_and (pe_call G_is_integer hr_is_integer (by rfl) H_is_integer.gl H_is_integer.kp b_is_integer .nil pass0 (pa_cons (pv 0) pa_nil)) (pe_one (pe_chain op_le op_le (pv 1) (pv 0) (pv 2)))))), ?_⟩
    refine ⟨_, rfl, i, rfl, true, rfl, iteT ?_⟩
    exact ⟨_, rfl, _, rfl, _, _, rfl, rfl, _, rfl, ifT (decide_eq_true h1) ⟨_, rfl, _, _, rfl, rfl, qT (decide_eq_true h2) k⟩⟩
theorem sc_is_written_number : FnScope ["thing"] ["thing"] (defScope s_is_written_number) := ⟨rfl, rfl, rfl, by decide +kernel, rfl, by decide +kernel, by decide +kernel⟩
theorem ok_is_written_number (T : Ctx w K mg) (H_is_integer_in : Has P w K mg base 2 "is_integer_in" ["thing", "least", "most"] spIntIn) : Has P w K mg base 3 "is_written_number" ["thing"] spWritten := by
  obtain ⟨fd, F⟩ := T.D_is_written_number
  obtain ⟨fd_is_integer_in, G_is_integer_in, b_is_integer_in⟩ := H_is_integer_in.ex
  refine ⟨⟨fd, F.ok sc_is_written_number (fun vs H Q E h => ?_) (fun cdv A outer s H vs Q E hr h => ?_), F.bindsN fun _ _ _ _ _ _ us hl => match us, hl with | [_], _ => rfl⟩, F.kp, T.g_is_written_number⟩
  · obtain ⟨i, rfl, h1, h2, k⟩ := h; rfl
  · obtain ⟨i, rfl, h1, h2, k⟩ := h
    have hr_is_integer_in : Room 2 _ := hr.mono (by decide)
    have hu := hu_of hr
    obtain ⟨tk, e_GREATEST_WRITTEN⟩ := T.i_GREATEST_WRITTEN
    refine ⟨_, PSs.nox (pss_one (ps_ret (pe_call G_is_integer_in hr_is_integer_in (by rfl) H_is_integer_in.gl H_is_integer_in.kp b_is_integer_in .nil pass0 (pa_cons (pv 0) (pa_cons (pe_un un_neg (pe_glob (v := .int 1000000000) rfl e_GREATEST_WRITTEN ⟨_, rfl⟩)) (pa_cons (pe_glob (v := .int 1000000000) rfl e_GREATEST_WRITTEN ⟨_, rfl⟩) pa_nil)))))), ?_⟩
    exact ⟨_, rfl, _, rfl, i, _, _, rfl, h1, h2, k⟩
theorem sc_is_name : FnScope ["thing", "mark"] ["thing"] (defScope s_is_name) := ⟨rfl, rfl, rfl, by decide +kernel, rfl, by decide +kernel, by decide +kernel⟩
theorem ok_is_name (T : Ctx w K mg) : Has P w K mg base 1 "is_name" ["thing"] spName := by
  obtain ⟨fd, F⟩ := T.D_is_name
  refine ⟨⟨fd, F.ok sc_is_name (fun vs H Q E h => ?_) (fun cdv A outer s H vs Q E hr h => ?_), F.bindsN fun _ _ _ _ _ _ us hl => match us, hl with | [_], _ => rfl⟩, F.kp, T.g_is_name⟩
  · obtain ⟨x, rfl, N, k⟩ := h; rfl
  · obtain ⟨x, rfl, N, k⟩ := h
    have hu := hu_of hr
    obtain ⟨tl, e_LETTERS⟩ := T.s_LETTERS
    obtain ⟨tm, e_MARKS⟩ := T.s_MARKS
    refine ⟨_, PSs.nox (pss_cons (ps_if (PW.pt (pw_or (pt_not (pt_val (pe_callB call_isi (by rfl) T.f_isinstance (by decide +kernel) (pa_cons (pv 0) (pa_cons (pe_bltn (v := .ty "str") (u := .type "str") rfl T.f_str (by decide +kernel) rfl) pa_nil))))) (pw_or1 (pt_not (pt_chain op_le op_le pe_int (pe_callB call_len_str (by rfl) T.f_len (by decide +kernel) (pa_cons (pv 0) pa_nil)) pe_int))))) (pss_one (ps_ret pe_bl)) pss_nil)
      (pss_one (ps_ret (pe_and (pe_cmpR op_in_sign (pe_item_str (pv 0) pe_int (fun _ _ => rfl)) (pe_glob (v := .str "abcdefghijklmnopqrstuvwxyz") rfl e_LETTERS ⟨_, rfl⟩) rfl) (pe_one (pe_callB (cr_all rfl) (by rfl) T.f_all (by decide +kernel) (pa_cons (pe_lc (own := [("mark", 1)]) (g := gName 1) (tt := tYes) rfl sc_is_name.nd (pi_str (pv 0)) (blkOk_by (N := ["thing", "mark"]) (sc := defScope s_is_name) (by decide +kernel)) (fun _ _ _ _ _ => (pg_name (i := 1) sc_is_name.nd rfl (Or.inl rfl))) (fun _ _ _ _ _ => pts_nil) (fun _ _ _ _ _ => (pe_cmpR op_in_sign (pv 1) (pe_glob (v := .str "abcdefghijklmnopqrstuvwxyz0123456789") rfl e_MARKS ⟨_, rfl⟩) rfl))) pa_nil))))))), ?_⟩
    obtain ⟨c0, hc0, mc0⟩ := N.one
    have hsz : x.length ≤ sizeLine := sz_of (Nat.le_trans (show x.cps.size ≤ 8 from N.le) (by decide))
    refine ⟨_, rfl, _, _, _, _, true, rfl, .ty _, .base (.str x), kit_ty (by decide +kernel), true, rfl, iteF ?_⟩
    refine ⟨_, rfl, _, rfl, hsz, _, _, rfl, rfl, _, rfl, ?_⟩
    refine ifT (decide_eq_true (show (1 : Int) ≤ ((x.cps.size : Nat) : Int) by have := N.pos; omega)) ⟨_, _, rfl, rfl, _, rfl, ?_⟩
    refine ifF (show (!decide (((x.cps.size : Nat) : Int) ≤ 8)) = false by rw [decide_eq_true (show ((x.cps.size : Nat) : Int) ≤ 8 by have := N.le; omega)]; rfl) ?_
    refine ⟨_, rfl, _, _, c0, rfl, rfl, by decide, by decide, by have := N.pos; exact Int.ofNat_lt.mpr this, hc0, _, _, rfl, rfl, _, rfl, ?_⟩
    refine ifT (decide_eq_true mc0) ?_
    refine ⟨_, rfl, _, rfl, fun D hD => ?_⟩
    refine lc_pure walk_str hD (fun _ => .bl true) (by have := N.le; omega) (fun _ _ => trivial) (fun i H1 y H2 hi s1 hy Qe qe => ?_) (fun H1 s1 h1 => ?_)
    · obtain ⟨rfl, c, hc, rfl⟩ := hy
      exact ⟨rfl, _, rfl, _, _, rfl, rfl, qT (decide_eq_true (N.all i c hc)) (qe _ (Same.refl _))⟩
    · refine ⟨_, (List.range x.cps.size).map (fun _ => true), rfl, SqL.of (by rw [h1, List.map_map]; rfl), qT all_true (k _ s1)⟩
theorem sc_is_kind : FnScope ["thing"] ["thing"] (defScope s_is_kind) := ⟨rfl, rfl, rfl, by decide +kernel, rfl, by decide +kernel, by decide +kernel⟩
theorem ok_is_kind (T : Ctx w K mg) : Has P w K mg base 1 "is_kind" ["thing"] spKind := by
  obtain ⟨fd, F⟩ := T.D_is_kind
  refine ⟨⟨fd, F.ok sc_is_kind (fun vs H Q E h => ?_) (fun cdv A outer s H vs Q E hr h => ?_), F.bindsN fun _ _ _ _ _ _ us hl => match us, hl with | [_], _ => rfl⟩, F.kp, T.g_is_kind⟩
  · obtain ⟨rfl, k⟩ := h; rfl
  · obtain ⟨rfl, k⟩ := h
    have hu := hu_of hr
    refine ⟨_, PSs.nox (pss_one (ps_ret (pe_and (pe_callB call_isi (by rfl) T.f_isinstance (by decide +kernel) (pa_cons (pv 0) (pa_cons (pe_bltn (v := .ty "str") (u := .type "str") rfl T.f_str (by decide +kernel) rfl) pa_nil))) (pe_one (pe_cmpR op_in_seq (pv 0) (pe_glob (v := .ref (He.ga K "KINDS")) rfl T.g_KINDS rfl) rfl))))), ?_⟩
    refine ⟨_, rfl, _, _, _, _, true, rfl, .ty _, .base (.str _), kit_ty (by decide +kernel), true, rfl, iteT ?_⟩
    exact ⟨_, rfl, _, _, rfl, .inr (T.kinds H), rfl, rfl, qT rfl k⟩
theorem sc_is_tuple_of : FnScope ["thing", "many"] ["thing", "many"] (defScope s_is_tuple_of) := ⟨rfl, rfl, rfl, by decide +kernel, rfl, by decide +kernel, by decide +kernel⟩
theorem ok_is_tuple_of (T : Ctx w K mg) : Has P w K mg base 1 "is_tuple_of" ["thing", "many"] spTupOf := by
  obtain ⟨fd, F⟩ := T.D_is_tuple_of
  refine ⟨⟨fd, F.ok sc_is_tuple_of (fun vs H Q E h => ?_) (fun cdv A outer s H vs Q E hr h => ?_), F.bindsN fun _ _ _ _ _ _ us hl => match us, hl with | [_, _], _ => rfl⟩, F.kp, T.g_is_tuple_of⟩
  · obtain ⟨a, xs, n, rfl, ha, hn, k⟩ := h; rfl
  · obtain ⟨a, xs, n, rfl, ha, hn, k⟩ := h
    have hu := hu_of hr
    refine ⟨_, PSs.nox (pss_one (ps_ret (pe_and (pe_callB call_isi (by rfl) T.f_isinstance (by decide +kernel) (pa_cons (pv 0) (pa_cons (pe_bltn (v := .ty "tuple") (u := .type "tuple") rfl T.f_tuple (by decide +kernel) rfl) pa_nil))) (pe_one (pe_cmpR op_eq (pe_callB call_len_seq (by rfl) T.f_len (by decide +kernel) (pa_cons (pv 0) pa_nil)) (pv 1) (nomark _)))))), ?_⟩
    refine ⟨_, rfl, _, _, _, _, true, rfl, .ty _, .base (.tup ha), kit_ty (by decide +kernel), true, rfl, iteT ?_⟩
    exact ⟨_, rfl, _, _, rfl, .inr (SqT.of ha), _, rfl, rfl, qT (decide_eq_true (by rw [hn])) k⟩
theorem sc_is_list_of : FnScope ["thing", "least", "most"] ["thing", "least", "most"] (defScope s_is_list_of) := ⟨rfl, rfl, rfl, by decide +kernel, rfl, by decide +kernel, by decide +kernel⟩
theorem ok_is_list_of (T : Ctx w K mg) : Has P w K mg base 1 "is_list_of" ["thing", "least", "most"] spListOf := by
  obtain ⟨fd, F⟩ := T.D_is_list_of
  refine ⟨⟨fd, F.ok sc_is_list_of (fun vs H Q E h => ?_) (fun cdv A outer s H vs Q E hr h => ?_), F.bindsN fun _ _ _ _ _ _ us hl => match us, hl with | [_, _, _], _ => rfl⟩, F.kp, T.g_is_list_of⟩
  · obtain ⟨a, xs, lo, hi, rfl, ha, h1, h2, k⟩ := h; rfl
  · obtain ⟨a, xs, lo, hi, rfl, ha, h1, h2, k⟩ := h
    have hu := hu_of hr
    refine ⟨_, PSs.nox (pss_one (ps_ret (pe_and (pe_callB call_isi (by rfl) T.f_isinstance (by decide +kernel) (pa_cons (pv 0) (pa_cons (pe_bltn (v := .ty "list") (u := .type "list") rfl T.f_list (by decide +kernel) rfl) pa_nil))) (pe_one (pe_chain op_le op_le (pv 1) (pe_callB call_len_seq (by rfl) T.f_len (by decide +kernel) (pa_cons (pv 0) pa_nil)) (pv 2)))))), ?_⟩
    refine ⟨_, rfl, _, _, _, _, true, rfl, .ty _, .base (.lst ha), kit_ty (by decide +kernel), true, rfl, iteT ?_⟩
    exact ⟨_, rfl, _, rfl, _, _, rfl, .inl (SqL.of ha), _, _, rfl, rfl, _, rfl, ifT (decide_eq_true h1) ⟨_, rfl, _, _, rfl, rfl, qT (decide_eq_true h2) k⟩⟩
theorem sc_is_word_tuple : FnScope ["thing"] ["thing"] (defScope s_is_word_tuple) := ⟨rfl, rfl, rfl, by decide +kernel, rfl, by decide +kernel, by decide +kernel⟩
theorem ok_is_word_tuple (T : Ctx w K mg) : Has P w K mg base 1 "is_word_tuple" ["thing"] spWord := by
  obtain ⟨fd, F⟩ := T.D_is_word_tuple
  refine ⟨⟨fd, F.ok sc_is_word_tuple (fun vs H Q E h => ?_) (fun cdv A outer s H vs Q E hr h => ?_), F.bindsN fun _ _ _ _ _ _ us hl => match us, hl with | [_], _ => rfl⟩, F.kp, T.g_is_word_tuple⟩
  · obtain ⟨a, x, xs, rfl, ha, k⟩ := h; rfl
  · obtain ⟨a, x, xs, rfl, ha, k⟩ := h
    have hu := hu_of hr
    refine ⟨_, PSs.nox (pss_one (ps_ret (pe_and (pe_callB call_isi (by rfl) T.f_isinstance (by decide +kernel) (pa_cons (pv 0) (pa_cons (pe_bltn (v := .ty "tuple") (u := .type "tuple") rfl T.f_tuple (by decide +kernel) rfl) pa_nil))) (pe_and (pe_cmpR op_gt (pe_callB call_len_seq (by rfl) T.f_len (by decide +kernel) (pa_cons (pv 0) pa_nil)) pe_int (nomark _)) (pe_one (pe_callB call_isi (by rfl) T.f_isinstance (by decide +kernel) (pa_cons (pe_ix ix_tup (pv 0) pe_int (fun _ _ => rfl)) (pa_cons (pe_bltn (v := .ty "str") (u := .type "str") rfl T.f_str (by decide +kernel) rfl) pa_nil)))))))), ?_⟩
    refine ⟨_, rfl, _, _, _, _, true, rfl, .ty _, .base (.tup ha), kit_ty (by decide +kernel), true, rfl, iteT ?_⟩
    refine ⟨_, rfl, _, _, rfl, .inr (SqT.of ha), _, _, rfl, rfl, _, rfl, ifT (decide_eq_true (by rw [List.length_cons]; omega)) ?_⟩
    exact ⟨_, rfl, _, _, _, _, rfl, rfl, SqT.of ha, at0, _, _, _, _, true, rfl, .ty _, .base (.str x), kit_ty (by decide +kernel), k⟩

end
end W19
set_option Elab.async false
set_option linter.all false
set_option maxRecDepth 100000
set_option maxHeartbeats 4000000
namespace W19
open PySem PySem.Spec PyProof.Rows L2
section
variable {P : Program} {w : World} {K : PySem.W.Frag} {mg : Str → Option Value} {base : Heap}

/-- a text or an int -/
inductive Fl : V → Prop where
  | str (x : Str) : Fl (.str x)
  | int (i : Int) : Fl (.int i)
def spFz0 : Sp := fun vs H Q _ => ∃ v, vs = [v] ∧ Fl v ∧ ∀ H', Same H H' → Q v H'
def spFz1 : Sp := fun vs H Q _ => ∃ a xs, vs = [.ref a] ∧ H a = some (.tup xs) ∧ (∀ x ∈ xs, Fl x) ∧ xs.length ≤ 100 ∧ ∀ p H', Same H H' → H' p = some (.tup xs) → Q (.ref p) H'
def spFz2 : Sp := fun vs H Q _ => ∃ (a : Addr) (ps : List Addr) (f : Nat → List V), vs = [.ref a] ∧ H a = some (.lst (ps.map V.ref)) ∧ (∀ (i : Nat) (p : Addr), ps[i]? = some p → H p = some (.tup (f i)) ∧ (f i).length ≤ 100 ∧ ∀ x ∈ f i, Fl x) ∧ ps.length ≤ 100 ∧
  ∀ (q : Addr) (qs : List Addr) (H' : Hp), Same H H' → TupP H' q (qs.map V.ref) → qs.length = ps.length → (∀ (i : Nat) (p : Addr), qs[i]? = some p → H' p = some (.tup (f i))) → Q (.ref q) H'
theorem kit2 {K : PySem.W.Frag} {t a b : String} {p q r : Bool} (h1 : kitB t a = some p) (h2 : kitB t b = some q) (e : r = (p || q)) : PySem.W.kitAny K (.type t) [.type a, .type b] = some r := by
  subst e
  refine kitAny_cons (kit_ty h1) (fun e => ?_) (fun e => by rw [e] <;> rfl)
  rw [e]
  exact kitAny_cons (kit_ty h2) (fun e2 => by rw [e2]; exact kitAny_nil) (fun e2 => by rw [e2] <;> rfl)
theorem sc_frozen : FnScope ["thing", "part"] ["thing"] (defScope s_frozen) := ⟨rfl, rfl, rfl, by decide +kernel, rfl, by decide +kernel, by decide +kernel⟩
theorem ok_frozen0 (T : Ctx w K mg) : Has P w K mg base 1 "frozen" ["thing"] spFz0 := by
  obtain ⟨fd, F⟩ := T.D_frozen
  refine ⟨⟨fd, F.ok sc_frozen (fun vs H Q E h => ?_) (fun cdv A outer s H vs Q E hr h => ?_), F.bindsN fun _ _ _ _ _ _ us hl => match us, hl with | [_], _ => rfl⟩, F.kp, T.g_frozen⟩
  · obtain ⟨v, rfl, F0, k⟩ := h; rfl
  · obtain ⟨v, rfl, F0, k⟩ := h
    have hu := hu_of hr
    refine ⟨_, PSs.nox (pss_cons (ps_if (pt_val (pe_callB call_isiT (by rfl) T.f_isinstance (by decide +kernel) (pa_cons (pv 0) (pa_cons (pe_tup (pa_cons (pe_bltn (v := .ty "list") (u := .type "list") rfl T.f_list (by decide +kernel) rfl) (pa_cons (pe_bltn (v := .ty "tuple") (u := .type "tuple") rfl T.f_tuple (by decide +kernel) rfl) pa_nil))) pa_nil)))) (pss_one ps_never) pss_nil)
      (pss_one (ps_ret (pv 0)))), ?_⟩
    refine ⟨_, rfl, sz_of (by decide), fun tp htp => ?_⟩
    cases F0 with
    | str x =>
      exact ⟨_, _, _, _, _, false, rfl, upd_same, .cons (.ty _) (.cons (.ty _) .nil), .base (.str x), kit2 (p := false) (q := false) (by decide +kernel) (by decide +kernel) rfl, _, rfl, iteF ⟨_, rfl, k _ (Same.new htp)⟩⟩
    | int x =>
      exact ⟨_, _, _, _, _, false, rfl, upd_same, .cons (.ty _) (.cons (.ty _) .nil), .base (.int x), kit2 (p := false) (q := false) (by decide +kernel) (by decide +kernel) rfl, _, rfl, iteF ⟨_, rfl, k _ (Same.new htp)⟩⟩
theorem ok_frozen1 (T : Ctx w K mg) (H_frozen : Has P w K mg base 1 "frozen" ["thing"] spFz0) : Has P w K mg base 2 "frozen" ["thing"] spFz1 := by
  obtain ⟨fd, F⟩ := T.D_frozen
  obtain ⟨fd_frozen, G_frozen, b_frozen⟩ := H_frozen.ex
  refine ⟨⟨fd, F.ok sc_frozen (fun vs H Q E h => ?_) (fun cdv A outer s H vs Q E hr h => ?_), F.bindsN fun _ _ _ _ _ _ us hl => match us, hl with | [_], _ => rfl⟩, F.kp, T.g_frozen⟩
  · obtain ⟨a, xs, rfl, ha, hf, hl, k⟩ := h; rfl
  · obtain ⟨a, xs, rfl, ha, hf, hl, k⟩ := h
    have hr_frozen : Room 1 _ := hr.mono (by decide)
    have hu := hu_of hr
    refine ⟨_, PSs.nox (pss_cons (ps_if (pt_val (pe_callB call_isiT (by rfl) T.f_isinstance (by decide +kernel) (pa_cons (pv 0) (pa_cons (pe_tup (pa_cons (pe_bltn (v := .ty "list") (u := .type "list") rfl T.f_list (by decide +kernel) rfl) (pa_cons (pe_bltn (v := .ty "tuple") (u := .type "tuple") rfl T.f_tuple (by decide +kernel) rfl) pa_nil))) pa_nil)))) (pss_one (ps_ret (pe_callTy call_tuple_of (by rfl) T.f_tuple (by decide +kernel) (pa_cons (pe_lc (own := [("part", 1)]) (g := gName 1) (tt := tYes) rfl sc_frozen.nd (pi_tup (pv 0)) (blkOk_by (N := ["thing", "part"]) (sc := defScope s_frozen) (by decide +kernel)) (fun _ _ _ _ _ => (pg_name (i := 1) sc_frozen.nd rfl (Or.inl rfl))) (fun _ _ _ _ _ => pts_nil) (fun _ _ _ _ _ => (pe_call G_frozen hr_frozen (by rfl) H_frozen.gl H_frozen.kp b_frozen .nil pass0 (pa_cons (pv 1) pa_nil)))) pa_nil)))) pss_nil)
      (pss_one (ps_ret (pv 0)))), ?_⟩
    refine ⟨_, rfl, sz_of (by decide), fun tp htp => ?_⟩
    have s1 : Same H (upd H tp (.tup [.ty "list", .ty "tuple"])) := Same.new htp
    refine ⟨_, _, _, _, _, true, rfl, upd_same, .cons (.ty _) (.cons (.ty _) .nil), .base (.tup (s1 _ _ ha)), kit2 (p := false) (q := true) (by decide +kernel) (by decide +kernel) rfl, _, rfl, iteT ?_⟩
    refine ⟨_, rfl, a, rfl, ⟨_, SqT.of (s1 _ _ ha)⟩, fun D hD => ?_⟩
    refine lc_pure (walk_tup (K := K) (a := a) (xs := xs)) hD (fun i => xs.getD i .non) (Nat.lt_of_le_of_lt hl (by decide)) (fun H2 s2 => SqT.of (s2 _ _ (s1 _ _ ha))) (fun i H2 y H3 hi s2 hy Qe qe => ?_) (fun H2 s2 h2 => ?_)
    · obtain ⟨rfl, hx⟩ := hy
      rw [getD_of hx] at qe
      exact ⟨rfl, _, rfl, y, rfl, hf y (List.mem_of_getElem? hx), fun H4 s4 => qe _ s4⟩
    · rw [map_range_getD] at h2
      exact ⟨D, xs, rfl, .inl ⟨SqL.of h2, fun l hl2 => k l _ ((s1.trans s2).trans (Same.new hl2)) upd_same⟩⟩
theorem ok_frozen2 (T : Ctx w K mg) (H_frozen : Has P w K mg base 2 "frozen" ["thing"] spFz1) : Has P w K mg base 3 "frozen" ["thing"] spFz2 := by
  obtain ⟨fd, F⟩ := T.D_frozen
  obtain ⟨fd_frozen, G_frozen, b_frozen⟩ := H_frozen.ex
  refine ⟨⟨fd, F.ok sc_frozen (fun vs H Q E h => ?_) (fun cdv A outer s H vs Q E hr h => ?_), F.bindsN fun _ _ _ _ _ _ us hl => match us, hl with | [_], _ => rfl⟩, F.kp, T.g_frozen⟩
  · obtain ⟨a, ps, f, rfl, ha, hf, hl, k⟩ := h; rfl
  · obtain ⟨a, ps, f, rfl, ha, hf, hl, k⟩ := h
    have hr_frozen : Room 2 _ := hr.mono (by decide)
    have hu := hu_of hr
    refine ⟨_, PSs.nox (pss_cons (ps_if (pt_val (pe_callB call_isiT (by rfl) T.f_isinstance (by decide +kernel) (pa_cons (pv 0) (pa_cons (pe_tup (pa_cons (pe_bltn (v := .ty "list") (u := .type "list") rfl T.f_list (by decide +kernel) rfl) (pa_cons (pe_bltn (v := .ty "tuple") (u := .type "tuple") rfl T.f_tuple (by decide +kernel) rfl) pa_nil))) pa_nil)))) (pss_one (ps_ret (pe_callTy call_tupleP (by rfl) T.f_tuple (by decide +kernel) (pa_cons (pe_lc (own := [("part", 1)]) (g := gName 1) (tt := tYes) rfl sc_frozen.nd (pi_list (pv 0)) (blkOk_by (N := ["thing", "part"]) (sc := defScope s_frozen) (by decide +kernel)) (fun _ _ _ _ _ => (pg_name (i := 1) sc_frozen.nd rfl (Or.inl rfl))) (fun _ _ _ _ _ => pts_nil) (fun _ _ _ _ _ => (pe_call G_frozen hr_frozen (by rfl) H_frozen.gl H_frozen.kp b_frozen .nil pass0 (pa_cons (pv 1) pa_nil)))) pa_nil)))) pss_nil)
      (pss_one (ps_ret (pv 0)))), ?_⟩
    refine ⟨_, rfl, sz_of (by decide), fun tp htp => ?_⟩
    have s1 : Same H (upd H tp (.tup [.ty "list", .ty "tuple"])) := Same.new htp
    refine ⟨_, _, _, _, _, true, rfl, upd_same, .cons (.ty _) (.cons (.ty _) .nil), .base (.lst (s1 _ _ ha)), kit2 (p := true) (q := false) (by decide +kernel) (by decide +kernel) rfl, _, rfl, iteT ?_⟩
    refine ⟨_, rfl, a, rfl, ⟨_, SqL.of (s1 _ _ ha)⟩, fun D hD => ?_⟩
    refine lc_tups (walk_list (K := K) (a := a) (xs := ps.map V.ref)) hD f (by rw [List.length_map]; exact Nat.lt_of_le_of_lt hl (by decide)) (fun H2 s2 => SqL.of (s2 _ _ (s1 _ _ ha))) (fun i H2 y H3 hi s2 hy Qe qe => ?_) (fun H2 qs s2 hq hqs h2 => ?_)
    · obtain ⟨rfl, hx⟩ := hy
      rw [List.getElem?_map] at hx
      cases e : ps[i]? with
      | none =>
        rw [e] at hx
        cases hx
      | some p =>
        rw [e] at hx
        have hy2 : y = V.ref p := (Option.some.inj hx).symm
        subst hy2
        obtain ⟨h3, h4, h5⟩ := hf i p e
        exact ⟨rfl, _, rfl, p, f i, rfl, s2 _ _ (s1 _ _ h3), h5, h4, fun q H4 s4 h6 => qe q _ s4 h6⟩
    · rw [List.length_map] at hq
      refine ⟨D, _, rfl, SqL.of h2, fun l o hl2 po => k l qs _ ((s1.trans s2).trans (Same.new hl2)) ⟨o, upd_same, po⟩ hq fun i p e => Same.new hl2 _ _ (hqs i p e)⟩
def spNamed : Sp := fun vs H Q _ => ∃ (a : Addr) (ps : List Addr) (ns : List Str) (m : Int), vs = [.ref a, .int m] ∧ H a = some (.lst (ps.map V.ref)) ∧ Pairs H ps ns ∧ (∀ x ∈ ns, Nam x) ∧ ns.Nodup ∧ (ns.length : Int) ≤ m ∧ ns.length ≤ 100 ∧ ∀ H', Same H H' → Q (.bl true) H' 
theorem sc_are_named_kinds : FnScope ["thing", "most", "names", "pair"] ["thing", "most"] (defScope s_are_named_kinds) := ⟨rfl, rfl, rfl, by decide +kernel, rfl, by decide +kernel, by decide +kernel⟩
theorem ok_are_named_kinds (T : Ctx w K mg) (H_is_list_of : Has P w K mg base 1 "is_list_of" ["thing", "least", "most"] spListOf) (H_is_tuple_of : Has P w K mg base 1 "is_tuple_of" ["thing", "many"] spTupOf) (H_is_name : Has P w K mg base 1 "is_name" ["thing"] spName) (H_is_kind : Has P w K mg base 1 "is_kind" ["thing"] spKind) : Has P w K mg base 2 "are_named_kinds" ["thing", "most"] spNamed := by
  obtain ⟨fd, F⟩ := T.D_are_named_kinds
  obtain ⟨fd_is_list_of, G_is_list_of, b_is_list_of⟩ := H_is_list_of.ex
  obtain ⟨fd_is_tuple_of, G_is_tuple_of, b_is_tuple_of⟩ := H_is_tuple_of.ex
  obtain ⟨fd_is_name, G_is_name, b_is_name⟩ := H_is_name.ex
  obtain ⟨fd_is_kind, G_is_kind, b_is_kind⟩ := H_is_kind.ex
  refine ⟨⟨fd, F.ok sc_are_named_kinds (fun vs H Q E h => ?_) (fun cdv A outer s H vs Q E hr h => ?_), F.bindsN fun _ _ _ _ _ _ us hl => match us, hl with | [_, _], _ => rfl⟩, F.kp, T.g_are_named_kinds⟩
  · obtain ⟨a, ps, ns, m, rfl, ha, hp, hN, hnd, hm, h100, k⟩ := h; rfl
  · obtain ⟨a, ps, ns, m, rfl, ha, hp, hN, hnd, hm, h100, k⟩ := h
    have hr_is_list_of : Room 1 _ := hr.mono (by decide)
    have hr_is_tuple_of : Room 1 _ := hr.mono (by decide)
    have hr_is_name : Room 1 _ := hr.mono (by decide)
    have hr_is_kind : Room 1 _ := hr.mono (by decide)
    have hu := hu_of hr
    refine ⟨_, PSs.nox (pss_cons (ps_if (pt_not (pt_val (pe_call G_is_list_of hr_is_list_of (by rfl) H_is_list_of.gl H_is_list_of.kp b_is_list_of .nil pass0 (pa_cons (pv 0) (pa_cons pe_int (pa_cons (pv 1) pa_nil)))))) (pss_one (ps_ret pe_bl)) pss_nil)
      (pss_cons (ps_set (i := 2) sc_are_named_kinds.nd rfl (Or.inl rfl) pe_dnewK)
      (pss_cons (ps_for PassesOwn.never rfl (pi_list (pv 0)) (pg_name (i := 3) sc_are_named_kinds.nd rfl (Or.inl rfl))
      (pss_cons (ps_if (PW.pt (pw_or (pt_not (pt_val (pe_call G_is_tuple_of hr_is_tuple_of (by rfl) H_is_tuple_of.gl H_is_tuple_of.kp b_is_tuple_of .nil pass0 (pa_cons (pv 3) (pa_cons pe_int pa_nil))))) (pw_or (pt_not (pt_val (pe_call G_is_name hr_is_name (by rfl) H_is_name.gl H_is_name.kp b_is_name .nil pass0 (pa_cons (pe_ix ix_tup (pv 3) pe_int (fun _ _ => rfl)) pa_nil)))) (pw_or1 (pt_not (pt_val (pe_call G_is_kind hr_is_kind (by rfl) H_is_kind.gl H_is_kind.kp b_is_kind .nil pass0 (pa_cons (pe_ix ix_tup (pv 3) pe_int (fun _ _ => rfl)) pa_nil)))))))) (pss_one (ps_ret pe_bl)) pss_nil)
      (pss_cons (ps_if (pt_cmp (pc_din hu (pe_ix ix_tup (pv 3) pe_int (fun _ _ => rfl)) (pv 2))) (pss_one (ps_ret pe_bl)) pss_nil)
      (pss_one (ps_dput hu (pv 2) (pe_ix ix_tup (pv 3) pe_int (fun _ _ => rfl)) pe_bl rfl)))))
      (pss_one (ps_ret pe_bl))))), ?_⟩
    have hlp : (ps.map V.ref).length = ns.length := by rw [List.length_map, hp.len]
    refine ⟨_, rfl, _, rfl, a, ps.map V.ref, 0, m, rfl, ha, by omega, by rw [hlp]; exact hm, _, rfl, iteF ?_⟩
    intro d hd
    have s1 : Same H (upd H d (.dK [])) := Same.new hd
    refine ⟨_, rfl, a, rfl, ⟨_, SqL.of (s1 _ _ ha)⟩, ?_⟩
    refine for_it (walk_list (K := K) (a := a) (xs := ps.map V.ref)) (fun i σ H1 => ∃ v : Option V, σ = [some (.ref a), some (.int m), some (.ref d), v] ∧ Same H H1 ∧ H1 d = some (.dK (kvT (ns.take i) fun _ => .bl true))) ⟨none, rfl, s1, upd_same⟩ (fun i σ H1 _ ⟨v, _, s2, _⟩ => SqL.of (s2 _ _ ha)) ?_ ?_
    · rintro i y σ H1 H2 hi ⟨v, rfl, s2, h2⟩ ⟨rfl, hy⟩
      obtain ⟨p, x, rfl, hpi, hni, hpt⟩ := hp.get hy
      have hx := s2 _ _ hpt
      have hnot := not_in_take hnd hni
      refine ⟨_, rfl, p, _, 2, rfl, hx, rfl, _, rfl, ?_⟩
      refine iteF ⟨_, rfl, _, _, _, _, rfl, rfl, SqT.of hx, at0, x, rfl, hN x (List.mem_of_getElem? hni), fun H3 s3 => ⟨_, rfl, iteF ?_⟩⟩
      have hx3 := s3 _ _ hx
      refine ⟨_, rfl, _, _, _, _, rfl, rfl, SqT.of hx3, at1, rfl, _, rfl, iteF ?_⟩
      have h3 := s3 _ _ h2
      refine ⟨_, rfl, _, _, _, _, rfl, rfl, SqT.of hx3, at0, _, rfl, d, _, rfl, DGet.k (k := Sum.inr x) h3, _, rfl, ?_⟩
      refine ifF (by rw [valV_kvT hnot]; rfl) ?_
      refine ⟨_, rfl, _, rfl, _, _, _, _, rfl, rfl, SqT.of hx3, at0, d, _, rfl, DPut.k (k := Sum.inr x) h3 (small1000 ?_), ?_⟩
      · unfold kvT
        rw [List.length_map, List.length_take]
        omega
      · refine ⟨_, rfl, Same.mut (s2.trans s3) hd, ?_⟩
        rw [upd_same, take_snoc hni]
        exact congrArg (fun l => some (HO.dK l)) (putK_kvT hnot)
    · rintro σ H1 ⟨v, rfl, s2, h2⟩
      exact k _ s2

end
end W19
set_option Elab.async false
set_option linter.all false
set_option maxRecDepth 100000
set_option maxHeartbeats 4000000
namespace W19
open PySem PySem.Spec PyProof.Rows L2 RZ
theorem walk_zipT {K : PySem.W.Frag} {a b : Addr} {xs ys : List V} {n : Nat} (hn : n = min xs.length ys.length) : Walk (ItzT K a b) n (fun H => SqT K H a xs ∧ SqT K H b ys) (YPair (fun i => xs[i]?) (fun i => ys[i]?)) := by
  subst hn
  refine ⟨fun i _ hi q => ?_, fun _ q => ⟨xs, ys, q.1, q.2, by omega⟩, fun i H v H' _ q y => ?_⟩
  · have h1 : i < xs.length := by omega
    have h2 : i < ys.length := by omega
    exact ⟨xs, ys, xs[i], ys[i], q.1, q.2, by simp [h1], by simp [h2]⟩
  · obtain ⟨T, x, z, h1, h2, h3, h4, h5⟩ := y
    exact ⟨T, x, z, h1, h2, h3, h4 xs q.1, h5 ys q.2⟩
/-! ### variables and rows -/
/-- the variable number k -/
def vn (k : Nat) : Str := ("v" : Str) ++ (toString (k : Int) : Str)
inductive Rw where
  | copy (x y : Nat) | see (x : Nat) | ret (x : Nat) | add (x y z : Nat) | ifz (x r : Nat) | jump (r : Nat) | num (x n : Nat)
  deriving DecidableEq
def sv (k : Nat) : V := .str (vn k)
def Rw.word : Rw → Str
  | .copy _ _ => "copy" | .see _ => "see" | .ret _ => "return" | .add _ _ _ => "add" | .ifz _ _ => "if" | .jump _ => "jump" | .num _ _ => "number"
def Rw.roles : Rw → List Str
  | .copy _ _ => ["sets", "reads"] | .see _ => ["reads"] | .ret _ => ["reads"] | .add _ _ _ => ["sets", "reads", "reads"] | .ifz _ _ => ["reads", "row"] | .jump _ => ["row"] | .num _ _ => ["sets", "number"]
def Rw.parts : Rw → List V
  | .copy x y => [sv x, sv y] | .see x => [sv x] | .ret x => [sv x] | .add x y z => [sv x, sv y, sv z] | .ifz x r => [sv x, .int r] | .jump r => [.int r] | .num x n => [sv x, .int n]
def Rw.vals (r : Rw) : List V := .str r.word :: r.parts
/-- the variable that it sets -/
def Rw.sets : Rw → Option Nat
  | .copy x _ => some x | .add x _ _ => some x | .num x _ => some x | _ => none
def Rw.reads : Rw → List Nat
  | .copy _ y => [y] | .see x => [x] | .ret x => [x] | .add _ y z => [y, z] | .ifz x _ => [x] | _ => []
/-- all variables below m, written numbers small -/
def Rw.below (m : Nat) : Rw → Prop
  | .copy x y => x < m ∧ y < m | .see x => x < m | .ret x => x < m | .add x y z => x < m ∧ y < m ∧ z < m | .ifz x _ => x < m | .jump _ => True | .num x n => x < m ∧ n ≤ 1000
def Rw.goal : Rw → Option Nat
  | .ifz _ r => some r | .jump r => some r | _ => none
theorem roles_mem (r : Rw) : (r.word, r.roles) ∈ roles := by
  cases r <;> (unfold roles; simp [Rw.word, Rw.roles])
theorem nam_all : ∀ k, k < 9 → Nam (vn k) := by
  intro k hk
  have h : ∀ k : Fin 9, (0 < (vn k).cps.size ∧ (vn k).cps.size ≤ 8) ∧ ((vn k).cps[0]?.any fun c => decide (c ∈ LETS.cps.toList)) = true ∧ ((vn k).cps.toList.all fun c => decide (c ∈ MRKS.cps.toList)) = true := by decide +kernel
  obtain ⟨⟨h1, h2⟩, h3, h4⟩ := h ⟨k, hk⟩
  refine ⟨h1, h2, ?_, fun i c e => ?_⟩
  · cases e : (vn k).cps[0]? with
    | none =>
      rw [e] at h3
      cases h3
    | some c =>
      rw [e] at h3
      exact ⟨c, rfl, of_decide_eq_true h3⟩
  · have m : c ∈ (vn k).cps.toList := Array.mem_toList_iff.mpr (Array.mem_of_getElem? e)
    exact of_decide_eq_true (List.all_eq_true.mp h4 c m)
theorem vn_inj {j k : Nat} (hj : j < 9) (hk : k < 9) (e : vn j = vn k) : j = k := by
  have h : ∀ j k : Fin 9, vn j = vn k → j = k := by decide +kernel
  exact Fin.mk.inj_iff.mp (h ⟨j, hj⟩ ⟨k, hk⟩ e)
/-- what fills a role -/
inductive Fits : Str → V → Prop where
  | sets {x : Str} (h : Nam x) : Fits "sets" (.str x)
  | reads {x : Str} (h : Nam x) : Fits "reads" (.str x)
  | num {i : Int} (h1 : -1000000000 ≤ i) (h2 : i ≤ 1000000000) : Fits "number" (.int i)
  | row (i : Int) : Fits "row" (.int i)
theorem Rw.lens (r : Rw) : r.roles.length = r.parts.length := by cases r <;> rfl
theorem Rw.fits {r : Rw} (h : r.below 9) : ∀ (i : Nat) x v, r.roles[i]? = some x → r.parts[i]? = some v → Fits x v := by
  intro i x v h1 h2
  have key : ∀ q ∈ r.roles.zip r.parts, Fits q.1 q.2 := by
    cases r with
    | copy x y =>
      obtain ⟨a, b⟩ := h
      intro q hq
      simp [Rw.roles, Rw.parts] at hq
      rcases hq with rfl | rfl
      · exact .sets (nam_all _ a)
      · exact .reads (nam_all _ b)
    | see x =>
      intro q hq
      simp [Rw.roles, Rw.parts] at hq
      rcases hq with rfl
      exact .reads (nam_all _ h)
    | ret x =>
      intro q hq
      simp [Rw.roles, Rw.parts] at hq
      rcases hq with rfl
      exact .reads (nam_all _ h)
    | add x y z =>
      obtain ⟨a, b, c⟩ := h
      intro q hq
      simp [Rw.roles, Rw.parts] at hq
      rcases hq with rfl | rfl | rfl
      · exact .sets (nam_all _ a)
      · exact .reads (nam_all _ b)
      · exact .reads (nam_all _ c)
    | ifz x r =>
      intro q hq
      simp [Rw.roles, Rw.parts] at hq
      rcases hq with rfl | rfl
      · exact .reads (nam_all _ h)
      · exact .row _
    | jump r =>
      intro q hq
      simp [Rw.roles, Rw.parts] at hq
      rcases hq with rfl
      exact .row _
    | num x n =>
      obtain ⟨a, b⟩ := h
      intro q hq
      simp [Rw.roles, Rw.parts] at hq
      rcases hq with rfl | rfl
      · exact .sets (nam_all _ a)
      · exact .num (by omega) (by omega)
  have m : (r.roles.zip r.parts)[i]? = some (x, v) := by
    rw [List.getElem?_zip_eq_some]
    exact ⟨h1, h2⟩
  exact key _ (List.mem_of_getElem? m)
/-- the parts whose role is to be read -/
def rdOf : List Str → List V → List V
  | x :: rs, v :: vs => if x = "reads" then v :: rdOf rs vs else rdOf rs vs
  | _, _ => []
theorem rdOf_snoc : ∀ {rs : List Str} {vs : List V} {i : Nat} {x : Str} {v : V}, rs[i]? = some x → vs[i]? = some v → rdOf (rs.take (i + 1)) (vs.take (i + 1)) = rdOf (rs.take i) (vs.take i) ++ (if x = "reads" then [v] else [])
  | [], vs, i, x, v, h, _ => by simp at h
  | a :: rs, [], i, x, v, _, h => by simp at h
  | a :: rs, b :: vs, 0, x, v, h1, h2 => by
    have e1 : a = x := Option.some.inj h1
    have e2 : b = v := Option.some.inj h2
    subst e1 e2
    show (if a = "reads" then b :: rdOf [] [] else rdOf [] []) = [] ++ _
    by_cases c : a = "reads" <;> simp [c, rdOf]
  | a :: rs, b :: vs, i + 1, x, v, h1, h2 => by
    have ih := rdOf_snoc (rs := rs) (vs := vs) (i := i) (x := x) (v := v) h1 h2
    show (if a = "reads" then b :: rdOf (rs.take (i + 1)) (vs.take (i + 1)) else rdOf (rs.take (i + 1)) (vs.take (i + 1))) = (if a = "reads" then b :: rdOf (rs.take i) (vs.take i) else rdOf (rs.take i) (vs.take i)) ++ _
    rw [ih]
    by_cases c : a = "reads" <;> simp [c]
theorem rdOf_len : ∀ (rs : List Str) (vs : List V), (rdOf rs vs).length ≤ rs.length
  | [], vs => by simp [rdOf]
  | a :: rs, [] => by simp [rdOf]
  | a :: rs, b :: vs => by
    have ih := rdOf_len rs vs
    show (if a = "reads" then b :: rdOf rs vs else rdOf rs vs).length ≤ rs.length + 1
    split
    · rw [List.length_cons]
      omega
    · omega
theorem Rw.rd (r : Rw) : rdOf r.roles r.parts = r.reads.map sv := by
  have n1 : ¬ (("sets" : Str) = "reads") := by decide +kernel
  have n2 : ¬ (("row" : Str) = "reads") := by decide +kernel
  have n3 : ¬ (("number" : Str) = "reads") := by decide +kernel
  cases r <;> simp [Rw.roles, Rw.parts, Rw.reads, rdOf, n1, n2, n3]
end W19
set_option Elab.async false
set_option linter.all false
set_option maxRecDepth 100000
set_option maxHeartbeats 4000000
namespace W19
open PySem PySem.Spec PyProof.Rows L2 RZ
section
variable {P : Program} {w : World} {K : PySem.W.Frag} {mg : Str → Option Value} {base : Heap}

theorem slice1 {x : V} {xs : List V} : cutV (x :: xs) (some 1) none = xs ∧ ¬ (HT.sIx (x :: xs).length 0 (some 1) = 0 ∧ HT.sIx (x :: xs).length (x :: xs).length none = (x :: xs).length) := by
  have e1 : HT.sIx (x :: xs).length 0 (some 1) = 1 := by
    unfold HT.sIx
    simp
    try omega
  have e2 : HT.sIx (x :: xs).length (x :: xs).length none = (x :: xs).length := by
    unfold HT.sIx
    rfl
  refine ⟨?_, fun h => by rw [e1] at h; omega⟩
  unfold cutV
  rw [e1, e2]
  simp
theorem map_get {α : Type} {f : α → V} {l : List α} {i : Nat} {y : V} (h : (l.map f)[i]? = some y) : ∃ x, l[i]? = some x ∧ f x = y := by
  rw [List.getElem?_map] at h
  cases e : l[i]? with
  | none =>
    rw [e] at h
    cases h
  | some x =>
    rw [e] at h
    exact ⟨x, rfl, Option.some.inj h⟩
theorem Rw.nomany (r : Rw) : ¬ (("many" : Str) ∈ r.roles) := by
  have n1 : ¬ (("many" : Str) = "sets") := by decide +kernel
  have n2 : ¬ (("many" : Str) = "reads") := by decide +kernel
  have n3 : ¬ (("many" : Str) = "row") := by decide +kernel
  have n4 : ¬ (("many" : Str) = "number") := by decide +kernel
  cases r <;> simp [Rw.roles, n1, n2, n3, n4]
theorem Ctx.roleK (T : Ctx w K mg) {x : Str} {rs : List Str} (m : (x, rs) ∈ roles) : KDct K w (He.ga K "ROLES") x (.ref (rolA K x)) := by
  obtain ⟨es, n, D⟩ := T.rolesD
  exact ⟨es, n, _, D.at_, D.lit, (T.role m (fun _ => none)).1, rfl⟩
def spFills : Sp := fun vs H Q _ => ∃ src role part, vs = [src, .str role, part] ∧ Fits role part ∧ ∀ H', Same H H' → Q (.bl true) H'
def spIsRow (K : PySem.W.Frag) : Sp := fun vs H Q _ => ∃ src a r, vs = [src, .ref a, .ref (He.ga K "ROW_WORDS")] ∧ H a = some (.tup (Rw.vals r)) ∧ r.below 9 ∧ ∀ H', Same H H' → Q (.bl true) H'
def oV : Option Nat → V
  | some k => sv k
  | none => .non
def spSets : Sp := fun vs H Q _ => ∃ a r, vs = [.ref a] ∧ H a = some (.tup (Rw.vals r)) ∧ Q (oV r.sets) H
def spReads : Sp := fun vs H Q _ => ∃ a r, vs = [.ref a] ∧ H a = some (.tup (Rw.vals r)) ∧ ∀ p H', Same H H' → H p = none → H' p = some (.lst (r.reads.map sv)) → Q (.ref p) H'
def Rw.names (r : Rw) : List Nat := match r.sets with
  | some k => k :: r.reads
  | none => r.reads
def spNamesIn : Sp := fun vs H Q _ => ∃ a r, vs = [.ref a] ∧ H a = some (.tup (Rw.vals r)) ∧ ∀ p H', Same H H' → H' p = some (.lst (r.names.map sv)) → Q (.ref p) H' 
theorem sc_fills : FnScope ["source", "role", "part"] ["source", "role", "part"] (defScope s_fills) := ⟨rfl, rfl, rfl, by decide +kernel, rfl, by decide +kernel, by decide +kernel⟩
theorem ok_fills (T : Ctx w K mg) (H_is_name : Has P w K mg base 1 "is_name" ["thing"] spName) (H_is_written_number : Has P w K mg base 3 "is_written_number" ["thing"] spWritten) (H_is_integer : Has P w K mg base 1 "is_integer" ["thing"] spIsInt) : Has P w K mg base 4 "_fills" ["source", "role", "part"] spFills := by
  obtain ⟨fd, F⟩ := T.D_fills
  obtain ⟨fd_is_name, G_is_name, b_is_name⟩ := H_is_name.ex
  obtain ⟨fd_is_written_number, G_is_written_number, b_is_written_number⟩ := H_is_written_number.ex
  obtain ⟨fd_is_integer, G_is_integer, b_is_integer⟩ := H_is_integer.ex
  refine ⟨⟨fd, F.ok sc_fills (fun vs H Q E h => ?_) (fun cdv A outer s H vs Q E hr h => ?_), F.bindsN fun _ _ _ _ _ _ us hl => match us, hl with | [_, _, _], _ => rfl⟩, F.kp, T.g_fills⟩
  · obtain ⟨src, role, part, rfl, F0, k⟩ := h; rfl
  · obtain ⟨src, role, part, rfl, F0, k⟩ := h
    have hr_is_name : Room 1 _ := hr.mono (by decide)
    have hr_is_written_number : Room 3 _ := hr.mono (by decide)
    have hr_is_integer : Room 1 _ := hr.mono (by decide)
    have hu := hu_of hr
    refine ⟨_, PSs.nox (pss_cons (ps_if (pt_cmpR op_in_seq (pv 1) (pe_tup (pa_cons pe_str (pa_cons pe_str pa_nil))) rfl) (pss_one (ps_ret (pe_call G_is_name hr_is_name (by rfl) H_is_name.gl H_is_name.kp b_is_name .nil pass0 (pa_cons (pv 2) pa_nil)))) pss_nil)
      (pss_cons (ps_if (pt_cmpR op_eq (pv 1) pe_str (nomark _)) (pss_one (ps_ret (pe_call G_is_written_number hr_is_written_number (by rfl) H_is_written_number.gl H_is_written_number.kp b_is_written_number .nil pass0 (pa_cons (pv 2) pa_nil)))) pss_nil)
      (pss_cons (ps_if (pt_cmpR op_eq (pv 1) pe_str (nomark _)) (pss_one ps_never) pss_nil)
      (pss_cons (ps_if (pt_cmpR op_eq (pv 1) pe_str (nomark _)) (pss_one ps_never) pss_nil)
      (pss_cons (ps_if (pt_cmpR op_eq (pv 1) pe_str (nomark _)) (pss_one ps_never) pss_nil)
      (pss_cons (ps_if (pt_cmpR op_eq (pv 1) pe_str (nomark _)) (pss_one ps_never) pss_nil)
      (pss_cons (ps_if (pt_cmpR op_eq (pv 1) pe_str (nomark _)) (pss_one (ps_ret (pe_call G_is_integer hr_is_integer (by rfl) H_is_integer.gl H_is_integer.kp b_is_integer .nil pass0 (pa_cons (pv 2) pa_nil)))) pss_nil)
      (pss_one ps_never)))))))), ?_⟩
    refine ⟨_, rfl, sz_of (by decide), fun t ht => ⟨t, _, rfl, .inr (SqT.of upd_same), rfl, rfl, ?_⟩⟩
    have s1 : Same H (upd H t (.tup [.str "sets", .str "reads"])) := Same.new ht
    cases F0 with
    | sets h => exact ⟨_, rfl, ifT rfl ⟨_, rfl, _, rfl, h, fun H' s' => k H' (s1.trans s')⟩⟩
    | reads h => exact ⟨_, rfl, ifT rfl ⟨_, rfl, _, rfl, h, fun H' s' => k H' (s1.trans s')⟩⟩
    | num h1 h2 => exact ⟨_, rfl, ifF rfl ⟨_, rfl, rfl, _, rfl, ifT rfl ⟨_, rfl, _, rfl, h1, h2, k _ s1⟩⟩⟩
    | row i => exact ⟨_, rfl, ifF rfl ⟨_, rfl, rfl, _, rfl, ifF rfl ⟨_, rfl, rfl, _, rfl, ifF rfl ⟨_, rfl, rfl, _, rfl, ifF rfl ⟨_, rfl, rfl, _, rfl, ifF rfl ⟨_, rfl, rfl, _, rfl, ifF rfl ⟨_, rfl, rfl, _, rfl, ifT rfl ⟨_, rfl, i, rfl, k _ s1⟩⟩⟩⟩⟩⟩⟩⟩
theorem sc_is_row : FnScope ["source", "thing", "words", "roles", "role", "part"] ["source", "thing", "words"] (defScope s_is_row) := ⟨rfl, rfl, rfl, by decide +kernel, rfl, by decide +kernel, by decide +kernel⟩
theorem ok_is_row (T : Ctx w K mg) (H_is_word_tuple : Has P w K mg base 1 "is_word_tuple" ["thing"] spWord) (H_fills : Has P w K mg base 4 "_fills" ["source", "role", "part"] spFills) : Has P w K mg base 5 "is_row" ["source", "thing", "words"] (spIsRow K) := by
  obtain ⟨fd, F⟩ := T.D_is_row
  obtain ⟨fd_is_word_tuple, G_is_word_tuple, b_is_word_tuple⟩ := H_is_word_tuple.ex
  obtain ⟨fd_fills, G_fills, b_fills⟩ := H_fills.ex
  refine ⟨⟨fd, F.ok sc_is_row (fun vs H Q E h => ?_) (fun cdv A outer s H vs Q E hr h => ?_), F.bindsN fun _ _ _ _ _ _ us hl => match us, hl with | [_, _, _], _ => rfl⟩, F.kp, T.g_is_row⟩
  · obtain ⟨src, a, r, rfl, ha, hb, k⟩ := h; rfl
  · obtain ⟨src, a, r, rfl, ha, hb, k⟩ := h
    have hr_is_word_tuple : Room 1 _ := hr.mono (by decide)
    have hr_fills : Room 4 _ := hr.mono (by decide)
    have hu := hu_of hr
    refine ⟨_, PSs.nox (pss_cons (ps_if (PW.pt (pw_or (pt_not (pt_val (pe_call G_is_word_tuple hr_is_word_tuple (by rfl) H_is_word_tuple.gl H_is_word_tuple.kp b_is_word_tuple .nil pass0 (pa_cons (pv 1) pa_nil)))) (pw_or1 (pt_cmpR op_notIn_seq (pe_ix ix_tup (pv 1) pe_int (fun _ _ => rfl)) (pv 2) rfl)))) (pss_one (ps_ret pe_bl)) pss_nil)
      (pss_cons (ps_set (i := 3) sc_is_row.nd rfl (Or.inl rfl) (pe_ix ix_kdict (pe_glob (v := .ref (He.ga K "ROLES")) rfl T.g_ROLES rfl) (pe_ix ix_tup (pv 1) pe_int (fun _ _ => rfl)) (fun _ _ => rfl)))
      (pss_cons (ps_if (pt_cmpR op_ne (pe_callB call_len_seq (by rfl) T.f_len (by decide +kernel) (pa_cons (pv 1) pa_nil)) (pe_op op_add (pe_callB call_len_seq (by rfl) T.f_len (by decide +kernel) (pa_cons (pv 3) pa_nil)) pe_int) (nomark _)) (pss_one (ps_ret pe_bl)) pss_nil)
      (pss_one (ps_ret (pe_callB (cr_all rfl) (by rfl) T.f_all (by decide +kernel) (pa_cons (pe_lc (own := [("role", 4), ("part", 5)]) (g := gTup K 2 (gCons (gName 4) (gCons (gName 5) (gNil)))) (tt := tYes) rfl sc_is_row.nd (pi_zipA (by rfl) T.f_zip (pa_cons (pv 3) (pa_cons (pe_slice sl_tup (pv 1) (po_some pe_int) po_none) pa_nil))) (blkOk_by (N := ["source", "thing", "words", "roles", "role", "part"]) (sc := defScope s_is_row) (by decide +kernel)) (fun _ _ _ _ _ => (pg_tup rfl (pgs_cons (pg_name (i := 4) sc_is_row.nd rfl (Or.inl rfl)) (pgs_cons (pg_name (i := 5) sc_is_row.nd rfl (Or.inl rfl)) pgs_nil)))) (fun _ _ _ _ _ => pts_nil) (fun _ _ _ _ _ => (pe_call G_fills hr_fills (by rfl) H_fills.gl H_fills.kp b_fills .nil pass0 (pa_cons (pv 0) (pa_cons (pv 4) (pa_cons (pv 5) pa_nil)))))) pa_nil))))))), ?_⟩
    have hw : ∀ r : Rw, inV (V.str r.word) (v_ROW_WORDS.map (He.Dv.v K)) = true := fun r => by cases r <;> rfl
    have hflat : (v_ROW_WORDS.map (He.Dv.v K)).all flatV = true := rfl
    refine ⟨_, rfl, a, r.word, r.parts, rfl, ha, _, rfl, iteF ?_⟩
    refine ⟨_, rfl, _, _, _, _, rfl, rfl, SqT.of ha, at0, _, rfl, _, _, rfl, .inr (T.rowwords H), rfl, hflat, _, rfl, ifF ?_ ?_⟩
    · show (if true = true then !inV (V.str r.word) (v_ROW_WORDS.map (He.Dv.v K)) else inV (V.str r.word) (v_ROW_WORDS.map (He.Dv.v K))) = false
      rw [hw r]
      rfl
    refine ⟨_, rfl, _, _, _, _, rfl, rfl, SqT.of ha, at0, _, _, _, rfl, rfl, T.roleK (roles_mem r), ?_⟩
    have hro : ∀ H, SqT K H (rolA K r.word) (r.roles.map V.str) := fun H => (T.role (roles_mem r) H).2
    refine ⟨_, rfl, _, _, rfl, .inr (SqT.of ha), _, rfl, _, _, rfl, .inr (hro H), _, _, rfl, rfl, rfl, _, rfl, ifF ?_ ?_⟩
    · show (!decide (V.int ((r.vals.length : Nat) : Int) = V.int (((r.roles.map V.str).length : Nat) + 1 : Int))) = false
      rw [decide_eq_true]
      · rfl
      · rw [List.length_map, r.lens]
        rfl
    refine ⟨_, rfl, _, rfl, 1, rfl, a, _, rfl, SqT.of ha, slice1.2, fun t ht => ?_⟩
    have s1 : Same H (upd H t (.tup (cutV r.vals (some 1) none))) := Same.new ht
    have ht1 : (upd H t (.tup (cutV r.vals (some 1) none))) t = some (.tup r.parts) := by
      rw [upd_same]
      exact congrArg (fun l => some (HO.tup l)) slice1.1
    refine ⟨_, t, _, r.parts, rfl, .inr ⟨hro _, SqT.of ht1, fun D hD => ?_⟩⟩
    refine lc_pure (walk_zipT (K := K) (xs := r.roles.map V.str) (ys := r.parts) (n := r.parts.length) (by rw [List.length_map, r.lens, Nat.min_self])) hD (fun _ => .bl true) (by cases r <;> simp [Rw.parts]) (fun H2 s2 => ⟨hro _, SqT.of (s2 _ _ ht1)⟩) (fun i H2 y H3 hi s2 hy Qe qe => ?_) (fun H2 s2 h2 => ?_)
    · obtain ⟨u, x, v, rfl, hu0, rfl, hx, hv⟩ := hy
      obtain ⟨role, e, rfl⟩ := map_get (show (r.roles.map V.str)[i]? = some x from hx)
      refine ⟨u, _, rfl, SqT.of upd_same, rfl, _, _, rfl, _, _, rfl, rfl, rfl, ?_⟩
      exact ⟨_, rfl, _, rfl, _, rfl, src, role, v, rfl, Rw.fits hb i role v e hv, fun H' s' => qe H' ((Same.new hu0).trans s')⟩
    · exact ⟨D, (List.range r.parts.length).map (fun _ => true), rfl, SqL.of (by rw [h2, List.map_map]; rfl), qT all_true (k _ (s1.trans s2))⟩
theorem sc_row_sets : FnScope ["row"] ["row"] (defScope s_row_sets) := ⟨rfl, rfl, rfl, by decide +kernel, rfl, by decide +kernel, by decide +kernel⟩
theorem ok_row_sets (T : Ctx w K mg) : Has P w K mg base 1 "row_sets" ["row"] spSets := by
  obtain ⟨fd, F⟩ := T.D_row_sets
  refine ⟨⟨fd, F.ok sc_row_sets (fun vs H Q E h => ?_) (fun cdv A outer s H vs Q E hr h => ?_), F.bindsN fun _ _ _ _ _ _ us hl => match us, hl with | [_], _ => rfl⟩, F.kp, T.g_row_sets⟩
  · obtain ⟨a, r, rfl, ha, k⟩ := h; rfl
  · obtain ⟨a, r, rfl, ha, k⟩ := h
    have hu := hu_of hr
    refine ⟨_, PSs.nox (pss_one (ps_ret (pe_ifExp (pt_cmpR op_eq (pe_ix ix_tup (pe_ix ix_kdict (pe_glob (v := .ref (He.ga K "ROLES")) rfl T.g_ROLES rfl) (pe_ix ix_tup (pv 0) pe_int (fun _ _ => rfl)) (fun _ _ => rfl)) pe_int (fun _ _ => rfl)) pe_str (nomark _)) (pe_ix ix_tup (pv 0) pe_int (fun _ _ => rfl)) pe_non))), ?_⟩
    have hro : ∀ H, SqT K H (rolA K r.word) (r.roles.map V.str) := fun H => (T.role (roles_mem r) H).2
    refine ⟨_, rfl, _, _, _, _, rfl, rfl, SqT.of ha, at0, _, _, _, rfl, rfl, T.roleK (roles_mem r), ?_⟩
    cases r <;> first
      | exact ⟨_, _, _, _, rfl, rfl, hro H, at0, rfl, _, rfl, ifT rfl ⟨_, rfl, _, _, _, _, rfl, rfl, SqT.of ha, at1, k⟩⟩
      | exact ⟨_, _, _, _, rfl, rfl, hro H, at0, rfl, _, rfl, ifF rfl k⟩
theorem sc_row_reads : FnScope ["row", "names", "role", "part"] ["row"] (defScope s_row_reads) := ⟨rfl, rfl, rfl, by decide +kernel, rfl, by decide +kernel, by decide +kernel⟩
theorem ok_row_reads (T : Ctx w K mg) : Has P w K mg base 1 "row_reads" ["row"] spReads := by
  obtain ⟨fd, F⟩ := T.D_row_reads
  refine ⟨⟨fd, F.ok sc_row_reads (fun vs H Q E h => ?_) (fun cdv A outer s H vs Q E hr h => ?_), F.bindsN fun _ _ _ _ _ _ us hl => match us, hl with | [_], _ => rfl⟩, F.kp, T.g_row_reads⟩
  · obtain ⟨a, r, rfl, ha, k⟩ := h; rfl
  · obtain ⟨a, r, rfl, ha, k⟩ := h
    have hu := hu_of hr
    refine ⟨_, PSs.nox (pss_cons (ps_set (i := 1) sc_row_reads.nd rfl (Or.inl rfl) (pe_lst pa_nil))
      (pss_cons (ps_for PassesOwn.never rfl (pi_zipA (by rfl) T.f_zip (pa_cons (pe_ix ix_kdict (pe_glob (v := .ref (He.ga K "ROLES")) rfl T.g_ROLES rfl) (pe_ix ix_tup (pv 0) pe_int (fun _ _ => rfl)) (fun _ _ => rfl)) (pa_cons (pe_slice sl_tup (pv 0) (po_some pe_int) po_none) pa_nil))) (pg_tup rfl (pgs_cons (pg_name (i := 2) sc_row_reads.nd rfl (Or.inl rfl)) (pgs_cons (pg_name (i := 3) sc_row_reads.nd rfl (Or.inl rfl)) pgs_nil)))
      (pss_one (ps_if (pt_cmpR op_eq (pv 2) pe_str (nomark _)) (pss_one (ps_expr (pe_bm PySem.F.plainAttrs_list PySem.F.slot_list_append PySem.F.type_list_append mt_append (pv 1) (pa_cons (pv 3) pa_nil)))) (pss_one (ps_if (pt_cmpR op_eq (pv 2) pe_str (nomark _)) (pss_one ps_never) pss_nil)))))
      (pss_one (ps_ret (pv 1))))), ?_⟩
    have hro : ∀ H, SqT K H (rolA K r.word) (r.roles.map V.str) := fun H => (T.role (roles_mem r) H).2
    refine ⟨sz_of (by decide), fun l hl => ?_⟩
    have s0 : Same H (upd H l (.lst [])) := Same.new hl
    refine ⟨_, rfl, _, _, _, _, rfl, rfl, SqT.of (s0 _ _ ha), at0, _, _, _, rfl, rfl, T.roleK (roles_mem r), ?_⟩
    refine ⟨_, rfl, 1, rfl, a, _, rfl, SqT.of (s0 _ _ ha), slice1.2, fun t ht => ?_⟩
    have s1 : Same (upd H l (.lst [])) (upd (upd H l (.lst [])) t (.tup (cutV r.vals (some 1) none))) := Same.new ht
    have ht1 : (upd (upd H l (.lst [])) t (.tup (cutV r.vals (some 1) none))) t = some (.tup r.parts) := by
      rw [upd_same]
      exact congrArg (fun l => some (HO.tup l)) slice1.1
    refine ⟨_, t, _, r.parts, rfl, .inr ⟨hro _, SqT.of ht1, ?_⟩⟩
    refine for_it (walk_zipT (K := K) (xs := r.roles.map V.str) (ys := r.parts) (n := r.parts.length) (by rw [List.length_map, r.lens, Nat.min_self])) (fun i σ H1 => ∃ v1 v2 : Option V, σ = [some (.ref a), some (.ref l), v1, v2] ∧ Same H H1 ∧ H1 t = some (.tup r.parts) ∧ H1 l = some (.lst (rdOf (r.roles.take i) (r.parts.take i)))) ⟨none, none, rfl, s0.trans s1, ht1, s1 _ _ upd_same⟩ (fun i σ H1 _ ⟨_, _, _, _, h3, _⟩ => ⟨hro _, SqT.of h3⟩) ?_ ?_
    · rintro i y σ H1 H2 hi ⟨v1, v2, rfl, s2, h3, h4⟩ ⟨u, x, v, rfl, hu0, rfl, hx, hv⟩
      obtain ⟨role, e, rfl⟩ := map_get (show (r.roles.map V.str)[i]? = some x from hx)
      have hv : r.parts[i]? = some v := hv
      have s3 : Same H1 (upd H1 u (.tup [V.str role, v])) := Same.new hu0
      have hsn := rdOf_snoc e hv
      refine ⟨u, _, rfl, SqT.of upd_same, rfl, _, _, rfl, _, _, rfl, rfl, ?_⟩
      refine ⟨_, rfl, rfl, _, rfl, ?_⟩
      by_cases c : role = "reads"
      · rw [if_pos c] at hsn
        refine ifT (decide_eq_true (by rw [c])) ?_
        refine ⟨_, rfl, .inl ⟨rfl, _, SqL.of (s3 _ _ h4)⟩, _, rfl, l, _, _, rfl, rfl, s3 _ _ h4, sz_lt ?_, ?_⟩
        · have : (rdOf (r.roles.take i) (r.parts.take i)).length ≤ i := by
            refine Nat.le_trans (rdOf_len _ _) ?_
            rw [List.length_take]
            omega
          have h5 : r.parts.length ≤ 3 := by cases r <;> simp [Rw.parts]
          omega
        · refine ⟨_, _, rfl, Same.mut (s2.trans s3) hl, ?_, ?_⟩
          · rw [upd_ne]
            · exact s3 _ _ h3
            · intro z
              rw [z, h4] at h3
              cases h3
          · rw [upd_same, hsn]
      · rw [if_neg c, List.append_nil] at hsn
        refine ifF (decide_eq_false (fun z => c (V.str.inj z))) ?_
        refine ⟨_, rfl, rfl, _, rfl, ifF (decide_eq_false (fun z => r.nomany (by rw [← V.str.inj z]; exact List.mem_of_getElem? e))) ?_⟩
        refine ⟨_, _, rfl, s2.trans s3, s3 _ _ h3, ?_⟩
        rw [hsn]
        exact s3 _ _ h4
    · rintro σ H1 ⟨v1, v2, rfl, s2, h3, h4⟩
      refine ⟨_, rfl, k l _ s2 hl ?_⟩
      rw [h4, List.take_of_length_le (by rw [r.lens]; exact Nat.le_refl _), List.take_length, r.rd]
theorem sc_names_in : FnScope ["row", "names", "name"] ["row"] (defScope s_names_in) := ⟨rfl, rfl, rfl, by decide +kernel, rfl, by decide +kernel, by decide +kernel⟩
theorem ok_names_in (T : Ctx w K mg) (H_row_reads : Has P w K mg base 1 "row_reads" ["row"] spReads) (H_row_sets : Has P w K mg base 1 "row_sets" ["row"] spSets) : Has P w K mg base 2 "_names_in" ["row"] spNamesIn := by
  obtain ⟨fd, F⟩ := T.D_names_in
  obtain ⟨fd_row_reads, G_row_reads, b_row_reads⟩ := H_row_reads.ex
  obtain ⟨fd_row_sets, G_row_sets, b_row_sets⟩ := H_row_sets.ex
  refine ⟨⟨fd, F.ok sc_names_in (fun vs H Q E h => ?_) (fun cdv A outer s H vs Q E hr h => ?_), F.bindsN fun _ _ _ _ _ _ us hl => match us, hl with | [_], _ => rfl⟩, F.kp, T.g_names_in⟩
  · obtain ⟨a, r, rfl, ha, k⟩ := h; rfl
  · obtain ⟨a, r, rfl, ha, k⟩ := h
    have hr_row_reads : Room 1 _ := hr.mono (by decide)
    have hr_row_sets : Room 1 _ := hr.mono (by decide)
    have hu := hu_of hr
    refine ⟨_, PSs.nox (pss_cons (ps_set (i := 1) sc_names_in.nd rfl (Or.inl rfl) (pe_call G_row_reads hr_row_reads (by rfl) H_row_reads.gl H_row_reads.kp b_row_reads .nil pass0 (pa_cons (pv 0) pa_nil)))
      (pss_cons (ps_set (i := 2) sc_names_in.nd rfl (Or.inl rfl) (pe_call G_row_sets hr_row_sets (by rfl) H_row_sets.gl H_row_sets.kp b_row_sets .nil pass0 (pa_cons (pv 0) pa_nil)))
      (pss_one (ps_ret (pe_ifExp (pt_cmpR op_isN (pv 2) pe_non (nomark _)) (pv 1) (pe_lst (pa_cons (pv 2) (StX.pa_star (pv 1) pa_nil)))))))), ?_⟩
    refine ⟨_, rfl, a, r, rfl, ha, fun p H1 s1 _ hp => ?_⟩
    refine ⟨_, rfl, a, r, rfl, s1 _ _ ha, ?_⟩
    refine ⟨_, rfl, rfl, _, rfl, ?_⟩
    cases e : r.sets with
    | none =>
      refine ifT rfl ⟨_, rfl, k p _ s1 ?_⟩
      rw [hp]
      unfold Rw.names
      rw [e]
    | some x =>
      refine ifF rfl ⟨_, rfl, _, rfl, _, _, rfl, .inr (SqL.of hp), ?_⟩
      refine ⟨sz_of ?_, fun q hq => k q _ (s1.trans (Same.new hq)) ?_⟩
      · have h5 : (r.reads.map sv).length ≤ 3 := by cases r <;> simp [Rw.reads]
        simp only [List.length_append, List.length_cons, List.length_nil]
        omega
      · rw [upd_same]
        unfold Rw.names
        rw [e]
        simp [oV]
def numF : Str → V := fun _ => .str "number"
theorem valV_kvT_in : ∀ {l : List Str} {x : Str}, x ∈ l → valV (kvT l numF) (Sum.inr x : Key) = some (.str "number")
  | [], x, h => by simp at h
  | a :: l, x, h => by
    by_cases c : a = x
    · subst c
      simp [valV, kvT, numF]
    · have q : x ∈ l := (List.mem_cons.mp h).resolve_left fun z => c z.symm
      have ih := valV_kvT_in q
      have n : ¬ ((Sum.inr a : Key) = Sum.inr x) := fun z => c (Sum.inr.inj z)
      have e : valV (kvT (a :: l) numF) (Sum.inr x : Key) = valV (kvT l numF) (Sum.inr x : Key) := by
        unfold valV kvT
        rw [List.map_cons, List.find?_cons_of_neg (by simpa using n)]
      rw [e, ih]
def spFit : Sp := fun vs H Q _ => ∃ src a r d ns, vs = [src, .ref a, .ref d, .str "number"] ∧ H a = some (.tup (Rw.vals r)) ∧ H d = some (.dK (kvT ns numF)) ∧ (∀ k ∈ r.names, vn k ∈ ns) ∧ ∀ H', Same H H' → Q (.bl true) H'
theorem sc_row_kinds_fit : FnScope ["source", "row", "kinds", "result", "word", "name"] ["source", "row", "kinds", "result"] (defScope s_row_kinds_fit) := ⟨rfl, rfl, rfl, by decide +kernel, rfl, by decide +kernel, by decide +kernel⟩
theorem ok_row_kinds_fit (T : Ctx w K mg) (H_names_in : Has P w K mg base 2 "_names_in" ["row"] spNamesIn) : Has P w K mg base 3 "row_kinds_fit" ["source", "row", "kinds", "result"] spFit := by
  obtain ⟨fd, F⟩ := T.D_row_kinds_fit
  obtain ⟨fd_names_in, G_names_in, b_names_in⟩ := H_names_in.ex
  refine ⟨⟨fd, F.ok sc_row_kinds_fit (fun vs H Q E h => ?_) (fun cdv A outer s H vs Q E hr h => ?_), F.bindsN fun _ _ _ _ _ _ us hl => match us, hl with | [_, _, _, _], _ => rfl⟩, F.kp, T.g_row_kinds_fit⟩
  · obtain ⟨src, a, r, d, ns, rfl, ha, hd, hn, k⟩ := h; rfl
  · obtain ⟨src, a, r, d, ns, rfl, ha, hd, hn, k⟩ := h
    have hr_names_in : Room 2 _ := hr.mono (by decide)
    have hu := hu_of hr
    refine ⟨_, PSs.nox (pss_cons (ps_set (i := 4) sc_row_kinds_fit.nd rfl (Or.inl rfl) (pe_ix ix_tup (pv 1) pe_int (fun _ _ => rfl)))
      (pss_cons (ps_if (pt_cmpR op_in_seq (pv 4) (pe_glob (v := .ref (He.ga K "NUMBER_WORDS")) rfl T.g_NUMBER_WORDS rfl) rfl) (pss_one (ps_ret (pe_callB (cr_all rfl) (by rfl) T.f_all (by decide +kernel) (pa_cons (pe_lc (own := [("name", 5)]) (g := gName 5) (tt := tYes) rfl sc_row_kinds_fit.nd (pi_list (pe_call G_names_in hr_names_in (by rfl) H_names_in.gl H_names_in.kp b_names_in .nil pass0 (pa_cons (pv 1) pa_nil))) (blkOk_by (N := ["source", "row", "kinds", "result", "word", "name"]) (sc := defScope s_row_kinds_fit) (by decide +kernel)) (fun _ _ _ _ _ => (pg_name (i := 5) sc_row_kinds_fit.nd rfl (Or.inl rfl))) (fun _ _ _ _ _ => pts_nil) (fun _ _ _ _ _ => (pe_cmpR op_eq (pe_dget hu (pv 2) (pv 5) (fun _ _ => rfl)) pe_str (nomark _)))) pa_nil)))) pss_nil)
      (pss_cons (ps_if (pt_cmpR op_eq (pv 4) pe_str (nomark _)) (pss_one ps_never) pss_nil)
      (pss_cons (ps_if (pt_cmpR op_eq (pv 4) pe_str (nomark _)) (pss_one ps_never) pss_nil)
      (pss_cons (ps_if (pt_cmpR op_eq (pv 4) pe_str (nomark _)) (pss_one ps_never) pss_nil)
      (pss_cons (ps_if (pt_cmpR op_eq (pv 4) pe_str (nomark _)) (pss_one ps_never) pss_nil)
      (pss_cons (ps_if (pt_cmpR op_eq (pv 4) pe_str (nomark _)) (pss_one (ps_ret (pe_cmpR op_eq (pe_dget hu (pv 2) (pe_ix ix_tup (pv 1) pe_int (fun _ _ => rfl)) (fun _ _ => rfl)) (pe_dget hu (pv 2) (pe_ix ix_tup (pv 1) pe_int (fun _ _ => rfl)) (fun _ _ => rfl)) (nomark _)))) pss_nil)
      (pss_cons (ps_if (pt_cmpR op_in_seq (pv 4) (pe_tup (pa_cons pe_str (pa_cons pe_str pa_nil))) rfl) (pss_one ps_never) pss_nil)
      (pss_one (ps_ret (pe_or (pe_cmpR op_ne (pv 4) pe_str (nomark _)) (pe_one (pe_cmpR op_eq (pe_dget hu (pv 2) (pe_ix ix_tup (pv 1) pe_int (fun _ _ => rfl)) (fun _ _ => rfl)) (pv 3) (nomark _)))))))))))))), ?_⟩
    have key : ∀ {x : Nat}, x ∈ r.names → valV (kvT ns numF) (Sum.inr (vn x) : Key) = some (.str "number") := fun h => valV_kvT_in (hn _ h)
    refine ⟨_, rfl, _, _, _, _, rfl, rfl, SqT.of ha, at0, ?_⟩
    refine ⟨_, rfl, _, _, rfl, .inr (T.numwords H), rfl, rfl, _, rfl, ?_⟩
    cases e : inV (V.str r.word) (v_NUMBER_WORDS.map (He.Dv.v K)) with
    | true =>
      refine ifT rfl ?_
      refine ⟨_, rfl, a, r, rfl, ha, fun p H1 s1 hp => ⟨p, rfl, ⟨_, SqL.of hp⟩, fun D hD => ?_⟩⟩
      refine lc_pure (walk_list (K := K) (a := p) (xs := r.names.map sv)) hD (fun _ => .bl true) (by cases r <;> simp [Rw.names, Rw.sets, Rw.reads]) (fun H2 s2 => SqL.of (s2 _ _ hp)) (fun i H2 y H3 hi s2 hy Qe qe => ?_) (fun H2 s2 h2 => ?_)
      · obtain ⟨rfl, hy⟩ := hy
        obtain ⟨x, hx, rfl⟩ := map_get hy
        refine ⟨rfl, _, rfl, _, rfl, d, .str "number", rfl, ?_, rfl, qT (decide_eq_true rfl) (qe _ (Same.refl _))⟩
        rw [← key (List.mem_of_getElem? hx)]
        exact DGet.k (k := Sum.inr (vn x)) (s2 _ _ (s1 _ _ hd))
      · exact ⟨D, (List.range (r.names.map sv).length).map (fun _ => true), rfl, SqL.of (by rw [h2, List.map_map]; rfl), qT all_true (k _ (s1.trans s2))⟩
    | false =>
      refine ifF rfl ?_
      refine ⟨_, rfl, rfl, _, rfl, ifF ?_ ?_⟩
      · cases r <;> rfl
      refine ⟨_, rfl, rfl, _, rfl, ifF ?_ ?_⟩
      · cases r <;> rfl
      refine ⟨_, rfl, rfl, _, rfl, ifF ?_ ?_⟩
      · cases r <;> rfl
      refine ⟨_, rfl, rfl, _, rfl, ifF ?_ ?_⟩
      · cases r <;> rfl
      have dg : ∀ {x : Nat}, x ∈ r.names → ∀ H', Same H H' → DGet H' d (sv x) (some (.str "number")) := fun hx H' s' => by
        rw [← key hx]
        exact DGet.k (k := Sum.inr (vn _)) (s' _ _ hd)
      by_cases c : r.word = "copy"
      · refine ⟨_, rfl, rfl, _, rfl, ifT (decide_eq_true (by rw [c])) ?_⟩
        cases r with
        | copy x y => exact ⟨_, rfl, _, rfl, _, _, _, _, rfl, rfl, SqT.of ha, at1, d, _, rfl, dg (by simp [Rw.names, Rw.sets, Rw.reads]) H (Same.refl H), _, rfl, _, rfl, _, _, _, _, rfl, rfl, SqT.of ha, at2, d, _, rfl, dg (by simp [Rw.names, Rw.sets, Rw.reads]) H (Same.refl H), rfl, qT (decide_eq_true rfl) (k _ (Same.refl H))⟩
        | _ => exact absurd c (by simp only [Rw.word]; decide +kernel)
      · refine ⟨_, rfl, rfl, _, rfl, ifF (decide_eq_false (fun z => c (V.str.inj z))) ?_⟩
        refine ⟨_, rfl, sz_of (by decide), fun t ht => ⟨t, _, rfl, .inr (SqT.of upd_same), rfl, rfl, _, rfl, ifF ?_ ?_⟩⟩
        · cases r <;> rfl
        have s1 : Same H (upd H t (.tup [.str "nil", .str "new"])) := Same.new ht
        by_cases c2 : r.word = "return"
        · cases r with
          | ret x => exact ⟨_, rfl, rfl, false, rfl, iteF ⟨_, rfl, _, rfl, _, _, _, _, rfl, rfl, SqT.of (s1 _ _ ha), at1, d, _, rfl, dg (by simp [Rw.names, Rw.sets, Rw.reads]) _ s1, _, rfl, rfl, qT (decide_eq_true rfl) (k _ s1)⟩⟩
          | _ => exact absurd c2 (by simp only [Rw.word]; decide +kernel)
        · refine ⟨_, rfl, rfl, true, ?_, iteT (k _ s1)⟩
          exact congrArg V.bl (by rw [decide_eq_false (fun z => c2 (V.str.inj z))]; rfl)

end
end W19
set_option Elab.async false
set_option linter.all false
set_option maxRecDepth 100000
set_option maxHeartbeats 4000000
namespace W19
open PySem PySem.Spec PyProof.Rows L2
section
variable {P : Program} {w : World} {K : PySem.W.Frag} {mg : Str → Option Value} {base : Heap}

theorem mergeK_kvT : ∀ (l2 l1 : List Str), (l1 ++ l2).Nodup → mergeK (kvT l1 numF) (kvT l2 numF) = kvT (l1 ++ l2) numF
  | [], l1, _ => by
    rw [List.append_nil]
    rfl
  | a :: r, l1, h => by
    have e : l1 ++ a :: r = (l1 ++ [a]) ++ r := by simp
    have h1 : a ∉ l1 := fun m => by
      have := List.nodup_append.mp h
      exact this.2.2 a m a (List.mem_cons_self) rfl
    show mergeK (putK (kvT l1 numF) (Sum.inr a : Key) (numF a)) (kvT r numF) = _
    rw [putK_kvT h1, e]
    exact mergeK_kvT r (l1 ++ [a]) (by rw [← e]; exact h)
theorem pairs_paired {H : Hp} : ∀ {qs : List Addr} {ns : List Str}, Pairs H qs ns → Paired (fun p (kv : Key × V) => SqT K H p [kV kv.1, kv.2]) qs (kvT ns numF)
  | [], [], _ => .nil
  | [], b :: ns, h => by have := h.len; simp at this
  | a :: qs, [], h => by have := h.len; simp at this
  | a :: qs, b :: ns, h => .cons (SqT.of (h.at_ 0 a b rfl rfl)) (pairs_paired (qs := qs) (ns := ns) ⟨by have := h.len; simpa using this, fun i p x e1 e2 => h.at_ (i + 1) p x (by simpa using e1) (by simpa using e2)⟩)
/-- the rows of a function -/
structure Rows (H : Hp) (rs : List Addr) (rws : List Rw) : Prop where
  len : rs.length = rws.length
  at_ : ∀ (i : Nat) a r, rs[i]? = some a → rws[i]? = some r → H a = some (.tup (Rw.vals r))
theorem Rows.mono {H H' : Hp} {rs : List Addr} {rws : List Rw} (h : Rows H rs rws) (e : Same H H') : Rows H' rs rws := ⟨h.len, fun i a r x y => e _ _ (h.at_ i a r x y)⟩
theorem Rows.get {H : Hp} {rs : List Addr} {rws : List Rw} (h : Rows H rs rws) {i : Nat} {y : V} (e : (rs.map V.ref)[i]? = some y) : ∃ a r, y = .ref a ∧ rs[i]? = some a ∧ rws[i]? = some r ∧ H a = some (.tup (Rw.vals r)) := by
  obtain ⟨a, ha, rfl⟩ := map_get e
  have hi : i < rs.length := (List.getElem?_eq_some_iff.mp ha).1
  have hx : rws[i]? = some (rws[i]'(by rw [← h.len]; exact hi)) := by
    rw [List.getElem?_eq_getElem]
  exact ⟨a, _, rfl, ha, hx, h.at_ i a _ ha hx⟩
/-- a Function whose variables are numbers with these names -/
structure FnAt (K : PySem.W.Frag) (H : Hp) (p dx va : Addr) (fs : List (Str × V)) (ns : List Str) : Prop where
  ob : H p = some (.ins (He.ga K "Function") dx fs)
  vars : fs.lookup ("variables" : Str) = some (.ref va)
  res : fs.lookup ("result" : Str) = some (.str "number")
  few : fs.length ≤ 998
  nohas : fs.lookup ("has_row" : Str) = none
  vd : H va = some (.dK (kvT ns numF))
def FnB (K : PySem.W.Frag) (H : Hp) (p : Addr) (ns : List Str) (rws : List Rw) : Prop :=
  ∃ dx va fs ba rs, FnAt K H p dx va fs ns ∧ fs.lookup ("body" : Str) = some (.ref ba) ∧ TupP H ba (rs.map V.ref) ∧ Rows H rs rws
theorem FnB.mono {H H' : Hp} {p : Addr} {ns : List Str} {rws : List Rw} (h : FnB K H p ns rws) (e : Same H H') : FnB K H' p ns rws := by
  obtain ⟨dx, va, fs, ba, rs, ⟨f1, f2, f3, f4, f5, f6⟩, hb, ht, hr⟩ := h
  exact ⟨dx, va, fs, ba, rs, ⟨e _ _ f1, f2, f3, f4, f5, e _ _ f6⟩, hb, ht.mono e, hr.mono e⟩
def spHead : Sp := fun vs H Q _ => ∃ (e pa oa ra : Addr) (ps qs : List Addr) (ns ms : List Str) (rs : List V), vs = [.ref e] ∧ H e = some (.tup [.str "f", .ref pa, .ref oa, .str "number", .ref ra]) ∧ H pa = some (.lst (ps.map V.ref)) ∧ Pairs H ps ns ∧ H oa = some (.lst (qs.map V.ref)) ∧ Pairs H qs ms ∧
  (∀ x ∈ ns ++ ms, Nam x) ∧ (ns ++ ms).Nodup ∧ ns.length ≤ 4 ∧ ms.length ≤ 8 ∧ H ra = some (.lst rs) ∧ 1 ≤ rs.length ∧ rs.length ≤ 40 ∧ ∀ H', Same H H' → Q (.bl true) H'
def spFnInit (K : PySem.W.Frag) : Sp := fun vs H Q _ => ∃ (p dx pa oa : Addr) (nm : Str) (ps qs : List Addr) (ns ms : List Str), vs = [.ref p, .str nm, .ref pa, .ref oa, .str "number"] ∧ H p = some (.ins (He.ga K "Function") dx []) ∧ H pa = some (.lst (ps.map V.ref)) ∧ Pairs H ps ns ∧ H oa = some (.lst (qs.map V.ref)) ∧ Pairs H qs ms ∧
  ns ≠ [] ∧ (ns ++ ms).Nodup ∧ ns.length ≤ 4 ∧ ms.length ≤ 8 ∧ ∀ (H' : Hp) (va : Addr) (fs : List (Str × V)), (∀ b u, H b = some u → b ≠ p → H' b = some u) → fs.length ≤ 900 → FnAt K H' p dx va fs (ns ++ ms) → Q .non H'
def spHasRow (K : PySem.W.Frag) : Sp := fun vs H Q _ => ∃ (p : Addr) (i : Nat) (ns : List Str) (rws : List Rw), vs = [.ref p, .int i] ∧ FnB K H p ns rws ∧ i < rws.length ∧ ∀ H', Same H H' → Q (.bl true) H' 
theorem sc_is_head : FnScope ["entry"] ["entry"] (defScope s_is_head) := ⟨rfl, rfl, rfl, by decide +kernel, rfl, by decide +kernel, by decide +kernel⟩
theorem ok_is_head (T : Ctx w K mg) (H_is_tuple_of : Has P w K mg base 1 "is_tuple_of" ["thing", "many"] spTupOf) (H_is_name : Has P w K mg base 1 "is_name" ["thing"] spName) (H_is_kind : Has P w K mg base 1 "is_kind" ["thing"] spKind) (H_are_named_kinds : Has P w K mg base 2 "are_named_kinds" ["thing", "most"] spNamed) (H_is_list_of : Has P w K mg base 1 "is_list_of" ["thing", "least", "most"] spListOf) : Has P w K mg base 3 "_is_head" ["entry"] spHead := by
  obtain ⟨fd, F⟩ := T.D_is_head
  obtain ⟨fd_is_tuple_of, G_is_tuple_of, b_is_tuple_of⟩ := H_is_tuple_of.ex
  obtain ⟨fd_is_name, G_is_name, b_is_name⟩ := H_is_name.ex
  obtain ⟨fd_is_kind, G_is_kind, b_is_kind⟩ := H_is_kind.ex
  obtain ⟨fd_are_named_kinds, G_are_named_kinds, b_are_named_kinds⟩ := H_are_named_kinds.ex
  obtain ⟨fd_is_list_of, G_is_list_of, b_is_list_of⟩ := H_is_list_of.ex
  refine ⟨⟨fd, F.ok sc_is_head (fun vs H Q E h => ?_) (fun cdv A outer s H vs Q E hr h => ?_), F.bindsN fun _ _ _ _ _ _ us hl => match us, hl with | [_], _ => rfl⟩, F.kp, T.g_is_head⟩
  · obtain ⟨e, pa, oa, ra, ps, qs, ns, ms, rs, rfl, he, hpa, hp1, hoa, hp2, hN, hnd, l1, l2, hra, l3, l4, k⟩ := h; rfl
  · obtain ⟨e, pa, oa, ra, ps, qs, ns, ms, rs, rfl, he, hpa, hp1, hoa, hp2, hN, hnd, l1, l2, hra, l3, l4, k⟩ := h
    have hr_is_tuple_of : Room 1 _ := hr.mono (by decide)
    have hr_is_name : Room 1 _ := hr.mono (by decide)
    have hr_is_kind : Room 1 _ := hr.mono (by decide)
    have hr_are_named_kinds : Room 2 _ := hr.mono (by decide)
    have hr_is_list_of : Room 1 _ := hr.mono (by decide)
    have hu := hu_of hr
    obtain ⟨t_MOST_PARAMETERS, e_MOST_PARAMETERS⟩ := T.i_MOST_PARAMETERS
    obtain ⟨t_MOST_OTHERS, e_MOST_OTHERS⟩ := T.i_MOST_OTHERS
    obtain ⟨t_MOST_ROWS, e_MOST_ROWS⟩ := T.i_MOST_ROWS
    refine ⟨_, PSs.nox (pss_cons (ps_if (PW.pt (pw_or (pt_not (pt_val (pe_call G_is_tuple_of hr_is_tuple_of (by rfl) H_is_tuple_of.gl H_is_tuple_of.kp b_is_tuple_of .nil pass0 (pa_cons (pv 0) (pa_cons pe_int pa_nil))))) (pw_or (pt_not (pt_val (pe_call G_is_name hr_is_name (by rfl) H_is_name.gl H_is_name.kp b_is_name .nil pass0 (pa_cons (pe_ix ix_tup (pv 0) pe_int (fun _ _ => rfl)) pa_nil)))) (pw_or1 (pt_not (pt_val (pe_call G_is_kind hr_is_kind (by rfl) H_is_kind.gl H_is_kind.kp b_is_kind .nil pass0 (pa_cons (pe_ix ix_tup (pv 0) pe_int (fun _ _ => rfl)) pa_nil)))))))) (pss_one (ps_ret pe_bl)) pss_nil)
      (pss_cons (ps_if (PW.pt (pw_or (pt_not (pt_val (pe_call G_are_named_kinds hr_are_named_kinds (by rfl) H_are_named_kinds.gl H_are_named_kinds.kp b_are_named_kinds .nil pass0 (pa_cons (pe_ix ix_tup (pv 0) pe_int (fun _ _ => rfl)) (pa_cons (pe_glob (v := .int 4) rfl e_MOST_PARAMETERS ⟨_, rfl⟩) pa_nil))))) (pw_or1 (pt_not (pt_val (pe_call G_are_named_kinds hr_are_named_kinds (by rfl) H_are_named_kinds.gl H_are_named_kinds.kp b_are_named_kinds .nil pass0 (pa_cons (pe_ix ix_tup (pv 0) pe_int (fun _ _ => rfl)) (pa_cons (pe_glob (v := .int 8) rfl e_MOST_OTHERS ⟨_, rfl⟩) pa_nil)))))))) (pss_one (ps_ret pe_bl)) pss_nil)
      (pss_cons (ps_if (pt_not (pt_val (pe_call G_are_named_kinds hr_are_named_kinds (by rfl) H_are_named_kinds.gl H_are_named_kinds.kp b_are_named_kinds .nil pass0 (pa_cons (pe_op op_cat (pe_ix ix_tup (pv 0) pe_int (fun _ _ => rfl)) (pe_ix ix_tup (pv 0) pe_int (fun _ _ => rfl))) (pa_cons (pe_op op_add (pe_glob (v := .int 4) rfl e_MOST_PARAMETERS ⟨_, rfl⟩) (pe_glob (v := .int 8) rfl e_MOST_OTHERS ⟨_, rfl⟩)) pa_nil))))) (pss_one (ps_ret pe_bl)) pss_nil)
      (pss_one (ps_ret (pe_call G_is_list_of hr_is_list_of (by rfl) H_is_list_of.gl H_is_list_of.kp b_is_list_of .nil pass0 (pa_cons (pe_ix ix_tup (pv 0) pe_int (fun _ _ => rfl)) (pa_cons pe_int (pa_cons (pe_glob (v := .int 40) rfl e_MOST_ROWS ⟨_, rfl⟩) pa_nil))))))))), ?_⟩
    have nf : Nam "f" := by
      refine ⟨by decide +kernel, by decide +kernel, ⟨102, by decide +kernel, by decide +kernel⟩, fun i c hc => ?_⟩
      have m : c ∈ ("f" : Str).cps.toList := Array.mem_toList_iff.mpr (Array.mem_of_getElem? hc)
      have hall : (("f" : Str).cps.toList.all fun c => decide (c ∈ MRKS.cps.toList)) = true := by decide +kernel
      exact of_decide_eq_true (List.all_eq_true.mp hall c m)
    have hnd1 := (List.nodup_append.mp hnd).1
    have hnd2 := (List.nodup_append.mp hnd).2.1
    refine ⟨_, rfl, e, _, 5, rfl, he, rfl, _, rfl, iteF ?_⟩
    refine ⟨_, rfl, _, _, _, _, rfl, rfl, SqT.of he, at0, "f", rfl, nf, fun H1 s1 => ⟨_, rfl, iteF ?_⟩⟩
    refine ⟨_, rfl, _, _, _, _, rfl, rfl, SqT.of (s1 _ _ he), at3, rfl, _, rfl, iteF ?_⟩
    refine ⟨_, rfl, _, _, _, _, rfl, rfl, SqT.of (s1 _ _ he), at1, pa, ps, ns, 4, rfl, s1 _ _ hpa, hp1.mono s1, fun x m => hN x (List.mem_append_left _ m), hnd1, by omega, by omega, fun H2 s2 => ⟨_, rfl, iteF ?_⟩⟩
    have s12 := s1.trans s2
    refine ⟨_, rfl, _, _, _, _, rfl, rfl, SqT.of (s12 _ _ he), at2, oa, qs, ms, 8, rfl, s12 _ _ hoa, hp2.mono s12, fun x m => hN x (List.mem_append_right _ m), hnd2, by omega, by omega, fun H3 s3 => ⟨_, rfl, iteF ?_⟩⟩
    have s13 := s12.trans s3
    refine ⟨_, rfl, _, _, _, _, rfl, rfl, SqT.of (s13 _ _ he), at1, _, rfl, _, _, _, _, rfl, rfl, SqT.of (s13 _ _ he), at2, ?_⟩
    have hl1 : ps.length = ns.length := hp1.len
    have hl2 : qs.length = ms.length := hp2.len
    refine ⟨pa, oa, _, _, rfl, rfl, s13 _ _ hpa, s13 _ _ hoa, sz_of (by rw [List.length_map, List.length_map]; omega), fun c hc => ?_⟩
    have s4 := Same.new (o := .lst (ps.map V.ref ++ qs.map V.ref)) hc
    refine ⟨_, _, rfl, rfl, c, ps ++ qs, ns ++ ms, 12, rfl, by rw [upd_same, List.map_append], (hp1.append hp2).mono (s13.trans s4), hN, hnd, by rw [List.length_append]; omega, by rw [List.length_append]; omega, fun H5 s5 => ⟨_, rfl, iteF ?_⟩⟩
    have s15 := (s13.trans s4).trans s5
    exact ⟨_, rfl, _, _, _, _, rfl, rfl, SqT.of (s15 _ _ he), at4, ra, rs, 1, 40, rfl, s15 _ _ hra, by omega, by omega, k _ s15⟩
theorem sc_Function_has_row : FnScope ["self", "thing"] ["self", "thing"] (defScope s_Function_has_row) := ⟨rfl, rfl, rfl, by decide +kernel, rfl, by decide +kernel, by decide +kernel⟩
theorem ok_Function_has_row (T : Ctx w K mg) (H_is_integer_in : Has P w K mg base 2 "is_integer_in" ["thing", "least", "most"] spIntIn) : HasM P w K mg base 3 "Function" "has_row" ["self", "thing"] (spHasRow K) := by
  obtain ⟨fd, F⟩ := T.D_Function_has_row
  obtain ⟨fd_is_integer_in, G_is_integer_in, b_is_integer_in⟩ := H_is_integer_in.ex
  refine ⟨⟨fd, F.ok sc_Function_has_row (fun vs H Q E h => ?_) (fun cdv A outer s H vs Q E hr h => ?_), F.bindsN fun _ _ _ _ _ _ us hl => match us, hl with | [_, _], _ => rfl⟩⟩
  · obtain ⟨p, i, ns, rws, rfl, hB, hi, k⟩ := h; rfl
  · obtain ⟨p, i, ns, rws, rfl, hB, hi, k⟩ := h
    have hr_is_integer_in : Room 2 _ := hr.mono (by decide)
    have hu := hu_of hr
    refine ⟨_, PSs.nox (pss_one (ps_ret (pe_call G_is_integer_in hr_is_integer_in (by rfl) H_is_integer_in.gl H_is_integer_in.kp b_is_integer_in .nil pass0 (pa_cons (pv 1) (pa_cons pe_int (pa_cons (pe_op op_sub (pe_callB call_len_seq (by rfl) T.f_len (by decide +kernel) (pa_cons (pe_fldK (K := K) rfl (pv 0) (by rfl)) pa_nil)) pe_int) pa_nil)))))), ?_⟩
    obtain ⟨dx, va, fs, ba, rs, F0, hb, ht, hrw⟩ := hB
    refine ⟨_, rfl, _, rfl, p, _, dx, fs, _, rfl, F0.ob, T.c_Function, T.n_Function_body, hb, _, _, rfl, .inr ht.sq, _, _, rfl, rfl, i, 0, _, rfl, by omega, ?_, k H (Same.refl H)⟩
    rw [List.length_map, hrw.len]
    omega

end
end W19
set_option Elab.async false
set_option linter.all false
set_option maxRecDepth 100000
set_option maxHeartbeats 4000000
namespace W19
open PySem PySem.Spec PyProof.Rows L2
section
variable {P : Program} {w : World} {K : PySem.W.Frag} {mg : Str → Option Value} {base : Heap}

/-- all but what stands at p stays -/
def But (p : Addr) (H H' : Hp) : Prop := ∀ b u, H b = some u → b ≠ p → H' b = some u
theorem But.refl (p : Addr) (H : Hp) : But p H H := fun _ _ h _ => h
theorem But.trans {p : Addr} {H H1 H2 : Hp} (a : But p H H1) (b : But p H1 H2) : But p H H2 := fun c u h n => b c u (a c u h n) n
theorem But.of {p : Addr} {H H' : Hp} (e : Same H H') : But p H H' := fun b u h _ => e b u h
theorem But.upd {p : Addr} {H : Hp} {o : HO} : But p H (upd H p o) := fun b u h n => by
  rw [upd_ne n]
  exact h
theorem But.tupP {p a C dx : Addr} {fs : List (Str × V)} {H H' : Hp} {xs : List V} (b : But p H H') (hp : H p = some (.ins C dx fs)) (h : TupP H a xs) : TupP H' a xs := by
  obtain ⟨o, e, q⟩ := h
  exact ⟨o, b _ _ e (ne_of e hp (by intro z; cases z)), q⟩
theorem But.pairs {p C dx : Addr} {fs : List (Str × V)} {H H' : Hp} {as : List Addr} {xs : List Str} (b : But p H H') (hp : H p = some (.ins C dx fs)) (h : Pairs H as xs) : Pairs H' as xs :=
  ⟨h.len, fun i q x e1 e2 => b _ _ (h.at_ i q x e1 e2) (ne_of (h.at_ i q x e1 e2) hp (by intro z; cases z))⟩
theorem putF_le (f : Str) (v : V) : ∀ fs : List (Str × V), (putF f v fs).length ≤ fs.length + 1
  | [] => Nat.le_refl _
  | (g, u) :: r => by
    show (if g = f then (g, v) :: r else (g, u) :: putF f v r).length ≤ _
    split
    · simp
    · rw [List.length_cons, List.length_cons]
      have := putF_le f v r
      omega
theorem pl1 {f : Str} {v : V} {fs : List (Str × V)} {n : Nat} (h : fs.length ≤ n) : (putF f v fs).length ≤ n + 1 := Nat.le_trans (putF_le f v fs) (Nat.succ_le_succ h)
theorem pf0 : ([] : List (Str × V)).length ≤ 0 := Nat.le_refl _
theorem few {fs : List (Str × V)} {n : Nat} (h : fs.length ≤ n) (hn : n < 900 := by decide) : fs.length < 1000 := by omega
theorem few9 {fs : List (Str × V)} {n : Nat} (h : fs.length ≤ n) (hn : n ≤ 998 := by decide) : fs.length ≤ 998 := by omega
theorem few8 {fs : List (Str × V)} {n : Nat} (h : fs.length ≤ n) (hn : n ≤ 900 := by decide) : fs.length ≤ 900 := by omega
theorem pairF {H : Hp} {ps : List Addr} {ns : List Str} (h : Pairs H ps ns) : ∀ (i : Nat) (p : Addr), ps[i]? = some p → H p = some (.tup [.str (ns.getD i ""), .str "number"]) ∧ ([V.str (ns.getD i ""), .str "number"] : List V).length ≤ 100 ∧ ∀ x ∈ ([V.str (ns.getD i ""), .str "number"] : List V), Fl x := by
  intro i p e
  have hi : i < ns.length := by
    rw [← h.len]
    exact (List.getElem?_eq_some_iff.mp e).1
  refine ⟨?_, by simp, fun x m => ?_⟩
  · have q := h.at_ i p ns[i] e (List.getElem?_eq_getElem hi)
    rw [q, List.getD_eq_getElem?_getD, List.getElem?_eq_getElem hi]
    rfl
  · simp at m
    rcases m with rfl | rfl
    · exact .str _
    · exact .str _
theorem fPair {H : Hp} {qs : List Addr} {ns : List Str} (hl : qs.length = ns.length) (h : ∀ (i : Nat) (p : Addr), qs[i]? = some p → H p = some (.tup [.str (ns.getD i ""), .str "number"])) : Pairs H qs ns := by
  refine ⟨hl, fun i p x e1 e2 => ?_⟩
  rw [h i p e1, List.getD_eq_getElem?_getD, e2]
  rfl
theorem sc_Function_init : FnScope ["self", "name", "params", "others", "result"] ["self", "name", "params", "others", "result"] (defScope s_Function_init) := ⟨rfl, rfl, rfl, by decide +kernel, rfl, by decide +kernel, by decide +kernel⟩
theorem ok_Function_init (T : Ctx w K mg) (H_frozen : Has P w K mg base 3 "frozen" ["thing"] spFz2) : HasM P w K mg base 4 "Function" "__init__" ["self", "name", "params", "others", "result"] (spFnInit K) := by
  obtain ⟨fd, F⟩ := T.D_Function_init
  obtain ⟨fd_frozen, G_frozen, b_frozen⟩ := H_frozen.ex
  refine ⟨⟨fd, F.ok sc_Function_init (fun vs H Q E h => ?_) (fun cdv A outer s H vs Q E hr h => ?_), F.bindsN fun _ _ _ _ _ _ us hl => match us, hl with | [_, _, _, _, _], _ => rfl⟩⟩
  · obtain ⟨p, dx, pa, oa, nm, ps, qs, ns, ms, rfl, hp, hpa, hp1, hoa, hp2, hne, hnd, l1, l2, k⟩ := h; rfl
  · obtain ⟨p, dx, pa, oa, nm, ps, qs, ns, ms, rfl, hp, hpa, hp1, hoa, hp2, hne, hnd, l1, l2, k⟩ := h
    have hr_frozen : Room 3 _ := hr.mono (by decide)
    have hu := hu_of hr
    refine ⟨_, PSs.nox (pss_cons (ps_fld (pv 0) (pv 1) rfl)
      (pss_cons (ps_fld (pv 0) (pe_call G_frozen hr_frozen (by rfl) H_frozen.gl H_frozen.kp b_frozen .nil pass0 (pa_cons (pv 2) pa_nil)) rfl)
      (pss_cons (ps_fld (pv 0) (pe_call G_frozen hr_frozen (by rfl) H_frozen.gl H_frozen.kp b_frozen .nil pass0 (pa_cons (pv 3) pa_nil)) rfl)
      (pss_cons (ps_fld (pv 0) (pv 4) rfl)
      (pss_cons (ps_fld (pv 0) (pe_callTy (call_dictT rfl) (by rfl) T.f_dict (by decide +kernel) (pa_cons (pe_op op_catP (pe_fldK (K := K) rfl (pv 0) (by rfl)) (pe_fldK (K := K) rfl (pv 0) (by rfl))) pa_nil)) rfl)
      (pss_one (ps_fld (pv 0) (pe_tup pa_nil) rfl))))))), ?_⟩
    have npa : pa ≠ p := ne_of hpa hp (by intro z; cases z)
    have noa : oa ≠ p := ne_of hoa hp (by intro z; cases z)
    have hl1 : ps.length = ns.length := hp1.len
    have hl2 : qs.length = ms.length := hp2.len
    refine ⟨_, rfl, _, rfl, p, _, dx, _, rfl, hp, T.c_Function, T.n_Function_name, few pf0, ?_⟩
    have b1 : But p H (upd H p (.ins (He.ga K "Function") dx (putF "name" (.str nm) []))) := But.upd
    refine ⟨_, rfl, pa, ps, _, rfl, b1 _ _ hpa npa, pairF (b1.pairs hp hp1), by omega, fun q1 qs1 H2 s2 t1 h1 f1 => ?_⟩
    refine ⟨_, rfl, p, _, dx, _, rfl, s2 _ _ upd_same, T.c_Function, T.n_Function_params, few (pl1 pf0), ?_⟩
    have b2 : But p H H2 := b1.trans (But.of s2)
    have hp2' := s2 _ _ (upd_same (H := H) (a := p))
    have b3 : But p H2 (upd H2 p (.ins (He.ga K "Function") dx (putF "params" (.ref q1) (putF "name" (.str nm) [])))) := But.upd
    have b13 := b2.trans b3
    refine ⟨_, rfl, oa, qs, _, rfl, b13 _ _ hoa noa, pairF (b13.pairs hp hp2), by omega, fun q2 qs2 H4 s4 t2 h2 f2 => ?_⟩
    refine ⟨_, rfl, p, _, dx, _, rfl, s4 _ _ upd_same, T.c_Function, T.n_Function_others, few (pl1 (pl1 pf0)), ?_⟩
    have hp4 := s4 _ _ (upd_same (H := H2) (a := p))
    have b4 : But p H2 H4 := b3.trans (But.of s4)
    refine ⟨_, rfl, _, rfl, p, _, dx, _, rfl, upd_same, T.c_Function, T.n_Function_result, few (pl1 (pl1 (pl1 pf0))), ?_⟩
    refine ⟨_, rfl, p, _, dx, _, _, rfl, upd_same, T.c_Function, T.n_Function_params, rfl, _, rfl, p, _, dx, _, _, rfl, upd_same, T.c_Function, T.n_Function_others, rfl, ?_⟩
    refine ⟨q1, q2, _, _, rfl, rfl, (But.tupP (b4.trans (But.upd.trans But.upd)) hp2' t1).sq, (But.tupP (But.upd.trans But.upd) hp4 t2).sq, ?_, ?_, fun e => ?_, fun e c oc hc po => ?_⟩
    · intro z
      rw [List.map_eq_nil_iff] at z
      rw [z] at h1
      exact hne (List.length_eq_zero_iff.mp (by rw [← hl1, ← h1]; rfl))
    · rw [List.length_map, List.length_map]
      exact sz_of (by omega)
    · have em : ms = [] := by
        rw [List.map_eq_nil_iff] at e
        rw [e] at h2
        exact List.length_eq_zero_iff.mp (by rw [← hl2, ← h2]; rfl)
      refine ⟨_, qs1, kvT (ns ++ ms) numF, rfl, (But.tupP (b4.trans (But.upd.trans But.upd)) hp2' t1), pairs_paired (by rw [em, List.append_nil]; exact (But.pairs (b4.trans (But.upd.trans But.upd)) hp2' (fPair (h1.trans hl1) f1))), fun d hd => ?_⟩
      refine ⟨_, rfl, p, _, dx, _, rfl, Same.new hd _ _ upd_same, T.c_Function, T.n_Function_variables, few (pl1 (pl1 (pl1 (pl1 pf0)))), ?_⟩
      refine ⟨sz_of (by decide), fun t ht => ?_⟩
      refine ⟨_, rfl, p, _, dx, _, rfl, Same.new ht _ _ upd_same, T.c_Function, T.n_Function_body, few (pl1 (pl1 (pl1 (pl1 (pl1 pf0))))), ?_⟩
      have ndp : d ≠ p := fun z => by rw [z, upd_same] at hd; cases hd
      have ndt : d ≠ t := fun z => by
        rw [← z, upd_ne ndp, upd_same] at ht
        cases ht
      refine k _ d _ ?_ (few8 (pl1 (pl1 (pl1 (pl1 (pl1 (pl1 pf0))))))) ⟨upd_same, rfl, rfl, few9 (pl1 (pl1 (pl1 (pl1 (pl1 (pl1 pf0)))))), rfl, ?_⟩
      · exact (b2.trans (b4.trans (But.upd.trans But.upd))).trans ((But.of (Same.new hd)).trans (But.upd.trans ((But.of (Same.new ht)).trans But.upd)))
      · rw [upd_ne ndp, upd_ne ndt, upd_ne ndp, upd_same]
        exact congrArg (fun l => some (HO.dK l)) (mergeK_kvT _ [] hnd)
    · refine ⟨_, (qs1 ++ qs2), kvT (ns ++ ms) numF, rfl, ⟨oc, by rw [upd_same, List.map_append], po⟩, pairs_paired (((But.pairs (b4.trans (But.upd.trans But.upd)) hp2' (fPair (h1.trans hl1) f1)).append (But.pairs (But.upd.trans But.upd) hp4 (fPair (h2.trans hl2) f2))).mono (Same.new hc)), fun d hd => ?_⟩
      refine ⟨_, rfl, p, _, dx, _, rfl, Same.new hd _ _ (Same.new hc _ _ upd_same), T.c_Function, T.n_Function_variables, few (pl1 (pl1 (pl1 (pl1 pf0)))), ?_⟩
      refine ⟨sz_of (by decide), fun t ht => ?_⟩
      refine ⟨_, rfl, p, _, dx, _, rfl, Same.new ht _ _ upd_same, T.c_Function, T.n_Function_body, few (pl1 (pl1 (pl1 (pl1 (pl1 pf0))))), ?_⟩
      have ndp : d ≠ p := fun z => by rw [z, (Same.new hc _ _ upd_same)] at hd; cases hd
      have ndt : d ≠ t := fun z => by
        rw [← z, upd_ne ndp, upd_same] at ht
        cases ht
      refine k _ d _ ?_ (few8 (pl1 (pl1 (pl1 (pl1 (pl1 (pl1 pf0))))))) ⟨upd_same, rfl, rfl, few9 (pl1 (pl1 (pl1 (pl1 (pl1 (pl1 pf0)))))), rfl, ?_⟩
      · exact (b2.trans ((b4.trans (But.upd.trans But.upd)).trans (But.of (Same.new hc)))).trans ((But.of (Same.new hd)).trans (But.upd.trans ((But.of (Same.new ht)).trans But.upd)))
      · rw [upd_ne ndp, upd_ne ndt, upd_ne ndp, upd_same]
        exact congrArg (fun l => some (HO.dK l)) (mergeK_kvT _ [] hnd)

end
end W19
set_option Elab.async false
set_option linter.all false
set_option maxRecDepth 100000
set_option maxHeartbeats 4000000
namespace W19
open PySem PySem.Spec PyProof.Rows L2
section
variable {P : Program} {w : World} {K : PySem.W.Frag} {mg : Str → Option Value} {base : Heap}

/-- a Source with the one function f -/
structure SrcAt (K : PySem.W.Frag) (H : Hp) (p dx fd fp : Addr) (fs : List (Str × V)) : Prop where
  ob : H p = some (.ins (He.ga K "Source") dx fs)
  fns : fs.lookup ("_functions" : Str) = some (.ref fd)
  nm1 : fs.lookup ("function_at" : Str) = none
  nm2 : fs.lookup ("_take_rows" : Str) = none
  nm3 : fs.lookup ("_is_row_of" : Str) = none
  fd : H fd = some (.dK [(Sum.inr "f", .ref fp)])
theorem SrcAt.mono {H H' : Hp} {p dx fd fp : Addr} {fs : List (Str × V)} (h : SrcAt K H p dx fd fp fs) (e : Same H H') : SrcAt K H' p dx fd fp fs := ⟨e _ _ h.ob, h.fns, h.nm1, h.nm2, h.nm3, e _ _ h.fd⟩
def spFnAt (K : PySem.W.Frag) : Sp := fun vs H Q _ => ∃ p dx fd fp fs, vs = [.ref p, .str "f"] ∧ SrcAt K H p dx fd fp fs ∧ Q (.ref fp) H
def spTakeC : Sp := fun vs H Q _ => ∃ p ca, vs = [.ref p, .ref ca] ∧ H ca = some (.lst []) ∧ Q .non H
def spIsRowOf (K : PySem.W.Frag) : Sp := fun vs H Q _ => ∃ (p fp dx va a : Addr) (fs : List (Str × V)) (ns : List Str) (r : Rw) (m : Nat), vs = [.ref p, .ref fp, .ref a, .int m] ∧ FnAt K H fp dx va fs ns ∧ H a = some (.tup (Rw.vals r)) ∧ r.below 9 ∧ (∀ k ∈ r.names, vn k ∈ ns) ∧ (∀ g, r.goal = some g → g < m) ∧ ∀ H', Same H H' → Q (.bl true) H' 
theorem sc_Source_function_at : FnScope ["self", "name"] ["self", "name"] (defScope s_Source_function_at) := ⟨rfl, rfl, rfl, by decide +kernel, rfl, by decide +kernel, by decide +kernel⟩
theorem ok_Source_function_at (T : Ctx w K mg) : HasM P w K mg base 1 "Source" "function_at" ["self", "name"] (spFnAt K) := by
  obtain ⟨fd0, F⟩ := T.D_Source_function_at
  refine ⟨⟨fd0, F.ok sc_Source_function_at (fun vs H Q E h => ?_) (fun cdv A outer s H vs Q E hr h => ?_), F.bindsN fun _ _ _ _ _ _ us hl => match us, hl with | [_, _], _ => rfl⟩⟩
  · obtain ⟨p, dx, fd, fp, fs, rfl, S, k⟩ := h; rfl
  · obtain ⟨p, dx, fd, fp, fs, rfl, S, k⟩ := h
    have hu := hu_of hr
    refine ⟨_, PSs.nox (pss_one (ps_ret (pe_ifExp (pt_val (pe_callB call_isi (by rfl) T.f_isinstance (by decide +kernel) (pa_cons (pv 1) (pa_cons (pe_bltn (v := .ty "str") (u := .type "str") rfl T.f_str (by decide +kernel) rfl) pa_nil)))) (pe_dget1 hu (pe_fldK (K := K) rfl (pv 0) (by rfl)) (pv 1) ⟨rfl, rfl, rfl, rfl⟩) pe_non))), ?_⟩
    refine ⟨_, rfl, _, _, _, _, true, rfl, .ty _, .base (.str _), kit_ty (by decide +kernel), true, rfl, iteT ?_⟩
    refine ⟨_, rfl, p, _, dx, fs, _, rfl, S.ob, T.c_Source, T.n_Source_functions, S.fns, fd, rfl, .inl ⟨_, .inl S.fd⟩, _, rfl, _, DGet.k (k := Sum.inr "f") S.fd, k⟩
theorem sc_Source_take_classes : FnScope ["self", "classes", "k", "entry", "field", "kind"] ["self", "classes"] (defScope s_Source_take_classes) := ⟨rfl, rfl, rfl, by decide +kernel, rfl, by decide +kernel, by decide +kernel⟩
theorem ok_Source_take_classes (T : Ctx w K mg) (H_is_list_of : Has P w K mg base 1 "is_list_of" ["thing", "least", "most"] spListOf) : HasM P w K mg base 2 "Source" "_take_classes" ["self", "classes"] spTakeC := by
  obtain ⟨fd, F⟩ := T.D_Source_take_classes
  obtain ⟨fd_is_list_of, G_is_list_of, b_is_list_of⟩ := H_is_list_of.ex
  refine ⟨⟨fd, F.ok sc_Source_take_classes (fun vs H Q E h => ?_) (fun cdv A outer s H vs Q E hr h => ?_), F.bindsN fun _ _ _ _ _ _ us hl => match us, hl with | [_, _], _ => rfl⟩⟩
  · obtain ⟨p, ca, rfl, hc, k⟩ := h; rfl
  · obtain ⟨p, ca, rfl, hc, k⟩ := h
    have hr_is_list_of : Room 1 _ := hr.mono (by decide)
    have hu := hu_of hr
    obtain ⟨t_c, e_MOST_CLASSES⟩ := T.i_MOST_CLASSES
    refine ⟨_, PSs.nox (pss_cons (ps_if (pt_not (pt_val (pe_call G_is_list_of hr_is_list_of (by rfl) H_is_list_of.gl H_is_list_of.kp b_is_list_of .nil pass0 (pa_cons (pv 1) (pa_cons pe_int (pa_cons (pe_glob (v := .int 6) rfl e_MOST_CLASSES ⟨_, rfl⟩) pa_nil)))))) (pss_one ps_never) pss_nil)
      (pss_one (ps_for PassesOwn.never rfl (pi_enum (by rfl) T.f_enumerate (pa_cons (pv 1) pa_nil)) (pg_tup rfl (pgs_cons (pg_name (i := 2) sc_Source_take_classes.nd rfl (Or.inl rfl)) (pgs_cons (pg_name (i := 3) sc_Source_take_classes.nd rfl (Or.inl rfl)) pgs_nil)))
      (pss_cons ps_never
      (pss_cons ps_never
      (pss_one ps_never)))))), ?_⟩
    refine ⟨_, rfl, ca, [], 0, 6, rfl, hc, by decide, by decide, _, rfl, iteF ?_⟩
    refine ⟨_, rfl, ca, [], rfl, SqL.of hc, ?_⟩
    refine for_it (walk_enum (K := K) (a := ca) (xs := [])) (fun i σ H1 => H1 = H) rfl (fun i σ H1 _ e => by rw [e]; exact SqL.of hc) (fun i x σ H1 H2 hi _ _ => absurd hi (Nat.not_lt_zero i)) (fun σ H1 e => ?_)
    rw [e]
    exact k
theorem sc_Source_is_row_of : FnScope ["self", "function", "row", "many", "names", "name"] ["self", "function", "row", "many"] (defScope s_Source_is_row_of) := ⟨rfl, rfl, rfl, by decide +kernel, rfl, by decide +kernel, by decide +kernel⟩
theorem ok_Source_is_row_of (T : Ctx w K mg) (H_is_row : Has P w K mg base 5 "is_row" ["source", "thing", "words"] (spIsRow K)) (H_row_sets : Has P w K mg base 1 "row_sets" ["row"] spSets) (H_row_reads : Has P w K mg base 1 "row_reads" ["row"] spReads) (H_row_kinds_fit : Has P w K mg base 3 "row_kinds_fit" ["source", "row", "kinds", "result"] spFit) : HasM P w K mg base 6 "Source" "_is_row_of" ["self", "function", "row", "many"] (spIsRowOf K) := by
  obtain ⟨fd, F⟩ := T.D_Source_is_row_of
  obtain ⟨fd_is_row, G_is_row, b_is_row⟩ := H_is_row.ex
  obtain ⟨fd_row_sets, G_row_sets, b_row_sets⟩ := H_row_sets.ex
  obtain ⟨fd_row_reads, G_row_reads, b_row_reads⟩ := H_row_reads.ex
  obtain ⟨fd_row_kinds_fit, G_row_kinds_fit, b_row_kinds_fit⟩ := H_row_kinds_fit.ex
  refine ⟨⟨fd, F.ok sc_Source_is_row_of (fun vs H Q E h => ?_) (fun cdv A outer s H vs Q E hr h => ?_), F.bindsN fun _ _ _ _ _ _ us hl => match us, hl with | [_, _, _, _], _ => rfl⟩⟩
  · obtain ⟨p, fp, dx, va, a, fs, ns, r, m, rfl, F0, ha, hb, hn, hg, k⟩ := h; rfl
  · obtain ⟨p, fp, dx, va, a, fs, ns, r, m, rfl, F0, ha, hb, hn, hg, k⟩ := h
    have hr_is_row : Room 5 _ := hr.mono (by decide)
    have hr_row_sets : Room 1 _ := hr.mono (by decide)
    have hr_row_reads : Room 1 _ := hr.mono (by decide)
    have hr_row_kinds_fit : Room 3 _ := hr.mono (by decide)
    have hu := hu_of hr
    refine ⟨_, PSs.nox (pss_cons (ps_if (pt_not (pt_val (pe_call G_is_row hr_is_row (by rfl) H_is_row.gl H_is_row.kp b_is_row .nil pass0 (pa_cons (pv 0) (pa_cons (pv 2) (pa_cons (pe_glob (v := .ref (He.ga K "ROW_WORDS")) rfl T.g_ROW_WORDS rfl) pa_nil)))))) (pss_one (ps_ret pe_bl)) pss_nil)
      (pss_cons (ps_if (PW.pt (pw_and (pt_cmpR op_in_seq (pe_ix ix_tup (pv 2) pe_int (fun _ _ => rfl)) (pe_tup (pa_cons pe_str (pa_cons pe_str pa_nil))) rfl) (pw_and1 (pt_not (pt_chain op_le op_lt pe_int (pe_ix ix_tup (pv 2) (pe_un un_neg pe_int) (fun _ _ => rfl)) (pv 3)))))) (pss_one (ps_ret pe_bl)) pss_nil)
      (pss_cons (ps_set (i := 4) sc_Source_is_row_of.nd rfl (Or.inl rfl) (pe_lst (pa_cons (pe_call G_row_sets hr_row_sets (by rfl) H_row_sets.gl H_row_sets.kp b_row_sets .nil pass0 (pa_cons (pv 2) pa_nil)) pa_nil)))
      (pss_cons (ps_expr (pe_bm PySem.F.plainAttrs_list PySem.F.slot_list_extend PySem.F.type_list_extend mt_extend (pv 4) (pa_cons (pe_call G_row_reads hr_row_reads (by rfl) H_row_reads.gl H_row_reads.kp b_row_reads .nil pass0 (pa_cons (pv 2) pa_nil)) pa_nil)))
      (pss_cons (ps_if (pt_not (pt_val (pe_callB (cr_all rfl) (by rfl) T.f_all (by decide +kernel) (pa_cons (pe_lc (own := [("name", 5)]) (g := gName 5) (tt := tYes) rfl sc_Source_is_row_of.nd (pi_list (pv 4)) (blkOk_by (N := ["self", "function", "row", "many", "names", "name"]) (sc := defScope s_Source_is_row_of) (by decide +kernel)) (fun _ _ _ _ _ => (pg_name (i := 5) sc_Source_is_row_of.nd rfl (Or.inl rfl))) (fun _ _ _ _ _ => pts_nil) (fun _ _ _ _ _ => (pe_or (pe_cmpR op_isN (pv 5) pe_non (nomark _)) (pe_one (pe_cmp (pc_din hu (pv 5) (pe_fldK (K := K) rfl (pv 1) (by rfl))) (by rfl)))))) pa_nil)))) (pss_one (ps_ret pe_bl)) pss_nil)
      (pss_one (ps_ret (pe_call G_row_kinds_fit hr_row_kinds_fit (by rfl) H_row_kinds_fit.gl H_row_kinds_fit.kp b_row_kinds_fit .nil pass0 (pa_cons (pv 0) (pa_cons (pv 2) (pa_cons (pe_fldK (K := K) rfl (pv 1) (by rfl)) (pa_cons (pe_fldK (K := K) rfl (pv 1) (by rfl)) pa_nil)))))))))))), ?_⟩
    refine ⟨_, rfl, _, rfl, .ref p, a, r, rfl, ha, hb, fun H1 s1 => ⟨_, rfl, iteF ?_⟩⟩
    have ha1 := s1 _ _ ha
    have F1 : FnAt K H1 fp dx va fs ns := ⟨s1 _ _ F0.ob, F0.vars, F0.res, F0.few, F0.nohas, s1 _ _ F0.vd⟩
    refine ⟨_, rfl, _, _, _, _, rfl, rfl, SqT.of ha1, at0, ?_⟩
    refine ⟨sz_of (by decide), fun t ht => ⟨t, _, rfl, .inr (SqT.of upd_same), rfl, rfl, ?_⟩⟩
    have s2 : Same H1 (upd H1 t (.tup [.str "if", .str "jump"])) := Same.new ht
    cases e : r.goal with
    | none =>
      refine ⟨_, rfl, ifF ?_ ?_⟩
      · cases r <;> first | rfl | cases e
      refine iteF ?_
      have ha2 := s2 _ _ ha1
      refine ⟨_, rfl, a, r, rfl, ha2, sz_of (by show 1 ≤ 100000; decide), fun l hl => ?_⟩
      have s3 : Same (upd H1 t (.tup [.str "if", .str "jump"])) (upd (upd H1 t (.tup [.str "if", .str "jump"])) l (.lst [oV r.sets])) := Same.new hl
      refine ⟨_, rfl, .inl ⟨rfl, _, SqL.of upd_same⟩, _, rfl, a, r, rfl, s3 _ _ ha2, fun q H3 s4 _ hq => ?_⟩
      refine ⟨l, q, _, _, rfl, rfl, s4 _ _ upd_same, hq, sz_of ?_, ?_⟩
      · have : r.reads.length ≤ 3 := by cases r <;> simp [Rw.reads]
        simp only [List.length_map, List.length_cons, List.length_nil]
        omega
      have s5 : Same H1 (upd H3 l (.lst ([oV r.sets] ++ r.reads.map sv))) := s2.trans (Same.mut (s3.trans s4) hl)
      refine ⟨_, rfl, l, rfl, ⟨_, SqL.of upd_same⟩, fun D hD => ?_⟩
      have hin : ∀ y ∈ ([oV r.sets] ++ r.reads.map sv), y = .non ∨ ∃ x ∈ r.names, y = sv x := by
        intro y hy
        simp only [List.mem_append, List.mem_singleton, List.mem_map] at hy
        unfold Rw.names
        rcases hy with rfl | ⟨x, hx, rfl⟩
        · cases e : r.sets with
          | none => exact .inl rfl
          | some x => exact .inr ⟨x, List.mem_cons_self, rfl⟩
        · cases e : r.sets with
          | none => exact .inr ⟨x, hx, rfl⟩
          | some z => exact .inr ⟨x, List.mem_cons_of_mem _ hx, rfl⟩
      refine lc_pure (walk_list (K := K) (a := l) (xs := [oV r.sets] ++ r.reads.map sv)) hD (fun _ => .bl true) ?_ (fun H4 s6 => SqL.of (s6 _ _ upd_same)) (fun i H4 y H5 hi s6 hy Qe qe => ?_) (fun H4 s6 h4 => ?_)
      · have : r.reads.length ≤ 3 := by cases r <;> simp [Rw.reads]
        simp only [List.length_append, List.length_map, List.length_cons, List.length_nil]
        omega
      · obtain ⟨rfl, hy⟩ := hy
        have F2 : FnAt K H5 fp dx va fs ns := ⟨s6 _ _ (s5 _ _ F1.ob), F1.vars, F1.res, F1.few, F1.nohas, s6 _ _ (s5 _ _ F1.vd)⟩
        rcases hin y (List.mem_of_getElem? hy) with rfl | ⟨x, hx, rfl⟩
        · exact ⟨rfl, _, rfl, rfl, _, rfl, iteT (qe _ (Same.refl _))⟩
        · refine ⟨rfl, _, rfl, rfl, _, rfl, iteF ⟨_, rfl, _, rfl, fp, _, dx, fs, _, rfl, F2.ob, T.c_Function, T.n_Function_variables, F2.vars, va, some (.str "number"), rfl, ?_, qe _ (Same.refl _)⟩⟩
          rw [← valV_kvT_in (hn x hx)]
          exact DGet.k (k := Sum.inr (vn x)) F2.vd
      refine ⟨D, (List.range ([oV r.sets] ++ r.reads.map sv).length).map (fun _ => true), rfl, SqL.of (by rw [h4, List.map_map]; rfl), _, rfl, ifF (show (!((List.range ([oV r.sets] ++ r.reads.map sv).length).map (fun _ => true)).all id) = false by rw [all_true]; rfl) ?_⟩
      have F3 : FnAt K H4 fp dx va fs ns := ⟨s6 _ _ (s5 _ _ F1.ob), F1.vars, F1.res, F1.few, F1.nohas, s6 _ _ (s5 _ _ F1.vd)⟩
      refine ⟨_, rfl, _, rfl, _, rfl, fp, _, dx, fs, _, rfl, F3.ob, T.c_Function, T.n_Function_variables, F3.vars, _, rfl, fp, _, dx, fs, _, rfl, F3.ob, T.c_Function, T.n_Function_result, F3.res, .ref p, a, r, va, ns, rfl, s6 _ _ (s5 _ _ ha1), F3.vd, hn, fun H' s7 => k H' ((s1.trans (s5.trans s6)).trans s7)⟩
    | some gg =>
      have hgg := hg gg e
      have hat : atI r.vals (-1) = some (.int gg) := by
        cases r with
        | ifz x z =>
          have e2 : z = gg := Option.some.inj e
          rw [← e2]
          exact atI_last [V.str "if", sv x] (.int z)
        | jump z =>
          have e2 : z = gg := Option.some.inj e
          rw [← e2]
          exact atI_last [V.str "jump"] (.int z)
        | _ => cases e
      refine ⟨_, rfl, ifT ?_ ?_⟩
      · cases r <;> first | rfl | cases e
      refine ⟨_, rfl, 1, rfl, _, _, _, _, rfl, rfl, SqT.of (s2 _ _ ha1), hat, _, _, rfl, rfl, _, rfl, ifT (decide_eq_true (by omega)) ⟨_, rfl, _, _, rfl, rfl, _, rfl, ?_⟩⟩
      have eqq : (!decide ((gg : Int) < (m : Int))) = false := by
        rw [decide_eq_true (by omega)]
        rfl
      refine ifF eqq ?_
      have ha2 := s2 _ _ ha1
      refine ⟨_, rfl, a, r, rfl, ha2, sz_of (by show 1 ≤ 100000; decide), fun l hl => ?_⟩
      have s3 : Same (upd H1 t (.tup [.str "if", .str "jump"])) (upd (upd H1 t (.tup [.str "if", .str "jump"])) l (.lst [oV r.sets])) := Same.new hl
      refine ⟨_, rfl, .inl ⟨rfl, _, SqL.of upd_same⟩, _, rfl, a, r, rfl, s3 _ _ ha2, fun q H3 s4 _ hq => ?_⟩
      refine ⟨l, q, _, _, rfl, rfl, s4 _ _ upd_same, hq, sz_of ?_, ?_⟩
      · have : r.reads.length ≤ 3 := by cases r <;> simp [Rw.reads]
        simp only [List.length_map, List.length_cons, List.length_nil]
        omega
      have s5 : Same H1 (upd H3 l (.lst ([oV r.sets] ++ r.reads.map sv))) := s2.trans (Same.mut (s3.trans s4) hl)
      refine ⟨_, rfl, l, rfl, ⟨_, SqL.of upd_same⟩, fun D hD => ?_⟩
      have hin : ∀ y ∈ ([oV r.sets] ++ r.reads.map sv), y = .non ∨ ∃ x ∈ r.names, y = sv x := by
        intro y hy
        simp only [List.mem_append, List.mem_singleton, List.mem_map] at hy
        unfold Rw.names
        rcases hy with rfl | ⟨x, hx, rfl⟩
        · cases e : r.sets with
          | none => exact .inl rfl
          | some x => exact .inr ⟨x, List.mem_cons_self, rfl⟩
        · cases e : r.sets with
          | none => exact .inr ⟨x, hx, rfl⟩
          | some z => exact .inr ⟨x, List.mem_cons_of_mem _ hx, rfl⟩
      refine lc_pure (walk_list (K := K) (a := l) (xs := [oV r.sets] ++ r.reads.map sv)) hD (fun _ => .bl true) ?_ (fun H4 s6 => SqL.of (s6 _ _ upd_same)) (fun i H4 y H5 hi s6 hy Qe qe => ?_) (fun H4 s6 h4 => ?_)
      · have : r.reads.length ≤ 3 := by cases r <;> simp [Rw.reads]
        simp only [List.length_append, List.length_map, List.length_cons, List.length_nil]
        omega
      · obtain ⟨rfl, hy⟩ := hy
        have F2 : FnAt K H5 fp dx va fs ns := ⟨s6 _ _ (s5 _ _ F1.ob), F1.vars, F1.res, F1.few, F1.nohas, s6 _ _ (s5 _ _ F1.vd)⟩
        rcases hin y (List.mem_of_getElem? hy) with rfl | ⟨x, hx, rfl⟩
        · exact ⟨rfl, _, rfl, rfl, _, rfl, iteT (qe _ (Same.refl _))⟩
        · refine ⟨rfl, _, rfl, rfl, _, rfl, iteF ⟨_, rfl, _, rfl, fp, _, dx, fs, _, rfl, F2.ob, T.c_Function, T.n_Function_variables, F2.vars, va, some (.str "number"), rfl, ?_, qe _ (Same.refl _)⟩⟩
          rw [← valV_kvT_in (hn x hx)]
          exact DGet.k (k := Sum.inr (vn x)) F2.vd
      refine ⟨D, (List.range ([oV r.sets] ++ r.reads.map sv).length).map (fun _ => true), rfl, SqL.of (by rw [h4, List.map_map]; rfl), _, rfl, ifF (show (!((List.range ([oV r.sets] ++ r.reads.map sv).length).map (fun _ => true)).all id) = false by rw [all_true]; rfl) ?_⟩
      have F3 : FnAt K H4 fp dx va fs ns := ⟨s6 _ _ (s5 _ _ F1.ob), F1.vars, F1.res, F1.few, F1.nohas, s6 _ _ (s5 _ _ F1.vd)⟩
      refine ⟨_, rfl, _, rfl, _, rfl, fp, _, dx, fs, _, rfl, F3.ob, T.c_Function, T.n_Function_variables, F3.vars, _, rfl, fp, _, dx, fs, _, rfl, F3.ob, T.c_Function, T.n_Function_result, F3.res, .ref p, a, r, va, ns, rfl, s6 _ _ (s5 _ _ ha1), F3.vd, hn, fun H' s7 => k H' ((s1.trans (s5.trans s6)).trans s7)⟩

end
end W19
set_option Elab.async false
set_option linter.all false
set_option maxRecDepth 100000
set_option maxHeartbeats 4000000
namespace W19
open PySem PySem.Spec PyProof.Rows L2
section
variable {P : Program} {w : World} {K : PySem.W.Frag} {mg : Str → Option Value} {base : Heap}

/-- what is handed in as the one function -/
structure HeadAt (H : Hp) (e pa oa ra : Addr) (ps qs : List Addr) (ns ms : List Str) (rs : List V) : Prop where
  he : H e = some (.tup [.str "f", .ref pa, .ref oa, .str "number", .ref ra])
  hpa : H pa = some (.lst (ps.map V.ref))
  p1 : Pairs H ps ns
  hoa : H oa = some (.lst (qs.map V.ref))
  p2 : Pairs H qs ms
  nam : ∀ x ∈ ns ++ ms, Nam x
  nd : (ns ++ ms).Nodup
  ne : ns ≠ []
  l1 : ns.length ≤ 4
  l2 : ms.length ≤ 8
  hra : H ra = some (.lst rs)
  l3 : 1 ≤ rs.length
  l4 : rs.length ≤ 40
theorem HeadAt.mono {H H' : Hp} {e pa oa ra : Addr} {ps qs : List Addr} {ns ms : List Str} {rs : List V} (h : HeadAt H e pa oa ra ps qs ns ms rs) (s : Same H H') : HeadAt H' e pa oa ra ps qs ns ms rs :=
  ⟨s _ _ h.he, s _ _ h.hpa, h.p1.mono s, s _ _ h.hoa, h.p2.mono s, h.nam, h.nd, h.ne, h.l1, h.l2, s _ _ h.hra, h.l3, h.l4⟩
theorem Rw.vals_le (r : Rw) : r.vals.length ≤ 100 := by cases r <;> simp [Rw.vals, Rw.parts]
theorem Rw.vals_fl (r : Rw) : ∀ x ∈ r.vals, Fl x := by
  intro x m
  cases r <;> simp [Rw.vals, Rw.parts, sv] at m
  case copy => rcases m with rfl | rfl | rfl <;> exact .str _
  case see => rcases m with rfl | rfl <;> exact .str _
  case ret => rcases m with rfl | rfl <;> exact .str _
  case add => rcases m with rfl | rfl | rfl | rfl <;> exact .str _
  case ifz =>
    rcases m with rfl | rfl | rfl
    · exact .str _
    · exact .str _
    · exact .int _
  case jump =>
    rcases m with rfl | rfl
    · exact .str _
    · exact .int _
  case num =>
    rcases m with rfl | rfl | rfl
    · exact .str _
    · exact .str _
    · exact .int _
def spTakeH (K : PySem.W.Frag) : Sp := fun vs H Q _ => ∃ (p dx fd fa e pa oa ra : Addr) (fs : List (Str × V)) (ps qs : List Addr) (ns ms : List Str) (rs : List V), vs = [.ref p, .ref fa] ∧ H p = some (.ins (He.ga K "Source") dx fs) ∧ fs.lookup ("_functions" : Str) = some (.ref fd) ∧ H fd = some (.dK []) ∧
  H fa = some (.lst [.ref e]) ∧ HeadAt H e pa oa ra ps qs ns ms rs ∧ ∀ (H' : Hp) (fp dy va : Addr) (gs : List (Str × V)), (∀ b u, H b = some u → b ≠ fd → H' b = some u) → gs.length ≤ 900 → FnAt K H' fp dy va gs (ns ++ ms) → H fp = none → H' fd = some (.dK [(Sum.inr "f", .ref fp)]) → Q .non H'
def spTakeR (K : PySem.W.Frag) : Sp := fun vs H Q _ => ∃ (p dx fp dy va ra : Addr) (fs gs : List (Str × V)) (ns : List Str) (rs : List Addr) (rws : List Rw), vs = [.ref p, .int 0, .ref fp, .ref ra] ∧ H p = some (.ins (He.ga K "Source") dx fs) ∧ fs.lookup ("_is_row_of" : Str) = none ∧ gs.length ≤ 900 ∧ FnAt K H fp dy va gs ns ∧ H ra = some (.lst (rs.map V.ref)) ∧ Rows H rs rws ∧
  (∀ r ∈ rws, r.below 9 ∧ (∀ k ∈ r.names, vn k ∈ ns) ∧ ∀ g, r.goal = some g → g < rws.length) ∧ (∃ r0 rl, rws = r0 ++ [rl] ∧ (rl.word = ("jump" : Str) ∨ rl.word = ("return" : Str))) ∧ rws.length ≤ 40 ∧ ∀ (H' : Hp), But fp H H' → FnB K H' fp ns rws → Q .non H' 
theorem sc_Source_take_heads : FnScope ["self", "functions", "k", "entry"] ["self", "functions"] (defScope s_Source_take_heads) := ⟨rfl, rfl, rfl, by decide +kernel, rfl, by decide +kernel, by decide +kernel⟩
theorem ok_Source_take_heads (T : Ctx w K mg) (H_is_list_of : Has P w K mg base 1 "is_list_of" ["thing", "least", "most"] spListOf) (H_is_head : Has P w K mg base 3 "_is_head" ["entry"] spHead) (H_Function_init : HasM P w K mg base 4 "Function" "__init__" ["self", "name", "params", "others", "result"] (spFnInit K)) : HasM P w K mg base 6 "Source" "_take_heads" ["self", "functions"] (spTakeH K) := by
  obtain ⟨fd0, F⟩ := T.D_Source_take_heads
  obtain ⟨fd_is_list_of, G_is_list_of, b_is_list_of⟩ := H_is_list_of.ex
  obtain ⟨fd_is_head, G_is_head, b_is_head⟩ := H_is_head.ex
  obtain ⟨fd_Function_init, G_Function_init, b_Function_init⟩ := H_Function_init.ex
  refine ⟨⟨fd0, F.ok sc_Source_take_heads (fun vs H Q E h => ?_) (fun cdv A outer s H vs Q E hr h => ?_), F.bindsN fun _ _ _ _ _ _ us hl => match us, hl with | [_, _], _ => rfl⟩⟩
  · obtain ⟨p, dx, fd, fa, e, pa, oa, ra, fs, ps, qs, ns, ms, rs, rfl, hp, hf, hd, hfa, HA, k⟩ := h; rfl
  · obtain ⟨p, dx, fd, fa, e, pa, oa, ra, fs, ps, qs, ns, ms, rs, rfl, hp, hf, hd, hfa, HA, k⟩ := h
    have hr_is_list_of : Room 1 _ := hr.mono (by decide)
    have hr_is_head : Room 3 _ := hr.mono (by decide)
    have hr_Function_init : Room 5 _ := hr.mono (by decide)
    have hu := hu_of hr
    obtain ⟨t_c, e_MOST_FUNCTIONS⟩ := T.i_MOST_FUNCTIONS
    refine ⟨_, PSs.nox (pss_cons (ps_if (pt_not (pt_val (pe_call G_is_list_of hr_is_list_of (by rfl) H_is_list_of.gl H_is_list_of.kp b_is_list_of .nil pass0 (pa_cons (pv 1) (pa_cons pe_int (pa_cons (pe_glob (v := .int 6) rfl e_MOST_FUNCTIONS ⟨_, rfl⟩) pa_nil)))))) (pss_one ps_never) pss_nil)
      (pss_one (ps_for PassesOwn.never rfl (pi_enum (by rfl) T.f_enumerate (pa_cons (pv 1) pa_nil)) (pg_tup rfl (pgs_cons (pg_name (i := 2) sc_Source_take_heads.nd rfl (Or.inl rfl)) (pgs_cons (pg_name (i := 3) sc_Source_take_heads.nd rfl (Or.inl rfl)) pgs_nil)))
      (pss_cons (ps_if (PW.pt (pw_or (pt_not (pt_val (pe_call G_is_head hr_is_head (by rfl) H_is_head.gl H_is_head.kp b_is_head .nil pass0 (pa_cons (pv 3) pa_nil)))) (pw_or1 (pt_cmp (pc_din hu (pe_ix ix_tup (pv 3) pe_int (fun _ _ => rfl)) (pe_fldK (K := K) rfl (pv 0) (by rfl))))))) (pss_one ps_never) pss_nil)
      (pss_one (ps_dput hu (pe_fldK (K := K) rfl (pv 0) (by rfl)) (pe_ix ix_tup (pv 3) pe_int (fun _ _ => rfl)) (pe_make T.k_Function G_Function_init hr_Function_init rfl T.g_Function b_Function_init .nil pass0 (pa_cons (pe_ix ix_tup (pv 3) pe_int (fun _ _ => rfl)) (pa_cons (pe_ix ix_tup (pv 3) pe_int (fun _ _ => rfl)) (pa_cons (pe_ix ix_tup (pv 3) pe_int (fun _ _ => rfl)) (pa_cons (pe_ix ix_tup (pv 3) pe_int (fun _ _ => rfl)) pa_nil))))) rfl)))))), ?_⟩
    have ndp : fd ≠ p := ne_of hd hp (by intro z; cases z)
    refine ⟨_, rfl, fa, _, 1, 6, rfl, hfa, by simp, by simp, _, rfl, iteF ?_⟩
    refine ⟨_, rfl, fa, _, rfl, SqL.of hfa, ?_⟩
    refine for_it (walk_enum (K := K) (a := fa) (xs := [V.ref e])) (fun i σ H1 => (i = 0 ∧ σ = [some (.ref p), some (.ref fa), none, none] ∧ H1 = H) ∨ (i = 1 ∧ Q .non H1 ∧ H1 fa = some (.lst [.ref e]))) (.inl ⟨rfl, rfl, rfl⟩) ?_ ?_ ?_
    · rintro i σ H1 _ (⟨_, _, rfl⟩ | ⟨_, _, h⟩)
      · exact SqL.of hfa
      · exact SqL.of h
    · rintro i x σ H1 H2 hi (⟨rfl, rfl, rfl⟩ | ⟨rfl, _, _⟩) hy
      · obtain ⟨u, a, b, rfl, hu0, rfl, h1, h2⟩ := hy
        obtain rfl : V.int ((0 : Nat) : Int) = a := Option.some.inj h1
        obtain rfl : V.ref e = b := Option.some.inj h2
        have s1 : Same H1 (upd H1 u (.tup [.int ((0 : Nat) : Int), .ref e])) := Same.new hu0
        refine ⟨u, _, rfl, SqT.of upd_same, rfl, _, _, rfl, _, _, rfl, rfl, ?_⟩
        have A1 := HA.mono s1
        refine ⟨_, rfl, e, pa, oa, ra, ps, qs, ns, ms, rs, rfl, A1.he, A1.hpa, A1.p1, A1.hoa, A1.p2, A1.nam, A1.nd, A1.l1, A1.l2, A1.hra, A1.l3, A1.l4, fun H3 s3 => ⟨_, rfl, iteF ?_⟩⟩
        have s13 := s1.trans s3
        have A3 := HA.mono s13
        refine ⟨_, rfl, _, _, _, _, rfl, rfl, SqT.of A3.he, at0, _, rfl, p, _, dx, fs, _, rfl, s13 _ _ hp, T.c_Source, T.n_Source_functions, hf, fd, none, rfl, DGet.k (k := Sum.inr "f") (s13 _ _ hd), _, rfl, iteF ?_⟩
        -- Function(..)
        refine ⟨_, rfl, _, _, _, _, rfl, rfl, SqT.of A3.he, at0, _, rfl, _, _, _, _, rfl, rfl, SqT.of A3.he, at1, _, rfl, _, _, _, _, rfl, rfl, SqT.of A3.he, at2, _, rfl, _, _, _, _, rfl, rfl, SqT.of A3.he, at3, fun x dy nx ny nxy => ?_⟩
        have s4 : Same H3 (upd (upd H3 dy (.own x)) x (.ins (He.ga K "Function") dy [])) := (Same.new ny).trans (Same.new (by rw [upd_ne nxy.symm]; exact nx))
        have A4 := A3.mono s4
        refine ⟨x, dy, pa, oa, "f", ps, qs, ns, ms, rfl, upd_same, A4.hpa, A4.p1, A4.hoa, A4.p2, A4.ne, A4.nd, A4.l1, A4.l2, fun H5 va gs b5 g5 F5 => ⟨rfl, ?_⟩⟩
        have s15 : Same H1 H5 := fun b o q => b5 b o (s4 _ _ (s13 _ _ q)) (ne_of_none (s13 _ _ q) nx)
        have A5 := HA.mono s15
        refine ⟨_, rfl, p, _, dx, fs, _, rfl, s15 _ _ hp, T.c_Source, T.n_Source_functions, hf, _, rfl, _, _, _, _, rfl, rfl, SqT.of A5.he, at0, fd, _, rfl, DPut.k (k := Sum.inr "f") (s15 _ _ hd) (by show 0 < sizeLine; decide), ?_⟩
        have nxf : x ≠ fd := fun z => by
          have q := s13 _ _ hd
          rw [← z, nx] at q
          cases q
        have nvf : va ≠ fd := fun z => by
          have q := s15 _ _ hd
          have q2 := F5.vd
          rw [z, q] at q2
          have q3 : kvT (ns ++ ms) numF = [] := (HO.dK.inj (Option.some.inj q2)).symm
          have q4 := congrArg List.length q3
          unfold kvT at q4
          rw [List.length_map, List.length_append, List.length_nil] at q4
          have := List.length_pos_iff.mpr HA.ne
          omega
        refine .inr ⟨rfl, k _ x dy va gs (fun b u q n => by rw [upd_ne n]; exact s15 _ _ q) g5 ⟨by rw [upd_ne nxf]; exact F5.ob, F5.vars, F5.res, F5.few, F5.nohas, by rw [upd_ne nvf]; exact F5.vd⟩ ?_ upd_same, ?_⟩
        · cases q : H1 x with
          | none => rfl
          | some o => exact absurd (s13 _ _ q) (by rw [nx]; intro z; cases z)
        · rw [upd_ne (ne_of hfa hd (by intro z; cases z))]
          exact s15 _ _ hfa
      · exact absurd hi (by simp)
    · rintro σ H1 (⟨h, _⟩ | ⟨_, h, _⟩)
      · exact absurd h (by simp)
      · exact h
theorem sc_Source_take_rows : FnScope ["self", "k", "function", "rows", "r", "row"] ["self", "k", "function", "rows"] (defScope s_Source_take_rows) := ⟨rfl, rfl, rfl, by decide +kernel, rfl, by decide +kernel, by decide +kernel⟩
theorem ok_Source_take_rows (T : Ctx w K mg) (H_Source_is_row_of : HasM P w K mg base 6 "Source" "_is_row_of" ["self", "function", "row", "many"] (spIsRowOf K)) (H_frozen : Has P w K mg base 3 "frozen" ["thing"] spFz2) : HasM P w K mg base 7 "Source" "_take_rows" ["self", "k", "function", "rows"] (spTakeR K) := by
  obtain ⟨fd, F⟩ := T.D_Source_take_rows
  obtain ⟨fd_Source_is_row_of, G_Source_is_row_of, b_Source_is_row_of⟩ := H_Source_is_row_of.ex
  obtain ⟨fd_frozen, G_frozen, b_frozen⟩ := H_frozen.ex
  refine ⟨⟨fd, F.ok sc_Source_take_rows (fun vs H Q E h => ?_) (fun cdv A outer s H vs Q E hr h => ?_), F.bindsN fun _ _ _ _ _ _ us hl => match us, hl with | [_, _, _, _], _ => rfl⟩⟩
  · obtain ⟨p, dx, fp, dy, va, ra, fs, gs, ns, rs, rws, rfl, hp, hf, few0, F0, hra, hR, hok, hlast, h40, k⟩ := h; rfl
  · obtain ⟨p, dx, fp, dy, va, ra, fs, gs, ns, rs, rws, rfl, hp, hf, few0, F0, hra, hR, hok, hlast, h40, k⟩ := h
    have hr_Source_is_row_of : Room 6 _ := hr.mono (by decide)
    have hr_frozen : Room 3 _ := hr.mono (by decide)
    have hu := hu_of hr
    refine ⟨_, PSs.nox (pss_cons (ps_for PassesOwn.never rfl (pi_enum (by rfl) T.f_enumerate (pa_cons (pv 3) pa_nil)) (pg_tup rfl (pgs_cons (pg_name (i := 4) sc_Source_take_rows.nd rfl (Or.inl rfl)) (pgs_cons (pg_name (i := 5) sc_Source_take_rows.nd rfl (Or.inl rfl)) pgs_nil)))
      (pss_one (ps_if (pt_not (pt_val (pe_meth (pv 0) T.c_Source T.m_Source_is_row_of G_Source_is_row_of hr_Source_is_row_of b_Source_is_row_of .nil pass0 (pa_cons (pv 2) (pa_cons (pv 5) (pa_cons (pe_callB call_len_seq (by rfl) T.f_len (by decide +kernel) (pa_cons (pv 3) pa_nil)) pa_nil)))))) (pss_one ps_never) pss_nil)))
      (pss_cons (ps_if (pt_cmpR op_notIn_seq (pe_ix ix_tup (pe_ix ix_list (pv 3) (pe_un un_neg pe_int) (fun _ _ => rfl)) pe_int (fun _ _ => rfl)) (pe_tup (pa_cons pe_str (pa_cons pe_str pa_nil))) rfl) (pss_one ps_never) pss_nil)
      (pss_one (ps_fld (pv 2) (pe_call G_frozen hr_frozen (by rfl) H_frozen.gl H_frozen.kp b_frozen .nil pass0 (pa_cons (pv 3) pa_nil)) rfl)))), ?_⟩
    have hlr : rs.length = rws.length := hR.len
    have nra : ra ≠ fp := ne_of hra F0.ob (by intro z; cases z)
    refine ⟨_, rfl, ra, _, rfl, SqL.of hra, ?_⟩
    refine for_it (walk_enum (K := K) (a := ra) (xs := rs.map V.ref)) (fun i σ H1 => ∃ v1 v2 : Option V, σ = [some (.ref p), some (.int 0), some (.ref fp), some (.ref ra), v1, v2] ∧ Same H H1) ⟨none, none, rfl, Same.refl H⟩ (fun i σ H1 _ ⟨_, _, _, s1⟩ => SqL.of (s1 _ _ hra)) ?_ ?_
    · rintro i y σ H1 H2 hi ⟨v1, v2, rfl, s1⟩ ⟨u, a, b, rfl, hu0, rfl, h1, h2⟩
      have h2 : (rs.map V.ref)[i]? = some b := h2
      obtain rfl : V.int (i : Nat) = a := Option.some.inj h1
      obtain ⟨c, r, rfl, hc, hr1, hca⟩ := hR.get h2
      have s2 : Same H1 (upd H1 u (.tup [.int (i : Nat), .ref c])) := Same.new hu0
      have s12 := s1.trans s2
      obtain ⟨q1, q2, q3⟩ := hok r (List.mem_of_getElem? hr1)
      refine ⟨u, _, rfl, SqT.of upd_same, rfl, _, _, rfl, _, _, rfl, rfl, ?_⟩
      refine ⟨_, rfl, p, dx, fs, rfl, s12 _ _ hp, hf, _, rfl, _, rfl, _, rfl, _, _, rfl, .inl (SqL.of (s12 _ _ hra)), ?_⟩
      refine ⟨p, fp, dy, va, c, gs, ns, r, (rs.map V.ref).length, rfl, ⟨s12 _ _ F0.ob, F0.vars, F0.res, F0.few, F0.nohas, s12 _ _ F0.vd⟩, s12 _ _ hca, q1, q2, fun g e => by rw [List.length_map, hlr]; exact q3 g e, fun H3 s3 => ⟨_, rfl, iteF ?_⟩⟩
      exact ⟨_, _, rfl, s12.trans s3⟩
    · rintro σ H1 ⟨v1, v2, rfl, s1⟩
      have hne : rws ≠ [] := by
        obtain ⟨r0, rl, e, _⟩ := hlast
        rw [e]
        simp
      obtain ⟨r0, rl, erl, hword⟩ := hlast
      have hrl : rws[r0.length]? = some rl := by
        rw [erl]
        simp
      have hl0 : rs.length = r0.length + 1 := by
        rw [hlr, erl]
        simp
      obtain ⟨c, hc⟩ : ∃ c, rs[r0.length]? = some c := ⟨rs[r0.length], List.getElem?_eq_getElem _⟩
      have hcl := hR.at_ _ c rl hc hrl
      have hat : atI (rs.map V.ref) (-1) = some (.ref c) := by
        have e1 : rs = rs.take r0.length ++ [c] := by
          have e2 := take_snoc hc
          rw [← e2, List.take_of_length_le (by omega)]
        rw [e1, List.map_append]
        exact atI_last _ _
      refine ⟨_, rfl, 1, rfl, _, _, _, _, rfl, rfl, SqL.of (s1 _ _ hra), hat, _, _, _, _, rfl, rfl, SqT.of (s1 _ _ hcl), at0, sz_of (by show 2 ≤ 100000; decide), fun t ht => ⟨t, _, rfl, .inr (SqT.of upd_same), rfl, rfl, _, rfl, ifF ?_ ?_⟩⟩
      · show (if true = true then !inV (V.str rl.word) [.str "jump", .str "return"] else inV (V.str rl.word) [.str "jump", .str "return"]) = false
        rcases hword with e | e <;> rw [e] <;> rfl
      have s2 : Same H1 (upd H1 t (.tup [.str "jump", .str "return"])) := Same.new ht
      have s12 := s1.trans s2
      refine ⟨_, rfl, ra, rs, fun i => (rws.getD i (.jump 0)).vals, rfl, s12 _ _ hra, fun i a e => ?_, by omega, fun q qs H3 s3 tq hql hqs => ?_⟩
      · have hi : i < rws.length := by
          rw [← hlr]
          exact (List.getElem?_eq_some_iff.mp e).1
        have e3 : rws.getD i (.jump 0) = rws[i] := by
          rw [List.getD_eq_getElem?_getD, List.getElem?_eq_getElem hi]
          rfl
        refine ⟨?_, Rw.vals_le _, Rw.vals_fl _⟩
        show upd H1 t (.tup [.str "jump", .str "return"]) a = some (.tup (rws.getD i (.jump 0)).vals)
        rw [e3]
        exact s12 _ _ (hR.at_ i a _ e (List.getElem?_eq_getElem hi))
      · have s13 := s12.trans s3
        refine ⟨_, rfl, fp, _, dy, _, rfl, s13 _ _ F0.ob, T.c_Function, T.n_Function_body, Nat.lt_of_le_of_lt few0 (by decide), ?_⟩
        refine k _ ((But.of s13).trans But.upd) ⟨dy, va, _, q, qs, ⟨upd_same, ?_, ?_, ?_, ?_, ?_⟩, ?_, ?_, ?_⟩
        · rw [lookup_putF, if_neg (by decide +kernel)]
          exact F0.vars
        · rw [lookup_putF, if_neg (by decide +kernel)]
          exact F0.res
        · exact Nat.le_trans (putF_le _ _ _) (by omega)
        · rw [lookup_putF, if_neg (by decide +kernel)]
          exact F0.nohas
        · rw [upd_ne (ne_of F0.vd F0.ob (by intro z; cases z))]
          exact s13 _ _ F0.vd
        · rw [lookup_putF, if_pos rfl]
        · exact But.tupP But.upd (s13 _ _ F0.ob) tq
        · refine ⟨by rw [hql, hlr], fun i a r e1 e2 => ?_⟩
          have e4 := hqs i a e1
          have e5 : rws.getD i (.jump 0) = r := by
            rw [List.getD_eq_getElem?_getD, e2]
            rfl
          have e6 : H3 a = some (.tup r.vals) := by
            rw [← e5]
            exact e4
          rw [upd_ne (ne_of e6 (s13 _ _ F0.ob) (by intro z; cases z))]
          exact e6

end
end W19
set_option Elab.async false
set_option linter.all false
set_option maxRecDepth 100000
set_option maxHeartbeats 4000000
namespace W19
open PySem PySem.Spec PyProof.Rows L2
section
variable {P : Program} {w : World} {K : PySem.W.Frag} {mg : Str → Option Value} {base : Heap}

theorem But.head {p C dx : Addr} {fs : List (Str × V)} {H H' : Hp} (b : But p H H') (hp : H p = some (.ins C dx fs)) {e pa oa ra : Addr} {ps qs : List Addr} {ns ms : List Str} {rs : List V} (h : HeadAt H e pa oa ra ps qs ns ms rs) : HeadAt H' e pa oa ra ps qs ns ms rs :=
  ⟨b _ _ h.he (ne_of h.he hp (by intro z; cases z)), b _ _ h.hpa (ne_of h.hpa hp (by intro z; cases z)), b.pairs hp h.p1, b _ _ h.hoa (ne_of h.hoa hp (by intro z; cases z)), b.pairs hp h.p2, h.nam, h.nd, h.ne, h.l1, h.l2, b _ _ h.hra (ne_of h.hra hp (by intro z; cases z)), h.l3, h.l4⟩
theorem But.rows {p C dx : Addr} {fs : List (Str × V)} {H H' : Hp} (b : But p H H') (hp : H p = some (.ins C dx fs)) {rs : List Addr} {rws : List Rw} (h : Rows H rs rws) : Rows H' rs rws :=
  ⟨h.len, fun i a r x y => b _ _ (h.at_ i a r x y) (ne_of (h.at_ i a r x y) hp (by intro z; cases z))⟩
/-- a dict changes: nothing else -/
theorem But.rowsD {p : Addr} {kvs : List (Key × V)} {H H' : Hp} (b : But p H H') (hp : H p = some (.dK kvs)) {rs : List Addr} {rws : List Rw} (h : Rows H rs rws) : Rows H' rs rws :=
  ⟨h.len, fun i a r x y => b _ _ (h.at_ i a r x y) (ne_of (h.at_ i a r x y) hp (by intro z; cases z))⟩
/-- rows that are right for variables ns -/
structure Okay (rws : List Rw) (ns : List Str) : Prop where
  ok : ∀ r ∈ rws, r.below 9 ∧ (∀ k ∈ r.names, vn k ∈ ns) ∧ ∀ g, r.goal = some g → g < rws.length
  last : ∃ r0 rl, rws = r0 ++ [rl] ∧ (rl.word = ("jump" : Str) ∨ rl.word = ("return" : Str))
  le : rws.length ≤ 40
def spSrcInit (K : PySem.W.Frag) : Sp := fun vs H Q _ => ∃ (p dx ca fa e pa oa ra : Addr) (ps qs : List Addr) (ns ms : List Str) (rs : List Addr) (rws : List Rw), vs = [.ref p, .ref ca, .ref fa] ∧ H p = some (.ins (He.ga K "Source") dx []) ∧ H ca = some (.lst []) ∧ H fa = some (.lst [.ref e]) ∧
  HeadAt H e pa oa ra ps qs ns ms (rs.map V.ref) ∧ Rows H rs rws ∧ Okay rws (ns ++ ms) ∧ ∀ (H' : Hp) (fd fp : Addr) (fs : List (Str × V)), But p H H' → SrcAt K H' p dx fd fp fs → FnB K H' fp (ns ++ ms) rws → Q .non H' 
theorem sc_Source_init : FnScope ["self", "classes", "functions", "k", "entry"] ["self", "classes", "functions"] (defScope s_Source_init) := ⟨rfl, rfl, rfl, by decide +kernel, rfl, by decide +kernel, by decide +kernel⟩
theorem ok_Source_init (T : Ctx w K mg) (H_Source_take_classes : HasM P w K mg base 2 "Source" "_take_classes" ["self", "classes"] spTakeC) (H_Source_take_heads : HasM P w K mg base 6 "Source" "_take_heads" ["self", "functions"] (spTakeH K)) (H_Source_take_rows : HasM P w K mg base 7 "Source" "_take_rows" ["self", "k", "function", "rows"] (spTakeR K)) : HasM P w K mg base 8 "Source" "__init__" ["self", "classes", "functions"] (spSrcInit K) := by
  obtain ⟨fd, F⟩ := T.D_Source_init
  obtain ⟨fd_Source_take_classes, G_Source_take_classes, b_Source_take_classes⟩ := H_Source_take_classes.ex
  obtain ⟨fd_Source_take_heads, G_Source_take_heads, b_Source_take_heads⟩ := H_Source_take_heads.ex
  obtain ⟨fd_Source_take_rows, G_Source_take_rows, b_Source_take_rows⟩ := H_Source_take_rows.ex
  refine ⟨⟨fd, F.ok sc_Source_init (fun vs H Q E h => ?_) (fun cdv A outer s H vs Q E hr h => ?_), F.bindsN fun _ _ _ _ _ _ us hl => match us, hl with | [_, _, _], _ => rfl⟩⟩
  · obtain ⟨p, dx, ca, fa, e, pa, oa, ra, ps, qs, ns, ms, rs, rws, rfl, hp, hca, hfa, HA, hR, hO, k⟩ := h; rfl
  · obtain ⟨p, dx, ca, fa, e, pa, oa, ra, ps, qs, ns, ms, rs, rws, rfl, hp, hca, hfa, HA, hR, hO, k⟩ := h
    have hr_Source_take_classes : Room 2 _ := hr.mono (by decide)
    have hr_Source_take_heads : Room 6 _ := hr.mono (by decide)
    have hr_Source_take_rows : Room 7 _ := hr.mono (by decide)
    have hu := hu_of hr
    refine ⟨_, PSs.nox (pss_cons (ps_fld (pv 0) pe_dnewK rfl)
      (pss_cons (ps_fld (pv 0) pe_dnewK rfl)
      (pss_cons (ps_fld (pv 0) pe_dnewK rfl)
      (pss_cons (ps_expr (pe_meth (pv 0) T.c_Source T.m_Source_take_classes G_Source_take_classes hr_Source_take_classes b_Source_take_classes .nil pass0 (pa_cons (pv 1) pa_nil)))
      (pss_cons (ps_expr (pe_meth (pv 0) T.c_Source T.m_Source_take_heads G_Source_take_heads hr_Source_take_heads b_Source_take_heads .nil pass0 (pa_cons (pv 2) pa_nil)))
      (pss_one (ps_for PassesOwn.never rfl (pi_enum (by rfl) T.f_enumerate (pa_cons (pv 2) pa_nil)) (pg_tup rfl (pgs_cons (pg_name (i := 3) sc_Source_init.nd rfl (Or.inl rfl)) (pgs_cons (pg_name (i := 4) sc_Source_init.nd rfl (Or.inl rfl)) pgs_nil)))
      (pss_one (ps_expr (pe_meth (pv 0) T.c_Source T.m_Source_take_rows G_Source_take_rows hr_Source_take_rows b_Source_take_rows .nil pass0 (pa_cons (pv 3) (pa_cons (pe_dget hu (pe_fldK (K := K) rfl (pv 0) (by rfl)) (pe_ix ix_tup (pv 4) pe_int (fun _ _ => rfl)) (fun _ _ => rfl)) (pa_cons (pe_ix ix_tup (pv 4) pe_int (fun _ _ => rfl)) pa_nil))))))))))))), ?_⟩
    have npc : ca ≠ p := ne_of hca hp (by intro z; cases z)
    have npf : fa ≠ p := ne_of hfa hp (by intro z; cases z)
    intro d1 hd1
    have nd1 : d1 ≠ p := (ne_of_none hp hd1).symm
    refine ⟨_, rfl, p, _, dx, _, rfl, Same.new hd1 _ _ hp, T.c_Source, T.n_Source_field_kinds, few pf0, ?_⟩
    have b1 : But p H (upd (upd H d1 (.dK [])) p (.ins (He.ga K "Source") dx (putF "_field_kinds" (.ref d1) []))) := (But.of (Same.new hd1)).trans But.upd
    intro d2 hd2
    have nd2 : d2 ≠ p := fun z => by rw [z, upd_same] at hd2; cases hd2
    refine ⟨_, rfl, p, _, dx, _, rfl, Same.new hd2 _ _ upd_same, T.c_Source, T.n_Source_fields, few (pl1 pf0), ?_⟩
    have b2 := b1.trans ((But.of (Same.new (o := .dK []) hd2)).trans (But.upd (o := .ins (He.ga K "Source") dx (putF "_fields" (.ref d2) (putF "_field_kinds" (.ref d1) [])))))
    intro d3 hd3
    have nd3 : d3 ≠ p := fun z => by rw [z, upd_same] at hd3; cases hd3
    refine ⟨_, rfl, p, _, dx, _, rfl, Same.new hd3 _ _ upd_same, T.c_Source, T.n_Source_functions, few (pl1 (pl1 pf0)), ?_⟩
    have b3 := b2.trans ((But.of (Same.new (o := .dK []) hd3)).trans (But.upd (o := .ins (He.ga K "Source") dx (putF "_functions" (.ref d3) (putF "_fields" (.ref d2) (putF "_field_kinds" (.ref d1) []))))))
    refine ⟨_, rfl, p, dx, _, rfl, upd_same, rfl, _, rfl, p, ca, rfl, b3 _ _ hca npc, ?_⟩
    have A3 := b3.head hp HA
    have R3 := b3.rows hp hR
    refine ⟨_, rfl, p, dx, _, rfl, upd_same, rfl, _, rfl, p, dx, d3, fa, e, pa, oa, ra, _, ps, qs, ns, ms, rs.map V.ref, rfl, upd_same, rfl, ?_, b3 _ _ hfa npf, A3, fun H4 fp dy va gs b4 g4 F4 hfp hd4 => ?_⟩
    · rw [upd_ne nd3, upd_same]
    have hd3g : ∀ (HH : Hp) (o : HO), upd (upd HH d3 (.dK [])) p o d3 = some (.dK []) := fun HH o => by rw [upd_ne nd3, upd_same]
    have hp4 := b4 p _ upd_same (Ne.symm nd3)
    have hfa4 := b4 _ _ (b3 _ _ hfa npf) (ne_of (b3 _ _ hfa npf) (hd3g _ _) (by intro z; cases z))
    have he4 := b4 _ _ A3.he (ne_of A3.he (hd3g _ _) (by intro z; cases z))
    have hra4 := b4 _ _ A3.hra (ne_of A3.hra (hd3g _ _) (by intro z; cases z))
    have R4 : Rows H4 rs rws := But.rowsD b4 (hd3g _ _) R3
    refine ⟨_, rfl, fa, _, rfl, SqL.of hfa4, ?_⟩
    refine for_it (walk_enum (K := K) (a := fa) (xs := [V.ref e])) (fun i σ H1 => H1 fa = some (.lst [.ref e]) ∧ ((i = 0 ∧ (∃ v1 v2 : Option V, σ = [some (.ref p), some (.ref ca), some (.ref fa), v1, v2]) ∧ H1 = H4) ∨ (i = 1 ∧ Q .non H1))) ⟨hfa4, .inl ⟨rfl, ⟨none, none, rfl⟩, rfl⟩⟩ (fun i σ H1 _ h => SqL.of h.1) ?_ ?_
    · rintro i x σ H1 H2 hi ⟨_, (⟨rfl, ⟨v1, v2, rfl⟩, rfl⟩ | ⟨rfl, _⟩)⟩ hy
      · obtain ⟨u, a, b, rfl, hu0, rfl, h1, h2⟩ := hy
        obtain rfl : V.int ((0 : Nat) : Int) = a := Option.some.inj h1
        obtain rfl : V.ref e = b := Option.some.inj h2
        have s1 : Same H1 (upd H1 u (.tup [.int ((0 : Nat) : Int), .ref e])) := Same.new hu0
        refine ⟨u, _, rfl, SqT.of upd_same, rfl, _, _, rfl, _, _, rfl, rfl, ?_⟩
        refine ⟨_, rfl, p, dx, _, rfl, s1 _ _ hp4, rfl, _, rfl, _, rfl, p, _, dx, _, _, rfl, s1 _ _ hp4, T.c_Source, T.n_Source_functions, rfl, _, rfl, _, _, _, _, rfl, rfl, SqT.of (s1 _ _ he4), at0, d3, .ref fp, rfl, DGet.k (k := Sum.inr "f") (s1 _ _ hd4), ?_⟩
        refine ⟨_, rfl, _, _, _, _, rfl, rfl, SqT.of (s1 _ _ he4), at4, ?_⟩
        refine ⟨p, dx, fp, dy, va, ra, _, gs, ns ++ ms, rs, rws, rfl, s1 _ _ hp4, rfl, g4, ⟨s1 _ _ F4.ob, F4.vars, F4.res, F4.few, F4.nohas, s1 _ _ F4.vd⟩, s1 _ _ hra4, R4.mono s1, hO.ok, hO.last, hO.le, fun H5 b5 B5 => ?_⟩
        have nfp : ∀ {b : Addr} {u : HO}, H1 b = some u → (∀ dz gz, u ≠ .ins (He.ga K "Function") dz gz) → b ≠ fp := fun q n => ne_of q F4.ob (fun z => n _ _ z)
        have nFS : p ≠ fp := fun z => by
          have q := hfp
          rw [← z, upd_same] at q
          cases q
        refine ⟨b5 _ _ (s1 _ _ hfa4) (nfp hfa4 (by intro _ _ z; cases z)), .inr ⟨rfl, ?_⟩⟩
        refine k H5 d3 fp _ ?_ ⟨b5 _ _ (s1 _ _ hp4) nFS, rfl, rfl, rfl, rfl, b5 _ _ (s1 _ _ hd4) (nfp hd4 (by intro _ _ z; cases z))⟩ B5
        intro b o q n
        have q3 := b3 _ _ q n
        have nb : b ≠ fp := fun z => by
          rw [z] at q3
          exact absurd (q3.symm.trans hfp) (by intro z; cases z)
        have n3 : b ≠ d3 := fun z => by
          have q2 := b2 _ _ q n
          rw [z] at q2
          exact absurd (q2.symm.trans hd3) (by intro z; cases z)
        exact b5 _ _ (s1 _ _ (b4 _ _ q3 n3)) nb
      · exact absurd hi (by simp)
    · rintro σ H1 ⟨_, (⟨h, _⟩ | ⟨_, h⟩)⟩
      · exact absurd h (by simp)
      · exact h

end
end W19
set_option Elab.async false
set_option linter.all false
set_option maxRecDepth 100000
set_option maxHeartbeats 4000000
namespace W19
/-! ### rows that may follow, the search for a reader -/
def nextOf (rws : List Rw) (i : Nat) : List Nat := match rws[i]? with
  | none => []
  | some (.ret _) => []
  | some (.jump r) => [r]
  | some (.ifz _ r) => if i + 1 ≤ r then [i + 1, r] else [r, i + 1]
  | some _ => [i + 1]
def push (way : List Nat) : List Nat → List (List Nat) × List Nat → List (List Nat) × List Nat
  | [], s => s
  | g :: gs, s => push way gs (if g ∈ s.2 then s else (s.1 ++ [way ++ [g]], s.2 ++ [g]))
def look (rws : List Rw) (x : Nat) : Nat → List (List Nat) × List Nat → Nat → Option (List Nat)
  | 0, _, _ => none
  | f + 1, s, at_ => match s.1[at_]? with
    | none => none
    | some way => match rws[way.getLastD 0]? with
      | none => none
      | some r => if x ∈ r.reads then some way else if r.sets = some x then look rws x f s (at_ + 1) else look rws x f (push way (nextOf rws (way.getLastD 0)) s) (at_ + 1)
def wayOf (rws : List Rw) (x i : Nat) : Option (List Nat) := look rws x (rws.length + 1) ([[i]], [i]) 0
/-- the search's state: each way ends in a row that is met, each once -/
structure Seen (n : Nat) (s : List (List Nat) × List Nat) : Prop where
  len : s.1.length = s.2.length
  nd : s.2.Nodup
  lt : ∀ g ∈ s.2, g < n
  ne : ∀ w ∈ s.1, w ≠ []
  last : ∀ w ∈ s.1, w.getLastD 0 < n
  short : ∀ w ∈ s.1, w.length ≤ s.1.length
theorem nodup_len : ∀ (n : Nat) (l : List Nat), l.Nodup → (∀ g ∈ l, g < n) → l.length ≤ n
  | 0, [], _, _ => Nat.le_refl _
  | 0, a :: l, _, h => absurd (h a List.mem_cons_self) (Nat.not_lt_zero _)
  | n + 1, l, nd, h => by
    have h1 : (l.filter fun g => decide (g ≠ n)).length ≤ n := nodup_len n _ (nd.filter _) fun g m => by
      obtain ⟨m1, m2⟩ := List.mem_filter.mp m
      have := h g m1
      have m3 : g ≠ n := of_decide_eq_true m2
      omega
    have h2 : l.length ≤ (l.filter fun g => decide (g ≠ n)).length + 1 := by
      clear h h1
      induction l with
      | nil => simp
      | cons a l ih =>
        obtain ⟨n1, n2⟩ := List.nodup_cons.mp nd
        by_cases c : a = n
        · have e : (l.filter fun g => decide (g ≠ n)) = l := List.filter_eq_self.mpr fun g m => by
            refine decide_eq_true fun z => n1 ?_
            rw [c, ← z]
            exact m
          rw [List.filter_cons_of_neg (by simpa using c), e]
          simp
        · rw [List.filter_cons_of_pos (by simpa using c), List.length_cons, List.length_cons]
          have := ih n2
          omega
    omega
theorem Seen.le {n : Nat} {s : List (List Nat) × List Nat} (h : Seen n s) : s.1.length ≤ n := by
  rw [h.len]
  exact nodup_len n _ h.nd h.lt
theorem Seen.one {n i : Nat} (h : i < n) : Seen n ([[i]], [i]) :=
  ⟨rfl, by simp, fun g m => by simp at m; omega, fun w m => by simp at m; simp [m], fun w m => by simp at m; simp [m]; exact h, fun w m => by simp at m; simp [m]⟩
theorem Seen.add {n g : Nat} {way : List Nat} {s : List (List Nat) × List Nat} (h : Seen n s) (hg : g < n) (hn : g ∉ s.2) (hw : way.length ≤ s.1.length) : Seen n (s.1 ++ [way ++ [g]], s.2 ++ [g]) := by
  refine ⟨by simp [h.len], ?_, fun k m => ?_, fun w m => ?_, fun w m => ?_, fun w m => ?_⟩
  · exact L2.nd_snoc h.nd hn
  · rcases List.mem_append.mp m with q | q
    · exact h.lt k q
    · simp at q
      omega
  · rcases List.mem_append.mp m with q | q
    · exact h.ne w q
    · simp at q
      simp [q]
  · rcases List.mem_append.mp m with q | q
    · exact h.last w q
    · simp at q
      simp [q, hg]
  · rw [List.length_append]
    rcases List.mem_append.mp m with q | q
    · have := h.short w q
      omega
    · simp at q
      simp [q]
      omega
theorem next_lt {rws : List Rw} {ns : List PySem.Str} (h : Okay rws ns) {i : Nat} (hi : i < rws.length) : ∀ g ∈ nextOf rws i, g < rws.length := by
  intro g m
  have e : rws[i]? = some rws[i] := List.getElem?_eq_getElem hi
  obtain ⟨_, _, h3⟩ := h.ok rws[i] (List.getElem_mem hi)
  obtain ⟨r0, rl, e1, e2⟩ := h.last
  have hl : rws.length = r0.length + 1 := by rw [e1]; simp
  have hlast : i = r0.length → rws[i] = rl := fun z => by
    have : rws[i]? = some rl := by
      rw [e1, z]
      simp
    exact Option.some.inj (e.symm.trans this)
  unfold nextOf at m
  rw [e] at m
  have step : ¬ (rws[i].word = ("jump" : PySem.Str) ∨ rws[i].word = ("return" : PySem.Str)) → i + 1 < rws.length := fun z => by
    have : i ≠ r0.length := fun q => z (by rw [hlast q]; exact e2)
    omega
  cases hr : rws[i] with
  | ret x => rw [hr] at m; simp at m
  | jump r =>
    rw [hr] at m h3
    simp at m
    rw [m]
    exact h3 r rfl
  | ifz x r =>
    rw [hr] at m h3 step
    have a1 := h3 r rfl
    have a2 := step (by simp only [Rw.word]; decide +kernel)
    simp only at m
    split at m <;> simp at m <;> omega
  | copy x y =>
    rw [hr] at m step
    have a2 := step (by simp only [Rw.word]; decide +kernel)
    simp at m
    omega
  | see x =>
    rw [hr] at m step
    have a2 := step (by simp only [Rw.word]; decide +kernel)
    simp at m
    omega
  | add x y z =>
    rw [hr] at m step
    have a2 := step (by simp only [Rw.word]; decide +kernel)
    simp at m
    omega
  | num x z =>
    rw [hr] at m step
    have a2 := step (by simp only [Rw.word]; decide +kernel)
    simp at m
    omega
theorem push_seen {n : Nat} {way : List Nat} : ∀ (gs : List Nat) (s : List (List Nat) × List Nat), (∀ g ∈ gs, g < n) → way.length ≤ s.1.length → Seen n s → Seen n (push way gs s)
  | [], s, _, _, h => h
  | g :: gs, s, hg, hw, h => by
    show Seen n (push way gs (if g ∈ s.2 then s else (s.1 ++ [way ++ [g]], s.2 ++ [g])))
    refine push_seen gs _ (fun k m => hg k (List.mem_cons_of_mem _ m)) ?_ ?_
    · split
      · exact hw
      · rw [List.length_append]
        omega
    · split
      · exact h
      · exact h.add (hg g List.mem_cons_self) (by assumption) hw
end W19
set_option Elab.async false
set_option linter.all false
set_option maxRecDepth 100000
set_option maxHeartbeats 4000000
namespace W19
open PySem PySem.Spec PyProof.Rows L2
theorem sort2 {a b : Int} {l : List Int} (h : l.Perm [a, b]) (p : l.Pairwise (· ≤ ·)) : l = if a ≤ b then [a, b] else [b, a] := by
  split
  · exact List.Perm.eq_of_pairwise (fun x y _ _ h1 h2 => Int.le_antisymm h1 h2) p (by simp; assumption) h
  · exact List.Perm.eq_of_pairwise (fun x y _ _ h1 h2 => Int.le_antisymm h1 h2) p (by simp; omega) (h.trans (List.Perm.swap b a []))
def dec (x : Str) : Nat := x.cps.getD 1 48 - 48
theorem dec_vn {k : Nat} (h : k < 9) : dec (vn k) = k := by
  have q : ∀ k : Fin 9, dec (vn k) = k := by decide +kernel
  exact q ⟨k, h⟩
theorem rising_le : ∀ {l : List Nat} {a : Nat}, a < 9 → (∀ b ∈ l, b < 9) → risingS (vn a) (l.map vn) = true → (a :: l).Pairwise (· ≤ ·)
  | [], a, _, _, _ => by simp
  | b :: l, a, ha, hl, h => by
    have hb := hl b List.mem_cons_self
    have key : ∀ a b : Fin 9, ∀ r : Bool, risingS (vn a) [vn b] = true → (a : Nat) ≤ b := by decide +kernel
    have h1 : risingS (vn a) [vn b] = true ∧ risingS (vn b) (l.map vn) = true := by
      have h2 : (!ltCps (vn b).cps.toList (vn a).cps.toList && risingS (vn b) (l.map vn)) = true := h
      obtain ⟨h3, h4⟩ := Bool.and_eq_true_iff.mp h2
      refine ⟨?_, h4⟩
      show (!ltCps (vn b).cps.toList (vn a).cps.toList && true) = true
      rw [h3]
      rfl
    have ab := key ⟨a, ha⟩ ⟨b, hb⟩ true h1.1
    have ih := rising_le hb (fun c m => hl c (List.mem_cons_of_mem _ m)) h1.2
    refine List.pairwise_cons.mpr ⟨fun c m => ?_, ih⟩
    rcases List.mem_cons.mp m with q | q
    · rw [q]
      exact ab
    · exact Nat.le_trans ab ((List.pairwise_cons.mp ih).1 c q)
theorem sorted_names {l : List Nat} {ys : List Str} (hl : ∀ b ∈ l, b < 9) (p : ys.Perm (l.map vn)) (s : sortedS ys = true) : ∃ js : List Nat, ys = js.map vn ∧ js.Perm l ∧ js.Pairwise (· ≤ ·) := by
  have e : ys = (ys.map dec).map vn := by
    rw [List.map_map]
    have : ys.map (vn ∘ dec) = ys.map id := List.map_congr_left fun y m => by
      obtain ⟨k, hk, rfl⟩ := List.mem_map.mp (p.mem_iff.mp m)
      show vn (dec (vn k)) = vn k
      rw [dec_vn (hl k hk)]
    rw [this, List.map_id]
  have pj : (ys.map dec).Perm l := by
    have q := p.map dec
    rw [List.map_map] at q
    have : l.map (dec ∘ vn) = l.map id := List.map_congr_left fun k m => dec_vn (hl k m)
    rw [this, List.map_id] at q
    exact q
  refine ⟨ys.map dec, e, pj, ?_⟩
  have hj : ∀ b ∈ ys.map dec, b < 9 := fun b m => hl b (pj.mem_iff.mp m)
  rw [e] at s
  cases q : ys.map dec with
  | nil => simp
  | cons a r =>
    rw [q] at s hj
    exact rising_le (hj a List.mem_cons_self) (fun b m => hj b (List.mem_cons_of_mem _ m)) s
end W19
set_option Elab.async false
set_option linter.all false
set_option maxRecDepth 100000
set_option maxHeartbeats 4000000
namespace W19
open PySem PySem.Spec PyProof.Rows L2
section
variable {P : Program} {w : World} {K : PySem.W.Frag} {mg : Str → Option Value} {base : Heap}

def nI (k : Nat) : V := .int (k : Int)
def spBehind : Sp := fun vs H Q _ => ∃ (ba : Addr) (i : Nat) (rs : List Addr) (rws : List Rw), vs = [.ref ba, .int i] ∧ TupP H ba (rs.map V.ref) ∧ Rows H rs rws ∧ i < rws.length ∧ ∀ p H', Same H H' → H p = none → H' p = some (.lst ((nextOf rws i).map nI)) → Q (.ref p) H'
theorem Rows.row {H : Hp} {rs : List Addr} {rws : List Rw} (h : Rows H rs rws) {i : Nat} (hi : i < rws.length) : ∃ a, rs[i]? = some a ∧ H a = some (.tup (Rw.vals rws[i])) := by
  have hi2 : i < rs.length := by rw [h.len]; exact hi
  exact ⟨rs[i], List.getElem?_eq_getElem hi2, h.at_ i _ _ (List.getElem?_eq_getElem hi2) (List.getElem?_eq_getElem hi)⟩
theorem at_refs {rs : List Addr} {i : Nat} {a : Addr} (h : rs[i]? = some a) : atI (rs.map V.ref) (i : Int) = some (.ref a) := atI_nat (by rw [List.getElem?_map, h]; rfl)
theorem sc_rows_behind : FnScope ["body", "row", "word"] ["body", "row"] (defScope s_rows_behind) := ⟨rfl, rfl, rfl, by decide +kernel, rfl, by decide +kernel, by decide +kernel⟩
theorem ok_rows_behind (T : Ctx w K mg) : Has P w K mg base 1 "_rows_behind" ["body", "row"] spBehind := by
  obtain ⟨fd, F⟩ := T.D_rows_behind
  refine ⟨⟨fd, F.ok sc_rows_behind (fun vs H Q E h => ?_) (fun cdv A outer s H vs Q E hr h => ?_), F.bindsN fun _ _ _ _ _ _ us hl => match us, hl with | [_, _], _ => rfl⟩, F.kp, T.g_rows_behind⟩
  · obtain ⟨ba, i, rs, rws, rfl, ht, hR, hi, k⟩ := h; rfl
  · obtain ⟨ba, i, rs, rws, rfl, ht, hR, hi, k⟩ := h
    have hu := hu_of hr
    refine ⟨_, PSs.nox (pss_cons (ps_set (i := 2) sc_rows_behind.nd rfl (Or.inl rfl) (pe_ix ix_tup (pe_ix ix_tup (pv 0) (pv 1) (fun _ _ => rfl)) pe_int (fun _ _ => rfl)))
      (pss_cons (ps_if (pt_cmpR op_eq (pv 2) pe_str (nomark _)) (pss_one (ps_ret (pe_lst pa_nil))) pss_nil)
      (pss_cons (ps_if (pt_cmpR op_eq (pv 2) pe_str (nomark _)) (pss_one (ps_ret (pe_lst (pa_cons (pe_ix ix_tup (pe_ix ix_tup (pv 0) (pv 1) (fun _ _ => rfl)) pe_int (fun _ _ => rfl)) pa_nil)))) pss_nil)
      (pss_cons (ps_if (pt_cmpR op_eq (pv 2) pe_str (nomark _)) (pss_one (ps_ret (pe_callB cr_sorted (by rfl) T.f_sorted (by decide +kernel) (pa_cons (pe_lst (pa_cons (pe_op op_add (pv 1) pe_int) (pa_cons (pe_ix ix_tup (pe_ix ix_tup (pv 0) (pv 1) (fun _ _ => rfl)) pe_int (fun _ _ => rfl)) pa_nil))) pa_nil)))) pss_nil)
      (pss_one (ps_ret (pe_lst (pa_cons (pe_op op_add (pv 1) pe_int) pa_nil)))))))), ?_⟩
    obtain ⟨a, ha, hra⟩ := hR.row hi
    have hx : rws[i]? = some rws[i] := List.getElem?_eq_getElem hi
    refine ⟨_, rfl, _, rfl, _, _, _, _, rfl, rfl, ht.sq, at_refs ha, _, _, _, _, rfl, rfl, SqT.of hra, at0, ?_⟩
    skip
    cases hr : rws[i] with
    | ret x =>
      refine ⟨_, rfl, rfl, _, rfl, ifT rfl ⟨sz_of (by decide), fun l hl => k l _ (Same.new hl) hl ?_⟩⟩
      rw [upd_same]
      unfold nextOf
      rw [hx, hr]
      rfl
    | jump r =>
      rw [hr] at hra
      refine ⟨_, rfl, rfl, _, rfl, ifF rfl ⟨_, rfl, rfl, _, rfl, ifT rfl ?_⟩⟩
      refine ⟨_, rfl, _, rfl, _, _, _, _, rfl, rfl, ht.sq, at_refs ha, _, _, _, _, rfl, rfl, SqT.of hra, at1, sz_of (by show 1 ≤ 100000; decide), fun l hl => k l _ (Same.new hl) hl ?_⟩
      rw [upd_same]
      unfold nextOf
      rw [hx, hr]
      rfl
    | ifz x r =>
      rw [hr] at hra
      refine ⟨_, rfl, rfl, _, rfl, ifF rfl ⟨_, rfl, rfl, _, rfl, ifF rfl ⟨_, rfl, rfl, _, rfl, ifT rfl ?_⟩⟩⟩
      refine ⟨_, rfl, _, _, rfl, rfl, _, rfl, _, rfl, _, _, _, _, rfl, rfl, ht.sq, at_refs ha, _, _, _, _, rfl, rfl, SqT.of hra, at2, sz_of (by show 2 ≤ 100000; decide), fun l hl => ?_⟩
      refine ⟨l, [(i : Int) + 1, (r : Int)], rfl, SqL.of upd_same, (by show 2 < 64; decide), fun ns' p pm ps hp => k p _ ((Same.new hl).trans (Same.new hp)) (by cases q : H p with | none => rfl | some z => exact absurd (Same.new hl _ _ q) (by rw [hp]; intro z; cases z)) ?_⟩
      rw [upd_same, sort2 pm ps]
      unfold nextOf
      rw [hx, hr]
      by_cases c : i + 1 ≤ r
      · rw [if_pos (by omega)]
        simp only [if_pos c]
        rfl
      · rw [if_neg (by omega)]
        simp only [if_neg c]
        rfl
    | copy x y => 
      refine ⟨_, rfl, rfl, _, rfl, ifF rfl ⟨_, rfl, rfl, _, rfl, ifF rfl ⟨_, rfl, rfl, _, rfl, ifF rfl ?_⟩⟩⟩
      refine ⟨_, rfl, _, _, rfl, rfl, sz_of (by show 1 ≤ 100000; decide), fun l hl => k l _ (Same.new hl) hl ?_⟩
      rw [upd_same]
      unfold nextOf
      rw [hx, hr]
      rfl
    | see x => 
      refine ⟨_, rfl, rfl, _, rfl, ifF rfl ⟨_, rfl, rfl, _, rfl, ifF rfl ⟨_, rfl, rfl, _, rfl, ifF rfl ?_⟩⟩⟩
      refine ⟨_, rfl, _, _, rfl, rfl, sz_of (by show 1 ≤ 100000; decide), fun l hl => k l _ (Same.new hl) hl ?_⟩
      rw [upd_same]
      unfold nextOf
      rw [hx, hr]
      rfl
    | add x y z => 
      refine ⟨_, rfl, rfl, _, rfl, ifF rfl ⟨_, rfl, rfl, _, rfl, ifF rfl ⟨_, rfl, rfl, _, rfl, ifF rfl ?_⟩⟩⟩
      refine ⟨_, rfl, _, _, rfl, rfl, sz_of (by show 1 ≤ 100000; decide), fun l hl => k l _ (Same.new hl) hl ?_⟩
      rw [upd_same]
      unfold nextOf
      rw [hx, hr]
      rfl
    | num x n => 
      refine ⟨_, rfl, rfl, _, rfl, ifF rfl ⟨_, rfl, rfl, _, rfl, ifF rfl ⟨_, rfl, rfl, _, rfl, ifF rfl ?_⟩⟩⟩
      refine ⟨_, rfl, _, _, rfl, rfl, sz_of (by show 1 ≤ 100000; decide), fun l hl => k l _ (Same.new hl) hl ?_⟩
      rw [upd_same]
      unfold nextOf
      rw [hx, hr]
      rfl
/-- the ways that are kept: their lists' addresses -/
structure WaysAt (H : Hp) (W : Addr) (as : List Addr) (ws : List (List Nat)) : Prop where
  ob : H W = some (.lst (as.map V.ref))
  len : as.length = ws.length
  at_ : ∀ (j : Nat) a w, as[j]? = some a → ws[j]? = some w → H a = some (.lst (w.map nI)) ∧ a ≠ W
def metD (l : List Nat) : List (Key × V) := l.map fun (k : Nat) => ((Sum.inl (k : Int) : Key), V.bl true)
theorem valV_met : ∀ (l : List Nat) (k : Nat), (valV (metD l) (Sum.inl (k : Int) : Key)).isSome = decide (k ∈ l) := by
  intro l k
  rw [← valV_any]
  unfold metD
  rw [List.any_map]
  by_cases c : k ∈ l
  · rw [decide_eq_true c]
    exact List.any_eq_true.mpr ⟨k, c, decide_eq_true rfl⟩
  · rw [decide_eq_false c]
    refine List.any_eq_false.mpr fun z m => ?_
    intro q
    have e := of_decide_eq_true q
    have e2 : (z : Int) = (k : Int) := Sum.inl.inj e
    exact c (by rw [← Int.ofNat.inj e2]; exact m)
theorem putK_met {l : List Nat} {k : Nat} (h : k ∉ l) : putK (metD l) (Sum.inl (k : Int) : Key) (.bl true) = metD (l ++ [k]) := by
  have e : valV (metD l) (Sum.inl (k : Int) : Key) = none := by
    have q := valV_met l k
    rw [decide_eq_false h] at q
    cases z : valV (metD l) (Sum.inl (k : Int) : Key) with
    | none => rfl
    | some v =>
      rw [z] at q
      cases q
  rw [putK_new _ e]
  unfold metD
  rw [List.map_append]
  rfl
theorem inV_sv {x : Nat} (hx : x < 9) : ∀ {l : List Nat}, (∀ k ∈ l, k < 9) → inV (sv x) (l.map sv) = decide (x ∈ l)
  | [], _ => rfl
  | a :: l, h => by
    have ih := inV_sv hx (l := l) fun k m => h k (List.mem_cons_of_mem _ m)
    have e : inV (sv x) ((a :: l).map sv) = (eqV (sv a) (sv x) || inV (sv x) (l.map sv)) := rfl
    have key : ∀ a x : Fin 9, eqV (sv a) (sv x) = decide (a = x) := by decide +kernel
    rw [e, ih, key ⟨a, h a List.mem_cons_self⟩ ⟨x, hx⟩]
    by_cases c : a = x
    · subst c
      simp
    · have c2 : ¬ ((⟨a, h a List.mem_cons_self⟩ : Fin 9) = ⟨x, hx⟩) := fun z => c (Fin.mk.inj_iff.mp z)
      have c3 : ¬ x = a := fun z => c z.symm
      simp [c2, c3]
theorem push_snoc {way : List Nat} : ∀ (gs : List Nat) (g : Nat) (s : List (List Nat) × List Nat), push way (gs ++ [g]) s = (if g ∈ (push way gs s).2 then push way gs s else ((push way gs s).1 ++ [way ++ [g]], (push way gs s).2 ++ [g]))
  | [], g, s => rfl
  | a :: gs, g, s => push_snoc gs g _
theorem all_flat (l : List Nat) : (l.map sv).all flatV = true := by
  rw [List.all_map]
  exact List.all_eq_true.mpr fun k _ => rfl
def WayV (o : Option (List Nat)) (v : V) (H : Hp) : Prop := match o with
  | none => v = .non
  | some w => ∃ a, v = .ref a ∧ H a = some (.lst (w.map nI))
def spWay : Sp := fun vs H Q _ => ∃ (ba : Addr) (i x : Nat) (rs : List Addr) (rws : List Rw) (ns : List Str), vs = [.ref ba, .int i, .str (vn x)] ∧ TupP H ba (rs.map V.ref) ∧ Rows H rs rws ∧ i < rws.length ∧ Okay rws ns ∧ x < 9 ∧ ∀ v H', Same H H' → WayV (wayOf rws x i) v H' → Q v H'
theorem getLast_at {w : List Nat} (h : w ≠ []) : atI (w.map nI) (-1) = some (nI (w.getLastD 0)) := by
  have e : w = w.dropLast ++ [w.getLast h] := (List.dropLast_concat_getLast h).symm
  have e2 : w.getLastD 0 = w.getLast h := by
    rw [List.getLastD_eq_getLast?, List.getLast?_eq_some_getLast h]
    rfl
  rw [e2]
  conv => lhs; rw [e, List.map_append]
  exact atI_last _ _
theorem Rw.reads_lt {r : Rw} (h : r.below 9) : ∀ k ∈ r.reads, k < 9 := by
  intro k m
  cases r <;> simp [Rw.reads, Rw.below] at m h <;> omega
theorem Rw.sets_eq {r : Rw} (h : r.below 9) {x : Nat} (hx : x < 9) : decide (oV r.sets = sv x) = decide (r.sets = some x) := by
  have key : ∀ a x : Fin 9, decide (sv a = sv x) = decide (a = x) := by decide +kernel
  have go : ∀ a, a < 9 → decide (sv a = sv x) = decide ((some a : Option Nat) = some x) := fun a ha => by
    rw [show decide (sv a = sv x) = decide ((⟨a, ha⟩ : Fin 9) = ⟨x, hx⟩) from key ⟨a, ha⟩ ⟨x, hx⟩]
    simp
  cases r with
  | copy a b => exact go a h.1
  | add a b c => exact go a h.1
  | num a n => exact go a h.1
  | see a => rfl
  | ret a => rfl
  | ifz a g => rfl
  | jump g => rfl
theorem sc_way_to_reader : FnScope ["body", "row", "variable", "ways", "met", "at", "way", "goal"] ["body", "row", "variable"] (defScope s_way_to_reader) := ⟨rfl, rfl, rfl, by decide +kernel, rfl, by decide +kernel, by decide +kernel⟩
theorem ok_way_to_reader (T : Ctx w K mg) (H_row_reads : Has P w K mg base 1 "row_reads" ["row"] spReads) (H_row_sets : Has P w K mg base 1 "row_sets" ["row"] spSets) (H_rows_behind : Has P w K mg base 1 "_rows_behind" ["body", "row"] spBehind) : Has P w K mg base 2 "_way_to_reader" ["body", "row", "variable"] spWay := by
  obtain ⟨fd, F⟩ := T.D_way_to_reader
  obtain ⟨fd_row_reads, G_row_reads, b_row_reads⟩ := H_row_reads.ex
  obtain ⟨fd_row_sets, G_row_sets, b_row_sets⟩ := H_row_sets.ex
  obtain ⟨fd_rows_behind, G_rows_behind, b_rows_behind⟩ := H_rows_behind.ex
  refine ⟨⟨fd, F.ok sc_way_to_reader (fun vs H Q E h => ?_) (fun cdv A outer s H vs Q E hr h => ?_), F.bindsN fun _ _ _ _ _ _ us hl => match us, hl with | [_, _, _], _ => rfl⟩, F.kp, T.g_way_to_reader⟩
  · obtain ⟨ba, i, x, rs, rws, ns, rfl, ht, hR, hi, hO, hx, k⟩ := h; rfl
  · obtain ⟨ba, i, x, rs, rws, ns, rfl, ht, hR, hi, hO, hx, k⟩ := h
    have hr_row_reads : Room 1 _ := hr.mono (by decide)
    have hr_row_sets : Room 1 _ := hr.mono (by decide)
    have hr_rows_behind : Room 1 _ := hr.mono (by decide)
    have hu := hu_of hr
    refine ⟨_, PSs.nox (pss_cons (ps_set (i := 3) sc_way_to_reader.nd rfl (Or.inl rfl) (pe_lst (pa_cons (pe_lst (pa_cons (pv 1) pa_nil)) pa_nil)))
      (pss_cons (ps_set (i := 4) sc_way_to_reader.nd rfl (Or.inl rfl) (pe_disp (pps_cons (pv 1) pe_bl pps_nil) (by rfl) (by rfl) (fun z => by cases z) (by decide)))
      (pss_cons (ps_set (i := 5) sc_way_to_reader.nd rfl (Or.inl rfl) pe_int)
      (pss_cons (ps_while PassesOwn.never (pt_cmpR op_lt (pv 5) (pe_callB call_len_seq (by rfl) T.f_len (by decide +kernel) (pa_cons (pv 3) pa_nil)) (nomark _))
      (pss_cons (ps_set (i := 6) sc_way_to_reader.nd rfl (Or.inl rfl) (pe_ix ix_list (pv 3) (pv 5) (fun _ _ => rfl)))
      (pss_cons (ps_aug (i := 5) sc_way_to_reader.nd rfl (Or.inl rfl) pe_int ip_add)
      (pss_cons (ps_if (pt_cmpR op_in_seq (pv 2) (pe_call G_row_reads hr_row_reads (by rfl) H_row_reads.gl H_row_reads.kp b_row_reads .nil pass0 (pa_cons (pe_ix ix_tup (pv 0) (pe_ix ix_list (pv 6) (pe_un un_neg pe_int) (fun _ _ => rfl)) (fun _ _ => rfl)) pa_nil)) rfl) (pss_one (ps_ret (pv 6))) pss_nil)
      (pss_cons (ps_if (pt_cmpR op_eq (pe_call G_row_sets hr_row_sets (by rfl) H_row_sets.gl H_row_sets.kp b_row_sets .nil pass0 (pa_cons (pe_ix ix_tup (pv 0) (pe_ix ix_list (pv 6) (pe_un un_neg pe_int) (fun _ _ => rfl)) (fun _ _ => rfl)) pa_nil)) (pv 2) (nomark _)) (pss_one ps_continue) pss_nil)
      (pss_one (ps_for PassesOwn.never rfl (pi_list (pe_call G_rows_behind hr_rows_behind (by rfl) H_rows_behind.gl H_rows_behind.kp b_rows_behind .nil pass0 (pa_cons (pv 0) (pa_cons (pe_ix ix_list (pv 6) (pe_un un_neg pe_int) (fun _ _ => rfl)) pa_nil)))) (pg_name (i := 7) sc_way_to_reader.nd rfl (Or.inl rfl))
      (pss_one (ps_if (pt_cmp (pc_dnotin hu (pv 7) (pv 4))) (pss_cons (ps_dput hu (pv 4) (pv 7) pe_bl rfl)
      (pss_one (ps_expr (pe_bm PySem.F.plainAttrs_list PySem.F.slot_list_append PySem.F.type_list_append mt_append (pv 3) (pa_cons (pe_lst (StX.pa_star (pv 6) (pa_cons (pv 7) pa_nil))) pa_nil))))) pss_nil)))))))))
      (pss_one (ps_ret pe_non)))))), ?_⟩
    refine ⟨_, rfl, sz_of (by show 1 ≤ 100000; decide), fun w0 hw0 => ⟨sz_of (by show 1 ≤ 100000; decide), fun W hW => ?_⟩⟩
    have nw0 : w0 ≠ W := fun z => by rw [← z, upd_same] at hW; cases hW
    intro M hM
    have nMW : M ≠ W := fun z => by rw [z, upd_same] at hM; cases hM
    have nMw : M ≠ w0 := fun z => by rw [z, upd_ne nw0, upd_same] at hM; cases hM
    refine ⟨_, rfl, upd_same, [(Sum.inl (i : Int), .bl true)], rfl, (by show 1 ≤ 15; decide), ?_⟩
    have sW : Same H (upd (upd (upd (upd H w0 (.lst [.int (i : Int)])) W (.lst [.ref w0])) M (.dK [])) M (.dK (mergeK [] [(Sum.inl (i : Int), .bl true)]))) := by
      have hWH : H W = none := by
        cases q : H W with
        | none => rfl
        | some z => exact absurd (Same.new hw0 _ _ q) (by rw [hW]; intro z; cases z)
      have hMH : H M = none := by
        cases q : H M with
        | none => rfl
        | some z => exact absurd (((Same.new hw0).trans (Same.new hW)) _ _ q) (by rw [hM]; intro z; cases z)
      exact Same.mut (Same.mut (Same.mut (Same.new hw0) hWH) hMH) hMH
    have fresh : ∀ {c : Addr} {u : HO}, H c = some u → c ≠ W ∧ c ≠ M := fun {c u} q => by
      refine ⟨fun z => ?_, fun z => ?_⟩
      · have := Same.new hw0 (o := .lst [.int (i : Int)]) _ _ q
        rw [z, hW] at this
        cases this
      · have := ((Same.new hw0 (o := .lst [.int (i : Int)])).trans (Same.new hW (o := .lst [.ref w0]))) _ _ q
        rw [z, hM] at this
        cases this
    have hWH : H W = none := by
      cases q : H W with
      | none => rfl
      | some z => exact absurd rfl (fresh q).1
    have hMH : H M = none := by
      cases q : H M with
      | none => rfl
      | some z => exact absurd rfl (fresh q).2
    refine ⟨fun m σ H1 => ∃ (a : Nat) (s : List (List Nat) × List Nat) (as : List Addr) (v6 v7 : Option V), m = rws.length + 1 - a ∧ σ = [some (.ref ba), some (.int i), some (.str (vn x)), some (.ref W), some (.ref M), some (.int a), v6, v7] ∧ Same H H1 ∧ WaysAt H1 W as s.1 ∧ H1 M = some (.dK (metD s.2)) ∧ Seen rws.length s ∧ look rws x (rws.length + 1 - a) s a = wayOf rws x i, ⟨_, 0, ([[i]], [i]), [w0], none, none, rfl, rfl, sW, ⟨?_, rfl, fun j c w e1 e2 => ?_⟩, upd_same, Seen.one hi, rfl⟩, fun m σ H1 hinv => ?_⟩
    · rw [upd_ne nMW.symm, upd_ne nMW.symm, upd_same]
      rfl
    · cases j with
      | zero =>
        obtain rfl : w0 = c := Option.some.inj e1
        obtain rfl : [i] = w := Option.some.inj e2
        refine ⟨?_, nw0⟩
        rw [upd_ne nMw.symm, upd_ne nMw.symm, upd_ne nw0, upd_same]
        rfl
      | succ j => simp at e1
    obtain ⟨a, s, as, v6, v7, rfl, rfl, s1, WA, hMd, SE, hlook⟩ := hinv
    refine ⟨_, rfl, _, rfl, _, _, rfl, .inl (SqL.of WA.ob), _, _, rfl, rfl, _, rfl, ?_⟩
    by_cases hlt : a < as.length
    · refine ifT (decide_eq_true (by rw [List.length_map]; omega)) ?_
      obtain ⟨aw, haw⟩ : ∃ aw, as[a]? = some aw := ⟨as[a], List.getElem?_eq_getElem hlt⟩
      have hlt2 : a < s.1.length := by rw [← WA.len]; exact hlt
      obtain ⟨w, hw⟩ : ∃ w, s.1[a]? = some w := ⟨s.1[a], List.getElem?_eq_getElem hlt2⟩
      obtain ⟨hawl, naw⟩ := WA.at_ a aw w haw hw
      have hwm : w ∈ s.1 := List.mem_of_getElem? hw
      have hne := SE.ne w hwm
      have hlast := SE.last w hwm
      have hle := SE.le
      obtain ⟨ra, hra, hrow⟩ := (hR.mono s1).row hlast
      have hrx : rws[w.getLastD 0]? = some rws[w.getLastD 0] := List.getElem?_eq_getElem hlast
      have hbel := (hO.ok _ (List.getElem_mem hlast)).1
      obtain ⟨f, hf⟩ : ∃ f, rws.length + 1 - a = f + 1 := ⟨rws.length - a, by omega⟩
      have hf2 : rws.length + 1 - (a + 1) = f := by omega
      rw [hf] at hlook
      refine ⟨fun σ' H' => ∃ (s' : List (List Nat) × List Nat) (as' : List Addr) (v6 v7 : Option V), σ' = [some (.ref ba), some (.int i), some (.str (vn x)), some (.ref W), some (.ref M), some (.int ((a : Int) + 1)), v6, v7] ∧ Same H H' ∧ WaysAt H' W as' s'.1 ∧ H' M = some (.dK (metD s'.2)) ∧ Seen rws.length s' ∧ look rws x f s' (a + 1) = wayOf rws x i, fun σ' H' ⟨s', as', v6, v7, e1, e2, e3, e4, e5, e6⟩ => ⟨f, by omega, a + 1, s', as', v6, v7, hf2.symm, e1, e2, e3, e4, e5, by rw [hf2]; exact e6⟩, ?_⟩
      refine ⟨_, rfl, _, rfl, _, _, _, _, rfl, rfl, SqL.of WA.ob, at_refs haw, ?_⟩
      refine ⟨_, rfl, _, _, rfl, rfl, ?_⟩
      refine ⟨_, rfl, _, rfl, _, rfl, 1, rfl, _, _, _, _, rfl, rfl, SqL.of hawl, getLast_at hne, _, _, _, _, rfl, rfl, (ht.mono s1).sq, at_refs hra, ra, _, rfl, hrow, fun p H2 s2 hpn hp => ?_⟩
      refine ⟨p, _, rfl, .inl (SqL.of hp), rfl, all_flat _, _, rfl, ?_⟩
      have s12 := s1.trans s2
      by_cases c1 : x ∈ rws[w.getLastD 0].reads
      · refine ifT (show (if false = true then !inV (sv x) (rws[w.getLastD 0].reads.map sv) else inV (sv x) (rws[w.getLastD 0].reads.map sv)) = true by rw [inV_sv hx (Rw.reads_lt hbel), decide_eq_true c1]; rfl) ?_
        refine ⟨_, rfl, k _ _ s12 ?_⟩
        have e : look rws x (f + 1) s a = some w := by
          unfold look
          rw [hw]
          simp only [hrx, if_pos c1]
        rw [← hlook, e]
        exact ⟨aw, rfl, s2 _ _ hawl⟩
      · refine ifF (show (if false = true then !inV (sv x) (rws[w.getLastD 0].reads.map sv) else inV (sv x) (rws[w.getLastD 0].reads.map sv)) = false by rw [inV_sv hx (Rw.reads_lt hbel), decide_eq_false c1]; rfl) ?_
        refine ⟨_, rfl, _, rfl, 1, rfl, _, _, _, _, rfl, rfl, SqL.of (s2 _ _ hawl), getLast_at hne, _, _, _, _, rfl, rfl, (ht.mono s12).sq, at_refs hra, ra, _, rfl, s2 _ _ hrow, _, rfl, ?_, _, rfl, ?_⟩
        · cases rws[w.getLastD 0] <;> rfl
        have W2 : WaysAt H2 W as s.1 := ⟨s2 _ _ WA.ob, WA.len, fun j c v e1 e2 => ⟨s2 _ _ (WA.at_ j c v e1 e2).1, (WA.at_ j c v e1 e2).2⟩⟩
        by_cases c2 : rws[w.getLastD 0].sets = some x
        · refine ifT (show decide (oV rws[w.getLastD 0].sets = sv x) = true by rw [Rw.sets_eq hbel hx, decide_eq_true c2]) ?_
          refine ⟨s, as, _, _, rfl, s12, W2, s2 _ _ hMd, SE, ?_⟩
          rw [← hlook]
          conv => rhs; unfold look
          rw [hw]
          simp only [hrx, if_neg c1, if_pos c2]
        · refine ifF (show decide (oV rws[w.getLastD 0].sets = sv x) = false by rw [Rw.sets_eq hbel hx, decide_eq_false c2]) ?_
          refine ⟨_, rfl, _, rfl, 1, rfl, _, _, _, _, rfl, rfl, SqL.of (s2 _ _ hawl), getLast_at hne, ba, w.getLastD 0, rs, rws, rfl, ht.mono s12, hR.mono s12, hlast, fun q H3 s3 hqn hq => ?_⟩
          have s13 := s12.trans s3
          refine ⟨q, rfl, ⟨_, SqL.of hq⟩, ?_⟩
          have hfr : ∀ {c : Addr} {u : HO}, H1 c = some u → c ≠ q := fun {c u} e => ne_of_none (s2 _ _ e) hqn
          have nqW : q ≠ W := (hfr WA.ob).symm
          have nqM : q ≠ M := (hfr hMd).symm
          have nMW2 : M ≠ W := nMW
          have hgs := next_lt hO hlast
          refine for_it (walk_list (K := K) (a := q) (xs := (nextOf rws (w.getLastD 0)).map nI)) (fun j σ H4 => ∃ (as' : List Addr) (v7 : Option V), σ = [some (.ref ba), some (.int i), some (.str (vn x)), some (.ref W), some (.ref M), some (.int ((a : Int) + 1)), some (.ref aw), v7] ∧ Same H H4 ∧ WaysAt H4 W as' (push w ((nextOf rws (w.getLastD 0)).take j) s).1 ∧ H4 M = some (.dK (metD (push w ((nextOf rws (w.getLastD 0)).take j) s).2)) ∧ H4 aw = some (.lst (w.map nI)) ∧ H4 q = some (.lst ((nextOf rws (w.getLastD 0)).map nI))) ⟨as, _, rfl, s13, ⟨s3 _ _ (s2 _ _ WA.ob), WA.len, fun j c v e1 e2 => ⟨s3 _ _ (s2 _ _ (WA.at_ j c v e1 e2).1), (WA.at_ j c v e1 e2).2⟩⟩, s3 _ _ (s2 _ _ hMd), s3 _ _ (s2 _ _ hawl), hq⟩ (fun j σ H4 _ ⟨_, _, _, _, _, _, _, h⟩ => SqL.of h) ?_ ?_
          · rintro j y σ H5 H4 hj ⟨as', v7, rfl, s4, W4, M4, aw4, q4⟩ ⟨rfl, hy⟩
            obtain ⟨gg, hgg, rfl⟩ := map_get hy
            have hgl := hgs gg (List.mem_of_getElem? hgg)
            have hps := push_snoc (way := w) ((nextOf rws (w.getLastD 0)).take j) gg s
            rw [← take_snoc hgg] at hps
            have SP : Seen rws.length (push w ((nextOf rws (w.getLastD 0)).take j) s) := push_seen _ s (fun z m => hgs z (List.mem_of_mem_take m)) (SE.short w hwm) SE
            generalize push w ((nextOf rws (w.getLastD 0)).take j) s = t at hps W4 M4 SP
            have hsz := SP.le
            have hsz2 : t.2.length ≤ 40 := by rw [← SP.len]; exact Nat.le_trans hsz hO.le
            refine ⟨_, rfl, _, rfl, M, _, rfl, DGet.k (k := Sum.inl (gg : Int)) M4, _, rfl, ?_⟩
            by_cases c3 : gg ∈ t.2
            · refine ifF (by rw [valV_met, decide_eq_true c3]; rfl) ?_
              rw [if_pos c3] at hps
              exact ⟨as', _, rfl, s4, by rw [hps]; exact W4, by rw [hps]; exact M4, aw4, q4⟩
            · refine ifT (by rw [valV_met, decide_eq_false c3]; rfl) ?_
              rw [if_neg c3] at hps
              refine ⟨_, rfl, _, rfl, M, _, rfl, DPut.k (k := Sum.inl (gg : Int)) M4 (small1000 (by unfold metD; rw [List.length_map]; omega)), ?_⟩
              have nawM : aw ≠ M := ne_of aw4 M4 (by intro z; cases z)
              refine ⟨_, rfl, .inl ⟨rfl, _, SqL.of (by rw [upd_ne nMW.symm]; exact W4.ob)⟩, _, rfl, aw, _, rfl, .inr (SqL.of (by rw [upd_ne nawM]; exact aw4)), _, rfl, sz_of ?_, fun l hl => ?_⟩
              · have h1 := SE.short w hwm
                have h2 := SE.le
                have h3 := hO.le
                simp only [List.length_append, List.length_map, List.length_cons, List.length_nil]
                omega
              have hl4 : H4 l = none := by
                by_cases z : l = M
                · rw [z, upd_same] at hl
                  cases hl
                · rw [upd_ne z] at hl
                  exact hl
              have nlW : W ≠ l := ne_of_none W4.ob hl4
              have nlM : M ≠ l := ne_of_none M4 hl4
              refine ⟨W, _, _, rfl, rfl, by rw [upd_ne nlW, upd_ne nMW.symm]; exact W4.ob, small1000 (by rw [List.length_map, W4.len]; exact Nat.le_trans hsz (Nat.le_trans hO.le (by decide))), ?_⟩
              have keep : ∀ {c : Addr} {u : HO}, H4 c = some u → c ≠ W → c ≠ M → upd (upd (upd H4 M (.dK (putK (metD t.2) (Sum.inl (gg : Int)) (.bl true)))) l (.lst (w.map nI ++ [nI gg]))) W (.lst (as'.map V.ref ++ [.ref l])) c = some u := fun {c u} e n1 n2 => by
                rw [upd_ne n1, upd_ne (ne_of_none e hl4), upd_ne n2]
                exact e
              refine ⟨as' ++ [l], _, rfl, fun c u e => keep (s4 _ _ e) (fresh e).1 (fresh e).2, ?_, ?_, ?_, ?_⟩
              · rw [hps]
                refine ⟨by rw [upd_same, List.map_append]; rfl, by simp [W4.len], fun z c v e1 e2 => ?_⟩
                by_cases hz : z < as'.length
                · rw [List.getElem?_append_left hz] at e1
                  rw [List.getElem?_append_left (by rw [← W4.len]; exact hz)] at e2
                  obtain ⟨r1, r2⟩ := W4.at_ z c v e1 e2
                  exact ⟨keep r1 r2 (ne_of r1 M4 (by intro z; cases z)), r2⟩
                · rw [List.getElem?_append_right (by omega)] at e1
                  rw [List.getElem?_append_right (by rw [← W4.len]; omega), ← W4.len] at e2
                  have z0 : z - as'.length = 0 := by
                    have := (List.getElem?_eq_some_iff.mp e1).1
                    simp at this
                    omega
                  rw [z0] at e1 e2
                  obtain rfl : l = c := Option.some.inj e1
                  obtain rfl : w ++ [gg] = v := Option.some.inj e2
                  refine ⟨?_, nlW.symm⟩
                  rw [upd_ne nlW.symm, upd_same, List.map_append]
                  rfl
              · rw [hps, upd_ne nMW, upd_ne nlM, upd_same, putK_met c3]
              · exact keep aw4 naw nawM
              · exact keep q4 nqW nqM
          · rintro σ H4 ⟨as', v7, rfl, s4, W4, M4, aw4, q4⟩
            rw [List.length_map, List.take_length] at W4 M4
            refine ⟨push w (nextOf rws (w.getLastD 0)) s, as', _, _, rfl, s4, W4, M4, push_seen _ s hgs (SE.short w hwm) SE, ?_⟩
            rw [← hlook]
            conv => rhs; unfold look
            rw [hw]
            simp only [hrx, if_neg c1, if_neg c2]
    · refine ifF (decide_eq_false (by rw [List.length_map]; omega)) ?_
      refine k _ _ s1 ?_
      have e : look rws x (rws.length + 1 - a) s a = none := by
        cases hz : rws.length + 1 - a with
        | zero => rfl
        | succ f =>
          unfold look
          rw [List.getElem?_eq_none (by rw [← WA.len]; omega)]
      rw [← hlook, e]
      rfl

end
end W19
set_option Elab.async false
set_option linter.all false
set_option maxRecDepth 100000
set_option maxHeartbeats 4000000
namespace W19
open PySem PySem.Spec PyProof.Rows L2
section
variable {P : Program} {w : World} {K : PySem.W.Frag} {mg : Str → Option Value} {base : Heap}

/-- a comprehension with a test, whose elements leave what stood as it was -/
theorem lc_filt {J : It} {n : Nat} {G : Hp → Prop} {Y : Nat → Hp → V → Hp → Prop} (w : Walk J n G Y) {g : TG} {tt : TT} {te : TE} {vs : List Nat} {σ : L2.St} {H0 : Hp} {D : Addr} {Qd : Hp → Prop} (hD : H0 D = none) (f : Nat → V) (b : Nat → Bool) (hn : n < 100000)
    (hG : ∀ H, Same H0 H → G H)
    (hs : ∀ i H x H', i < n → Same H0 H → Y i H x H' → ∀ (Qe : VK) (Qn : Hp → Prop), (∀ H4, Same H H4 → b i = true → Qe (f i) H4) → (∀ H4, Same H H4 → b i = false → Qn H4) → g x (wipe σ vs) H' fun σ2 H2 => wipe σ2 vs = wipe σ vs ∧ tt σ2 H2 fun c H3 => if c = true then te σ2 H3 Qe else Qn H3)
    (hd : ∀ H, Same H0 H → H D = some (.lst (((List.range n).filter b).map f)) → Qd H) :
    ∃ W : Nat → Nat → Hp → Prop, (∃ m, W 0 m (upd H0 D (.lst []))) ∧ ∀ i m H, W i m H →
      (J.stop i H ∧ Qd H) ∨ (J.go i H ∧ ∃ Nx : Hp → Prop, (∀ H', Nx H' → ∃ m', m' < m ∧ W (i + 1) m' H') ∧ ∀ x H', J.yld i H x H' → g x (wipe σ vs) H' fun σ2 H2 => wipe σ2 vs = wipe σ vs ∧ tt σ2 H2 fun b H3 =>
        if b = true then te σ2 H3 fun y H4 => ∃ acc, H4 D = some (.lst acc) ∧ acc.length < sizeLine ∧ Nx (upd H4 D (.lst (acc ++ [y]))) else Nx H3) := by
  refine lc_it w (fun i H => Same H0 H ∧ H D = some (.lst (((List.range i).filter b).map f))) ⟨Same.new hD, upd_same⟩ (fun i H _ p => hG H p.1) (fun i x H H' hi p y => ?_) (fun H p => hd H p.1 p.2)
  refine hs i H x H' hi p.1 y (fun y H4 => ∃ acc, H4 D = some (.lst acc) ∧ acc.length < sizeLine ∧ (Same H0 (upd H4 D (.lst (acc ++ [y]))) ∧ upd H4 D (.lst (acc ++ [y])) D = some (.lst (((List.range (i + 1)).filter b).map f)))) (fun H3 => Same H0 H3 ∧ H3 D = some (.lst (((List.range (i + 1)).filter b).map f))) (fun H4 s4 hb => ?_) (fun H4 s4 hb => ?_)
  · refine ⟨_, s4 _ _ p.2, sz_lt ?_, Same.mut (p.1.trans s4) hD, ?_⟩
    · rw [List.length_map]
      refine Nat.lt_of_le_of_lt (List.length_filter_le _ _) ?_
      rw [List.length_range]
      exact Nat.lt_trans hi hn
    · rw [upd_same, List.range_succ, List.filter_append, List.map_append, List.filter_cons_of_pos hb]
      rfl
  · refine ⟨p.1.trans s4, ?_⟩
    rw [s4 _ _ p.2, List.range_succ, List.filter_append, List.filter_cons_of_neg (by rw [hb]; decide)]
    simp
def names (m : Nat) : List Str := (List.range m).map vn
def wantedOf (rws : List Rw) (m i : Nat) : List Nat := (List.range m).filter fun x => (wayOf rws x i).isSome
def spWantedIn (K : PySem.W.Frag) : Sp := fun vs H Q _ => ∃ (fp : Addr) (i m : Nat) (rws : List Rw), vs = [.ref fp, .int i] ∧ FnB K H fp (names m) rws ∧ i < rws.length ∧ Okay rws (names m) ∧ m ≤ 9 ∧ ∀ p H', Same H H' → H p = none → H' p = some (.lst ((wantedOf rws m i).map sv)) → Q (.ref p) H'
/-- a Source of the one function f with variables v0, v1 .. -/
def SrcOk (K : PySem.W.Frag) (H : Hp) (p : Addr) (m : Nat) (rws : List Rw) : Prop := ∃ dx fd fp fs, SrcAt K H p dx fd fp fs ∧ FnB K H fp (names m) rws ∧ Okay rws (names m) ∧ m ≤ 9
theorem SrcOk.mono {H H' : Hp} {p : Addr} {m : Nat} {rws : List Rw} (h : SrcOk K H p m rws) (e : Same H H') : SrcOk K H' p m rws := by
  obtain ⟨dx, fd, fp, fs, a, b, c⟩ := h
  exact ⟨dx, fd, fp, fs, a.mono e, b.mono e, c⟩
def spWith (K : PySem.W.Frag) : Sp := fun vs H Q _ => ∃ (p dx fd fp : Addr) (fs : List (Str × V)) (i : Nat) (ns : List Str) (rws : List Rw), vs = [.ref p, .str "f", .int i] ∧ SrcAt K H p dx fd fp fs ∧ FnB K H fp ns rws ∧ i < rws.length ∧ ∀ H', Same H H' → Q (.ref fp) H'
def spWanted (K : PySem.W.Frag) : Sp := fun vs H Q _ => ∃ (p : Addr) (i m : Nat) (rws : List Rw), vs = [.ref p, .str "f", .int i] ∧ SrcOk K H p m rws ∧ i < rws.length ∧ ∀ q H', Same H H' → H q = none → H' q = some (.lst ((wantedOf rws m i).map sv)) → Q (.ref q) H'
def spWanting (K : PySem.W.Frag) : Sp := fun vs H Q _ => ∃ (p : Addr) (i x m : Nat) (rws : List Rw), vs = [.ref p, .str "f", .int i, .str (vn x)] ∧ SrcOk K H p m rws ∧ i < rws.length ∧ x < m ∧ ∀ v H', Same H H' → WayV (wayOf rws x i) v H' → Q v H' 
theorem sc_wanted_in : FnScope ["function", "row", "names", "name"] ["function", "row"] (defScope s_wanted_in) := ⟨rfl, rfl, rfl, by decide +kernel, rfl, by decide +kernel, by decide +kernel⟩
theorem ok_wanted_in (T : Ctx w K mg) (H_way_to_reader : Has P w K mg base 2 "_way_to_reader" ["body", "row", "variable"] spWay) : Has P w K mg base 3 "_wanted_in" ["function", "row"] (spWantedIn K) := by
  obtain ⟨fd, F⟩ := T.D_wanted_in
  obtain ⟨fd_way_to_reader, G_way_to_reader, b_way_to_reader⟩ := H_way_to_reader.ex
  refine ⟨⟨fd, F.ok sc_wanted_in (fun vs H Q E h => ?_) (fun cdv A outer s H vs Q E hr h => ?_), F.bindsN fun _ _ _ _ _ _ us hl => match us, hl with | [_, _], _ => rfl⟩, F.kp, T.g_wanted_in⟩
  · obtain ⟨fp, i, m, rws, rfl, hB, hi, hO, hm, k⟩ := h; rfl
  · obtain ⟨fp, i, m, rws, rfl, hB, hi, hO, hm, k⟩ := h
    have hr_way_to_reader : Room 2 _ := hr.mono (by decide)
    have hu := hu_of hr
    refine ⟨_, PSs.nox (pss_cons (ps_set (i := 2) sc_wanted_in.nd rfl (Or.inl rfl) (pe_callB cr_sortedS (by rfl) T.f_sorted (by decide +kernel) (pa_cons (pe_callTy (call_listD rfl) (by rfl) T.f_list (by decide +kernel) (pa_cons (pe_fldK (K := K) rfl (pv 0) (by rfl)) pa_nil)) pa_nil)))
      (pss_one (ps_ret (pe_lc (own := [("name", 3)]) (g := gName 3) rfl sc_wanted_in.nd (pi_list (pv 2)) (blkOk_by (N := ["function", "row", "names", "name"]) (sc := defScope s_wanted_in) (by decide +kernel)) (fun _ _ _ _ _ => (pg_name (i := 3) sc_wanted_in.nd rfl (Or.inl rfl))) (fun _ _ _ _ _ => (pts_one (pt_cmpR op_notN (pe_call G_way_to_reader hr_way_to_reader (by rfl) H_way_to_reader.gl H_way_to_reader.kp b_way_to_reader .nil pass0 (pa_cons (pe_fldK (K := K) rfl (pv 0) (by rfl)) (pa_cons (pv 1) (pa_cons (pv 3) pa_nil)))) pe_non (nomark _)))) (fun _ _ _ _ _ => (pv 3)))))), ?_⟩
    obtain ⟨dx, va, fs, ba, rs, F0, hb, ht, hR⟩ := hB
    refine ⟨_, rfl, fp, _, dx, fs, _, rfl, F0.ob, T.c_Function, T.n_Function_variables, F0.vars, va, _, rfl, .inl F0.vd, fun l hl => ?_⟩
    have s1 : Same H (upd H l (.lst ((kvT (names m) numF).map fun kv => kV kv.1))) := Same.new hl
    refine ⟨l, names m, rfl, SqL.of ?_, ?_, fun ys p pm ps hp => ?_⟩
    · rw [upd_same]
      unfold kvT
      rw [List.map_map]
      rfl
    · unfold names
      rw [List.length_map, List.length_range]
      omega
    obtain ⟨js, rfl, pj, pw⟩ := sorted_names (l := List.range m) (fun b hb => by have := List.mem_range.mp hb; omega) pm ps
    have ej : js = List.range m := List.Perm.eq_of_pairwise (fun x y _ _ h1 h2 => Nat.le_antisymm h1 h2) pw (List.pairwise_lt_range.imp fun h => Nat.le_of_lt h) pj
    subst ej
    have s2 := s1.trans (Same.new (o := .lst (((List.range m).map vn).map V.str)) hp)
    have hpN : H p = none := by
      cases q : H p with
      | none => rfl
      | some z => exact absurd (s1 _ _ q) (by rw [hp]; intro z; cases z)
    refine ⟨_, rfl, p, rfl, ⟨_, SqL.of upd_same⟩, fun D hD => ?_⟩
    refine lc_filt (walk_list (K := K) (a := p) (xs := ((List.range m).map vn).map V.str)) hD sv (fun x => (wayOf rws x i).isSome) (by rw [List.length_map, List.length_map, List.length_range]; omega) (fun H4 s4 => SqL.of (s4 _ _ upd_same)) (fun j H4 y H5 hj s4 hy Qe Qn qe qn => ?_) (fun H4 s4 h4 => ?_)
    · obtain ⟨rfl, hy⟩ := hy
      have hj2 : j < m := by
        rw [List.length_map, List.length_map, List.length_range] at hj
        exact hj
      have ey : y = sv j := by
        rw [List.getElem?_map, List.getElem?_map, List.getElem?_range hj2] at hy
        exact (Option.some.inj hy).symm
      subst ey
      have s5 := s2.trans s4
      refine ⟨rfl, _, rfl, fp, _, dx, fs, _, rfl, s5 _ _ F0.ob, T.c_Function, T.n_Function_body, hb, _, rfl, _, rfl, ba, i, j, rs, rws, names m, rfl, ht.mono s5, hR.mono s5, hi, hO, by omega, fun v H6 s6 hv => ?_⟩
      refine ⟨rfl, _, rfl, ?_⟩
      cases e : wayOf rws j i with
      | none =>
        rw [e] at hv
        have hv2 : v = .non := hv
        subst hv2
        exact ifF rfl (qn _ s6 (by rw [e]; rfl))
      | some w =>
        rw [e] at hv
        obtain ⟨a, rfl, _⟩ := hv
        exact ifT rfl ⟨_, rfl, qe _ s6 (by rw [e]; rfl)⟩
    · have hDN : H D = none := by
        cases q : H D with
        | none => rfl
        | some z => exact absurd (s2 _ _ q) (by rw [hD]; intro z; cases z)
      refine k D _ (s2.trans s4) hDN ?_
      rw [h4, List.length_map, List.length_map, List.length_range]
      rfl
theorem sc_function_with : FnScope ["source", "name", "row", "function"] ["source", "name", "row"] (defScope s_function_with) := ⟨rfl, rfl, rfl, by decide +kernel, rfl, by decide +kernel, by decide +kernel⟩
theorem ok_function_with (T : Ctx w K mg) (H_Source_function_at : HasM P w K mg base 1 "Source" "function_at" ["self", "name"] (spFnAt K)) (H_Function_has_row : HasM P w K mg base 3 "Function" "has_row" ["self", "thing"] (spHasRow K)) : Has P w K mg base 4 "_function_with" ["source", "name", "row"] (spWith K) := by
  obtain ⟨fd0, F⟩ := T.D_function_with
  obtain ⟨fd_Source_function_at, G_Source_function_at, b_Source_function_at⟩ := H_Source_function_at.ex
  obtain ⟨fd_Function_has_row, G_Function_has_row, b_Function_has_row⟩ := H_Function_has_row.ex
  refine ⟨⟨fd0, F.ok sc_function_with (fun vs H Q E h => ?_) (fun cdv A outer s H vs Q E hr h => ?_), F.bindsN fun _ _ _ _ _ _ us hl => match us, hl with | [_, _, _], _ => rfl⟩, F.kp, T.g_function_with⟩
  · obtain ⟨p, dx, fd, fp, fs, i, ns, rws, rfl, S, hB, hi, k⟩ := h; rfl
  · obtain ⟨p, dx, fd, fp, fs, i, ns, rws, rfl, S, hB, hi, k⟩ := h
    have hr_Source_function_at : Room 1 _ := hr.mono (by decide)
    have hr_Function_has_row : Room 3 _ := hr.mono (by decide)
    have hu := hu_of hr
    refine ⟨_, PSs.nox (pss_cons (ps_if (pt_not (pt_val (pe_callB call_isi (by rfl) T.f_isinstance (by decide +kernel) (pa_cons (pv 0) (pa_cons (pe_glob (v := .ref (He.ga K "Source")) rfl T.g_Source rfl) pa_nil))))) (pss_one ps_never) pss_nil)
      (pss_cons (ps_set (i := 3) sc_function_with.nd rfl (Or.inl rfl) (pe_meth (pv 0) T.c_Source T.m_Source_function_at G_Source_function_at hr_Source_function_at b_Source_function_at .nil pass0 (pa_cons (pv 1) pa_nil)))
      (pss_cons (ps_if (pt_cmpR op_isN (pv 3) pe_non (nomark _)) (pss_one ps_never) pss_nil)
      (pss_cons (ps_if (pt_not (pt_val (pe_meth (pv 3) T.c_Function T.m_Function_has_row G_Function_has_row hr_Function_has_row b_Function_has_row .nil pass0 (pa_cons (pv 2) pa_nil)))) (pss_one ps_never) pss_nil)
      (pss_one (ps_ret (pv 3))))))), ?_⟩
    obtain ⟨i1, i2⟩ := T.isSource S.ob
    refine ⟨_, rfl, _, _, _, _, true, rfl, .own _, i1, i2, true, rfl, iteF ?_⟩
    refine ⟨_, rfl, p, dx, fs, rfl, S.ob, S.nm1, _, rfl, p, dx, fd, fp, fs, rfl, S, ?_⟩
    refine ⟨_, rfl, rfl, _, rfl, ifF rfl ?_⟩
    obtain ⟨dy, va, gs, ba, rs, F0, hb, ht, hR⟩ := id hB
    refine ⟨_, rfl, fp, dy, gs, rfl, F0.ob, F0.nohas, _, rfl, fp, i, ns, rws, rfl, hB, hi, fun H1 s1 => ⟨_, rfl, iteF ⟨_, rfl, k _ s1⟩⟩⟩
theorem sc_wanted : FnScope ["source", "name", "row"] ["source", "name", "row"] (defScope s_wanted) := ⟨rfl, rfl, rfl, by decide +kernel, rfl, by decide +kernel, by decide +kernel⟩
theorem ok_wanted (T : Ctx w K mg) (H_function_with : Has P w K mg base 4 "_function_with" ["source", "name", "row"] (spWith K)) (H_wanted_in : Has P w K mg base 3 "_wanted_in" ["function", "row"] (spWantedIn K)) : Has P w K mg base 5 "wanted" ["source", "name", "row"] (spWanted K) := by
  obtain ⟨fd, F⟩ := T.D_wanted
  obtain ⟨fd_function_with, G_function_with, b_function_with⟩ := H_function_with.ex
  obtain ⟨fd_wanted_in, G_wanted_in, b_wanted_in⟩ := H_wanted_in.ex
  refine ⟨⟨fd, F.ok sc_wanted (fun vs H Q E h => ?_) (fun cdv A outer s H vs Q E hr h => ?_), F.bindsN fun _ _ _ _ _ _ us hl => match us, hl with | [_, _, _], _ => rfl⟩, F.kp, T.g_wanted⟩
  · obtain ⟨p, i, m, rws, rfl, hS, hi, k⟩ := h; rfl
  · obtain ⟨p, i, m, rws, rfl, hS, hi, k⟩ := h
    have hr_function_with : Room 4 _ := hr.mono (by decide)
    have hr_wanted_in : Room 3 _ := hr.mono (by decide)
    have hu := hu_of hr
    refine ⟨_, PSs.nox (pss_one (ps_ret (pe_call G_wanted_in hr_wanted_in (by rfl) H_wanted_in.gl H_wanted_in.kp b_wanted_in .nil pass0 (pa_cons (pe_call G_function_with hr_function_with (by rfl) H_function_with.gl H_function_with.kp b_function_with .nil pass0 (pa_cons (pv 0) (pa_cons (pv 1) (pa_cons (pv 2) pa_nil)))) (pa_cons (pv 2) pa_nil))))), ?_⟩
    obtain ⟨dx, fd1, fp, fs, S, hB, hO, hm⟩ := hS
    exact ⟨_, rfl, _, rfl, _, rfl, p, dx, fd1, fp, fs, i, names m, rws, rfl, S, hB, hi, fun H1 s1 => ⟨_, rfl, fp, i, m, rws, rfl, hB.mono s1, hi, hO, hm, fun q H2 s2 hq h2 => k q H2 (s1.trans s2) (by cases z : H q with | none => rfl | some u => exact absurd (s1 _ _ z) (by rw [hq]; intro z; cases z)) h2⟩⟩
theorem sc_wanting : FnScope ["source", "name", "row", "variable", "function"] ["source", "name", "row", "variable"] (defScope s_wanting) := ⟨rfl, rfl, rfl, by decide +kernel, rfl, by decide +kernel, by decide +kernel⟩
theorem ok_wanting (T : Ctx w K mg) (H_function_with : Has P w K mg base 4 "_function_with" ["source", "name", "row"] (spWith K)) (H_way_to_reader : Has P w K mg base 2 "_way_to_reader" ["body", "row", "variable"] spWay) : Has P w K mg base 5 "wanting" ["source", "name", "row", "variable"] (spWanting K) := by
  obtain ⟨fd, F⟩ := T.D_wanting
  obtain ⟨fd_function_with, G_function_with, b_function_with⟩ := H_function_with.ex
  obtain ⟨fd_way_to_reader, G_way_to_reader, b_way_to_reader⟩ := H_way_to_reader.ex
  refine ⟨⟨fd, F.ok sc_wanting (fun vs H Q E h => ?_) (fun cdv A outer s H vs Q E hr h => ?_), F.bindsN fun _ _ _ _ _ _ us hl => match us, hl with | [_, _, _, _], _ => rfl⟩, F.kp, T.g_wanting⟩
  · obtain ⟨p, i, x, m, rws, rfl, hS, hi, hx, k⟩ := h; rfl
  · obtain ⟨p, i, x, m, rws, rfl, hS, hi, hx, k⟩ := h
    have hr_function_with : Room 4 _ := hr.mono (by decide)
    have hr_way_to_reader : Room 2 _ := hr.mono (by decide)
    have hu := hu_of hr
    refine ⟨_, PSs.nox (pss_cons (ps_set (i := 4) sc_wanting.nd rfl (Or.inl rfl) (pe_call G_function_with hr_function_with (by rfl) H_function_with.gl H_function_with.kp b_function_with .nil pass0 (pa_cons (pv 0) (pa_cons (pv 1) (pa_cons (pv 2) pa_nil)))))
      (pss_cons (ps_if (PW.pt (pw_or (pt_not (pt_val (pe_callB call_isi (by rfl) T.f_isinstance (by decide +kernel) (pa_cons (pv 3) (pa_cons (pe_bltn (v := .ty "str") (u := .type "str") rfl T.f_str (by decide +kernel) rfl) pa_nil))))) (pw_or1 (pt_cmp (pc_dnotin hu (pv 3) (pe_fldK (K := K) rfl (pv 4) (by rfl))))))) (pss_one ps_never) pss_nil)
      (pss_one (ps_ret (pe_call G_way_to_reader hr_way_to_reader (by rfl) H_way_to_reader.gl H_way_to_reader.kp b_way_to_reader .nil pass0 (pa_cons (pe_fldK (K := K) rfl (pv 4) (by rfl)) (pa_cons (pv 2) (pa_cons (pv 3) pa_nil)))))))), ?_⟩
    obtain ⟨dx, fd1, fp, fs, S, hB, hO, hm⟩ := hS
    refine ⟨_, rfl, _, rfl, _, rfl, p, dx, fd1, fp, fs, i, names m, rws, rfl, S, hB, hi, fun H1 s1 => ?_⟩
    obtain ⟨dy, va, gs, ba, rs, F0, hb, ht, hR⟩ := hB.mono s1
    refine ⟨_, rfl, _, _, _, _, true, rfl, .ty _, .base (.str _), kit_ty (by decide +kernel), true, rfl, iteF ?_⟩
    refine ⟨_, rfl, _, rfl, fp, _, dy, gs, _, rfl, F0.ob, T.c_Function, T.n_Function_variables, F0.vars, va, some (.str "number"), rfl, ?_, _, rfl, iteF ?_⟩
    · rw [← valV_kvT_in (show vn x ∈ names m from List.mem_map.mpr ⟨x, List.mem_range.mpr hx, rfl⟩)]
      exact DGet.k (k := Sum.inr (vn x)) F0.vd
    exact ⟨_, rfl, fp, _, dy, gs, _, rfl, F0.ob, T.c_Function, T.n_Function_body, hb, _, rfl, _, rfl, ba, i, x, rs, rws, names m, rfl, ht, hR, hi, hO, by omega, fun v H2 s2 hv => k v H2 (s1.trans s2) hv⟩

end
end W19
set_option Elab.async false
set_option linter.all false
set_option maxRecDepth 100000
set_option maxHeartbeats 4000000
namespace W19
open PySem PySem.Spec PyProof.Rows L2
def belB (m : Nat) (r : Rw) : Bool := match r with
  | .copy x y => decide (x < m) && decide (y < m) | .see x => decide (x < m) | .ret x => decide (x < m) | .add x y z => decide (x < m) && (decide (y < m) && decide (z < m)) | .ifz x _ => decide (x < m) | .jump _ => true | .num x n => decide (x < m) && decide (n ≤ 1000)
def okB (rws : List Rw) (m : Nat) : Bool := (rws.all fun r => belB m r && (match r.goal with | none => true | some g => decide (g < rws.length))) && ((match rws.getLast? with | some (.jump _) => true | some (.ret _) => true | _ => false) && (decide (rws.length ≤ 40) && decide (m ≤ 9)))
theorem belB_ok {m : Nat} {r : Rw} (h : belB m r = true) (hm : m ≤ 9) : r.below 9 ∧ ∀ k ∈ r.names, vn k ∈ names m := by
  have vin : ∀ {k : Nat}, k < m → vn k ∈ names m := fun hk => List.mem_map.mpr ⟨_, List.mem_range.mpr hk, rfl⟩
  cases r <;> simp [belB] at h <;> refine ⟨by simp [Rw.below] <;> omega, fun k hk => vin ?_⟩ <;> simp [Rw.names, Rw.sets, Rw.reads] at hk <;> omega
theorem okB_ok {rws : List Rw} {m : Nat} (h : okB rws m = true) : Okay rws (names m) := by
  unfold okB at h
  simp only [Bool.and_eq_true, List.all_eq_true, decide_eq_true_eq] at h
  obtain ⟨h1, h2, h3, h4⟩ := h
  refine ⟨fun r hr => ?_, ?_, h3⟩
  · obtain ⟨a, b⟩ := h1 r hr
    obtain ⟨c, d⟩ := belB_ok a h4
    refine ⟨c, d, fun g e => ?_⟩
    rw [e] at b
    exact of_decide_eq_true b
  · cases e : rws.getLast? with
    | none => rw [e] at h2; cases h2
    | some rl =>
      obtain ⟨r0, er⟩ := List.getLast?_eq_some_iff.mp e
      refine ⟨r0, rl, er, ?_⟩
      rw [e] at h2
      cases rl with
      | jump g => exact .inl rfl
      | ret g => exact .inr rfl
      | _ => cases h2
/-! ### the three fixed shapes -/
def chainRows (m z : Nat) : List Rw := (List.range z).map (fun k => .copy ((k + 1) % m) (k % m)) ++ [.ret (z % m)]
def chainAt (m z t : Nat) : Bool := decide (wantedOf (chainRows m z) m t = [t % m]) && (decide (wayOf (chainRows m z) (t % m) t = some [t]) && decide (wayOf (chainRows m z) ((t + 1) % m) t = none))
def chainB (m z : Nat) : Bool := okB (chainRows m z) m && (List.range (z + 1)).all (chainAt m z)
def ringRows (m : Nat) : List Rw := (List.range m).map .see ++ [.jump 0]
def ringB (m : Nat) : Bool := okB (ringRows m) m && ((List.range (m + 1)).all (fun t => decide (wantedOf (ringRows m) m t = List.range m)) && (List.range m).all (fun b => decide (wayOf (ringRows m) b 0 = some (List.range (b + 1))) && (decide (wayOf (ringRows m) b m = some (m :: List.range (b + 1))) && (decide (b = 0) || decide (wayOf (ringRows m) (b - 1) b = some ((List.range (m + 1 - b)).map (b + ·) ++ List.range b))))))
def loopRows (d : Nat) : List Rw := (List.range d).map (fun k => .add (k + 1) (k + 1) 0) ++ (List.range d).map (fun k => .ifz (k + 1) (d - (k + 1))) ++ [.ret 7]
def loopDue (d : Nat) : List Nat := List.range (d + 1) ++ [7]
def loopB (d : Nat) : Bool := okB (loopRows d) 9 && ((List.range (2 * d)).all (fun t => decide (wantedOf (loopRows d) 9 t = loopDue d)) && (decide (wayOf (loopRows d) 7 0 = some (List.range (2 * d + 1))) && (decide (wayOf (loopRows d) 8 0 = none) && decide (wantedOf (loopRows d) 9 (2 * d) = [7]))))
theorem loops_all : ∀ d : Fin 6, loopB (d + 1) = true := by decide +kernel
theorem rings_all : ∀ m : Fin 9, ringB (m + 1) = true := by decide +kernel
theorem chains_all : ∀ m : Fin 7, ∀ z : Fin 30, chainB (m + 2) (z + 2) = true := by decide +kernel
end W19
set_option Elab.async false
set_option linter.all false
set_option maxRecDepth 100000
set_option maxHeartbeats 4000000
namespace W19
/-! ### the search finds a reader just if there is one -/
inductive Reach (rws : List Rw) (x : Nat) : Nat → Prop where
  | read {i : Nat} {r : Rw} (h : rws[i]? = some r) (hx : x ∈ r.reads) : Reach rws x i
  | step {i j : Nat} {r : Rw} (h : rws[i]? = some r) (hs : r.sets ≠ some x) (hj : j ∈ nextOf rws i) (hr : Reach rws x j) : Reach rws x i
structure Good (rws : List Rw) (x start : Nat) (s : List (List Nat) × List Nat) (a : Nat) : Prop where
  seen : Seen rws.length s
  lasts : s.2 = s.1.map fun w => w.getLastD 0
  start_ : start ∈ s.2
  con : ∀ g ∈ s.2, Reach rws x g → Reach rws x start
  exp : ∀ (j : Nat) w, j < a → s.1[j]? = some w → ∃ r, rws[w.getLastD 0]? = some r ∧ x ∉ r.reads ∧ (r.sets = some x ∨ ∀ g ∈ nextOf rws (w.getLastD 0), g ∈ s.2)
theorem Good.closed {rws : List Rw} {x start a : Nat} {s : List (List Nat) × List Nat} (G : Good rws x start s a) (h : s.1.length ≤ a) : ∀ {i : Nat}, Reach rws x i → i ∈ s.2 → False := by
  intro i hr
  have key : ∀ {i : Nat}, i ∈ s.2 → ∃ r, rws[i]? = some r ∧ x ∉ r.reads ∧ (r.sets = some x ∨ ∀ g ∈ nextOf rws i, g ∈ s.2) := fun {i} m => by
    rw [G.lasts] at m
    obtain ⟨w, hw, rfl⟩ := List.mem_map.mp m
    obtain ⟨j, hj, e⟩ := List.mem_iff_getElem.mp hw
    exact G.exp j w (Nat.lt_of_lt_of_le hj h) (by rw [List.getElem?_eq_getElem hj, e])
  induction hr with
  | read h1 hx =>
    intro m
    obtain ⟨r, e, h2, _⟩ := key m
    rw [h1] at e
    obtain rfl := Option.some.inj e
    exact h2 hx
  | step h1 hs hj _ ih =>
    intro m
    obtain ⟨r, e, _, h3⟩ := key m
    rw [h1] at e
    obtain rfl := Option.some.inj e
    rcases h3 with q | q
    · exact hs q
    · exact ih (q _ hj)
theorem push_mono {way : List Nat} : ∀ (gs : List Nat) (s : List (List Nat) × List Nat) (g : Nat), g ∈ s.2 → g ∈ (push way gs s).2
  | [], s, g, h => h
  | k :: gs, s, g, h => push_mono gs _ g (by
    split
    · exact h
    · exact List.mem_append_left _ h)
theorem push_in {way : List Nat} : ∀ (gs : List Nat) (s : List (List Nat) × List Nat) (g : Nat), g ∈ gs → g ∈ (push way gs s).2
  | k :: gs, s, g, h => by
    rcases List.mem_cons.mp h with rfl | q
    · refine push_mono gs _ g ?_
      split
      · assumption
      · exact List.mem_append_right _ (List.mem_singleton.mpr rfl)
    · exact push_in gs _ g q
theorem push_from {way : List Nat} : ∀ (gs : List Nat) (s : List (List Nat) × List Nat) (g : Nat), g ∈ (push way gs s).2 → g ∈ s.2 ∨ g ∈ gs
  | [], s, g, h => .inl h
  | k :: gs, s, g, h => by
    rcases push_from gs _ g h with q | q
    · split at q
      · exact .inl q
      · rcases List.mem_append.mp q with z | z
        · exact .inl z
        · exact .inr (List.mem_cons.mpr (.inl (List.mem_singleton.mp z)))
    · exact .inr (List.mem_cons_of_mem _ q)
theorem push_lasts {way : List Nat} : ∀ (gs : List Nat) (s : List (List Nat) × List Nat), s.2 = s.1.map (fun w => w.getLastD 0) → (push way gs s).2 = (push way gs s).1.map fun w => w.getLastD 0
  | [], s, h => h
  | k :: gs, s, h => push_lasts gs _ (by
    split
    · exact h
    · simp [h])
theorem push_pre {way : List Nat} : ∀ (gs : List Nat) (s : List (List Nat) × List Nat) (j : Nat), j < s.1.length → (push way gs s).1[j]? = s.1[j]?
  | [], s, j, h => rfl
  | k :: gs, s, j, h => by
    show (push way gs (if k ∈ s.2 then s else (s.1 ++ [way ++ [k]], s.2 ++ [k]))).1[j]? = s.1[j]?
    by_cases c : k ∈ s.2
    · rw [if_pos c]
      exact push_pre gs s j h
    · rw [if_neg c, push_pre gs _ j (by simp; omega)]
      exact List.getElem?_append_left h
theorem look_ok {rws : List Rw} {ns : List PySem.Str} (hO : Okay rws ns) {x start : Nat} : ∀ (f : Nat) (s : List (List Nat) × List Nat) (a : Nat), Good rws x start s a → rws.length + 1 ≤ f + a → ((look rws x f s a).isSome = true ↔ Reach rws x start)
  | 0, s, a, G, h => by
    have hle := G.seen.le
    refine ⟨fun q => ?_, fun q => ?_⟩
    · cases q
    · exact (G.closed (by omega) q G.start_).elim
  | f + 1, s, a, G, h => by
    have hle := G.seen.le
    cases e : s.1[a]? with
    | none =>
      have hn : look rws x (f + 1) s a = none := by
        unfold look
        rw [e]
      rw [hn]
      refine ⟨fun q => ?_, fun q => ?_⟩
      · cases q
      · exact (G.closed (by
          have := List.getElem?_eq_none_iff.mp e
          exact this) q G.start_).elim
    | some w =>
      have hw : w ∈ s.1 := List.mem_of_getElem? e
      have hl := G.seen.last w hw
      have ha : a < s.1.length := (List.getElem?_eq_some_iff.mp e).1
      have er : rws[w.getLastD 0]? = some rws[w.getLastD 0] := List.getElem?_eq_getElem hl
      have hm : w.getLastD 0 ∈ s.2 := by
        rw [G.lasts]
        exact List.mem_map.mpr ⟨w, hw, rfl⟩
      by_cases c1 : x ∈ rws[w.getLastD 0].reads
      · have hn : look rws x (f + 1) s a = some w := by
          unfold look
          rw [e]
          simp only [er, if_pos c1]
        rw [hn]
        exact ⟨fun _ => G.con _ hm (.read er c1), fun _ => rfl⟩
      · by_cases c2 : rws[w.getLastD 0].sets = some x
        · have hn : look rws x (f + 1) s a = look rws x f s (a + 1) := by
            conv => lhs; unfold look
            rw [e]
            simp only [er, if_neg c1, if_pos c2]
          rw [hn]
          refine look_ok hO f s (a + 1) ⟨G.seen, G.lasts, G.start_, G.con, fun j v hj ev => ?_⟩ (by omega)
          by_cases z : j < a
          · exact G.exp j v z ev
          · have ej : j = a := by omega
            rw [ej, e] at ev
            obtain rfl := Option.some.inj ev
            exact ⟨_, er, c1, .inl c2⟩
        · have hn : look rws x (f + 1) s a = look rws x f (push w (nextOf rws (w.getLastD 0)) s) (a + 1) := by
            conv => lhs; unfold look
            rw [e]
            simp only [er, if_neg c1, if_neg c2]
          rw [hn]
          refine look_ok hO f _ (a + 1) ⟨push_seen _ s (next_lt hO hl) (G.seen.short w hw) G.seen, push_lasts _ s G.lasts, push_mono _ s _ G.start_, fun g hg hr => ?_, fun j v hj ev => ?_⟩ (by omega)
          · rcases push_from _ s g hg with q | q
            · exact G.con g q hr
            · exact G.con _ hm (.step er c2 q hr)
          · have hj2 : j < s.1.length := by omega
            rw [push_pre _ s j hj2] at ev
            by_cases z : j < a
            · obtain ⟨r, e1, e2, e3⟩ := G.exp j v z ev
              exact ⟨r, e1, e2, e3.imp id fun q g hg => push_mono _ s g (q g hg)⟩
            · have ej : j = a := by omega
              rw [ej, e] at ev
              obtain rfl := Option.some.inj ev
              exact ⟨_, er, c1, .inr fun g hg => push_in _ s g hg⟩
theorem wayOf_ok {rws : List Rw} {ns : List PySem.Str} (hO : Okay rws ns) {x i : Nat} (hi : i < rws.length) : (wayOf rws x i).isSome = true ↔ Reach rws x i :=
  look_ok hO _ _ _ ⟨Seen.one hi, rfl, List.mem_singleton.mpr rfl, fun g hg hr => by
    rw [List.mem_singleton.mp hg] at hr
    exact hr, fun j w hj _ => absurd hj (Nat.not_lt_zero j)⟩ (Nat.le_refl _)
/-- a row that goes on to the next one, and neither reads nor sets x -/
theorem skip {rws : List Rw} {ns : List PySem.Str} (hO : Okay rws ns) {x i : Nat} {r : Rw} (hr : rws[i]? = some r) (h1 : x ∉ r.reads) (h2 : r.sets ≠ some x) (hn : nextOf rws i = [i + 1]) (hi : i + 1 < rws.length) : (wayOf rws x i).isSome = (wayOf rws x (i + 1)).isSome := by
  have key : Reach rws x i ↔ Reach rws x (i + 1) := by
    refine ⟨fun h => ?_, fun h => .step hr h2 (by rw [hn]; exact List.mem_singleton.mpr rfl) h⟩
    cases h with
    | read e hx =>
      rw [hr] at e
      obtain rfl := Option.some.inj e
      exact absurd hx h1
    | step e _ hj q =>
      rw [hn] at hj
      rw [← List.mem_singleton.mp hj]
      exact q
  have e1 := wayOf_ok hO (x := x) (Nat.lt_of_succ_lt hi)
  have e2 := wayOf_ok hO (x := x) hi
  cases h1 : (wayOf rws x i).isSome <;> cases h2 : (wayOf rws x (i + 1)).isSome
  · rfl
  · exact absurd (e1.mpr (key.mpr (e2.mp h2))) (by rw [h1]; decide)
  · exact absurd (e2.mpr (key.mp (e1.mp h1))) (by rw [h2]; decide)
  · rfl
theorem way_see {rws : List Rw} {t a : Nat} (h : rws[a]? = some (.see t)) : wayOf rws t a = some [a] := by
  unfold wayOf look
  simp [h, Rw.reads]
theorem way_num {rws : List Rw} {t a n : Nat} (h : rws[a]? = some (.num t n)) : wayOf rws t a = none := by
  unfold wayOf look
  simp only [List.getElem?_cons_zero, List.getLastD, List.getLast_singleton, h, Rw.reads, Rw.sets]
  simp
  cases rws.length with
  | zero => rfl
  | succ n =>
    unfold look
    rfl
end W19
set_option Elab.async false
set_option linter.all false
set_option maxRecDepth 100000
set_option maxHeartbeats 4000000
namespace W19
open PySem PySem.Spec PyProof.Rows L2
section
variable {P : Program} {w : World} {K : PySem.W.Frag} {mg : Str → Option Value} {base : Heap}

/-- a source of draws -/
def WellAt (H : Hp) (p : Addr) : Prop := ∃ a b c : Int, H p = some (.lst [.int a, .int b, .int c])
theorem fm {a : Int} {m : Nat} (h : 0 < m) : ∃ k : Nat, k < m ∧ a.fmod (m : Int) = (k : Int) := by
  have h0 : (0 : Int) < (m : Int) := by omega
  have h1 : 0 ≤ a.fmod (m : Int) := Int.fmod_nonneg_of_pos a h0
  have h2 : a.fmod (m : Int) < (m : Int) := Int.fmod_lt_of_pos a h0
  exact ⟨(a.fmod (m : Int)).toNat, by omega, by omega⟩
theorem mb1 (a : Int) : -(2 ^ 64) < a.fmod 2147483647 ∧ a.fmod 2147483647 < 2 ^ 64 := by
  have h1 : 0 ≤ a.fmod 2147483647 := Int.fmod_nonneg_of_pos a (by decide)
  have h2 : a.fmod 2147483647 < 2147483647 := Int.fmod_lt_of_pos a (by decide)
  omega
theorem mb2 (a : Int) : -(2 ^ 64) < a.fmod 2147483587 ∧ a.fmod 2147483587 < 2 ^ 64 := by
  have h1 : 0 ≤ a.fmod 2147483587 := Int.fmod_nonneg_of_pos a (by decide)
  have h2 : a.fmod 2147483587 < 2147483587 := Int.fmod_lt_of_pos a (by decide)
  omega
theorem bb (b : Bool) : -(2 ^ 64) < b2i b ∧ b2i b < 2 ^ 64 := by cases b <;> decide
def spWell : Sp := fun vs H Q _ => ∃ c : Int, vs = [.int c] ∧ ∀ p H', Same H H' → H p = none → WellAt H' p → Q (.ref p) H'
def spDraw : Sp := fun vs H Q _ => ∃ (p : Addr) (m : Nat), vs = [.ref p, .int m] ∧ WellAt H p ∧ 0 < m ∧ m ≤ 1000 ∧ ∀ (k : Nat) (H' : Hp), k < m → But p H H' → WellAt H' p → Q (.int k) H'
def spOne : Sp := fun vs H Q _ => ∃ (p l : Addr) (xs : List V), vs = [.ref p, .ref l] ∧ WellAt H p ∧ H l = some (.lst xs) ∧ l ≠ p ∧ 0 < xs.length ∧ xs.length ≤ 1000 ∧ ∀ (v : V) (H' : Hp), v ∈ xs → But p H H' → WellAt H' p → Q v H' 
theorem sc_L_well : FnScope ["_law_cell"] ["_law_cell"] (defScope s_L_well) := ⟨rfl, rfl, rfl, by decide +kernel, rfl, by decide +kernel, by decide +kernel⟩
theorem ok_L_well (T : Ctx w K mg) : Has P w K mg base 1 "_law_well" ["_law_cell"] spWell := by
  obtain ⟨fd, F⟩ := T.D_L_well
  refine ⟨⟨fd, F.ok sc_L_well (fun vs H Q E h => ?_) (fun cdv A outer s H vs Q E hr h => ?_), F.bindsN fun _ _ _ _ _ _ us hl => match us, hl with | [_], _ => rfl⟩, F.kp, T.g_L_well⟩
  · obtain ⟨c, rfl, k⟩ := h; rfl
  · obtain ⟨c, rfl, k⟩ := h
    have hu := hu_of hr
    refine ⟨_, PSs.nox (pss_one (ps_ret (pe_lst (pa_cons (pe_op op_mul (pv 0) (pe_callTy call_int1 (by rfl) T.f_int (by decide +kernel) (pa_cons (pe_cmpR op_ge (pv 0) (pe_op op_pow pe_int pe_int) (nomark _)) pa_nil))) (pa_cons (pe_op op_modN (pe_callTy call_int1 (by rfl) T.f_int (by decide +kernel) (pa_cons (pv 0) pa_nil)) pe_int) (pa_cons pe_int pa_nil)))))), ?_⟩
    refine ⟨_, rfl, _, rfl, _, _, rfl, rfl, ⟨by decide, by decide, by decide⟩, _, _, rfl, rfl, .inr ⟨_, rfl, _, _, rfl, rfl, .inr (bb _), ?_⟩⟩
    refine ⟨_, rfl, .inl ⟨_, rfl, _, _, rfl, rfl, (by show (2147483629 : Int) ≠ 0; decide), sz_of (by show 3 ≤ 100000; decide), fun l hl => k l _ (Same.new hl) hl ⟨_, _, _, upd_same⟩⟩⟩
theorem sc_L_draw : FnScope ["_law_well_here", "_law_many", "_law_mixed", "_law_figure"] ["_law_well_here", "_law_many"] (defScope s_L_draw) := ⟨rfl, rfl, rfl, by decide +kernel, rfl, by decide +kernel, by decide +kernel⟩
theorem ok_L_draw (T : Ctx w K mg) : Has P w K mg base 1 "_law_draw" ["_law_well_here", "_law_many"] spDraw := by
  obtain ⟨fd, F⟩ := T.D_L_draw
  refine ⟨⟨fd, F.ok sc_L_draw (fun vs H Q E h => ?_) (fun cdv A outer s H vs Q E hr h => ?_), F.bindsN fun _ _ _ _ _ _ us hl => match us, hl with | [_, _], _ => rfl⟩, F.kp, T.g_L_draw⟩
  · obtain ⟨p, m, rfl, hw, hm, hm2, k⟩ := h; rfl
  · obtain ⟨p, m, rfl, hw, hm, hm2, k⟩ := h
    have hu := hu_of hr
    refine ⟨_, PSs.nox (pss_cons (ps_if (pt_cmpR op_gt (pe_ix ix_list (pv 0) pe_int (fun _ _ => rfl)) pe_int (nomark _)) (pss_cons (ps_set (i := 3) sc_L_draw.nd rfl (Or.inl rfl) (pe_op op_modN (pe_callTy call_int1 (by rfl) T.f_int (by decide +kernel) (pa_cons (pe_ix ix_list (pv 0) pe_int (fun _ _ => rfl)) pa_nil)) (pv 1)))
      (pss_cons (ps_asg (pe_op op_fdivN (pe_ix ix_list (pv 0) pe_int (fun _ _ => rfl)) (pv 1)) (pg_sub (pv 0) pe_int set_list))
      (pss_one (ps_ret (pv 3))))) pss_nil)
      (pss_cons (ps_asg (pe_op op_add (pe_ix ix_list (pv 0) pe_int (fun _ _ => rfl)) pe_int) (pg_sub (pv 0) pe_int set_list))
      (pss_cons (ps_set (i := 2) sc_L_draw.nd rfl (Or.inl rfl) (pe_op op_modN (pe_callTy call_int1 (by rfl) T.f_int (by decide +kernel) (pa_cons (pe_op op_mul (pe_op op_add (pe_op op_add (pe_ix ix_list (pv 0) pe_int (fun _ _ => rfl)) (pe_op op_mul pe_int (pe_ix ix_list (pv 0) pe_int (fun _ _ => rfl)))) pe_int) pe_int) pa_nil)) pe_int))
      (pss_cons (ps_set (i := 2) sc_L_draw.nd rfl (Or.inl rfl) (pe_op op_modN (pe_callTy call_int1 (by rfl) T.f_int (by decide +kernel) (pa_cons (pe_op op_mul (pv 2) (pe_op op_add (pe_op op_fdivN (pv 2) pe_int) pe_int)) pa_nil)) pe_int))
      (pss_one (ps_ret (pe_op op_modN (pe_callTy call_int1 (by rfl) T.f_int (by decide +kernel) (pa_cons (pe_op op_fdivN (pe_op op_modN (pe_callTy call_int1 (by rfl) T.f_int (by decide +kernel) (pa_cons (pe_op op_mul (pv 2) (pe_op op_add (pe_op op_fdivN (pv 2) pe_int) pe_int)) pa_nil)) pe_int) pe_int) pa_nil)) (pv 1)))))))), ?_⟩
    obtain ⟨a, b, c, hp⟩ := hw
    have hm0 : (m : Int) ≠ 0 := by omega
    refine ⟨_, rfl, _, _, _, _, rfl, rfl, SqL.of hp, at0, _, _, rfl, rfl, _, rfl, ?_⟩
    by_cases ca : (0 : Int) < a
    · refine ifT (decide_eq_true ca) ?_
      obtain ⟨kk, hk, ek⟩ := fm (a := a) hm
      refine ⟨_, rfl, _, _, _, _, rfl, rfl, SqL.of hp, at0, .inl ⟨_, rfl, _, rfl, _, _, rfl, rfl, hm0, ?_⟩⟩
      refine ⟨_, rfl, _, _, _, _, rfl, rfl, SqL.of hp, at0, _, rfl, _, _, rfl, rfl, ⟨hm0, by omega⟩, _, rfl, p, _, 0, 0, rfl, rfl, hp, rfl, ?_⟩
      refine ⟨_, rfl, ?_⟩
      show Q (.int (a.fmod (m : Int))) _
      rw [ek]
      exact k kk _ hk But.upd ⟨_, _, _, upd_same⟩
    · refine ifF (decide_eq_false ca) ?_
      refine ⟨_, rfl, _, _, _, _, rfl, rfl, SqL.of hp, at2, _, _, rfl, rfl, _, rfl, p, _, 2, 2, rfl, rfl, hp, rfl, ?_⟩
      have hp2 : upd H p (.lst [.int a, .int b, .int (c + 1)]) p = some (.lst [.int a, .int b, .int (c + 1)]) := upd_same
      refine ⟨_, rfl, _, _, _, _, rfl, rfl, SqL.of hp2, at1, _, rfl, _, _, _, _, rfl, rfl, SqL.of hp2, at2, _, _, rfl, rfl, .inl ⟨by decide, by decide⟩, _, _, rfl, rfl, _, _, rfl, rfl, _, _, rfl, rfl, .inr ⟨by decide, by decide⟩, .inl ⟨_, rfl, _, _, rfl, rfl, (by show (2147483647 : Int) ≠ 0; decide), ?_⟩⟩
      refine ⟨_, rfl, _, rfl, _, _, rfl, rfl, ⟨by show (1021 : Int) ≠ 0; decide, by show (1021 : Int).natAbs < 1073741824; decide⟩, _, _, rfl, rfl, _, _, rfl, rfl, .inl (mb1 _), .inl ⟨_, rfl, _, _, rfl, rfl, (by show (2147483587 : Int) ≠ 0; decide), ?_⟩⟩
      refine ⟨_, rfl, _, rfl, _, _, rfl, rfl, ⟨by show (2011 : Int) ≠ 0; decide, by show (2011 : Int).natAbs < 1073741824; decide⟩, _, _, rfl, rfl, _, _, rfl, rfl, .inl (mb2 _), .inl ⟨_, rfl, _, _, rfl, rfl, (by show (2147483563 : Int) ≠ 0; decide), _, _, rfl, rfl, ⟨by show (11 : Int) ≠ 0; decide, by show (11 : Int).natAbs < 1073741824; decide⟩, .inl ⟨_, rfl, _, rfl, _, _, rfl, rfl, hm0, ?_⟩⟩⟩
      have fin : ∀ z : Int, Q (.int (z.fmod (m : Int))) (upd H p (.lst [.int a, .int b, .int (c + 1)])) := fun z => by
        obtain ⟨kk, hk, ek⟩ := fm (a := z) hm
        rw [ek]
        exact k kk _ hk But.upd ⟨_, _, _, upd_same⟩
      exact fin _
theorem sc_L_one : FnScope ["_law_well_here", "_law_some"] ["_law_well_here", "_law_some"] (defScope s_L_one) := ⟨rfl, rfl, rfl, by decide +kernel, rfl, by decide +kernel, by decide +kernel⟩
theorem ok_L_one (T : Ctx w K mg) (H_L_draw : Has P w K mg base 1 "_law_draw" ["_law_well_here", "_law_many"] spDraw) : Has P w K mg base 2 "_law_one" ["_law_well_here", "_law_some"] spOne := by
  obtain ⟨fd, F⟩ := T.D_L_one
  obtain ⟨fd_L_draw, G_L_draw, b_L_draw⟩ := H_L_draw.ex
  refine ⟨⟨fd, F.ok sc_L_one (fun vs H Q E h => ?_) (fun cdv A outer s H vs Q E hr h => ?_), F.bindsN fun _ _ _ _ _ _ us hl => match us, hl with | [_, _], _ => rfl⟩, F.kp, T.g_L_one⟩
  · obtain ⟨p, l, xs, rfl, hw, hl, hne, h0, h1, k⟩ := h; rfl
  · obtain ⟨p, l, xs, rfl, hw, hl, hne, h0, h1, k⟩ := h
    have hr_L_draw : Room 1 _ := hr.mono (by decide)
    have hu := hu_of hr
    refine ⟨_, PSs.nox (pss_one (ps_ret (pe_ix ix_list (pv 1) (pe_call G_L_draw hr_L_draw (by rfl) H_L_draw.gl H_L_draw.kp b_L_draw .nil pass0 (pa_cons (pv 0) (pa_cons (pe_callB call_len_seq (by rfl) T.f_len (by decide +kernel) (pa_cons (pv 1) pa_nil)) pa_nil))) (fun _ _ => rfl)))), ?_⟩
    refine ⟨_, rfl, _, rfl, _, rfl, _, _, rfl, .inl (SqL.of hl), p, xs.length, rfl, hw, h0, h1, fun kk H1 hk b1 w1 => ?_⟩
    have hl1 := b1 _ _ hl hne
    exact ⟨l, xs, kk, _, rfl, rfl, SqL.of hl1, atI_nat (List.getElem?_eq_getElem hk), k _ _ (List.getElem_mem hk) b1 w1⟩

end
end W19
set_option Elab.async false
set_option linter.all false
set_option maxRecDepth 100000
set_option maxHeartbeats 4000000
namespace W19
open PySem PySem.Spec PyProof.Rows L2
section
variable {P : Program} {w : World} {K : PySem.W.Frag} {mg : Str → Option Value} {base : Heap}

def spMade (K : PySem.W.Frag) : Sp := fun vs H Q _ => ∃ (ra : Addr) (m : Nat) (rs : List Addr) (rws : List Rw), vs = [.ref ra, .int m] ∧ H ra = some (.lst (rs.map V.ref)) ∧ Rows H rs rws ∧ Okay rws (names m) ∧ 1 ≤ m ∧ m ≤ 9 ∧ ∀ p H', Same H H' → SrcOk K H' p m rws → Q (.ref p) H'
theorem vn_add (j : Nat) : (("v" : Str) ++ (toString ((0 : Int) + (j : Int)) : Str)) = vn j := by
  rw [Int.zero_add]
  rfl
theorem slice0 {x : V} {xs : List V} : cutV (x :: xs) none (some 1) = [x] := by
  have e1 : HT.sIx (x :: xs).length (x :: xs).length (some 1) = 1 := by
    unfold HT.sIx
    simp
    try omega
  have e2 : HT.sIx (x :: xs).length 0 none = 0 := rfl
  unfold cutV
  rw [e1, e2]
  simp
theorem str_small {i : Int} (h0 : 0 ≤ i) (h : i < 1000) : i.natAbs.log2 < 1920 := by
  have h1 : i.natAbs < 1000 := by omega
  have h2 : i.natAbs.log2 ≤ i.natAbs := Nat.log2_le_self _
  omega
theorem names_nodup {m : Nat} (h : m ≤ 9) : (names m).Nodup := by
  have key : ∀ m : Fin 10, (names m).Nodup := by decide +kernel
  exact key ⟨m, by omega⟩
theorem names_len (m : Nat) : (names m).length = m := by
  unfold names
  rw [List.length_map, List.length_range]
theorem sc_L_made : FnScope ["_law_rows", "_law_many", "_law_titles", "_law_inputs", "_law_k", "_law_title"] ["_law_rows", "_law_many"] (defScope s_L_made) := ⟨rfl, rfl, rfl, by decide +kernel, rfl, by decide +kernel, by decide +kernel⟩
theorem ok_L_made (T : Ctx w K mg) (H_Source_init : HasM P w K mg base 8 "Source" "__init__" ["self", "classes", "functions"] (spSrcInit K)) : Has P w K mg base 10 "_law_made" ["_law_rows", "_law_many"] (spMade K) := by
  obtain ⟨fd, F⟩ := T.D_L_made
  obtain ⟨fd_Source_init, G_Source_init, b_Source_init⟩ := H_Source_init.ex
  refine ⟨⟨fd, F.ok sc_L_made (fun vs H Q E h => ?_) (fun cdv A outer s H vs Q E hr h => ?_), F.bindsN fun _ _ _ _ _ _ us hl => match us, hl with | [_, _], _ => rfl⟩, F.kp, T.g_L_made⟩
  · obtain ⟨ra, m, rs, rws, rfl, hra, hR, hO, h1, h9, k⟩ := h; rfl
  · obtain ⟨ra, m, rs, rws, rfl, hra, hR, hO, h1, h9, k⟩ := h
    have hr_Source_init : Room 9 _ := hr.mono (by decide)
    have hu := hu_of hr
    refine ⟨_, PSs.nox (pss_cons (ps_setLc (i := 2) (own := [("_law_k", 4)]) (g := gName 4) (tt := tYes) rfl sc_L_made.nd rfl rfl (sw_true rfl rfl rfl (by decide +kernel)) (pi_range1 (by rfl) T.f_range (pa_cons (pv 1) pa_nil)) (blkOk_by (N := ["_law_rows", "_law_many", "_law_titles", "_law_inputs", "_law_k", "_law_title"]) (sc := defScope s_L_made) (by decide +kernel)) (fun _ _ _ _ _ => (pg_name (i := 4) sc_L_made.nd rfl (Or.inl rfl))) (fun _ _ _ _ _ => pts_nil) (fun _ _ _ _ _ => (pe_op op_add_str pe_str (pe_callTy call_str_int (by rfl) T.f_str (by decide +kernel) (pa_cons (pv 4) pa_nil)))))
      (pss_cons (ps_setLc (i := 3) (own := [("_law_title", 5)]) (g := gName 5) (tt := tYes) rfl sc_L_made.nd rfl rfl (sw_true rfl rfl rfl (by decide +kernel)) (pi_list (pe_slice sl_list (pv 2) po_none (po_some pe_int))) (blkOk_by (N := ["_law_rows", "_law_many", "_law_titles", "_law_inputs", "_law_k", "_law_title"]) (sc := defScope s_L_made) (by decide +kernel)) (fun _ _ _ _ _ => (pg_name (i := 5) sc_L_made.nd rfl (Or.inl rfl))) (fun _ _ _ _ _ => pts_nil) (fun _ _ _ _ _ => (pe_tup (pa_cons (pv 5) (pa_cons pe_str pa_nil)))))
      (pss_one (ps_ret (pe_make T.k_Source G_Source_init hr_Source_init rfl T.g_Source b_Source_init .nil pass0 (pa_cons (pe_lst pa_nil) (pa_cons (pe_lst (pa_cons (pe_tup (pa_cons pe_str (pa_cons (pv 3) (pa_cons (pe_lc (own := [("_law_title", 5)]) (g := gName 5) (tt := tYes) rfl sc_L_made.nd (pi_list (pe_slice sl_list (pv 2) (po_some pe_int) po_none)) (blkOk_by (N := ["_law_rows", "_law_many", "_law_titles", "_law_inputs", "_law_k", "_law_title"]) (sc := defScope s_L_made) (by decide +kernel)) (fun _ _ _ _ _ => (pg_name (i := 5) sc_L_made.nd rfl (Or.inl rfl))) (fun _ _ _ _ _ => pts_nil) (fun _ _ _ _ _ => (pe_tup (pa_cons (pv 5) (pa_cons pe_str pa_nil))))) (pa_cons pe_str (pa_cons (pv 0) pa_nil)))))) pa_nil)) pa_nil))))))), ?_⟩
    refine ⟨_, rfl, m, rfl, by omega, by omega, fun D hD => ?_⟩
    have etn : ((m : Int)).toNat = m := by omega
    refine lc_pure (walk_range (lo := 0) (n := (m : Int).toNat)) hD sv (by omega) (fun _ _ => trivial) (fun i H1 y H2 hi s1 hy Qe qe => ?_) (fun H1 s1 h1 => ?_)
    · obtain ⟨rfl, rfl⟩ := hy
      refine ⟨rfl, _, rfl, _, rfl, str_small (by omega) (by omega), _, _, rfl, rfl, ?_, ?_⟩
      · have key : ∀ i : Fin 9, ("v" : Str).length + ((toString ((0 : Int) + ((i : Nat) : Int))) : Str).length ≤ 100000 := by decide +kernel
        exact sz_of (key ⟨i, by omega⟩)
      · show Qe (.str (("v" : Str) ++ ((toString ((0 : Int) + (i : Int))) : Str))) _
        rw [vn_add]
        exact qe _ (Same.refl _)
    rw [etn] at h1
    obtain ⟨n, rfl⟩ : ∃ n, m = n + 1 := ⟨m - 1, by omega⟩
    have hr0 : (List.range (n + 1)).map sv = sv 0 :: (List.range n).map (fun i => sv (i + 1)) := by
      rw [List.range_succ_eq_map, List.map_cons, List.map_map]
      rfl
    rw [hr0] at h1
    have hnames : names (n + 1) = [vn 0] ++ (List.range n).map (fun i => vn (i + 1)) := by
      unfold names
      rw [List.range_succ_eq_map, List.map_cons, List.map_map]
      rfl
    refine ⟨_, rfl, 1, rfl, D, _, rfl, SqL.of h1, fun sl hsl => ⟨sl, rfl, ⟨_, SqL.of upd_same⟩, fun D2 hD2 => ?_⟩⟩
    rw [slice0] at hD2 ⊢
    refine lc_tups (walk_list (K := K) (a := sl) (xs := [sv 0])) hD2 (fun i => [.str (vn 0), .str "number"]) (by show 1 < 100000; decide) (fun H2 s2 => SqL.of (s2 _ _ upd_same)) (fun i H2 y H3 hi s2 hy Qe qe => ?_) (fun H2 qs s2 hq hqs h2 => ?_)
    · obtain ⟨rfl, hy⟩ := hy
      have i0 : i = 0 := by
        have : i < 1 := hi
        omega
      subst i0
      obtain rfl : sv 0 = y := Option.some.inj hy
      exact ⟨rfl, _, rfl, sz_of (by show 2 ≤ 100000; decide), fun p hp => qe p _ (Same.new hp) upd_same⟩
    have s12 := s1.trans ((Same.new (o := .lst [sv 0]) hsl).trans s2)
    have hD2' := ((Same.new (o := .lst [sv 0]) hsl).trans s2) _ _ h1
    have P1 : Pairs H2 qs [vn 0] := ⟨hq, fun i p x e1 e2 => by
      have : i = 0 := by
        have := (List.getElem?_eq_some_iff.mp e2).1
        simp at this
        exact this
      subst this
      obtain rfl : vn 0 = x := Option.some.inj e2
      exact hqs 0 p e1⟩
    refine ⟨sz_of (by show 0 ≤ 100000; decide), fun ca hca => ?_⟩
    have s3 := Same.new (o := .lst []) hca
    refine ⟨_, rfl, _, rfl, 1, rfl, D, _, rfl, SqL.of (s3 _ _ hD2'), fun sl2 hsl2 => ⟨sl2, rfl, ⟨_, SqL.of upd_same⟩, fun D3 hD3 => ?_⟩⟩
    rw [slice1.1] at hD3 ⊢
    refine lc_tups (walk_list (K := K) (a := sl2) (xs := (List.range n).map (fun i => sv (i + 1)))) hD3 (fun i => [.str (vn (i + 1)), .str "number"]) (by rw [List.length_map, List.length_range]; omega) (fun H4 s4 => SqL.of (s4 _ _ upd_same)) (fun i H4 y H5 hi s4 hy Qe qe => ?_) (fun H4 qs2 s4 hq2 hqs2 h4 => ?_)
    · obtain ⟨rfl, hy⟩ := hy
      rw [List.length_map, List.length_range] at hi
      have ey : y = sv (i + 1) := by
        have hy2 : ((List.range n).map (fun i => sv (i + 1)))[i]? = some y := hy
        rw [List.getElem?_map, List.getElem?_range hi] at hy2
        exact (Option.some.inj hy2).symm
      subst ey
      exact ⟨rfl, _, rfl, sz_of (by show 2 ≤ 100000; decide), fun p hp => qe p _ (Same.new hp) upd_same⟩
    have s34 := s3.trans ((Same.new (o := .lst ((List.range n).map (fun i => sv (i + 1)))) hsl2).trans s4)
    rw [List.length_map, List.length_range] at hq2
    have P2 : Pairs H4 qs2 ((List.range n).map (fun i => vn (i + 1))) := ⟨by rw [hq2, List.length_map, List.length_range], fun i p x e1 e2 => by
      have hi : i < n := by
        have := (List.getElem?_eq_some_iff.mp e2).1
        rw [List.length_map, List.length_range] at this
        exact this
      rw [List.getElem?_map, List.getElem?_range hi] at e2
      obtain rfl := Option.some.inj e2
      exact hqs2 i p e1⟩
    refine ⟨_, rfl, sz_of (by show 5 ≤ 100000; decide), fun e he => ?_⟩
    refine ⟨sz_of (by show 1 ≤ 100000; decide), fun fa hfa => ?_⟩
    intro x dx nx ndx nxd
    have s5 := Same.new (o := .tup [.str "f", .ref D2, .ref D3, .str "number", .ref ra]) he
    have s6 := Same.new (o := .lst [.ref e]) hfa
    have s7 := (Same.new (o := .own x) ndx).trans (Same.new (o := .ins (He.ga K "Source") dx []) (show upd _ dx (.own x) x = none by rw [upd_ne nxd.symm]; exact nx))
    have s57 := s5.trans (s6.trans s7)
    have sall : Same H _ := s12.trans (s34.trans s57)
    have hnd : ([vn 0] ++ (List.range n).map (fun i => vn (i + 1))).Nodup := by
      rw [← hnames]
      exact names_nodup h9
    have hnam : ∀ z ∈ [vn 0] ++ (List.range n).map (fun i => vn (i + 1)), Nam z := by
      rw [← hnames]
      intro z hz
      obtain ⟨j, hj, rfl⟩ := List.mem_map.mp hz
      exact nam_all j (by have := List.mem_range.mp hj; omega)
    have hlr : rs.length = rws.length := hR.len
    have hlen1 : 1 ≤ rws.length := by
      obtain ⟨r0, rl, er, _⟩ := hO.last
      rw [er]
      simp
    refine ⟨x, dx, ca, fa, e, D2, D3, ra, qs, qs2, [vn 0], (List.range n).map (fun i => vn (i + 1)), rs, rws, rfl, upd_same, s57 _ _ (((Same.new (o := .lst ((List.range n).map (fun i => sv (i + 1)))) hsl2).trans s4) _ _ upd_same), s7 _ _ upd_same, ⟨(s6.trans s7) _ _ upd_same, (s34.trans s57) _ _ h2, P1.mono (s34.trans s57), s57 _ _ h4, P2.mono s57, hnam, hnd, by simp, by simp, by rw [List.length_map, List.length_range]; omega, sall _ _ hra, by rw [List.length_map]; omega, by rw [List.length_map]; have := hO.le; omega⟩, hR.mono sall, by rw [← hnames]; exact hO, fun H8 fd fp fs b8 S8 B8 => ⟨rfl, k x H8 ?_ ⟨dx, fd, fp, fs, S8, by rw [hnames]; exact B8, hO, h9⟩⟩⟩
    intro b u q
    refine b8 _ _ (sall _ _ q) (fun z => ?_)
    have q2 := (s12.trans (s34.trans (s5.trans s6))) _ _ q
    rw [z, nx] at q2
    cases q2

end
end W19
set_option Elab.async false
set_option linter.all false
set_option maxRecDepth 100000
set_option maxHeartbeats 4000000
namespace W19
open PySem PySem.Spec PyProof.Rows L2
section
variable {P : Program} {w : World} {K : PySem.W.Frag} {mg : Str → Option Value} {base : Heap}

/-! ### comparing lists of names, of numbers -/
def strD (l : List Nat) : PyData := .list (l.map fun k => .str (vn k))
def intD (l : List Nat) : PyData := .list (l.map fun (k : Nat) => .int (k : Int))
theorem vn_lay {k : Nat} (h : k < 9) : PyData.strOk (vn k) = true := by
  have q : ∀ k : Fin 9, PyData.strOk (vn k) = true := by decide +kernel
  exact q ⟨k, h⟩
theorem str_lay : ∀ {l : List Nat}, (∀ k ∈ l, k < 9) → PyData.canLayAll0 (l.map fun k => PyData.str (vn k)) = true ∧ PyData.depthAll (l.map fun k => PyData.str (vn k)) = 0
  | [], _ => ⟨rfl, rfl⟩
  | a :: l, h => by
    obtain ⟨h1, h2⟩ := str_lay (l := l) fun k m => h k (List.mem_cons_of_mem _ m)
    rw [List.map_cons, PyData.canLayAll0, PyData.depthAll, h1, h2, PyData.canLay0, PyData.depth, vn_lay (h a List.mem_cons_self)]
    exact ⟨rfl, rfl⟩
theorem int_lay : ∀ {l : List Nat}, PyData.canLayAll0 (l.map fun (k : Nat) => PyData.int (k : Int)) = true ∧ PyData.depthAll (l.map fun (k : Nat) => PyData.int (k : Int)) = 0
  | [] => ⟨rfl, rfl⟩
  | a :: l => by
    obtain ⟨h1, h2⟩ := int_lay (l := l)
    rw [List.map_cons, PyData.canLayAll0, PyData.depthAll, h1, h2, PyData.canLay0, PyData.depth]
    exact ⟨rfl, rfl⟩
theorem shaped_flat {ds : List PyData} (h : PyData.canLayAll0 ds = true ∧ PyData.depthAll ds = 0) : SeqAt.shaped (.list ds) = true := by
  unfold SeqAt.shaped
  rw [PyData.canLay0, PyData.depth, h.1, h.2]
  rfl
theorem strD_ok {l : List Nat} (h : ∀ k ∈ l, k < 9) : SeqAt.shaped (strD l) = true := shaped_flat (str_lay h)
theorem intD_ok {l : List Nat} : SeqAt.shaped (intD l) = true := shaped_flat int_lay
theorem dpS {H : Hp} {a : Addr} {l : List Nat} (h : H a = some (.lst (l.map sv))) : Dp K H (.ref a) (strD l) := by
  refine .lst (SqL.of h) ?_
  clear h
  induction l with
  | nil => exact .nil
  | cons x l ih => exact .cons (.str _) ih
theorem dpI {H : Hp} {a : Addr} {l : List Nat} (h : H a = some (.lst (l.map nI))) : Dp K H (.ref a) (intD l) := by
  refine .lst (SqL.of h) ?_
  clear h
  induction l with
  | nil => exact .nil
  | cons x l ih => exact .cons (.int _) ih
theorem self_eq {d : PyData} (h : SeqAt.shaped d = true) : PyData.eqv d d = true := SeqAt.eqv_refl d (SeqAt.canLay_of_shaped h)
theorem neS {H : Hp} {Q : VK} {a b : Addr} {l : List Nat} (h : ∀ k ∈ l, k < 9) (ha : H a = some (.lst (l.map sv))) (hb : H b = some (.lst (l.map sv))) (q : Q (.bl false) H) : rNeD K (.ref a) (.ref b) H Q :=
  ⟨_, _, dpS ha, dpS hb, strD_ok h, strD_ok h, by rw [self_eq (strD_ok h)]; exact q⟩
theorem neI {H : Hp} {Q : VK} {a b : Addr} {l : List Nat} (ha : H a = some (.lst (l.map nI))) (hb : H b = some (.lst (l.map nI))) (q : Q (.bl false) H) : rNeD K (.ref a) (.ref b) H Q :=
  ⟨_, _, dpI ha, dpI hb, intD_ok, intD_ok, by rw [self_eq intD_ok]; exact q⟩
theorem eqS {H : Hp} {Q : VK} {a b : Addr} {l : List Nat} (h : ∀ k ∈ l, k < 9) (ha : H a = some (.lst (l.map sv))) (hb : H b = some (.lst (l.map sv))) (q : Q (.bl true) H) : rEqD K (.ref a) (.ref b) H Q :=
  ⟨_, _, dpS ha, dpS hb, strD_ok h, strD_ok h, by rw [self_eq (strD_ok h)]; exact q⟩
theorem eqI {H : Hp} {Q : VK} {a b : Addr} {l : List Nat} (ha : H a = some (.lst (l.map nI))) (hb : H b = some (.lst (l.map nI))) (q : Q (.bl true) H) : rEqD K (.ref a) (.ref b) H Q :=
  ⟨_, _, dpI ha, dpI hb, intD_ok, intD_ok, by rw [self_eq intD_ok]; exact q⟩
theorem wayI {H : Hp} {v : V} {w : List Nat} (h : WayV (some w) v H) : ∃ a, v = .ref a ∧ H a = some (.lst (w.map nI)) := h
theorem fmN {z d : Int} {i m : Nat} (e : z = (i : Int)) (e2 : d = (m : Int)) : z.fmod d = ((i % m : Nat) : Int) := by
  rw [e, e2]
  exact (Int.ofNat_fmod i m).symm
theorem vsz {k : Nat} (hk : k < 9) : ("v" : Str).length + ((toString (k : Int)) : Str).length ≤ sizeLine := by
  have key : ∀ i : Fin 9, ("v" : Str).length + ((toString ((i : Nat) : Int)) : Str).length ≤ 100000 := by decide +kernel
  exact sz_of (key ⟨k, hk⟩)
theorem vsm {k : Nat} (hk : k < 9) : (k : Int).natAbs.log2 < 1920 := str_small (by omega) (by omega)
theorem rgV_nat {a b : Int} {i n : Nat} (h1 : a = (i : Int)) (h2 : b = ((i + n : Nat) : Int)) : rgV a b = ((List.range n).map (i + ·)).map nI := by
  unfold rgV
  have e : (b - a).toNat = n := by omega
  rw [e, List.map_map]
  refine List.map_congr_left fun j _ => ?_
  show V.int _ = V.int _
  rw [h1]
  congr 1
theorem rgV_0 {b : Int} {n : Nat} (h2 : b = (n : Int)) : rgV 0 b = (List.range n).map nI := by
  rw [rgV_nat (a := 0) (i := 0) (n := n) rfl (by omega)]
  simp
theorem rows_of {H : Hp} {qs : List Addr} {n : Nat} {g : Nat → Rw} (hl : qs.length = n) (h : ∀ (i : Nat) (q : Addr), qs[i]? = some q → H q = some (.tup (Rw.vals (g i)))) : Rows H qs ((List.range n).map g) := by
  refine ⟨by rw [hl, List.length_map, List.length_range], fun i a r e1 e2 => ?_⟩
  have hi : i < n := by
    rw [← hl]
    exact (List.getElem?_eq_some_iff.mp e1).1
  rw [List.getElem?_map, List.getElem?_range hi] at e2
  rw [← Option.some.inj e2]
  exact h i a e1
theorem Rows.append {H : Hp} {qs rs : List Addr} {as bs : List Rw} (h : Rows H qs as) (h2 : Rows H rs bs) : Rows H (qs ++ rs) (as ++ bs) := by
  refine ⟨by rw [List.length_append, List.length_append, h.len, h2.len], fun i a r e1 e2 => ?_⟩
  by_cases hi : i < qs.length
  · rw [List.getElem?_append_left hi] at e1
    rw [List.getElem?_append_left (by rw [← h.len]; exact hi)] at e2
    exact h.at_ i a r e1 e2
  · rw [List.getElem?_append_right (by omega)] at e1
    rw [List.getElem?_append_right (by rw [← h.len]; omega), ← h.len] at e2
    exact h2.at_ _ a r e1 e2
theorem Rows.one {H : Hp} {q : Addr} {r : Rw} (h : H q = some (.tup r.vals)) : Rows H [q] [r] := by
  refine ⟨rfl, fun i a s e1 e2 => ?_⟩
  have hi := (List.getElem?_eq_some_iff.mp e1).1
  simp at hi
  subst hi
  rw [← Option.some.inj e1, ← Option.some.inj e2]
  exact h
theorem chain_at {m z : Nat} (hm : 2 ≤ m) (hm2 : m ≤ 8) (hz : 2 ≤ z) (hz2 : z ≤ 31) : Okay (chainRows m z) (names m) ∧ (chainRows m z).length = z + 1 ∧ ∀ t, t < z + 1 → wantedOf (chainRows m z) m t = [t % m] ∧ wayOf (chainRows m z) (t % m) t = some [t] ∧ wayOf (chainRows m z) ((t + 1) % m) t = none := by
  have q := chains_all ⟨m - 2, by omega⟩ ⟨z - 2, by omega⟩
  have e1 : m - 2 + 2 = m := by omega
  have e2 : z - 2 + 2 = z := by omega
  simp only [e1, e2] at q
  unfold chainB at q
  obtain ⟨q1, q2⟩ := Bool.and_eq_true_iff.mp q
  refine ⟨okB_ok q1, by unfold chainRows; simp, fun t ht => ?_⟩
  have q3 := List.all_eq_true.mp q2 t (List.mem_range.mpr ht)
  unfold chainAt at q3
  simp only [Bool.and_eq_true, decide_eq_true_eq] at q3
  exact ⟨q3.1, q3.2.1, q3.2.2⟩
def spRight : Sp := fun vs H Q _ => ∃ p : Addr, vs = [.ref p] ∧ WellAt H p ∧ ∀ H', But p H H' → WellAt H' p → Q (.bl true) H' 
theorem sc_L_chain_right : FnScope ["_law_well_here", "_law_many", "_law_size", "_law_rows", "_law_prog", "_law_at", "_law_k"] ["_law_well_here"] (defScope s_L_chain_right) := ⟨rfl, rfl, rfl, by decide +kernel, rfl, by decide +kernel, by decide +kernel⟩
theorem ok_L_chain_right (T : Ctx w K mg) (H_L_draw : Has P w K mg base 1 "_law_draw" ["_law_well_here", "_law_many"] spDraw) (H_L_made : Has P w K mg base 10 "_law_made" ["_law_rows", "_law_many"] (spMade K)) (H_wanted : Has P w K mg base 5 "wanted" ["source", "name", "row"] (spWanted K)) (H_wanting : Has P w K mg base 5 "wanting" ["source", "name", "row", "variable"] (spWanting K)) : Has P w K mg base 11 "_law_chain_right" ["_law_well_here"] spRight := by
  obtain ⟨fd, F⟩ := T.D_L_chain_right
  obtain ⟨fd_L_draw, G_L_draw, b_L_draw⟩ := H_L_draw.ex
  obtain ⟨fd_L_made, G_L_made, b_L_made⟩ := H_L_made.ex
  obtain ⟨fd_wanted, G_wanted, b_wanted⟩ := H_wanted.ex
  obtain ⟨fd_wanting, G_wanting, b_wanting⟩ := H_wanting.ex
  refine ⟨⟨fd, F.ok sc_L_chain_right (fun vs H Q E h => ?_) (fun cdv A outer s H vs Q E hr h => ?_), F.bindsN fun _ _ _ _ _ _ us hl => match us, hl with | [_], _ => rfl⟩, F.kp, T.g_L_chain_right⟩
  · obtain ⟨p, rfl, hw, k⟩ := h; rfl
  · obtain ⟨p, rfl, hw, k⟩ := h
    have hr_L_draw : Room 1 _ := hr.mono (by decide)
    have hr_L_made : Room 10 _ := hr.mono (by decide)
    have hr_wanted : Room 5 _ := hr.mono (by decide)
    have hr_wanting : Room 5 _ := hr.mono (by decide)
    have hu := hu_of hr
    refine ⟨_, PSs.nox (pss_cons (ps_asg (pe_tup (pa_cons (pe_op op_add pe_int (pe_call G_L_draw hr_L_draw (by rfl) H_L_draw.gl H_L_draw.kp b_L_draw .nil pass0 (pa_cons (pv 0) (pa_cons pe_int pa_nil)))) (pa_cons (pe_op op_add pe_int (pe_call G_L_draw hr_L_draw (by rfl) H_L_draw.gl H_L_draw.kp b_L_draw .nil pass0 (pa_cons (pv 0) (pa_cons pe_int pa_nil)))) pa_nil))) (pg_tup rfl (pgs_cons (pg_name (i := 1) sc_L_chain_right.nd rfl (Or.inr rfl)) (pgs_cons (pg_name (i := 2) sc_L_chain_right.nd rfl (Or.inl rfl)) pgs_nil))))
      (pss_cons (ps_setLc (i := 3) (own := [("_law_k", 6)]) (g := gName 6) (tt := tYes) rfl sc_L_chain_right.nd rfl rfl (sw_true rfl rfl rfl (by decide +kernel)) (pi_range1 (by rfl) T.f_range (pa_cons (pv 2) pa_nil)) (blkOk_by (N := ["_law_well_here", "_law_many", "_law_size", "_law_rows", "_law_prog", "_law_at", "_law_k"]) (sc := defScope s_L_chain_right) (by decide +kernel)) (fun _ _ _ _ _ => (pg_name (i := 6) sc_L_chain_right.nd rfl (Or.inl rfl))) (fun _ _ _ _ _ => pts_nil) (fun _ _ _ _ _ => (pe_tup (pa_cons pe_str (pa_cons (pe_op op_add_str pe_str (pe_callTy call_str_int (by rfl) T.f_str (by decide +kernel) (pa_cons (pe_op op_modN (pe_callTy call_int1 (by rfl) T.f_int (by decide +kernel) (pa_cons (pe_op op_add (pv 6) pe_int) pa_nil)) (pv 1)) pa_nil))) (pa_cons (pe_op op_add_str pe_str (pe_callTy call_str_int (by rfl) T.f_str (by decide +kernel) (pa_cons (pe_op op_modN (pe_callTy call_int1 (by rfl) T.f_int (by decide +kernel) (pa_cons (pv 6) pa_nil)) (pv 1)) pa_nil))) pa_nil))))))
      (pss_cons (ps_set (i := 4) sc_L_chain_right.nd rfl (Or.inl rfl) (pe_call G_L_made hr_L_made (by rfl) H_L_made.gl H_L_made.kp b_L_made .nil pass0 (pa_cons (pe_op op_cat (pv 3) (pe_lst (pa_cons (pe_tup (pa_cons pe_str (pa_cons (pe_op op_add_str pe_str (pe_callTy call_str_int (by rfl) T.f_str (by decide +kernel) (pa_cons (pe_op op_modN (pe_callTy call_int1 (by rfl) T.f_int (by decide +kernel) (pa_cons (pv 2) pa_nil)) (pv 1)) pa_nil))) pa_nil))) pa_nil))) (pa_cons (pv 1) pa_nil))))
      (pss_cons (ps_for PassesOwn.never rfl (pi_range1 (by rfl) T.f_range (pa_cons (pe_op op_add (pv 2) pe_int) pa_nil)) (pg_name (i := 5) sc_L_chain_right.nd rfl (Or.inl rfl))
      (pss_cons (ps_if (pt_cmpR (op_neD hr.units) (pe_call G_wanted hr_wanted (by rfl) H_wanted.gl H_wanted.kp b_wanted .nil pass0 (pa_cons (pv 4) (pa_cons pe_str (pa_cons (pv 5) pa_nil)))) (pe_lst (pa_cons (pe_op op_add_str pe_str (pe_callTy call_str_int (by rfl) T.f_str (by decide +kernel) (pa_cons (pe_op op_modN (pe_callTy call_int1 (by rfl) T.f_int (by decide +kernel) (pa_cons (pv 5) pa_nil)) (pv 1)) pa_nil))) pa_nil)) (nomark _)) (pss_one (ps_ret pe_bl)) pss_nil)
      (pss_cons (ps_if (pt_cmpR (op_neD hr.units) (pe_call G_wanting hr_wanting (by rfl) H_wanting.gl H_wanting.kp b_wanting .nil pass0 (pa_cons (pv 4) (pa_cons pe_str (pa_cons (pv 5) (pa_cons (pe_op op_add_str pe_str (pe_callTy call_str_int (by rfl) T.f_str (by decide +kernel) (pa_cons (pe_op op_modN (pe_callTy call_int1 (by rfl) T.f_int (by decide +kernel) (pa_cons (pv 5) pa_nil)) (pv 1)) pa_nil))) pa_nil))))) (pe_lst (pa_cons (pv 5) pa_nil)) (nomark _)) (pss_one (ps_ret pe_bl)) pss_nil)
      (pss_one (ps_if (pt_cmpR op_notN (pe_call G_wanting hr_wanting (by rfl) H_wanting.gl H_wanting.kp b_wanting .nil pass0 (pa_cons (pv 4) (pa_cons pe_str (pa_cons (pv 5) (pa_cons (pe_op op_add_str pe_str (pe_callTy call_str_int (by rfl) T.f_str (by decide +kernel) (pa_cons (pe_op op_modN (pe_callTy call_int1 (by rfl) T.f_int (by decide +kernel) (pa_cons (pe_op op_add (pv 5) pe_int) pa_nil)) (pv 1)) pa_nil))) pa_nil))))) pe_non (nomark _)) (pss_one (ps_ret pe_bl)) pss_nil)))))
      (pss_one (ps_ret pe_bl)))))), ?_⟩
    refine ⟨_, rfl, p, 7, rfl, hw, by decide, by decide, fun k1 H1 hk1 b1 w1 => ?_⟩
    refine ⟨_, _, rfl, rfl, _, rfl, p, 30, rfl, w1, by decide, by decide, fun k2 H2 hk2 b2 w2 => ?_⟩
    refine ⟨_, _, rfl, rfl, sz_of (by show 2 ≤ 100000; decide), fun tp htp => ⟨tp, _, rfl, SqT.of upd_same, rfl, _, _, rfl, _, _, rfl, rfl, ?_⟩⟩
    obtain ⟨m, em, m2, m9⟩ : ∃ m : Nat, (2 : Int) + (k1 : Int) = (m : Int) ∧ 2 ≤ m ∧ m ≤ 8 := ⟨k1 + 2, by omega, by omega, by omega⟩
    obtain ⟨z, ez, z2, z9⟩ : ∃ z : Nat, (2 : Int) + (k2 : Int) = (z : Int) ∧ 2 ≤ z ∧ z ≤ 31 := ⟨k2 + 2, by omega, by omega, by omega⟩
    have nz : (m : Int) ≠ 0 := by omega
    have ml : ∀ i : Nat, i % m < 9 := fun i => Nat.lt_of_lt_of_le (Nat.mod_lt _ (by omega)) (by omega)
    dsimp only
    rw [em, ez]
    have etn : (z : Int).toNat = z := by omega
    refine ⟨_, rfl, _, rfl, by omega, by omega, fun D hD => ?_⟩
    refine lc_tups (walk_range (lo := 0) (n := (z : Int).toNat)) hD (fun i => Rw.vals (.copy ((i + 1) % m) (i % m))) (by omega) (fun _ _ => trivial) (fun i H3 y H4 hi s3 hy Qe qe => ?_) (fun H3 qs s3 hq hqs h3 => ?_)
    · obtain ⟨rfl, rfl⟩ := hy
      refine ⟨rfl, _, rfl, _, _, rfl, rfl, .inl ⟨_, rfl, _, rfl, _, _, rfl, rfl, nz, ?_⟩⟩
      dsimp only
      rw [fmN (i := i + 1) (m := m) (by omega) rfl]
      refine ⟨_, rfl, vsm (ml _), _, _, rfl, rfl, vsz (ml _), ?_⟩
      refine ⟨_, rfl, .inl ⟨_, rfl, _, rfl, _, _, rfl, rfl, nz, ?_⟩⟩
      dsimp only
      rw [fmN (i := i) (m := m) (by omega) rfl]
      refine ⟨_, rfl, vsm (ml _), _, _, rfl, rfl, vsz (ml _), sz_of (by show 3 ≤ 100000; decide), fun q hq => qe q _ (Same.new hq) upd_same⟩
    rw [etn] at hq
    obtain ⟨hO, hlen, facts⟩ := chain_at m2 m9 z2 z9
    refine ⟨_, rfl, _, rfl, .inl ⟨_, rfl, _, rfl, _, _, rfl, rfl, nz, ?_⟩⟩
    dsimp only
    rw [fmN (i := z) (m := m) rfl rfl]
    refine ⟨_, rfl, vsm (ml _), _, _, rfl, rfl, vsz (ml _), sz_of (by show 2 ≤ 100000; decide), fun rp hrp => ⟨sz_of (by show 1 ≤ 100000; decide), fun rl hrl => ?_⟩⟩
    have s4 := Same.new (o := .tup (Rw.vals (.ret (z % m)))) hrp
    have s5 := Same.new (o := .lst [.ref rp]) hrl
    refine ⟨D, rl, _, _, rfl, rfl, (s4.trans s5) _ _ h3, upd_same, sz_of (by simp; omega), fun cp hcp => ?_⟩
    have s6 := Same.new (o := .lst (qs.map V.ref ++ [.ref rp])) hcp
    have s36 := s4.trans (s5.trans s6)
    refine ⟨_, rfl, cp, m, qs ++ [rp], chainRows m z, rfl, ?_, ?_, hO, by omega, by omega, fun q H4 s7 src => ?_⟩
    · rw [List.map_append]
      exact upd_same
    · unfold chainRows
      exact ((rows_of (g := fun i => .copy ((i + 1) % m) (i % m)) hq hqs).mono s36).append (Rows.one ((s5.trans s6) _ _ upd_same))
    have s24 := (Same.new htp).trans (s3.trans (s36.trans s7))
    refine ⟨_, rfl, _, _, rfl, rfl, _, rfl, by omega, by omega, ?_⟩
    refine for_it (walk_range (lo := 0) (n := ((z : Int) + 1).toNat)) (fun t σ H5 => Same H4 H5 ∧ ∃ v w : Option V, σ = [some (.ref p), some (.int m), some (.int z), some (.ref D), some (.ref q), v, w]) ⟨Same.refl _, none, none, rfl⟩ (fun _ _ _ _ _ => trivial) ?_ ?_
    · rintro t y σ H5 H6 ht ⟨s8, v5, v6, rfl⟩ ⟨rfl, hy⟩
      have ey : y = .int (t : Int) := hy.trans (by show V.int (0 + (t : Int)) = _; rw [Int.zero_add])
      subst ey
      have ht2 : t < z + 1 := by omega
      obtain ⟨f1, f2, f3⟩ := facts t ht2
      have hlt : t < (chainRows m z).length := by omega
      have mlt : ∀ i : Nat, i % m < m := fun i => Nat.mod_lt _ (by omega)
      refine ⟨_, rfl, _, rfl, q, t, m, _, rfl, src.mono s8, hlt, fun q1 H7 s9 hq1 h7 => ?_⟩
      rw [f1] at h7
      refine ⟨_, rfl, .inl ⟨_, rfl, _, rfl, _, _, rfl, rfl, nz, ?_⟩⟩
      dsimp only
      rw [fmN (i := t) (m := m) rfl rfl]
      refine ⟨_, rfl, vsm (ml _), _, _, rfl, rfl, vsz (ml _), sz_of (by show 1 ≤ 100000; decide), fun l1 hl1 => neS (l := [t % m]) (fun k hk => by rw [List.mem_singleton.mp hk]; exact ml _) (Same.new hl1 _ _ h7) upd_same ⟨_, rfl, ifF rfl ?_⟩⟩
      have s10 := s8.trans (s9.trans (Same.new (o := .lst [sv (t % m)]) hl1))
      refine ⟨_, rfl, _, rfl, _, rfl, .inl ⟨_, rfl, _, rfl, _, _, rfl, rfl, nz, ?_⟩⟩
      dsimp only
      rw [fmN (i := t) (m := m) rfl rfl]
      refine ⟨_, rfl, vsm (ml _), _, _, rfl, rfl, vsz (ml _), q, t, t % m, m, _, rfl, src.mono s10, hlt, mlt _, fun v H8 s11 hv => ?_⟩
      rw [f2] at hv
      obtain ⟨a, rfl, ha⟩ := wayI hv
      refine ⟨_, rfl, sz_of (by show 1 ≤ 100000; decide), fun l2 hl2 => neI (l := [t]) (Same.new hl2 _ _ ha) upd_same ⟨_, rfl, ifF rfl ?_⟩⟩
      have s12 := s10.trans (s11.trans (Same.new (o := .lst [nI t]) hl2))
      refine ⟨_, rfl, _, rfl, _, rfl, _, _, rfl, rfl, .inl ⟨_, rfl, _, rfl, _, _, rfl, rfl, nz, ?_⟩⟩
      dsimp only
      rw [fmN (i := t + 1) (m := m) (by omega) rfl]
      refine ⟨_, rfl, vsm (ml _), _, _, rfl, rfl, vsz (ml _), q, t, (t + 1) % m, m, _, rfl, src.mono s12, hlt, mlt _, fun v H9 s13 hv => ?_⟩
      rw [f3] at hv
      have hv2 : v = .non := hv
      subst hv2
      exact ⟨rfl, _, rfl, ifF rfl ⟨s12.trans s13, _, _, rfl⟩⟩
    · rintro σ H5 ⟨s8, v5, v6, rfl⟩
      have sf := s24.trans s8
      refine k _ (b1.trans (b2.trans (But.of sf))) ?_
      obtain ⟨a, b, c, e⟩ := w2
      exact ⟨a, b, c, sf _ _ e⟩

end
end W19
set_option Elab.async false
set_option linter.all false
set_option maxRecDepth 100000
set_option maxHeartbeats 4000000
namespace W19
open PySem PySem.Spec PyProof.Rows L2
section
variable {P : Program} {w : World} {K : PySem.W.Frag} {mg : Str → Option Value} {base : Heap}

theorem sorted_same : ∀ {l l' : List Nat}, l.Perm l' → l.Pairwise (· ≤ ·) → l'.Pairwise (· ≤ ·) → l = l' :=
  fun p h1 h2 => List.Perm.eq_of_pairwise (fun x y _ _ h1 h2 => Nat.le_antisymm h1 h2) h1 h2 p
theorem sortedV {l l' : List Nat} {ys : List Str} (h9 : ∀ b ∈ l, b < 9) (p : ys.Perm (l.map vn)) (s : sortedS ys = true) (hp : l'.Perm l) (hs : l'.Pairwise (· ≤ ·)) : ys.map V.str = l'.map sv := by
  obtain ⟨js, rfl, h1, h2⟩ := sorted_names h9 p s
  rw [sorted_same (h1.trans hp.symm) h2 hs, List.map_map]
  rfl
theorem range_sorted (n : Nat) : (List.range n).Pairwise (· ≤ ·) := by
  have h : (List.range n).Pairwise (· < ·) := List.pairwise_lt_range
  exact h.imp fun q => Nat.le_of_lt q
theorem WellAt.mono {H H' : Hp} {p : Addr} (h : WellAt H p) (e : Same H H') : WellAt H' p := by
  obtain ⟨a, b, c, q⟩ := h
  exact ⟨a, b, c, e _ _ q⟩
theorem lst_eq {H : Hp} {a : Addr} {xs ys : List V} (e : xs = ys) (h : H a = some (.lst xs)) : H a = some (.lst ys) := by
  rw [← e]
  exact h
theorem ring_at {m : Nat} (hm : 1 ≤ m) (hm2 : m ≤ 9) : Okay (ringRows m) (names m) ∧ (ringRows m).length = m + 1 ∧ (∀ t, t < m + 1 → wantedOf (ringRows m) m t = List.range m) ∧ ∀ b, b < m → wayOf (ringRows m) b 0 = some (List.range (b + 1)) ∧ wayOf (ringRows m) b m = some (m :: List.range (b + 1)) ∧ (b = 0 ∨ wayOf (ringRows m) (b - 1) b = some ((List.range (m + 1 - b)).map (b + ·) ++ List.range b)) := by
  have q := rings_all ⟨m - 1, by omega⟩
  have e1 : m - 1 + 1 = m := by omega
  simp only [e1] at q
  unfold ringB at q
  obtain ⟨q1, q2⟩ := Bool.and_eq_true_iff.mp q
  obtain ⟨q2, q3⟩ := Bool.and_eq_true_iff.mp q2
  refine ⟨okB_ok q1, by unfold ringRows; simp, fun t ht => of_decide_eq_true (List.all_eq_true.mp q2 t (List.mem_range.mpr ht)), fun b hb => ?_⟩
  have q4 := List.all_eq_true.mp q3 b (List.mem_range.mpr hb)
  simp only [Bool.and_eq_true, Bool.or_eq_true, decide_eq_true_eq] at q4
  exact ⟨q4.1, q4.2.1, q4.2.2⟩
theorem loop_at {d : Nat} (hd : 1 ≤ d) (hd2 : d ≤ 6) : Okay (loopRows d) (names 9) ∧ (loopRows d).length = 2 * d + 1 ∧ (∀ t, t < 2 * d → wantedOf (loopRows d) 9 t = loopDue d) ∧ wayOf (loopRows d) 7 0 = some (List.range (2 * d + 1)) ∧ wayOf (loopRows d) 8 0 = none ∧ wantedOf (loopRows d) 9 (2 * d) = [7] := by
  have q := loops_all ⟨d - 1, by omega⟩
  have e1 : d - 1 + 1 = d := by omega
  simp only [e1] at q
  unfold loopB at q
  simp only [Bool.and_eq_true, decide_eq_true_eq] at q
  obtain ⟨q1, q2, q3, q4, q5⟩ := q
  exact ⟨okB_ok q1, by unfold loopRows; simp; omega, fun t ht => of_decide_eq_true (List.all_eq_true.mp q2 t (List.mem_range.mpr ht)), q3, q4, q5⟩
theorem due_at {d : Nat} (hd2 : d ≤ 6) : (loopDue d).Perm ([0, 7] ++ (List.range d).map (· + 1)) ∧ (loopDue d).Pairwise (· ≤ ·) := by
  have key : ∀ d : Fin 7, (loopDue d).Perm ([0, 7] ++ (List.range d).map (· + 1)) ∧ (loopDue d).Pairwise (· ≤ ·) := by decide +kernel
  exact key ⟨d, by omega⟩
theorem sc_L_ring_right : FnScope ["_law_well_here", "_law_many", "_law_begin", "_law_rows", "_law_prog", "_law_at", "_law_due", "_law_k"] ["_law_well_here"] (defScope s_L_ring_right) := ⟨rfl, rfl, rfl, by decide +kernel, rfl, by decide +kernel, by decide +kernel⟩
theorem ok_L_ring_right (T : Ctx w K mg) (H_L_draw : Has P w K mg base 1 "_law_draw" ["_law_well_here", "_law_many"] spDraw) (H_L_made : Has P w K mg base 10 "_law_made" ["_law_rows", "_law_many"] (spMade K)) (H_wanted : Has P w K mg base 5 "wanted" ["source", "name", "row"] (spWanted K)) (H_wanting : Has P w K mg base 5 "wanting" ["source", "name", "row", "variable"] (spWanting K)) : Has P w K mg base 11 "_law_ring_right" ["_law_well_here"] spRight := by
  obtain ⟨fd, F⟩ := T.D_L_ring_right
  obtain ⟨fd_L_draw, G_L_draw, b_L_draw⟩ := H_L_draw.ex
  obtain ⟨fd_L_made, G_L_made, b_L_made⟩ := H_L_made.ex
  obtain ⟨fd_wanted, G_wanted, b_wanted⟩ := H_wanted.ex
  obtain ⟨fd_wanting, G_wanting, b_wanting⟩ := H_wanting.ex
  refine ⟨⟨fd, F.ok sc_L_ring_right (fun vs H Q E h => ?_) (fun cdv A outer s H vs Q E hr h => ?_), F.bindsN fun _ _ _ _ _ _ us hl => match us, hl with | [_], _ => rfl⟩, F.kp, T.g_L_ring_right⟩
  · obtain ⟨p, rfl, hw, k⟩ := h; rfl
  · obtain ⟨p, rfl, hw, k⟩ := h
    have hr_L_draw : Room 1 _ := hr.mono (by decide)
    have hr_L_made : Room 10 _ := hr.mono (by decide)
    have hr_wanted : Room 5 _ := hr.mono (by decide)
    have hr_wanting : Room 5 _ := hr.mono (by decide)
    have hu := hu_of hr
    refine ⟨_, PSs.nox (pss_cons (ps_set (i := 1) sc_L_ring_right.nd rfl (Or.inl rfl) (pe_op op_add pe_int (pe_call G_L_draw hr_L_draw (by rfl) H_L_draw.gl H_L_draw.kp b_L_draw .nil pass0 (pa_cons (pv 0) (pa_cons pe_int pa_nil)))))
      (pss_cons (ps_set (i := 2) sc_L_ring_right.nd rfl (Or.inl rfl) (pe_call G_L_draw hr_L_draw (by rfl) H_L_draw.gl H_L_draw.kp b_L_draw .nil pass0 (pa_cons (pv 0) (pa_cons (pv 1) pa_nil))))
      (pss_cons (ps_set (i := 3) sc_L_ring_right.nd rfl (Or.inl rfl) (pe_op op_cat (pe_lc (own := [("_law_k", 7)]) (g := gName 7) (tt := tYes) rfl sc_L_ring_right.nd (pi_range1 (by rfl) T.f_range (pa_cons (pv 1) pa_nil)) (blkOk_by (N := ["_law_well_here", "_law_many", "_law_begin", "_law_rows", "_law_prog", "_law_at", "_law_due", "_law_k"]) (sc := defScope s_L_ring_right) (by decide +kernel)) (fun _ _ _ _ _ => (pg_name (i := 7) sc_L_ring_right.nd rfl (Or.inl rfl))) (fun _ _ _ _ _ => pts_nil) (fun _ _ _ _ _ => (pe_tup (pa_cons pe_str (pa_cons (pe_op op_add_str pe_str (pe_callTy call_str_int (by rfl) T.f_str (by decide +kernel) (pa_cons (pv 7) pa_nil))) pa_nil))))) (pe_lst (pa_cons (pe_tup (pa_cons pe_str (pa_cons pe_int pa_nil))) pa_nil))))
      (pss_cons (ps_set (i := 4) sc_L_ring_right.nd rfl (Or.inl rfl) (pe_call G_L_made hr_L_made (by rfl) H_L_made.gl H_L_made.kp b_L_made .nil pass0 (pa_cons (pv 3) (pa_cons (pv 1) pa_nil))))
      (pss_cons (ps_for PassesOwn.never rfl (pi_range1 (by rfl) T.f_range (pa_cons (pe_op op_add (pv 1) pe_int) pa_nil)) (pg_name (i := 5) sc_L_ring_right.nd rfl (Or.inl rfl))
      (pss_one (ps_if (pt_cmpR (op_neD hr.units) (pe_call G_wanted hr_wanted (by rfl) H_wanted.gl H_wanted.kp b_wanted .nil pass0 (pa_cons (pv 4) (pa_cons pe_str (pa_cons (pv 5) pa_nil)))) (pe_callB cr_sortedS (by rfl) T.f_sorted (by decide +kernel) (pa_cons (pe_lc (own := [("_law_k", 7)]) (g := gName 7) (tt := tYes) rfl sc_L_ring_right.nd (pi_range1 (by rfl) T.f_range (pa_cons (pv 1) pa_nil)) (blkOk_by (N := ["_law_well_here", "_law_many", "_law_begin", "_law_rows", "_law_prog", "_law_at", "_law_due", "_law_k"]) (sc := defScope s_L_ring_right) (by decide +kernel)) (fun _ _ _ _ _ => (pg_name (i := 7) sc_L_ring_right.nd rfl (Or.inl rfl))) (fun _ _ _ _ _ => pts_nil) (fun _ _ _ _ _ => (pe_op op_add_str pe_str (pe_callTy call_str_int (by rfl) T.f_str (by decide +kernel) (pa_cons (pv 7) pa_nil))))) pa_nil)) (nomark _)) (pss_one (ps_ret pe_bl)) pss_nil)))
      (pss_cons (ps_if (pt_cmpR (op_neD hr.units) (pe_call G_wanting hr_wanting (by rfl) H_wanting.gl H_wanting.kp b_wanting .nil pass0 (pa_cons (pv 4) (pa_cons pe_str (pa_cons pe_int (pa_cons (pe_op op_add_str pe_str (pe_callTy call_str_int (by rfl) T.f_str (by decide +kernel) (pa_cons (pv 2) pa_nil))) pa_nil))))) (pe_listRg rfl (by rfl) T.f_list (prg_1 (by rfl) T.f_range (pe_op op_add (pv 2) pe_int))) (nomark _)) (pss_one (ps_ret pe_bl)) pss_nil)
      (pss_cons (ps_if (pt_cmpR (op_neD hr.units) (pe_call G_wanting hr_wanting (by rfl) H_wanting.gl H_wanting.kp b_wanting .nil pass0 (pa_cons (pv 4) (pa_cons pe_str (pa_cons (pv 1) (pa_cons (pe_op op_add_str pe_str (pe_callTy call_str_int (by rfl) T.f_str (by decide +kernel) (pa_cons (pv 2) pa_nil))) pa_nil))))) (pe_op op_cat (pe_lst (pa_cons (pv 1) pa_nil)) (pe_listRg rfl (by rfl) T.f_list (prg_1 (by rfl) T.f_range (pe_op op_add (pv 2) pe_int)))) (nomark _)) (pss_one (ps_ret pe_bl)) pss_nil)
      (pss_cons (ps_set (i := 6) sc_L_ring_right.nd rfl (Or.inl rfl) (pe_op op_cat (pe_listRg rfl (by rfl) T.f_list (prg_2 (by rfl) T.f_range (pv 2) (pe_op op_add (pv 1) pe_int))) (pe_listRg rfl (by rfl) T.f_list (prg_1 (by rfl) T.f_range (pv 2)))))
      (pss_one (ps_ret (pe_or (pe_cmpR op_eq (pv 2) pe_int (nomark _)) (pe_one (pe_cmpR (op_eqD hr.units) (pe_call G_wanting hr_wanting (by rfl) H_wanting.gl H_wanting.kp b_wanting .nil pass0 (pa_cons (pv 4) (pa_cons pe_str (pa_cons (pv 2) (pa_cons (pe_op op_add_str pe_str (pe_callTy call_str_int (by rfl) T.f_str (by decide +kernel) (pa_cons (pe_op op_sub (pv 2) pe_int) pa_nil))) pa_nil))))) (pv 6) (nomark _)))))))))))))), ?_⟩
    refine ⟨_, rfl, p, 9, rfl, hw, by decide, by decide, fun k1 H1 hk1 b1 w1 => ?_⟩
    obtain ⟨m, em, m2, m9⟩ : ∃ m : Nat, (1 : Int) + (k1 : Int) = (m : Int) ∧ 1 ≤ m ∧ m ≤ 9 := ⟨k1 + 1, by omega, by omega, by omega⟩
    refine ⟨_, _, rfl, rfl, ?_⟩
    dsimp only
    rw [em]
    refine ⟨_, rfl, _, rfl, p, m, rfl, w1, by omega, by omega, fun bg H2 hbg b2 w2 => ?_⟩
    have etn : (m : Int).toNat = m := by omega
    refine ⟨_, rfl, _, rfl, by omega, by omega, fun D hD => ?_⟩
    refine lc_tups (walk_range (lo := 0) (n := (m : Int).toNat)) hD (fun i => Rw.vals (.see i)) (by omega) (fun _ _ => trivial) (fun i H3 y H4 hi s3 hy Qe qe => ?_) (fun H3 qs s3 hq hqs h3 => ?_)
    · obtain ⟨rfl, hy⟩ := hy
      have ey : y = .int (i : Int) := hy.trans (by show V.int (0 + (i : Int)) = _; rw [Int.zero_add])
      subst ey
      refine ⟨rfl, _, rfl, _, rfl, vsm (by omega), _, _, rfl, rfl, vsz (by omega), sz_of (by show 2 ≤ 100000; decide), fun q hq => qe q _ (Same.new hq) upd_same⟩
    rw [etn] at hq
    obtain ⟨hO, hlen, fw, fx⟩ := ring_at m2 m9
    refine ⟨sz_of (by show 2 ≤ 100000; decide), fun rp hrp => ⟨sz_of (by show 1 ≤ 100000; decide), fun rl hrl => ?_⟩⟩
    have s4 := Same.new (o := .tup (Rw.vals (.jump 0))) hrp
    have s5 := Same.new (o := .lst [.ref rp]) hrl
    refine ⟨D, rl, _, _, rfl, rfl, (s4.trans s5) _ _ h3, upd_same, sz_of (by simp; omega), fun cp hcp => ?_⟩
    have s6 := Same.new (o := .lst (qs.map V.ref ++ [.ref rp])) hcp
    have s36 := s4.trans (s5.trans s6)
    refine ⟨_, rfl, _, rfl, cp, m, qs ++ [rp], ringRows m, rfl, ?_, ?_, hO, by omega, by omega, fun q H4 s7 src => ?_⟩
    · rw [List.map_append]
      exact upd_same
    · unfold ringRows
      rw [show (List.range m).map Rw.see = (List.range m).map (fun i => Rw.see i) from rfl]
      exact ((rows_of (g := fun i => .see i) hq hqs).mono s36).append (Rows.one ((s5.trans s6) _ _ upd_same))
    have s24 := s3.trans (s36.trans s7)
    refine ⟨_, rfl, _, _, rfl, rfl, _, rfl, by omega, by omega, ?_⟩
    refine for_it (walk_range (lo := 0) (n := ((m : Int) + 1).toNat)) (fun t σ H5 => Same H4 H5 ∧ ∃ v w x : Option V, σ = [some (.ref p), some (.int m), some (.int bg), some (.ref cp), some (.ref q), v, w, x]) ⟨Same.refl _, none, none, none, rfl⟩ (fun _ _ _ _ _ => trivial) ?_ ?_
    · rintro t y σ H5 H6 ht ⟨s8, v5, v6, v7, rfl⟩ ⟨rfl, hy⟩
      have ey : y = .int (t : Int) := hy.trans (by show V.int (0 + (t : Int)) = _; rw [Int.zero_add])
      subst ey
      have ht2 : t < m + 1 := by omega
      refine ⟨_, rfl, _, rfl, q, t, m, _, rfl, src.mono s8, by omega, fun q1 H7 s9 hq1 h7 => ?_⟩
      rw [fw t ht2] at h7
      refine ⟨_, rfl, _, rfl, by omega, by omega, fun E2 hE => ?_⟩
      refine lc_pure (walk_range (lo := 0) (n := (m : Int).toNat)) hE sv (by omega) (fun _ _ => trivial) (fun i H8 y H9 hi s10 hy Qe qe => ?_) (fun H8 s10 h8 => ?_)
      · obtain ⟨rfl, hy⟩ := hy
        have ey : y = .int (i : Int) := hy.trans (by show V.int (0 + (i : Int)) = _; rw [Int.zero_add])
        subst ey
        exact ⟨rfl, _, rfl, _, rfl, vsm (by omega), _, _, rfl, rfl, vsz (by omega), qe _ (Same.refl _)⟩
      rw [etn] at h8
      refine ⟨E2, (List.range m).map vn, rfl, SqL.of (lst_eq (by rw [List.map_map]; rfl) h8), by rw [List.length_map, List.length_range]; omega, fun ys sp pm st hsp => ?_⟩
      have m9' : ∀ k ∈ List.range m, k < 9 := fun k hk => by
        have := List.mem_range.mp hk
        omega
      have eS := sortedV (l := List.range m) (l' := List.range m) m9' pm st (List.Perm.refl _) (range_sorted _)
      exact neS (l := List.range m) m9' (Same.new hsp _ _ (s10 _ _ h7)) (lst_eq eS upd_same) ⟨_, rfl, ifF rfl ⟨s8.trans (s9.trans (s10.trans (Same.new hsp))), _, _, _, rfl⟩⟩
    · rintro σ H5 ⟨s8, v5, v6, v7, rfl⟩
      obtain ⟨f1, f2, f3⟩ := fx bg hbg
      have b9 : bg < 9 := by omega
      refine ⟨_, rfl, _, rfl, _, rfl, vsm b9, _, _, rfl, rfl, vsz b9, q, 0, bg, m, _, rfl, src.mono s8, by omega, hbg, fun v H6 s9 hv => ?_⟩
      rw [f1] at hv
      obtain ⟨a, rfl, ha⟩ := wayI hv
      refine ⟨_, rfl, _, _, rfl, rfl, _, rfl, RgOk.of_le (by omega) (by omega) (by omega) (by omega), fun l1 hl1 => neI (Same.new hl1 _ _ ha) (lst_eq (rgV_0 (by omega)) upd_same) ⟨_, rfl, ifF rfl ?_⟩⟩
      have s10 := s8.trans (s9.trans (Same.new (o := .lst (rgV 0 ((bg : Int) + 1))) hl1))
      refine ⟨_, rfl, _, rfl, _, rfl, _, rfl, vsm b9, _, _, rfl, rfl, vsz b9, q, m, bg, m, _, rfl, src.mono s10, by omega, hbg, fun v H7 s11 hv => ?_⟩
      rw [f2] at hv
      obtain ⟨a2, rfl, ha2⟩ := wayI hv
      refine ⟨_, rfl, sz_of (by show 1 ≤ 100000; decide), fun l2 hl2 => ⟨_, rfl, _, _, rfl, rfl, _, rfl, RgOk.of_le (by omega) (by omega) (by omega) (by omega), fun l3 hl3 => ?_⟩⟩
      have s12 := (Same.new (o := .lst [.int (m : Int)]) hl2).trans (Same.new (o := .lst (rgV 0 ((bg : Int) + 1))) hl3)
      refine ⟨l2, l3, _, _, rfl, rfl, Same.new hl3 _ _ upd_same, upd_same, sz_of (by rw [rgV_length]; show 1 + _ ≤ _; omega), fun l4 hl4 => ?_⟩
      have s13 := s12.trans (Same.new (o := .lst ([.int (m : Int)] ++ rgV 0 ((bg : Int) + 1))) hl4)
      refine neI (s13 _ _ ha2) (lst_eq (by rw [rgV_0 (n := bg + 1) (by omega)]; rfl) upd_same) ⟨_, rfl, ifF rfl ?_⟩
      have s14 := s10.trans (s11.trans s13)
      refine ⟨_, rfl, _, rfl, _, _, rfl, rfl, _, _, rfl, rfl, RgOk.of_le (by omega) (by omega) (by omega) (by omega), fun l5 hl5 => ⟨_, rfl, _, rfl, RgOk.of_le (by omega) (by omega) (by omega) (by omega), fun l6 hl6 => ?_⟩⟩
      refine ⟨l5, l6, _, _, rfl, rfl, Same.new hl6 _ _ upd_same, upd_same, sz_of (by rw [rgV_length, rgV_length]; omega), fun l7 hl7 => ?_⟩
      have s15 := (Same.new (o := .lst (rgV (bg : Int) ((m : Int) + 1))) hl5).trans ((Same.new (o := .lst (rgV 0 (bg : Int))) hl6).trans (Same.new (o := .lst (rgV (bg : Int) ((m : Int) + 1) ++ rgV 0 (bg : Int))) hl7))
      have s16 := s14.trans s15
      refine ⟨_, rfl, rfl, _, rfl, ?_⟩
      by_cases c : bg = 0
      · refine ifT (decide_eq_true (by rw [c]; rfl)) ?_
        have sf := s24.trans s16
        exact k _ (b1.trans (b2.trans (But.of sf))) (w2.mono sf)
      · refine ifF (decide_eq_false (fun z => c (by have := V.int.inj z; omega))) ?_
        refine ⟨_, rfl, _, rfl, _, rfl, _, _, rfl, rfl, ?_⟩
        dsimp only
        rw [show (bg : Int) - 1 = ((bg - 1 : Nat) : Int) from by omega]
        refine ⟨_, rfl, vsm (by omega), _, _, rfl, rfl, vsz (by omega), q, bg, bg - 1, m, _, rfl, src.mono s16, by omega, by omega, fun v H8 s17 hv => ?_⟩
        rw [f3.resolve_left c] at hv
        obtain ⟨a3, rfl, ha3⟩ := wayI hv
        have sf := s24.trans (s16.trans s17)
        exact ⟨_, rfl, eqI ha3 (lst_eq (by rw [List.map_append, rgV_nat (i := bg) (n := m + 1 - bg) rfl (by omega), rgV_0 (n := bg) rfl]) (s17 _ _ upd_same)) (k _ (b1.trans (b2.trans (But.of sf))) (w2.mono sf))⟩
theorem sc_L_loops_right : FnScope ["_law_well_here", "_law_deep_so", "_law_rows", "_law_prog", "_law_due", "_law_at", "_law_k"] ["_law_well_here"] (defScope s_L_loops_right) := ⟨rfl, rfl, rfl, by decide +kernel, rfl, by decide +kernel, by decide +kernel⟩
theorem ok_L_loops_right (T : Ctx w K mg) (H_L_draw : Has P w K mg base 1 "_law_draw" ["_law_well_here", "_law_many"] spDraw) (H_L_made : Has P w K mg base 10 "_law_made" ["_law_rows", "_law_many"] (spMade K)) (H_wanted : Has P w K mg base 5 "wanted" ["source", "name", "row"] (spWanted K)) (H_wanting : Has P w K mg base 5 "wanting" ["source", "name", "row", "variable"] (spWanting K)) : Has P w K mg base 11 "_law_loops_right" ["_law_well_here"] spRight := by
  obtain ⟨fd, F⟩ := T.D_L_loops_right
  obtain ⟨fd_L_draw, G_L_draw, b_L_draw⟩ := H_L_draw.ex
  obtain ⟨fd_L_made, G_L_made, b_L_made⟩ := H_L_made.ex
  obtain ⟨fd_wanted, G_wanted, b_wanted⟩ := H_wanted.ex
  obtain ⟨fd_wanting, G_wanting, b_wanting⟩ := H_wanting.ex
  refine ⟨⟨fd, F.ok sc_L_loops_right (fun vs H Q E h => ?_) (fun cdv A outer s H vs Q E hr h => ?_), F.bindsN fun _ _ _ _ _ _ us hl => match us, hl with | [_], _ => rfl⟩, F.kp, T.g_L_loops_right⟩
  · obtain ⟨p, rfl, hw, k⟩ := h; rfl
  · obtain ⟨p, rfl, hw, k⟩ := h
    have hr_L_draw : Room 1 _ := hr.mono (by decide)
    have hr_L_made : Room 10 _ := hr.mono (by decide)
    have hr_wanted : Room 5 _ := hr.mono (by decide)
    have hr_wanting : Room 5 _ := hr.mono (by decide)
    have hu := hu_of hr
    refine ⟨_, PSs.nox (pss_cons (ps_set (i := 1) sc_L_loops_right.nd rfl (Or.inr rfl) (pe_op op_add pe_int (pe_call G_L_draw hr_L_draw (by rfl) H_L_draw.gl H_L_draw.kp b_L_draw .nil pass0 (pa_cons (pv 0) (pa_cons pe_int pa_nil)))))
      (pss_cons (ps_setLc (i := 2) (own := [("_law_k", 6)]) (g := gName 6) (tt := tYes) rfl sc_L_loops_right.nd rfl rfl (sw_true rfl rfl rfl (by decide +kernel)) (pi_range2 (by rfl) T.f_range (pa_cons pe_int (pa_cons (pe_op op_add (pv 1) pe_int) pa_nil))) (blkOk_by (N := ["_law_well_here", "_law_deep_so", "_law_rows", "_law_prog", "_law_due", "_law_at", "_law_k"]) (sc := defScope s_L_loops_right) (by decide +kernel)) (fun _ _ _ _ _ => (pg_name (i := 6) sc_L_loops_right.nd rfl (Or.inl rfl))) (fun _ _ _ _ _ => pts_nil) (fun _ _ _ _ _ => (pe_tup (pa_cons pe_str (pa_cons (pe_op op_add_str pe_str (pe_callTy call_str_int (by rfl) T.f_str (by decide +kernel) (pa_cons (pv 6) pa_nil))) (pa_cons (pe_op op_add_str pe_str (pe_callTy call_str_int (by rfl) T.f_str (by decide +kernel) (pa_cons (pv 6) pa_nil))) (pa_cons pe_str pa_nil)))))))
      (pss_cons (ps_set (i := 2) sc_L_loops_right.nd rfl (Or.inl rfl) (pe_op op_cat (pv 2) (pe_lc (own := [("_law_k", 6)]) (g := gName 6) (tt := tYes) rfl sc_L_loops_right.nd (pi_range2 (by rfl) T.f_range (pa_cons pe_int (pa_cons (pe_op op_add (pv 1) pe_int) pa_nil))) (blkOk_by (N := ["_law_well_here", "_law_deep_so", "_law_rows", "_law_prog", "_law_due", "_law_at", "_law_k"]) (sc := defScope s_L_loops_right) (by decide +kernel)) (fun _ _ _ _ _ => (pg_name (i := 6) sc_L_loops_right.nd rfl (Or.inl rfl))) (fun _ _ _ _ _ => pts_nil) (fun _ _ _ _ _ => (pe_tup (pa_cons pe_str (pa_cons (pe_op op_add_str pe_str (pe_callTy call_str_int (by rfl) T.f_str (by decide +kernel) (pa_cons (pv 6) pa_nil))) (pa_cons (pe_op op_sub (pv 1) (pv 6)) pa_nil))))))))
      (pss_cons (ps_expr (pe_bm PySem.F.plainAttrs_list PySem.F.slot_list_append PySem.F.type_list_append mt_append (pv 2) (pa_cons (pe_tup (pa_cons pe_str (pa_cons pe_str pa_nil))) pa_nil)))
      (pss_cons (ps_set (i := 3) sc_L_loops_right.nd rfl (Or.inl rfl) (pe_call G_L_made hr_L_made (by rfl) H_L_made.gl H_L_made.kp b_L_made .nil pass0 (pa_cons (pv 2) (pa_cons pe_int pa_nil))))
      (pss_cons (ps_set (i := 4) sc_L_loops_right.nd rfl (Or.inl rfl) (pe_callB cr_sortedS (by rfl) T.f_sorted (by decide +kernel) (pa_cons (pe_op op_cat (pe_lst (pa_cons pe_str (pa_cons pe_str pa_nil))) (pe_lc (own := [("_law_k", 6)]) (g := gName 6) (tt := tYes) rfl sc_L_loops_right.nd (pi_range2 (by rfl) T.f_range (pa_cons pe_int (pa_cons (pe_op op_add (pv 1) pe_int) pa_nil))) (blkOk_by (N := ["_law_well_here", "_law_deep_so", "_law_rows", "_law_prog", "_law_due", "_law_at", "_law_k"]) (sc := defScope s_L_loops_right) (by decide +kernel)) (fun _ _ _ _ _ => (pg_name (i := 6) sc_L_loops_right.nd rfl (Or.inl rfl))) (fun _ _ _ _ _ => pts_nil) (fun _ _ _ _ _ => (pe_op op_add_str pe_str (pe_callTy call_str_int (by rfl) T.f_str (by decide +kernel) (pa_cons (pv 6) pa_nil)))))) pa_nil)))
      (pss_cons (ps_for PassesOwn.never rfl (pi_range1 (by rfl) T.f_range (pa_cons (pe_op op_mul pe_int (pv 1)) pa_nil)) (pg_name (i := 5) sc_L_loops_right.nd rfl (Or.inl rfl))
      (pss_one (ps_if (pt_cmpR (op_neD hr.units) (pe_call G_wanted hr_wanted (by rfl) H_wanted.gl H_wanted.kp b_wanted .nil pass0 (pa_cons (pv 3) (pa_cons pe_str (pa_cons (pv 5) pa_nil)))) (pv 4) (nomark _)) (pss_one (ps_ret pe_bl)) pss_nil)))
      (pss_cons (ps_if (PW.pt (pw_or (pt_cmpR (op_neD hr.units) (pe_call G_wanting hr_wanting (by rfl) H_wanting.gl H_wanting.kp b_wanting .nil pass0 (pa_cons (pv 3) (pa_cons pe_str (pa_cons pe_int (pa_cons pe_str pa_nil))))) (pe_listRg rfl (by rfl) T.f_list (prg_1 (by rfl) T.f_range (pe_op op_add (pe_op op_mul pe_int (pv 1)) pe_int))) (nomark _)) (pw_or1 (pt_cmpR op_notN (pe_call G_wanting hr_wanting (by rfl) H_wanting.gl H_wanting.kp b_wanting .nil pass0 (pa_cons (pv 3) (pa_cons pe_str (pa_cons pe_int (pa_cons pe_str pa_nil))))) pe_non (nomark _))))) (pss_one (ps_ret pe_bl)) pss_nil)
      (pss_one (ps_ret (pe_cmpR (op_eqD hr.units) (pe_call G_wanted hr_wanted (by rfl) H_wanted.gl H_wanted.kp b_wanted .nil pass0 (pa_cons (pv 3) (pa_cons pe_str (pa_cons (pe_op op_mul pe_int (pv 1)) pa_nil)))) (pe_lst (pa_cons pe_str pa_nil)) (nomark _)))))))))))), ?_⟩
    have v0 : vn 0 = ("v0" : Str) := by decide +kernel
    have v7 : vn 7 = ("v7" : Str) := by decide +kernel
    have v8 : vn 8 = ("v8" : Str) := by decide +kernel
    refine ⟨_, rfl, p, 6, rfl, hw, by decide, by decide, fun k1 H1 hk1 b1 w1 => ?_⟩
    obtain ⟨d, em, d1, d6⟩ : ∃ m : Nat, (1 : Int) + (k1 : Int) = (m : Int) ∧ 1 ≤ m ∧ m ≤ 6 := ⟨k1 + 1, by omega, by omega, by omega⟩
    refine ⟨_, _, rfl, rfl, ?_⟩
    dsimp only
    rw [em]
    have etn : ((d : Int) + 1 - 1).toNat = d := by omega
    refine ⟨_, rfl, _, _, rfl, rfl, _, _, rfl, ⟨by omega, by omega, by omega, by omega⟩, fun D hD => ?_⟩
    refine lc_tups (walk_range (lo := 1) (n := ((d : Int) + 1 - 1).toNat)) hD (fun i => [.str "add", sv (i + 1), sv (i + 1), .str "v0"]) (by omega) (fun _ _ => trivial) (fun i H3 y H4 hi s3 hy Qe qe => ?_) (fun H3 qs s3 hq hqs h3 => ?_)
    · obtain ⟨rfl, hy⟩ := hy
      have ey : y = .int ((i + 1 : Nat) : Int) := hy.trans (by show V.int (1 + (i : Int)) = _; rw [Int.add_comm]; rfl)
      subst ey
      exact ⟨rfl, _, rfl, _, rfl, vsm (by omega), _, _, rfl, rfl, vsz (by omega), _, rfl, _, rfl, vsm (by omega), _, _, rfl, rfl, vsz (by omega), sz_of (by show 4 ≤ 100000; decide), fun q hq => qe q _ (Same.new hq) upd_same⟩
    rw [etn] at hq
    refine ⟨_, rfl, _, rfl, _, _, rfl, rfl, _, _, rfl, ⟨by omega, by omega, by omega, by omega⟩, fun D2 hD2 => ?_⟩
    refine lc_tups (walk_range (lo := 1) (n := ((d : Int) + 1 - 1).toNat)) hD2 (fun i => Rw.vals (.ifz (i + 1) (d - (i + 1)))) (by omega) (fun _ _ => trivial) (fun i H4 y H5 hi s4 hy Qe qe => ?_) (fun H4 qs2 s4 hq2 hqs2 h4 => ?_)
    · obtain ⟨rfl, hy⟩ := hy
      have ey : y = .int ((i + 1 : Nat) : Int) := hy.trans (by show V.int (1 + (i : Int)) = _; rw [Int.add_comm]; rfl)
      subst ey
      refine ⟨rfl, _, rfl, _, rfl, vsm (by omega), _, _, rfl, rfl, vsz (by omega), _, rfl, _, rfl, _, _, rfl, rfl, ?_⟩
      dsimp only
      rw [show (d : Int) - ((i + 1 : Nat) : Int) = ((d - (i + 1) : Nat) : Int) from by omega]
      exact ⟨sz_of (by show 3 ≤ 100000; decide), fun q hq => qe q _ (Same.new hq) upd_same⟩
    rw [etn] at hq2
    refine ⟨D, D2, _, _, rfl, rfl, s4 _ _ h3, h4, sz_of (by simp; omega), fun cp hcp => ?_⟩
    have s5 := Same.new (o := .lst (qs.map V.ref ++ qs2.map V.ref)) hcp
    refine ⟨_, rfl, .inl ⟨rfl, _, SqL.of upd_same⟩, sz_of (by show 2 ≤ 100000; decide), fun rp hrp => ⟨cp, _, _, rfl, rfl, Same.new hrp _ _ upd_same, sz_lt (by simp; omega), ?_⟩⟩
    obtain ⟨hO, hlen, fw, f7, f8, fl⟩ := loop_at d1 d6
    have s6 := Same.mut (o := .lst (qs.map V.ref ++ qs2.map V.ref ++ [.ref rp])) (s5.trans (Same.new (o := .tup [.str "return", .str "v7"]) hrp)) hcp
    have ncr : cp ≠ rp := ne_of_none upd_same hrp
    refine ⟨_, rfl, cp, 9, qs ++ qs2 ++ [rp], loopRows d, rfl, ?_, ?_, hO, by omega, by omega, fun q H5 s7 src => ?_⟩
    · rw [List.map_append, List.map_append]
      exact upd_same
    · unfold loopRows
      refine (((rows_of (g := fun k => .add (k + 1) (k + 1) 0) hq (fun i q e => ?_)).mono (s4.trans s6)).append ((rows_of (g := fun k => .ifz (k + 1) (d - (k + 1))) hq2 hqs2).mono s6)).append (Rows.one ?_)
      · rw [hqs i q e]
        show _ = some (HO.tup [.str "add", sv (i + 1), sv (i + 1), .str (vn 0)])
        rw [v0]
      · rw [upd_ne ncr.symm, upd_same]
        show _ = some (HO.tup [.str "return", .str (vn 7)])
        rw [v7]
    have s25 := s3.trans (s4.trans (s6.trans s7))
    refine ⟨sz_of (by show 2 ≤ 100000; decide), fun l1 hl1 => ⟨_, rfl, _, _, rfl, rfl, _, _, rfl, ⟨by omega, by omega, by omega, by omega⟩, fun E2 hE => ?_⟩⟩
    refine lc_pure (walk_range (lo := 1) (n := ((d : Int) + 1 - 1).toNat)) hE (fun i => sv (i + 1)) (by omega) (fun _ _ => trivial) (fun i H6 y H7 hi s8 hy Qe qe => ?_) (fun H6 s8 h6 => ?_)
    · obtain ⟨rfl, hy⟩ := hy
      have ey : y = .int ((i + 1 : Nat) : Int) := hy.trans (by show V.int (1 + (i : Int)) = _; rw [Int.add_comm]; rfl)
      subst ey
      exact ⟨rfl, _, rfl, _, rfl, vsm (by omega), _, _, rfl, rfl, vsz (by omega), qe _ (Same.refl _)⟩
    rw [etn] at h6
    refine ⟨l1, E2, _, _, rfl, rfl, s8 _ _ upd_same, h6, sz_of (by simp; omega), fun l2 hl2 => ?_⟩
    refine ⟨l2, ([0, 7] ++ (List.range d).map (· + 1)).map vn, rfl, SqL.of (lst_eq ?_ upd_same), by simp; omega, fun ys sp pm st hsp => ?_⟩
    · rw [List.map_map, List.map_append, List.map_map, ← v0, ← v7]
      rfl
    have l9 : ∀ k ∈ [0, 7] ++ (List.range d).map (· + 1), k < 9 := fun k hk => by
      simp at hk
      omega
    have ld9 : ∀ k ∈ loopDue d, k < 9 := fun k hk => l9 k ((due_at d6).1.mem_iff.mp hk)
    have eS := sortedV (l := [0, 7] ++ (List.range d).map (· + 1)) (l' := loopDue d) l9 pm st (due_at d6).1 (due_at d6).2
    have s9 := (Same.new (o := .lst [.str "v0", .str "v7"]) hl1).trans (s8.trans ((Same.new (o := .lst ([.str "v0", .str "v7"] ++ (List.range d).map (fun i => sv (i + 1)))) hl2).trans (Same.new (o := .lst (ys.map V.str)) hsp)))
    refine ⟨_, rfl, _, _, rfl, rfl, .inl ⟨by decide, by decide⟩, _, rfl, by omega, by omega, ?_⟩
    refine for_it (walk_range (lo := 0) (n := ((2 : Int) * (d : Int)).toNat)) (fun t σ H8 => Same H5 H8 ∧ H8 sp = some (.lst ((loopDue d).map sv)) ∧ ∃ v w : Option V, σ = [some (.ref p), some (.int d), some (.ref cp), some (.ref q), some (.ref sp), v, w]) ⟨s9, lst_eq eS upd_same, none, none, rfl⟩ (fun _ _ _ _ _ => trivial) ?_ ?_
    · rintro t y σ H8 H9 ht ⟨s10, hsp8, v5, v6, rfl⟩ ⟨rfl, hy⟩
      have ey : y = .int (t : Int) := hy.trans (by show V.int (0 + (t : Int)) = _; rw [Int.zero_add])
      subst ey
      refine ⟨_, rfl, _, rfl, q, t, 9, _, rfl, src.mono s10, by omega, fun q1 H10 s11 hq1 h10 => ⟨_, rfl, ?_⟩⟩
      rw [fw t (by omega)] at h10
      exact neS ld9 h10 (s11 _ _ hsp8) ⟨_, rfl, ifF rfl ⟨s10.trans s11, s11 _ _ hsp8, _, _, rfl⟩⟩
    · rintro σ H8 ⟨s10, hsp8, v5, v6, rfl⟩
      refine ⟨_, rfl, q, 0, 7, 9, _, by rw [v7]; rfl, src.mono s10, by omega, by omega, fun v H9 s11 hv => ?_⟩
      rw [f7] at hv
      obtain ⟨a, rfl, ha⟩ := wayI hv
      refine ⟨_, rfl, _, _, rfl, rfl, .inl ⟨by decide, by decide⟩, _, _, rfl, rfl, _, rfl, RgOk.of_le (by omega) (by omega) (by omega) (by omega), fun l3 hl3 => neI (Same.new hl3 _ _ ha) (lst_eq (rgV_0 (by omega)) upd_same) ⟨_, rfl, ifF rfl ?_⟩⟩
      have s12 := s10.trans (s11.trans (Same.new (o := .lst (rgV 0 ((2 : Int) * (d : Int) + 1))) hl3))
      refine ⟨_, rfl, q, 0, 8, 9, _, by rw [v8]; rfl, src.mono s12, by omega, by omega, fun v H10 s13 hv => ?_⟩
      rw [f8] at hv
      have hv2 : v = .non := hv
      subst hv2
      have s14 := s12.trans s13
      refine ⟨rfl, _, rfl, ifF rfl ?_⟩
      refine ⟨_, rfl, _, rfl, _, _, rfl, rfl, .inl ⟨by decide, by decide⟩, q, 2 * d, 9, _, by rw [show ((2 * d : Nat) : Int) = (2 : Int) * (d : Int) from by omega]; rfl, src.mono s14, by omega, fun q1 H11 s15 hq1 h11 => ?_⟩
      rw [fl] at h11
      refine ⟨sz_of (by show 1 ≤ 100000; decide), fun l4 hl4 => eqS (l := [7]) (fun k hk => by rw [List.mem_singleton.mp hk]; decide) (Same.new hl4 _ _ h11) (lst_eq (by rw [← v7]; rfl) upd_same) ?_⟩
      have sf := s25.trans (s14.trans (s15.trans (Same.new (o := .lst [.str "v7"]) hl4)))
      exact k _ (b1.trans (But.of sf)) (w1.mono sf)

end
end W19
set_option Elab.async false
set_option linter.all false
set_option maxRecDepth 100000
set_option maxHeartbeats 4000000
namespace W19
open PySem PySem.Spec PyProof.Rows L2
section
variable {P : Program} {w : World} {K : PySem.W.Frag} {mg : Str → Option Value} {base : Heap}

def shiftRw (t : Nat) : Rw → Rw
  | .ifz x g => if t < g then .ifz x (g + 1) else .ifz x g
  | r => r
def putAt (t : Nat) (rws : List Rw) (r : Rw) : List Rw := (rws.map (shiftRw t)).take t ++ [r] ++ (rws.map (shiftRw t)).drop t
def spShifted : Sp := fun vs H Q _ => ∃ (ra mo : Addr) (t : Nat) (rs : List Addr) (rws : List Rw) (more : Rw), vs = [.ref ra, .int t, .ref mo] ∧ H ra = some (.lst (rs.map V.ref)) ∧ Rows H rs rws ∧ H mo = some (.tup more.vals) ∧ (∀ g, Rw.jump g ∉ rws) ∧ rws.length ≤ 40 ∧ t ≤ rws.length ∧
  ∀ (q : Addr) (H' : Hp) (ns : List Addr), Same H H' → H q = none → H' q = some (.lst (ns.map V.ref)) → Rows H' ns (putAt t rws more) → Q (.ref q) H'
theorem cut_take {xs : List V} {t : Nat} (h : t ≤ xs.length) : cutV xs none (some (t : Int)) = xs.take t := by
  unfold cutV
  rw [HT.sIx_nat, HT.sIx_none, List.drop_zero, Nat.min_eq_left h, Nat.sub_zero]
theorem cut_drop {xs : List V} {t : Nat} (h : t ≤ xs.length) : cutV xs (some (t : Int)) none = xs.drop t := by
  unfold cutV
  rw [HT.sIx_nat, HT.sIx_none, Nat.min_eq_left h]
  exact List.take_of_length_le (by rw [List.length_drop]; omega)
theorem Rows.take {H : Hp} {rs : List Addr} {rws : List Rw} (h : Rows H rs rws) (t : Nat) : Rows H (rs.take t) (rws.take t) := by
  refine ⟨by rw [List.length_take, List.length_take, h.len], fun i a r e1 e2 => ?_⟩
  rw [List.getElem?_take] at e1 e2
  by_cases c : i < t
  · rw [if_pos c] at e1 e2
    exact h.at_ i a r e1 e2
  · rw [if_neg c] at e1
    cases e1
theorem Rows.drop {H : Hp} {rs : List Addr} {rws : List Rw} (h : Rows H rs rws) (t : Nat) : Rows H (rs.drop t) (rws.drop t) := by
  refine ⟨by rw [List.length_drop, List.length_drop, h.len], fun i a r e1 e2 => ?_⟩
  rw [List.getElem?_drop] at e1 e2
  exact h.at_ _ a r e1 e2
theorem Rows.putL {H : Hp} {rs : List Addr} {rws : List Rw} {F : Addr} {xs : List V} {o : List V} (h : Rows H rs rws) (hF : H F = some (.lst xs)) : Rows (upd H F (.lst o)) rs rws :=
  ⟨h.len, fun i a r e1 e2 => by rw [upd_ne (ne_of (h.at_ i a r e1 e2) hF (by intro z; cases z))]; exact h.at_ i a r e1 e2⟩
theorem cut_if {x : V} {g : Int} : cutV [.str "if", x, .int g] none (some (-1)) = [.str "if", x] ∧ ¬ (HT.sIx [V.str "if", x, .int g].length 0 none = 0 ∧ HT.sIx [V.str "if", x, .int g].length [V.str "if", x, .int g].length (some (-1)) = [V.str "if", x, .int g].length) := by
  refine ⟨rfl, ?_⟩
  intro h
  have h2 : (2 : Nat) = 3 := h.2
  cases h2
theorem sc_L_shifted : FnScope ["_law_rows", "_law_at", "_law_more", "_law_found", "_law_step", "_law_goal"] ["_law_rows", "_law_at", "_law_more"] (defScope s_L_shifted) := ⟨rfl, rfl, rfl, by decide +kernel, rfl, by decide +kernel, by decide +kernel⟩
theorem ok_L_shifted (T : Ctx w K mg) : Has P w K mg base 1 "_law_shifted" ["_law_rows", "_law_at", "_law_more"] spShifted := by
  obtain ⟨fd, F⟩ := T.D_L_shifted
  refine ⟨⟨fd, F.ok sc_L_shifted (fun vs H Q E h => ?_) (fun cdv A outer s H vs Q E hr h => ?_), F.bindsN fun _ _ _ _ _ _ us hl => match us, hl with | [_, _, _], _ => rfl⟩, F.kp, T.g_L_shifted⟩
  · obtain ⟨ra, mo, t, rs, rws, more, rfl, hra, hR, hmo, hj, hlen, ht, k⟩ := h; rfl
  · obtain ⟨ra, mo, t, rs, rws, more, rfl, hra, hR, hmo, hj, hlen, ht, k⟩ := h
    have hu := hu_of hr
    refine ⟨_, PSs.nox (pss_cons (ps_set (i := 3) sc_L_shifted.nd rfl (Or.inl rfl) (pe_lst pa_nil))
      (pss_cons (ps_for PassesOwn.never rfl (pi_list (pv 0)) (pg_name (i := 4) sc_L_shifted.nd rfl (Or.inl rfl))
      (pss_cons (ps_set (i := 5) sc_L_shifted.nd rfl (Or.inl rfl) (pe_ifExp (pt_cmpR op_in_seq (pe_ix ix_tup (pv 4) pe_int (fun _ _ => rfl)) (pe_tup (pa_cons pe_str (pa_cons pe_str pa_nil))) rfl) (pe_ix ix_tup (pv 4) (pe_un un_neg pe_int) (fun _ _ => rfl)) pe_non))
      (pss_cons (ps_if (PW.pt (pw_and (pt_cmpR op_notN (pv 5) pe_non (nomark _)) (pw_and1 (pt_cmpR op_gt (pv 5) (pv 1) (nomark _))))) (pss_one (ps_set (i := 4) sc_L_shifted.nd rfl (Or.inl rfl) (pe_op op_catT (pe_slice sl_tup (pv 4) po_none (po_some (pe_un un_neg pe_int))) (pe_tup (pa_cons (pe_op op_add (pv 5) pe_int) pa_nil))))) pss_nil)
      (pss_one (ps_expr (pe_bm PySem.F.plainAttrs_list PySem.F.slot_list_append PySem.F.type_list_append mt_append (pv 3) (pa_cons (pv 4) pa_nil)))))))
      (pss_one (ps_ret (pe_op op_cat (pe_op op_cat (pe_slice sl_list (pv 3) po_none (po_some (pv 1))) (pe_lst (pa_cons (pv 2) pa_nil))) (pe_slice sl_list (pv 3) (po_some (pv 1)) po_none)))))), ?_⟩
    refine ⟨sz_of (by show 0 ≤ 100000; decide), fun F hF => ?_⟩
    refine ⟨_, rfl, ra, rfl, ⟨_, SqL.of (Same.new hF _ _ hra)⟩, ?_⟩
    refine for_it (walk_list (K := K) (a := ra) (xs := rs.map V.ref)) (fun i σ H1 => ∃ (ns : List Addr) (v4 v5 : Option V), σ = [some (.ref ra), some (.int t), some (.ref mo), some (.ref F), v4, v5] ∧ Same H H1 ∧ H1 F = some (.lst (ns.map V.ref)) ∧ Rows H1 ns ((rws.take i).map (shiftRw t))) ⟨[], none, none, rfl, Same.new hF, upd_same, ⟨rfl, fun i a r e1 _ => by simp at e1⟩⟩ (fun i σ H1 _ ⟨_, _, _, _, s1, _⟩ => SqL.of (s1 _ _ hra)) ?_ ?_
    · rintro i y σ H2 H1 hi ⟨ns, v4, v5, rfl, s1, hF1, hRn⟩ ⟨rfl, hy⟩
      obtain ⟨a, r, rfl, ha, hr, hH⟩ := hR.get hy
      have hH1 := s1 _ _ hH
      refine ⟨_, rfl, _, _, _, _, rfl, rfl, SqT.of hH1, at0, sz_of (by show 2 ≤ 100000; decide), fun tt htt => ?_⟩
      have s2 := Same.new (o := .tup [.str "if", .str "jump"]) htt
      have h2 := s2 _ _ hH1
      have nonif : ∀ (hw : shiftRw t r = r) (hi : inV (.str r.word) [.str "if", .str "jump"] = false), True := fun _ _ => trivial
      refine ⟨tt, _, rfl, .inr (SqT.of upd_same), rfl, rfl, _, rfl, ?_⟩
      cases r with
      | ifz x g =>
        refine ifT (show inV (V.str "if") [V.str "if", V.str "jump"] = true by decide +kernel) ?_
        refine ⟨_, rfl, _, rfl, _, _, _, _, rfl, rfl, SqT.of h2, (show atI [V.str "if", sv x, .int (g : Int)] (-1) = some (.int (g : Int)) from rfl), ?_⟩
        refine ⟨_, rfl, rfl, _, rfl, ifT rfl ⟨_, rfl, _, rfl, _, _, rfl, rfl, _, rfl, ?_⟩⟩
        by_cases c : t < g
        · have es : shiftRw t (.ifz x g) = .ifz x (g + 1) := if_pos c
          refine ifT (decide_eq_true (by omega)) ?_
          refine ⟨_, rfl, _, rfl, _, rfl, a, _, rfl, SqT.of h2, cut_if.2, fun sl hsl => ⟨_, rfl, _, _, rfl, rfl, sz_of (by show 1 ≤ 100000; decide), fun t2 ht2 => ?_⟩⟩
          have s3 := Same.new (o := .tup (cutV (Rw.vals (.ifz x g)) none (some (-1)))) hsl
          have s4 := Same.new (o := .tup [.int ((g : Int) + 1)]) ht2
          refine ⟨sl, t2, _, _, rfl, rfl, SqT.of (s4 _ _ upd_same), SqT.of upd_same, (by intro z; cases z), sz_of (by show 3 ≤ 100000; decide), (fun z => absurd z (List.cons_ne_nil _ _)), fun _ t3 ht3 => ?_⟩
          have s5 := s2.trans (s3.trans (s4.trans (Same.new (o := .tup [.str "if", sv x, .int ((g : Int) + 1)]) ht3)))
          have h6 : ∀ {Hx : Hp}, Hx t3 = none → upd Hx t3 (.tup [.str "if", sv x, .int ((g : Int) + 1)]) t3 = some (.tup (Rw.vals (shiftRw t (.ifz x g)))) := fun _ => by
            rw [upd_same, es]
            rfl
          refine ⟨_, rfl, .inl ⟨rfl, _, SqL.of (s5 _ _ hF1)⟩, _, rfl, F, _, _, rfl, rfl, s5 _ _ hF1, sz_lt (by rw [List.length_map, hRn.len, List.length_map, List.length_take]; omega), ns ++ [t3], _, _, rfl, Same.mut (s1.trans s5) hF, by rw [upd_same, List.map_append]; rfl, ?_⟩
          rw [take_snoc hr, List.map_append]
          have hX := h6 ht3
          refine ((hRn.mono s5).putL (s5 _ _ hF1)).append (Rows.one ?_)
          rw [upd_ne (ne_of hX (s5 _ _ hF1) (by intro z; cases z))]
          exact hX
        · have es : shiftRw t (.ifz x g) = .ifz x g := if_neg c
          refine ifF (decide_eq_false (by omega)) ?_
          refine ⟨_, rfl, .inl ⟨rfl, _, SqL.of (s2 _ _ hF1)⟩, _, rfl, F, _, _, rfl, rfl, s2 _ _ hF1, sz_lt (by rw [List.length_map, hRn.len, List.length_map, List.length_take]; omega), ns ++ [a], _, _, rfl, Same.mut (s1.trans s2) hF, by rw [upd_same, List.map_append]; rfl, ?_⟩
          rw [take_snoc hr, List.map_append]
          have hX := (show (upd H1 tt (.tup [.str "if", .str "jump"])) a = some (HO.tup (Rw.vals (shiftRw t (.ifz x g)))) by rw [es]; exact h2)
          refine ((hRn.mono s2).putL (s2 _ _ hF1)).append (Rows.one ?_)
          rw [upd_ne (ne_of hX (s2 _ _ hF1) (by intro z; cases z))]
          exact hX
      | jump g => exact absurd (List.mem_of_getElem? hr) (hj g)
      | copy x y =>
        refine ifF (show inV (V.str "copy") [V.str "if", V.str "jump"] = false by decide +kernel) ⟨_, rfl, rfl, _, rfl, ifF rfl ?_⟩
        refine ⟨_, rfl, .inl ⟨rfl, _, SqL.of (s2 _ _ hF1)⟩, _, rfl, F, _, _, rfl, rfl, s2 _ _ hF1, sz_lt (by rw [List.length_map, hRn.len, List.length_map, List.length_take]; omega), ns ++ [a], _, _, rfl, Same.mut (s1.trans s2) hF, by rw [upd_same, List.map_append]; rfl, ?_⟩
        rw [take_snoc hr, List.map_append]
        have hX := h2
        refine ((hRn.mono s2).putL (s2 _ _ hF1)).append (Rows.one ?_)
        rw [upd_ne (ne_of hX (s2 _ _ hF1) (by intro z; cases z))]
        exact hX
      | see x =>
        refine ifF (show inV (V.str "see") [V.str "if", V.str "jump"] = false by decide +kernel) ⟨_, rfl, rfl, _, rfl, ifF rfl ?_⟩
        refine ⟨_, rfl, .inl ⟨rfl, _, SqL.of (s2 _ _ hF1)⟩, _, rfl, F, _, _, rfl, rfl, s2 _ _ hF1, sz_lt (by rw [List.length_map, hRn.len, List.length_map, List.length_take]; omega), ns ++ [a], _, _, rfl, Same.mut (s1.trans s2) hF, by rw [upd_same, List.map_append]; rfl, ?_⟩
        rw [take_snoc hr, List.map_append]
        have hX := h2
        refine ((hRn.mono s2).putL (s2 _ _ hF1)).append (Rows.one ?_)
        rw [upd_ne (ne_of hX (s2 _ _ hF1) (by intro z; cases z))]
        exact hX
      | ret x =>
        refine ifF (show inV (V.str "return") [V.str "if", V.str "jump"] = false by decide +kernel) ⟨_, rfl, rfl, _, rfl, ifF rfl ?_⟩
        refine ⟨_, rfl, .inl ⟨rfl, _, SqL.of (s2 _ _ hF1)⟩, _, rfl, F, _, _, rfl, rfl, s2 _ _ hF1, sz_lt (by rw [List.length_map, hRn.len, List.length_map, List.length_take]; omega), ns ++ [a], _, _, rfl, Same.mut (s1.trans s2) hF, by rw [upd_same, List.map_append]; rfl, ?_⟩
        rw [take_snoc hr, List.map_append]
        have hX := h2
        refine ((hRn.mono s2).putL (s2 _ _ hF1)).append (Rows.one ?_)
        rw [upd_ne (ne_of hX (s2 _ _ hF1) (by intro z; cases z))]
        exact hX
      | add x y z =>
        refine ifF (show inV (V.str "add") [V.str "if", V.str "jump"] = false by decide +kernel) ⟨_, rfl, rfl, _, rfl, ifF rfl ?_⟩
        refine ⟨_, rfl, .inl ⟨rfl, _, SqL.of (s2 _ _ hF1)⟩, _, rfl, F, _, _, rfl, rfl, s2 _ _ hF1, sz_lt (by rw [List.length_map, hRn.len, List.length_map, List.length_take]; omega), ns ++ [a], _, _, rfl, Same.mut (s1.trans s2) hF, by rw [upd_same, List.map_append]; rfl, ?_⟩
        rw [take_snoc hr, List.map_append]
        have hX := h2
        refine ((hRn.mono s2).putL (s2 _ _ hF1)).append (Rows.one ?_)
        rw [upd_ne (ne_of hX (s2 _ _ hF1) (by intro z; cases z))]
        exact hX
      | num x n =>
        refine ifF (show inV (V.str "number") [V.str "if", V.str "jump"] = false by decide +kernel) ⟨_, rfl, rfl, _, rfl, ifF rfl ?_⟩
        refine ⟨_, rfl, .inl ⟨rfl, _, SqL.of (s2 _ _ hF1)⟩, _, rfl, F, _, _, rfl, rfl, s2 _ _ hF1, sz_lt (by rw [List.length_map, hRn.len, List.length_map, List.length_take]; omega), ns ++ [a], _, _, rfl, Same.mut (s1.trans s2) hF, by rw [upd_same, List.map_append]; rfl, ?_⟩
        rw [take_snoc hr, List.map_append]
        have hX := h2
        refine ((hRn.mono s2).putL (s2 _ _ hF1)).append (Rows.one ?_)
        rw [upd_ne (ne_of hX (s2 _ _ hF1) (by intro z; cases z))]
        exact hX
    · rintro σ H1 ⟨ns, v4, v5, rfl, s1, hF1, hRn⟩
      rw [List.length_map, hR.len, List.take_length] at hRn
      have hln : ns.length = rws.length := by rw [hRn.len, List.length_map]
      have htn : t ≤ (ns.map V.ref).length := by rw [List.length_map, hln]; exact ht
      refine ⟨_, rfl, _, rfl, _, rfl, F, _, rfl, SqL.of hF1, fun l1 hl1 => ⟨_, rfl, sz_of (by show 1 ≤ 100000; decide), fun l2 hl2 => ?_⟩⟩
      have s2 := Same.new (o := .lst (cutV (ns.map V.ref) none (some (t : Int)))) hl1
      have s3 := Same.new (o := .lst [.ref mo]) hl2
      refine ⟨l1, l2, _, _, rfl, rfl, s3 _ _ upd_same, upd_same, sz_of (by rw [cut_take htn, List.length_take]; show _ + 1 ≤ _; omega), fun l3 hl3 => ?_⟩
      have s4 := Same.new (o := .lst (cutV (ns.map V.ref) none (some (t : Int)) ++ [.ref mo])) hl3
      have s24 := s2.trans (s3.trans s4)
      refine ⟨_, rfl, _, rfl, _, rfl, F, _, rfl, SqL.of (s24 _ _ hF1), fun l4 hl4 => ?_⟩
      have s5 := Same.new (o := .lst (cutV (ns.map V.ref) (some (t : Int)) none)) hl4
      refine ⟨l3, l4, _, _, rfl, rfl, s5 _ _ upd_same, upd_same, sz_of (by rw [cut_take htn, cut_drop htn]; simp; omega), fun l5 hl5 => ?_⟩
      have s6 := Same.new (o := .lst (cutV (ns.map V.ref) none (some (t : Int)) ++ [.ref mo] ++ cutV (ns.map V.ref) (some (t : Int)) none)) hl5
      have s26 := s24.trans (s5.trans s6)
      have hq : H l5 = none := by
        cases z : H l5 with
        | none => rfl
        | some u => exact absurd (s5 _ _ (s24 _ _ (s1 _ _ z))) (by rw [hl5]; intro z; cases z)
      refine k l5 _ (ns.take t ++ [mo] ++ ns.drop t) (s1.trans s26) hq ?_ ?_
      · rw [upd_same, cut_take htn, cut_drop htn, List.map_append, List.map_append, List.map_take, List.map_drop]
        rfl
      · unfold putAt
        exact (((hRn.take t).mono s26).append (Rows.one (s26 _ _ (s1 _ _ hmo)))).append ((hRn.drop t).mono s26)

end
end W19
set_option Elab.async false
set_option linter.all false
set_option maxRecDepth 100000
set_option maxHeartbeats 4000000
namespace W19
open PySem PySem.Spec PyProof.Rows L2
/-! ### a row put in -/
structure BRow (sz : Nat) (r : Rw) : Prop where
  bel : r.below 4
  goal : ∀ g, r.goal = some g → g < sz
  nj : ∀ g, r ≠ .jump g
theorem bel4 {r : Rw} (h : r.below 4) : r.below 9 ∧ ∀ k ∈ r.names, vn k ∈ names 4 := by
  have vin : ∀ {k : Nat}, k < 4 → vn k ∈ names 4 := fun hk => List.mem_map.mpr ⟨_, List.mem_range.mpr hk, rfl⟩
  cases r <;> simp [Rw.below] at h <;> refine ⟨by simp [Rw.below] <;> omega, fun k hk => vin ?_⟩ <;> simp [Rw.names, Rw.sets, Rw.reads] at hk <;> omega
theorem shift_bel {t m : Nat} {r : Rw} (h : r.below m) : (shiftRw t r).below m := by
  cases r with
  | ifz x g =>
    unfold shiftRw
    simp only
    split <;> exact h
  | _ => exact h
theorem shift_goal {t sz : Nat} {r : Rw} (h : ∀ g, r.goal = some g → g < sz) : ∀ g, (shiftRw t r).goal = some g → g < sz + 1 := by
  intro g e
  cases r with
  | ifz x q =>
    have hq := h q rfl
    unfold shiftRw at e
    simp only at e
    split at e <;> (have e2 := Option.some.inj e; omega)
  | jump q =>
    have hq := h q rfl
    have e2 := Option.some.inj e
    omega
  | copy x y => cases e
  | see x => cases e
  | ret x => cases e
  | add x y z => cases e
  | num x n => cases e
structure PutAt (t : Nat) (rws0 : List Rw) (more : Rw) (N : List Rw) : Prop where
  okay : Okay N (names 4)
  len : N.length = rws0.length + 2
  mid : N[t]? = some more
theorem put_ok {sz t : Nat} {rws0 : List Rw} {more : Rw} (hb : ∀ r ∈ rws0, BRow sz r) (hl : rws0.length = sz) (hs : sz ≤ 30) (ht : t < sz) (hm : more.below 4) (hg : more.goal = none) : PutAt t rws0 more (putAt t (rws0 ++ [.ret 1]) more) := by
  have e1 : (rws0 ++ [Rw.ret 1]).map (shiftRw t) = rws0.map (shiftRw t) ++ [.ret 1] := by
    rw [List.map_append]
    rfl
  have hlm : (rws0.map (shiftRw t)).length = sz := by rw [List.length_map, hl]
  have e2 : putAt t (rws0 ++ [.ret 1]) more = ((rws0.map (shiftRw t)).take t ++ [more] ++ (rws0.map (shiftRw t)).drop t) ++ [.ret 1] := by
    unfold putAt
    rw [e1, List.take_append_of_le_length (by omega), List.drop_append_of_le_length (by omega), List.append_assoc _ _ [Rw.ret 1]]
  have hlen : (putAt t (rws0 ++ [.ret 1]) more).length = sz + 2 := by
    rw [e2]
    simp only [List.length_append, List.length_take, List.length_drop, hlm, List.length_cons, List.length_nil]
    omega
  have mem : ∀ r ∈ putAt t (rws0 ++ [.ret 1]) more, (∃ r0 ∈ rws0, r = shiftRw t r0) ∨ r = more ∨ r = .ret 1 := by
    intro r hr
    rw [e2] at hr
    simp only [List.mem_append, List.mem_singleton] at hr
    rcases hr with ((h | h) | h) | h
    · obtain ⟨r0, h1, h2⟩ := List.mem_map.mp (List.mem_of_mem_take h)
      exact .inl ⟨r0, h1, h2.symm⟩
    · exact .inr (.inl h)
    · obtain ⟨r0, h1, h2⟩ := List.mem_map.mp (List.mem_of_mem_drop h)
      exact .inl ⟨r0, h1, h2.symm⟩
    · exact .inr (.inr h)
  refine ⟨⟨fun r hr => ?_, ⟨_, .ret 1, e2, .inr rfl⟩, by omega⟩, by rw [hlen, hl], ?_⟩
  · rcases mem r hr with ⟨r0, h0, rfl⟩ | rfl | rfl
    · have B := hb r0 h0
      obtain ⟨q1, q2⟩ := bel4 (shift_bel (t := t) B.bel)
      refine ⟨q1, q2, fun g e => ?_⟩
      have := shift_goal B.goal g e
      omega
    · obtain ⟨q1, q2⟩ := bel4 hm
      refine ⟨q1, q2, fun g e => ?_⟩
      rw [hg] at e
      cases e
    · obtain ⟨q1, q2⟩ := bel4 (r := .ret 1) (show (1 : Nat) < 4 from by decide)
      exact ⟨q1, q2, fun g e => by cases e⟩
  · rw [e2, List.append_assoc, List.append_assoc, List.getElem?_append_right (by rw [List.length_take]; omega)]
    have : t - ((rws0.map (shiftRw t)).take t).length = 0 := by
      rw [List.length_take]
      omega
    rw [this]
    rfl
theorem wanted_nodup (rws : List Rw) (m i : Nat) : (wantedOf rws m i).Nodup := List.nodup_range.filter _
theorem wanted_sorted (rws : List Rw) (m i : Nat) : (wantedOf rws m i).Pairwise (· ≤ ·) := (range_sorted m).filter _
theorem wanted_mem {rws : List Rw} {m i a : Nat} : a ∈ wantedOf rws m i ↔ a < m ∧ (wayOf rws a i).isSome = true := by
  unfold wantedOf
  rw [List.mem_filter, List.mem_range]
def without (x : Nat) (l : List Nat) : List Nat := l.filter fun a => decide (a ≠ x)
theorem put_see {t x : Nat} {rws0 N : List Rw} (h : PutAt t rws0 (.see x) N) (ht : t < rws0.length) (hx : x < 4) : wayOf N x t = some [t] ∧ (wantedOf N 4 t).Perm (without x (wantedOf N 4 (t + 1)) ++ [x]) := by
  have hw := way_see h.mid
  refine ⟨hw, ?_⟩
  have hn : nextOf N t = [t + 1] := by
    unfold nextOf
    rw [h.mid]
  have hlen := h.len
  have nd2 : (without x (wantedOf N 4 (t + 1)) ++ [x]).Nodup := L2.nd_snoc ((wanted_nodup _ _ _).filter _) (fun q => by
    have := (List.mem_filter.mp q).2
    simp at this)
  refine (List.perm_ext_iff_of_nodup (wanted_nodup _ _ _) nd2).mpr fun a => ?_
  unfold without
  rw [List.mem_append, List.mem_filter, wanted_mem, wanted_mem, List.mem_singleton]
  by_cases c : a = x
  · subst c
    rw [hw]
    simp [hx]
  · rw [skip h.okay h.mid (by simp [Rw.reads]; exact c) (by simp [Rw.sets]) hn (by omega)]
    simp [c]
theorem put_num {t x n : Nat} {rws0 N : List Rw} (h : PutAt t rws0 (.num x n) N) (ht : t < rws0.length) : wayOf N x t = none ∧ (wantedOf N 4 t).Perm (without x (wantedOf N 4 (t + 1))) := by
  have hw := way_num h.mid
  refine ⟨hw, ?_⟩
  have hn : nextOf N t = [t + 1] := by
    unfold nextOf
    rw [h.mid]
  have hlen := h.len
  refine (List.perm_ext_iff_of_nodup (wanted_nodup _ _ _) ((wanted_nodup _ _ _).filter _)).mpr fun a => ?_
  rw [List.mem_filter, wanted_mem, wanted_mem]
  by_cases c : a = x
  · subst c
    rw [hw]
    simp
  · rw [skip h.okay h.mid (by simp [Rw.reads]) (by simp [Rw.sets]; exact fun z => c z.symm) hn (by omega)]
    simp [c]
theorem nat_getD : ∀ {l : List Nat}, (List.range l.length).map (fun i => l.getD i 0) = l := by
  intro l
  apply List.ext_getElem
  · simp
  · intro i h1 h2
    simp at h1
    simp [h1]
theorem without_range {x : Nat} {l : List Nat} : ((List.range l.length).filter (fun i => decide (l.getD i 0 ≠ x))).map (fun i => sv (l.getD i 0)) = (without x l).map sv := by
  have e : without x l = ((List.range l.length).filter (fun i => decide (l.getD i 0 ≠ x))).map (fun i => l.getD i 0) := by
    conv => lhs; rw [← nat_getD (l := l)]
    unfold without
    rw [List.filter_map]
    rfl
  rw [e, List.map_map]
  rfl
/-! ### what a draw leaves -/
theorem But.new {p q : Addr} {H : Hp} {o : HO} (h : H q = none) : But p H (L2.upd H q o) := But.of (Same.new h)
theorem But.mut {p R : Addr} {H H' : Hp} {o : HO} (b : But p H H') (h : H R = none) : But p H (L2.upd H' R o) := fun c u e n => by
  rw [upd_ne (ne_of_none e h)]
  exact b c u e n
theorem But.then {p : Addr} {H H' H2 : Hp} (b : But p H H') (e : Same H' H2) : But p H H2 := b.trans (But.of e)
theorem WellAt.ne {H : Hp} {p a : Addr} {xs : List V} (h : WellAt H p) (ha : H a = some (.tup xs)) : a ≠ p := by
  obtain ⟨_, _, _, q⟩ := h
  exact ne_of ha q (by intro z; cases z)
theorem Rows.but {p : Addr} {H H' : Hp} {rs : List Addr} {rws : List Rw} (h : Rows H rs rws) (w : WellAt H p) (b : But p H H') : Rows H' rs rws :=
  ⟨h.len, fun i a r e1 e2 => b _ _ (h.at_ i a r e1 e2) (w.ne (h.at_ i a r e1 e2))⟩
theorem WellAt.nn {H : Hp} {p q : Addr} (h : WellAt H p) (hq : H q = none) : q ≠ p := by
  obtain ⟨_, _, _, e⟩ := h
  exact (ne_of_none e hq).symm
theorem WellAt.put {H : Hp} {p q : Addr} {o : HO} (h : WellAt H p) (hq : q ≠ p) : WellAt (upd H q o) p := by
  obtain ⟨a, b, c, e⟩ := h
  exact ⟨a, b, c, by rw [upd_ne hq.symm]; exact e⟩
end W19
set_option Elab.async false
set_option linter.all false
set_option maxRecDepth 100000
set_option maxHeartbeats 4000000
namespace W19
open PySem PySem.Spec PyProof.Rows L2
section
variable {P : Program} {w : World} {K : PySem.W.Frag} {mg : Str → Option Value} {base : Heap}

theorem lc_but {J : It} {n : Nat} {G : Hp → Prop} {Y : Nat → Hp → V → Hp → Prop} (w : Walk J n G Y) {g : TG} {te : TE} {vs : List Nat} {σ : L2.St} {H0 : Hp} {D p : Addr} {Qd : Hp → Prop} (hD : H0 D = none) (w0 : WellAt H0 p) (P : V → Prop) (hn : n < 100000)
    (hG : ∀ H, But p H0 H → WellAt H p → G H)
    (hs : ∀ i H x H', i < n → But p H0 H → WellAt H p → Y i H x H' → ∀ Qe : VK, (∀ v H4, P v → But p H H4 → WellAt H4 p → Qe v H4) → g x (wipe σ vs) H' fun σ2 H2 => wipe σ2 vs = wipe σ vs ∧ te σ2 H2 Qe)
    (hd : ∀ (H : Hp) (xs : List V), But p H0 H → WellAt H p → xs.length = n → (∀ x ∈ xs, P x) → H D = some (.lst xs) → Qd H) :
    ∃ W : Nat → Nat → Hp → Prop, (∃ m, W 0 m (upd H0 D (.lst []))) ∧ ∀ i m H, W i m H →
      (J.stop i H ∧ Qd H) ∨ (J.go i H ∧ ∃ Nx : Hp → Prop, (∀ H', Nx H' → ∃ m', m' < m ∧ W (i + 1) m' H') ∧ ∀ x H', J.yld i H x H' → g x (wipe σ vs) H' fun σ2 H2 => wipe σ2 vs = wipe σ vs ∧ tYes σ2 H2 fun b H3 =>
        if b = true then te σ2 H3 fun y H4 => ∃ acc, H4 D = some (.lst acc) ∧ acc.length < sizeLine ∧ Nx (upd H4 D (.lst (acc ++ [y]))) else Nx H3) := by
  have nDp := w0.nn hD
  refine lc_it w (fun i H => But p H0 H ∧ WellAt H p ∧ ∃ xs : List V, xs.length = i ∧ (∀ x ∈ xs, P x) ∧ H D = some (.lst xs)) ⟨But.new hD, w0.put nDp, [], rfl, fun x m => by simp at m, upd_same⟩ (fun i H _ p => hG H p.1 p.2.1) (fun i x H H' hi q y => ?_) (fun H q => ?_)
  · obtain ⟨b1, w1, xs, hl, hx, hDD⟩ := q
    have q := hs i H x H' hi b1 w1 y (fun y H4 => ∃ acc, H4 D = some (.lst acc) ∧ acc.length < sizeLine ∧ (But p H0 (upd H4 D (.lst (acc ++ [y]))) ∧ WellAt (upd H4 D (.lst (acc ++ [y]))) p ∧ ∃ xs : List V, xs.length = i + 1 ∧ (∀ x ∈ xs, P x) ∧ upd H4 D (.lst (acc ++ [y])) D = some (.lst xs))) (fun v H4 pv b4 w4 => ?_)
    · exact q
    · refine ⟨xs, b4 _ _ hDD nDp, sz_lt (by omega), (b1.trans b4).mut hD, w4.put nDp, xs ++ [v], by rw [List.length_append, hl]; rfl, fun z m => ?_, upd_same⟩
      rcases List.mem_append.mp m with m | m
      · exact hx z m
      · rw [List.mem_singleton.mp m]
        exact pv
  · obtain ⟨b1, w1, xs, hl, hx, hDD⟩ := q
    exact hd H xs b1 w1 hl hx hDD
theorem three {xs : List V} (hl : xs.length = 3) (h : ∀ x ∈ xs, ∃ k, x = sv k ∧ k < 4) : ∃ a b c, xs = [sv a, sv b, sv c] ∧ a < 4 ∧ b < 4 ∧ c < 4 := by
  match xs, hl with
  | [x, y, z], _ =>
    obtain ⟨a, rfl, ha⟩ := h x (by simp)
    obtain ⟨b, rfl, hb⟩ := h y (by simp)
    obtain ⟨c, rfl, hc⟩ := h z (by simp)
    exact ⟨a, b, c, rfl, ha, hb, hc⟩

theorem sc_L_put_right : FnScope ["_law_well_here", "_law_size", "_law_rows", "_law_k", "_law_at", "_law_title", "_law_reading", "_law_setting", "_law_later", "_law_is_read", "_law_titles", "_law_some", "_law_prog", "_law_due", "_law_turn", "_law_one_here"] ["_law_well_here"] (defScope s_L_put_right) := ⟨rfl, rfl, rfl, by decide +kernel, rfl, by decide +kernel, by decide +kernel⟩
theorem ok_L_put_right (T : Ctx w K mg) (H_L_draw : Has P w K mg base 1 "_law_draw" ["_law_well_here", "_law_many"] spDraw) (H_L_one : Has P w K mg base 2 "_law_one" ["_law_well_here", "_law_some"] spOne) (H_L_made : Has P w K mg base 10 "_law_made" ["_law_rows", "_law_many"] (spMade K)) (H_L_shifted : Has P w K mg base 1 "_law_shifted" ["_law_rows", "_law_at", "_law_more"] spShifted) (H_wanted : Has P w K mg base 5 "wanted" ["source", "name", "row"] (spWanted K)) (H_wanting : Has P w K mg base 5 "wanting" ["source", "name", "row", "variable"] (spWanting K)) : Has P w K mg base 11 "_law_put_right" ["_law_well_here"] spRight := by
  obtain ⟨fd, F⟩ := T.D_L_put_right
  obtain ⟨fd_L_draw, G_L_draw, b_L_draw⟩ := H_L_draw.ex
  obtain ⟨fd_L_one, G_L_one, b_L_one⟩ := H_L_one.ex
  obtain ⟨fd_L_made, G_L_made, b_L_made⟩ := H_L_made.ex
  obtain ⟨fd_L_shifted, G_L_shifted, b_L_shifted⟩ := H_L_shifted.ex
  obtain ⟨fd_wanted, G_wanted, b_wanted⟩ := H_wanted.ex
  obtain ⟨fd_wanting, G_wanting, b_wanting⟩ := H_wanting.ex
  refine ⟨⟨fd, F.ok sc_L_put_right (fun vs H Q E h => ?_) (fun cdv A outer s H vs Q E hr h => ?_), F.bindsN fun _ _ _ _ _ _ us hl => match us, hl with | [_], _ => rfl⟩, F.kp, T.g_L_put_right⟩
  · obtain ⟨p, rfl, hw, k⟩ := h; rfl
  · obtain ⟨p, rfl, hw, k⟩ := h
    have hr_L_draw : Room 1 _ := hr.mono (by decide)
    have hr_L_one : Room 2 _ := hr.mono (by decide)
    have hr_L_made : Room 10 _ := hr.mono (by decide)
    have hr_L_shifted : Room 1 _ := hr.mono (by decide)
    have hr_wanted : Room 5 _ := hr.mono (by decide)
    have hr_wanting : Room 5 _ := hr.mono (by decide)
    have hu := hu_of hr
    refine ⟨_, PSs.nox (pss_cons (ps_set (i := 1) sc_L_put_right.nd rfl (Or.inl rfl) (pe_op op_add pe_int (pe_call G_L_draw hr_L_draw (by rfl) H_L_draw.gl H_L_draw.kp b_L_draw .nil pass0 (pa_cons (pv 0) (pa_cons pe_int pa_nil)))))
      (pss_cons (ps_set (i := 2) sc_L_put_right.nd rfl (Or.inl rfl) (pe_lst pa_nil))
      (pss_cons (ps_for PassesOwn.never rfl (pi_range1 (by rfl) T.f_range (pa_cons (pv 1) pa_nil)) (pg_name (i := 3) sc_L_put_right.nd rfl (Or.inl rfl))
      (pss_cons (ps_setLc (i := 10) (own := [("_law_turn", 14)]) (g := gName 14) (tt := tYes) rfl sc_L_put_right.nd rfl rfl (sw_true rfl rfl rfl (by decide +kernel)) (pi_range1 (by rfl) T.f_range (pa_cons pe_int pa_nil)) (blkOk_by (N := ["_law_well_here", "_law_size", "_law_rows", "_law_k", "_law_at", "_law_title", "_law_reading", "_law_setting", "_law_later", "_law_is_read", "_law_titles", "_law_some", "_law_prog", "_law_due", "_law_turn", "_law_one_here"]) (sc := defScope s_L_put_right) (by decide +kernel)) (fun _ _ _ _ _ => (pg_name (i := 14) sc_L_put_right.nd rfl (Or.inl rfl))) (fun _ _ _ _ _ => pts_nil) (fun _ _ _ _ _ => (pe_op op_add_str pe_str (pe_callTy call_str_int (by rfl) T.f_str (by decide +kernel) (pa_cons (pe_call G_L_draw hr_L_draw (by rfl) H_L_draw.gl H_L_draw.kp b_L_draw .nil pass0 (pa_cons (pv 0) (pa_cons pe_int pa_nil))) pa_nil)))))
      (pss_cons (ps_set (i := 11) sc_L_put_right.nd rfl (Or.inl rfl) (pe_lst (pa_cons (pe_op op_catT (pe_tup (pa_cons pe_str pa_nil)) (pe_callTy call_tuple_of (by rfl) T.f_tuple (by decide +kernel) (pa_cons (pv 10) pa_nil))) (pa_cons (pe_tup (pa_cons pe_str (pa_cons (pe_ix ix_list (pv 10) pe_int (fun _ _ => rfl)) (pa_cons pe_int pa_nil)))) (pa_cons (pe_tup (pa_cons pe_str (pa_cons (pe_ix ix_list (pv 10) pe_int (fun _ _ => rfl)) pa_nil))) (pa_cons (pe_tup (pa_cons pe_str (pa_cons (pe_ix ix_list (pv 10) pe_int (fun _ _ => rfl)) (pa_cons (pe_ix ix_list (pv 10) pe_int (fun _ _ => rfl)) pa_nil)))) pa_nil))))))
      (pss_one (ps_expr (pe_bm PySem.F.plainAttrs_list PySem.F.slot_list_append PySem.F.type_list_append mt_append (pv 2) (pa_cons (pe_call G_L_one hr_L_one (by rfl) H_L_one.gl H_L_one.kp b_L_one .nil pass0 (pa_cons (pv 0) (pa_cons (pe_op op_cat (pv 11) (pe_lst (pa_cons (pe_tup (pa_cons pe_str (pa_cons (pe_ix ix_list (pv 10) pe_int (fun _ _ => rfl)) (pa_cons (pe_call G_L_draw hr_L_draw (by rfl) H_L_draw.gl H_L_draw.kp b_L_draw .nil pass0 (pa_cons (pv 0) (pa_cons (pv 1) pa_nil))) pa_nil)))) pa_nil))) pa_nil))) pa_nil)))))))
      (pss_cons (ps_expr (pe_bm PySem.F.plainAttrs_list PySem.F.slot_list_append PySem.F.type_list_append mt_append (pv 2) (pa_cons (pe_tup (pa_cons pe_str (pa_cons pe_str pa_nil))) pa_nil)))
      (pss_cons (ps_asg (pe_tup (pa_cons (pe_call G_L_draw hr_L_draw (by rfl) H_L_draw.gl H_L_draw.kp b_L_draw .nil pass0 (pa_cons (pv 0) (pa_cons (pv 1) pa_nil))) (pa_cons (pe_op op_add_str pe_str (pe_callTy call_str_int (by rfl) T.f_str (by decide +kernel) (pa_cons (pe_call G_L_draw hr_L_draw (by rfl) H_L_draw.gl H_L_draw.kp b_L_draw .nil pass0 (pa_cons (pv 0) (pa_cons pe_int pa_nil))) pa_nil))) pa_nil))) (pg_tup rfl (pgs_cons (pg_name (i := 4) sc_L_put_right.nd rfl (Or.inl rfl)) (pgs_cons (pg_name (i := 5) sc_L_put_right.nd rfl (Or.inr rfl)) pgs_nil))))
      (pss_cons (ps_par (i := 6) (j := 7) (by rfl) sc_L_put_right.nd rfl rfl (by decide) rfl rfl (pa_cons (pe_call G_L_shifted hr_L_shifted (by rfl) H_L_shifted.gl H_L_shifted.kp b_L_shifted .nil pass0 (pa_cons (pv 2) (pa_cons (pv 4) (pa_cons (pe_tup (pa_cons pe_str (pa_cons (pv 5) pa_nil))) pa_nil)))) (pa_cons (pe_call G_L_shifted hr_L_shifted (by rfl) H_L_shifted.gl H_L_shifted.kp b_L_shifted .nil pass0 (pa_cons (pv 2) (pa_cons (pv 4) (pa_cons (pe_tup (pa_cons pe_str (pa_cons (pv 5) (pa_cons pe_int pa_nil)))) pa_nil)))) pa_nil)) (by rfl))
      (pss_cons (ps_for PassesOwn.never rfl (pi_tup (pe_tup (pa_cons (pe_tup (pa_cons (pv 6) (pa_cons pe_bl pa_nil))) (pa_cons (pe_tup (pa_cons (pv 7) (pa_cons pe_bl pa_nil))) pa_nil)))) (pg_tup rfl (pgs_cons (pg_name (i := 8) sc_L_put_right.nd rfl (Or.inl rfl)) (pgs_cons (pg_name (i := 9) sc_L_put_right.nd rfl (Or.inl rfl)) pgs_nil)))
      (pss_cons (ps_set (i := 12) sc_L_put_right.nd rfl (Or.inl rfl) (pe_call G_L_made hr_L_made (by rfl) H_L_made.gl H_L_made.kp b_L_made .nil pass0 (pa_cons (pv 8) (pa_cons pe_int pa_nil))))
      (pss_cons (ps_set (i := 13) sc_L_put_right.nd rfl (Or.inl rfl) (pe_op op_cat (pe_lc (own := [("_law_one_here", 15)]) (g := gName 15) rfl sc_L_put_right.nd (pi_list (pe_call G_wanted hr_wanted (by rfl) H_wanted.gl H_wanted.kp b_wanted .nil pass0 (pa_cons (pv 12) (pa_cons pe_str (pa_cons (pe_op op_add (pv 4) pe_int) pa_nil))))) (blkOk_by (N := ["_law_well_here", "_law_size", "_law_rows", "_law_k", "_law_at", "_law_title", "_law_reading", "_law_setting", "_law_later", "_law_is_read", "_law_titles", "_law_some", "_law_prog", "_law_due", "_law_turn", "_law_one_here"]) (sc := defScope s_L_put_right) (by decide +kernel)) (fun _ _ _ _ _ => (pg_name (i := 15) sc_L_put_right.nd rfl (Or.inl rfl))) (fun _ _ _ _ _ => (pts_one (pt_cmpR op_ne (pv 15) (pv 5) (nomark _)))) (fun _ _ _ _ _ => (pv 15))) (pe_op op_rep (pe_lst (pa_cons (pv 5) pa_nil)) (pe_callTy call_int1 (by rfl) T.f_int (by decide +kernel) (pa_cons (pv 9) pa_nil)))))
      (pss_cons (ps_if (pt_cmpR (op_neD hr.units) (pe_call G_wanted hr_wanted (by rfl) H_wanted.gl H_wanted.kp b_wanted .nil pass0 (pa_cons (pv 12) (pa_cons pe_str (pa_cons (pv 4) pa_nil)))) (pe_callB cr_sortedS (by rfl) T.f_sorted (by decide +kernel) (pa_cons (pv 13) pa_nil)) (nomark _)) (pss_one (ps_ret pe_bl)) pss_nil)
      (pss_one (ps_if (pt_cmpR (op_neD hr.units) (pe_call G_wanting hr_wanting (by rfl) H_wanting.gl H_wanting.kp b_wanting .nil pass0 (pa_cons (pv 12) (pa_cons pe_str (pa_cons (pv 4) (pa_cons (pv 5) pa_nil))))) (pe_ifExp (pt_val (pv 9)) (pe_lst (pa_cons (pv 4) pa_nil)) pe_non) (nomark _)) (pss_one (ps_ret pe_bl)) pss_nil))))))
      (pss_one (ps_ret pe_bl))))))))), ?_⟩
    have v1 : vn 1 = ("v1" : Str) := by decide +kernel
    refine ⟨_, rfl, p, 12, rfl, hw, by decide, by decide, fun k1 H1 hk1 b1 w1 => ?_⟩
    obtain ⟨sz, em, d1, d6⟩ : ∃ m : Nat, (2 : Int) + (k1 : Int) = (m : Int) ∧ 2 ≤ m ∧ m ≤ 13 := ⟨k1 + 2, by omega, by omega, by omega⟩
    refine ⟨_, _, rfl, rfl, ?_⟩
    dsimp only
    rw [em]
    refine ⟨sz_of (by show 0 ≤ 100000; decide), fun R hR => ?_⟩
    have nRp : R ≠ p := w1.nn hR
    refine ⟨_, rfl, _, rfl, by omega, by omega, ?_⟩
    refine for_it (walk_range (lo := 0) (n := (sz : Int).toNat)) (fun i σ H2 => ∃ (rs : List Addr) (rws : List Rw) (y3 y4 y5 y6 y7 y8 y9 y10 y11 y12 y13 y14 y15 : Option V), σ = [some (.ref p), some (.int sz), some (.ref R), y3, y4, y5, y6, y7, y8, y9, y10, y11, y12, y13, y14, y15] ∧ But p H1 H2 ∧ WellAt H2 p ∧ H2 R = some (.lst (rs.map V.ref)) ∧ Rows H2 rs rws ∧ rws.length = i ∧ ∀ r ∈ rws, BRow sz r) ⟨[], [], _, _, _, _, _, _, _, _, _, _, _, _, _, rfl, But.new hR, w1.put nRp, upd_same, ⟨rfl, fun i a r e1 _ => by simp at e1⟩, rfl, fun r m => by simp at m⟩ (fun _ _ _ _ _ => trivial) ?_ ?_
    · rintro i y σ H2 H2' hi ⟨rs, rws, y3, y4, y5, y6, y7, y8, y9, y10, y11, y12, y13, y14, y15, rfl, bx, wx, hRx, hRows, hln, hB⟩ ⟨rfl, hy⟩
      refine ⟨_, rfl, by decide, by decide, fun D hD => ?_⟩
      refine lc_but (walk_range (lo := 0) (n := (3 : Int).toNat)) hD wx (fun v => ∃ k, v = sv k ∧ k < 4) (by decide) (fun _ _ _ => trivial) (fun j Hy y Hy' hj by_ wy hy Qe qe => ?_) (fun Ha xs ba wa hxl hxs hDa => ?_)
      · obtain ⟨rfl, rfl⟩ := hy
        exact ⟨rfl, _, rfl, p, 4, rfl, wy, by decide, by decide, fun kk H4 hk b4 w4 => ⟨_, rfl, vsm (by omega), _, _, rfl, rfl, vsz (by omega), qe _ _ ⟨kk, rfl, hk⟩ b4 w4⟩⟩
      obtain ⟨a, b, c, rfl, ha, hb, hc⟩ := three hxl hxs
      have hRa := ba _ _ hRx nRp
      refine ⟨sz_of (by show 1 ≤ 100000; decide), fun t1 ht1 => ⟨_, rfl, D, _, rfl, .inl ⟨SqL.of (Same.new ht1 _ _ hDa), fun t2 ht2 => ?_⟩⟩⟩
      have s1 := Same.new (o := .tup [.str "add"]) ht1
      have s2 := Same.new (o := .tup [sv a, sv b, sv c]) ht2
      refine ⟨t1, t2, _, _, rfl, rfl, SqT.of (s2 _ _ upd_same), SqT.of upd_same, (by intro z; cases z), sz_of (by show 4 ≤ 100000; decide), (fun z => absurd z (List.cons_ne_nil _ _)), fun _ t3 ht3 => ?_⟩
      have s3 := Same.new (o := .tup (Rw.vals (.add a b c))) ht3
      have s13 := s1.trans (s2.trans s3)
      refine ⟨_, rfl, _, _, _, _, rfl, rfl, SqL.of (s13 _ _ hDa), at0, sz_of (by show 3 ≤ 100000; decide), fun t4 ht4 => ?_⟩
      have s4 := Same.new (o := .tup (Rw.vals (.num a 1))) ht4
      refine ⟨_, rfl, _, _, _, _, rfl, rfl, SqL.of ((s13.trans s4) _ _ hDa), at0, sz_of (by show 2 ≤ 100000; decide), fun t5 ht5 => ?_⟩
      have s5 := Same.new (o := .tup (Rw.vals (.see a))) ht5
      have s15 := s13.trans (s4.trans s5)
      refine ⟨_, rfl, _, _, _, _, rfl, rfl, SqL.of (s15 _ _ hDa), at0, _, rfl, _, _, _, _, rfl, rfl, SqL.of (s15 _ _ hDa), at1, sz_of (by show 3 ≤ 100000; decide), fun t6 ht6 => ?_⟩
      have s6 := Same.new (o := .tup (Rw.vals (.copy a b))) ht6
      refine ⟨sz_of (by show 4 ≤ 100000; decide), fun L hL => ?_⟩
      have s7 := Same.new (o := .lst [.ref t3, .ref t4, .ref t5, .ref t6]) hL
      have s17 := s15.trans (s6.trans s7)
      have w7 := wa.mono s17
      refine ⟨_, rfl, .inl ⟨rfl, _, SqL.of (s17 _ _ hRa)⟩, _, rfl, _, rfl, _, rfl, _, _, _, _, rfl, rfl, SqL.of (s17 _ _ hDa), at0, ?_⟩
      refine ⟨_, rfl, _, rfl, p, sz, rfl, w7, by omega, by omega, fun gg Hg hg bg wg => ⟨sz_of (by show 3 ≤ 100000; decide), fun t7 ht7 => ⟨sz_of (by show 1 ≤ 100000; decide), fun LL hLL => ?_⟩⟩⟩
      have s8 := Same.new (o := .tup (Rw.vals (.ifz a gg))) ht7
      have s9 := Same.new (o := .lst [.ref t7]) hLL
      have nLp : L ≠ p := (wa.mono (s15.trans s6)).nn hL
      refine ⟨L, LL, _, _, rfl, rfl, (s8.trans s9) _ _ (bg _ _ upd_same nLp), upd_same, sz_of (by show 5 ≤ 100000; decide), fun L3 hL3 => ?_⟩
      have s10 := Same.new (o := .lst ([.ref t3, .ref t4, .ref t5, .ref t6] ++ [.ref t7])) hL3
      have s810 := s8.trans (s9.trans s10)
      have w10 := wg.mono s810
      refine ⟨p, L3, _, rfl, w10, upd_same, (wg.mono (s8.trans s9)).nn hL3, (by show 0 < 5; decide), (by show 5 ≤ 1000; decide), fun v Hv hv bv wv => ?_⟩
      have keep2 : ∀ {z : Addr} {zs : List V}, _ → Hv z = some (.tup zs) := fun {z zs} (e : _ = some (HO.tup zs)) => bv z _ e (w10.ne e)
      have keep : ∀ {z : Addr} {zs : List V}, _ → Hv z = some (.tup zs) := fun {z zs} (e : _ = some (HO.tup zs)) => keep2 (s810 _ _ (bg z _ e (w7.ne e)))
      have hRv : Hv R = some (.lst (rs.map V.ref)) := bv _ _ (s810 _ _ (bg _ _ (s17 _ _ hRa) nRp)) nRp
      have found : ∃ q r, v = .ref q ∧ Hv q = some (.tup (Rw.vals r)) ∧ BRow sz r := by
        simp only [List.cons_append, List.nil_append, List.mem_cons, List.not_mem_nil, or_false] at hv
        rcases hv with rfl | rfl | rfl | rfl | rfl
        · exact ⟨t3, .add a b c, rfl, keep ((s4.trans (s5.trans (s6.trans s7))) _ _ upd_same), ⟨⟨ha, hb, hc⟩, fun g e => (by cases e), fun g e => (by cases e)⟩⟩
        · exact ⟨t4, .num a 1, rfl, keep ((s5.trans (s6.trans s7)) _ _ upd_same), ⟨⟨ha, by decide⟩, fun g e => (by cases e), fun g e => (by cases e)⟩⟩
        · exact ⟨t5, .see a, rfl, keep ((s6.trans s7) _ _ upd_same), ⟨ha, fun g e => (by cases e), fun g e => (by cases e)⟩⟩
        · exact ⟨t6, .copy a b, rfl, keep (s7 _ _ upd_same), ⟨⟨ha, hb⟩, fun g e => (by cases e), fun g e => (by cases e)⟩⟩
        · exact ⟨t7, .ifz a gg, rfl, keep2 ((s9.trans s10) _ _ upd_same), ⟨ha, fun g e => (by rw [← Option.some.inj e]; exact hg), fun g e => (by cases e)⟩⟩
      obtain ⟨qv, r, rfl, hqv, hBr⟩ := found
      have bAll := ba.trans ((But.of s17).trans (bg.trans ((But.of s810).trans bv)))
      have hRows2 : Rows Hv rs rws := hRows.but wx bAll
      refine ⟨R, _, _, rfl, rfl, hRv, sz_lt (by rw [List.length_map, hRows.len]; omega), rs ++ [qv], rws ++ [r], _, _, _, _, _, _, _, _, _, _, _, _, _, rfl, (bx.trans bAll).mut hR, wv.put nRp, by rw [upd_same, List.map_append]; rfl, (hRows2.putL hRv).append (Rows.one ?_), by rw [List.length_append, hln]; rfl, fun z m => ?_⟩
      · rw [upd_ne (ne_of hqv hRv (by intro z; cases z))]
        exact hqv
      · rcases List.mem_append.mp m with m | m
        · exact hB z m
        · rw [List.mem_singleton.mp m]
          exact hBr
    · rintro σ Hx ⟨rs, rws, y3, y4, y5, y6, y7, y8, y9, y10, y11, y12, y13, y14, y15, rfl, bx, wx, hRx, hRows, hln, hB⟩
      have hl2 : rs.length = sz := by rw [hRows.len, hln]; omega
      have hl3 : rws.length = sz := by rw [hln]; omega
      refine ⟨_, rfl, .inl ⟨rfl, _, SqL.of hRx⟩, sz_of (by show 2 ≤ 100000; decide), fun rp hrp => ⟨R, _, _, rfl, rfl, Same.new hrp _ _ hRx, sz_lt (by rw [List.length_map]; omega), ?_⟩⟩
      have s1 := Same.new (o := .tup [.str "return", .str "v1"]) hrp
      have bM := (bx.trans (But.of s1)).mut (o := .lst (rs.map V.ref ++ [.ref rp])) hR
      have wM := (wx.mono s1).put (o := .lst (rs.map V.ref ++ [.ref rp])) nRp
      have rM : Rows _ (rs ++ [rp]) (rws ++ [.ret 1]) := ((hRows.mono s1).putL (o := rs.map V.ref ++ [.ref rp]) (s1 _ _ hRx)).append (Rows.one (by
        rw [upd_ne (ne_of_none (s1 _ _ hRx |> fun _ => hRx) hrp).symm, upd_same]
        show _ = some (HO.tup [.str "return", .str (vn 1)])
        rw [v1]))
      refine ⟨_, rfl, _, rfl, p, sz, rfl, wM, by omega, by omega, fun t H3 ht b3 w3 => ⟨_, rfl, p, 4, rfl, w3, by decide, by decide, fun x H4 hx b4 w4 => ⟨_, rfl, vsm (by omega), _, _, rfl, rfl, vsz (by omega), sz_of (by show 2 ≤ 100000; decide), fun tp htp => ⟨tp, _, rfl, SqT.of upd_same, rfl, _, _, rfl, _, _, rfl, rfl, ?_⟩⟩⟩⟩
      have s5 := Same.new (o := .tup [.int (t : Int), sv x]) htp
      have hR4 := b4 _ _ (b3 _ _ upd_same nRp) nRp
      have r4 := (rM.but wM b3).but w3 b4
      have hR5 := s5 _ _ hR4
      have r5 := r4.mono s5
      have nj : ∀ g, Rw.jump g ∉ rws ++ [.ret 1] := fun g m => by
        rcases List.mem_append.mp m with m | m
        · exact (hB _ m).nj g rfl
        · exact absurd (List.mem_singleton.mp m) (by intro z; cases z)
      have hl5 : (rws ++ [Rw.ret 1]).length = sz + 1 := by rw [List.length_append, hl3]; rfl
      refine ⟨_, rfl, _, rfl, _, rfl, sz_of (by show 2 ≤ 100000; decide), fun m1 hm1 => ?_⟩
      have s6 := Same.new (o := .tup (Rw.vals (.see x))) hm1
      refine ⟨R, m1, t, rs ++ [rp], rws ++ [Rw.ret 1], .see x, rfl, lst_eq (by rw [List.map_append]; rfl) (s6 _ _ hR5), r5.mono s6, upd_same, nj, by omega, by omega, fun q1 H6 ns1 s7 _ hq1 R6 => ?_⟩
      refine ⟨_, rfl, _, rfl, _, rfl, sz_of (by show 3 ≤ 100000; decide), fun m2 hm2 => ?_⟩
      have s8 := Same.new (o := .tup (Rw.vals (.num x 3))) hm2
      have s68 := s6.trans (s7.trans s8)
      refine ⟨R, m2, t, rs ++ [rp], rws ++ [Rw.ret 1], .num x 3, rfl, lst_eq (by rw [List.map_append]; rfl) (s68 _ _ hR5), r5.mono s68, upd_same, nj, by omega, by omega, fun q2 H7 ns2 s9 _ hq2 R7 => ?_⟩
      have P1 := put_ok (t := t) (more := .see x) hB hl3 (by omega) ht hx rfl
      have P2 := put_ok (t := t) (more := .num x 3) hB hl3 (by omega) ht ⟨hx, by decide⟩ rfl
      obtain ⟨f1, f2⟩ := put_see P1 (by omega) hx
      obtain ⟨f3, f4⟩ := put_num P2 (by omega)
      have s79 := s8.trans s9
      refine ⟨_, _, rfl, _, rfl, sz_of (by show 2 ≤ 100000; decide), fun u1 hu1 => ⟨_, rfl, sz_of (by show 2 ≤ 100000; decide), fun u2 hu2 => ⟨sz_of (by show 2 ≤ 100000; decide), fun U hU => ?_⟩⟩⟩
      have s10 := Same.new (o := .tup [.ref q1, .bl true]) hu1
      have s11 := Same.new (o := .tup [.ref q2, .bl false]) hu2
      have s12 := Same.new (o := .tup [.ref u1, .ref u2]) hU
      have s1012 := s10.trans (s11.trans s12)
      refine ⟨U, rfl, ⟨_, SqT.of upd_same⟩, ?_⟩
      refine for_it (walk_tup (K := K) (a := U) (xs := [.ref u1, .ref u2])) (fun i σ Hx => Same _ Hx ∧ ∃ z8 z9 z12 z13 z14 z15 : Option V, σ = [some (.ref p), some (.int sz), some (.ref R), y3, some (.int t), some (sv x), some (.ref q1), some (.ref q2), z8, z9, y10, y11, z12, z13, z14, z15]) ⟨Same.refl _, _, _, _, _, _, _, rfl⟩ (fun i σ Hx _ q => SqT.of (q.1 _ _ upd_same)) ?_ ?_
      · rintro i y σ H9' H9 hi ⟨sx, z8, z9, z12, z13, z14, z15, rfl⟩ ⟨rfl, hy⟩
        have data : ∃ (q u : Addr) (fl : Bool) (ns : List Addr) (N : List Rw), y = .ref u ∧ H9 u = some (.tup [.ref q, .bl fl]) ∧ H9 q = some (.lst (ns.map V.ref)) ∧ Rows H9 ns N ∧ Okay N (names 4) ∧ N.length = sz + 2 ∧ wayOf N x t = (if fl = true then some [t] else none) ∧ (wantedOf N 4 t).Perm (without x (wantedOf N 4 (t + 1)) ++ (if fl = true then [x] else [])) := by
          match i, hy with
          | 0, hy =>
            obtain rfl := Option.some.inj hy
            exact ⟨q1, u1, true, ns1, _, rfl, (sx _ _ ((s11.trans s12) _ _ upd_same)), sx _ _ (s1012 _ _ (s79 _ _ hq1)), R6.mono (s79.trans (s1012.trans sx)), P1.okay, by rw [P1.len, hl3], f1, f2⟩
          | 1, hy =>
            obtain rfl := Option.some.inj hy
            exact ⟨q2, u2, false, ns2, _, rfl, (sx _ _ (s12 _ _ upd_same)), sx _ _ (s1012 _ _ hq2), R7.mono (s1012.trans sx), P2.okay, by rw [P2.len, hl3], f3, by rw [if_neg (by decide), List.append_nil]; exact f4⟩
        obtain ⟨q, u, fl, ns, N, rfl, hu9, hq9, R9, hO, hN, fw, fp⟩ := data
        refine ⟨u, _, rfl, SqT.of hu9, rfl, _, _, rfl, _, _, rfl, rfl, ?_⟩
        refine ⟨_, rfl, q, 4, ns, N, rfl, hq9, R9, hO, by decide, by decide, fun P H10 s13 src => ?_⟩
        refine ⟨_, rfl, _, rfl, _, _, rfl, rfl, P, t + 1, 4, N, rfl, src, by omega, fun q3 H11 s14 hq3 h3 => ?_⟩
        refine ⟨q3, rfl, ⟨_, SqL.of h3⟩, fun D hD => ?_⟩
        have w9 : ∀ k ∈ wantedOf N 4 (t + 1), k < 9 := fun k m => by
          have := (wanted_mem.mp m).1
          omega
        refine lc_filt (walk_list (K := K) (a := q3) (xs := (wantedOf N 4 (t + 1)).map sv)) hD (fun i => sv ((wantedOf N 4 (t + 1)).getD i 0)) (fun i => decide ((wantedOf N 4 (t + 1)).getD i 0 ≠ x)) ?_ (fun Hy s15 => SqL.of (s15 _ _ h3)) (fun j Hy y Hy' hj s15 hy Qe Qn qe qn => ?_) (fun H12 s15 h12 => ?_)
        · rw [List.length_map]
          refine Nat.lt_of_le_of_lt (List.length_filter_le _ _) ?_
          rw [List.length_range]
          decide
        · obtain ⟨rfl, hy⟩ := hy
          obtain ⟨kk, hk, rfl⟩ := map_get hy
          have ek : (wantedOf N 4 (t + 1)).getD j 0 = kk := by
            rw [List.getD_eq_getElem?_getD, hk]
            rfl
          have k9 := w9 kk (List.mem_of_getElem? hk)
          rw [ek] at qe qn
          refine ⟨rfl, _, rfl, _, rfl, rfl, _, rfl, ?_⟩
          by_cases c : kk = x
          · exact ifF (by rw [c]; simp) (qn _ (Same.refl _) (by simp [c]))
          · have dne : decide (sv kk = sv x) = false := decide_eq_false (fun z => c (vn_inj k9 (by omega) (V.str.inj z)))
            exact ifT (by rw [dne]; rfl) ⟨_, rfl, qe _ (Same.refl _) (by simp [c])⟩
        have hD12 := lst_eq (ys := (without x (wantedOf N 4 (t + 1))).map sv) (by rw [List.length_map]; exact without_range) h12
        have hrep : (List.replicate ((if fl = true then (1 : Int) else 0)).toNat [sv x]).flatten = (if fl = true then [x] else []).map sv := by cases fl <;> rfl
        have hl4 : (without x (wantedOf N 4 (t + 1))).length ≤ 4 := Nat.le_trans (List.length_filter_le _ _) (Nat.le_trans (List.length_filter_le _ _) (by rw [List.length_range]; exact Nat.le_refl 4))
        have hl1' : (if fl = true then [x] else []).length ≤ 1 := by cases fl <;> simp
        refine ⟨_, rfl, sz_of (by show 1 ≤ 100000; decide), fun l1 hl1 => ⟨_, rfl, .inr ⟨fl, rfl, l1, _, _, rfl, rfl, upd_same, by cases fl <;> decide, by cases fl <;> decide, sz_of (by cases fl <;> (show 1 * _ ≤ _; decide)), fun l2 hl2 => ?_⟩⟩⟩
        have s16 := (Same.new (o := .lst [sv x]) hl1).trans (Same.new (o := .lst (List.replicate ((if fl = true then (1 : Int) else 0)).toNat [sv x]).flatten) hl2)
        refine ⟨D, l2, _, _, rfl, rfl, s16 _ _ hD12, lst_eq hrep upd_same, sz_of (by rw [List.length_map, List.length_map]; omega), fun l3 hl3 => ?_⟩
        have s17 := s16.trans (Same.new (o := .lst ((without x (wantedOf N 4 (t + 1))).map sv ++ (if fl = true then [x] else []).map sv)) hl3)
        have s18 := s14.trans (s15.trans s17)
        refine ⟨_, rfl, _, rfl, P, t, 4, N, rfl, src.mono s18, by omega, fun q4 H13 s19 hq4 h4 => ?_⟩
        have wt9 : ∀ k ∈ wantedOf N 4 t, k < 9 := fun k m => by
          have := (wanted_mem.mp m).1
          omega
        refine ⟨_, rfl, l3, (without x (wantedOf N 4 (t + 1)) ++ (if fl = true then [x] else [])).map vn, rfl, SqL.of (lst_eq (by rw [List.map_map, List.map_append]; rfl) (s19 _ _ upd_same)), by rw [List.length_map, List.length_append]; omega, fun ys sp pm st hsp => ?_⟩
        have eS := sortedV (l := without x (wantedOf N 4 (t + 1)) ++ (if fl = true then [x] else [])) (l' := wantedOf N 4 t) (fun k m => wt9 k (fp.mem_iff.mpr m)) pm st fp (wanted_sorted _ _ _)
        refine neS (l := wantedOf N 4 t) wt9 (Same.new hsp _ _ h4) (lst_eq eS upd_same) ⟨_, rfl, ifF rfl ?_⟩
        have s20 := s18.trans (s19.trans (Same.new (o := .lst (ys.map V.str)) hsp))
        refine ⟨_, rfl, _, rfl, _, rfl, P, t, x, 4, N, rfl, src.mono s20, by omega, hx, fun v H14 s21 hv => ⟨_, rfl, _, rfl, ?_⟩⟩
        rw [fw] at hv
        cases fl with
        | true =>
          obtain ⟨aa, rfl, haa⟩ := wayI (w := [t]) hv
          exact ifT rfl ⟨_, rfl, sz_of (by show 1 ≤ 100000; decide), fun l5 hl5 => neI (l := [t]) (Same.new hl5 _ _ haa) upd_same ⟨_, rfl, ifF rfl ⟨sx.trans (s13.trans (s20.trans (s21.trans (Same.new hl5)))), _, _, _, _, _, _, rfl⟩⟩⟩
        | false =>
          have hv2 : v = .non := hv
          subst hv2
          exact ifF rfl ⟨_, _, .non, .non, rfl, rfl, ⟨_, rfl, ifF rfl ⟨sx.trans (s13.trans (s20.trans s21)), _, _, _, _, _, _, rfl⟩⟩⟩
      · rintro σ H9 ⟨sx, z8, z9, z12, z13, z14, z15, rfl⟩
        have sf := s5.trans (s6.trans (s7.trans (s79.trans (s1012.trans sx))))
        refine k _ (b1.trans (bM.trans (b3.trans (b4.then sf)))) (w4.mono sf)

end
end W19
set_option Elab.async false
set_option linter.all false
set_option maxRecDepth 100000
set_option maxHeartbeats 4000000
namespace W19
open PySem PySem.Spec PyProof.Rows L2
section
variable {P : Program} {w : World} {K : PySem.W.Frag} {mg : Str → Option Value} {base : Heap}

def spLaw (K : PySem.W.Frag) : Sp := fun vs H Q _ => ∃ (a : Addr) (ns : List Int), vs = [.ref a] ∧ SqL K H a (ns.map V.int) ∧ ns.length ≤ 63 ∧ ∀ H', Q (.bl true) H'
theorem cell_int {ns : List Int} {i : Nat} {y : V} (h : (cutV (ns.map V.int) none (some (3 : Int)) ++ [V.int 0])[i]? = some y) : ∃ c, y = .int c := by
  have m := List.mem_of_getElem? h
  rcases List.mem_append.mp m with m | m
  · unfold cutV at m
    obtain ⟨c, _, rfl⟩ := List.mem_map.mp (List.mem_of_mem_drop (List.mem_of_mem_take m))
    exact ⟨c, rfl⟩
  · exact ⟨0, List.mem_singleton.mp m⟩
theorem sc_law : FnScope ["_law_script", "_law_cell", "_law_well_here", "_law_turn"] ["_law_script"] (defScope s_law) := ⟨rfl, rfl, rfl, by decide +kernel, rfl, by decide +kernel, by decide +kernel⟩
theorem ok_law {fd : FuncData} (T : Ctx w K mg) (F : FunD K "law" "law" (defArgs s_law) (defBody s_law) (defScope s_law) [] [] (He.ga K "law") fd) (H_L_well : Has P w K mg base 1 "_law_well" ["_law_cell"] spWell) (H_L_chain_right : Has P w K mg base 11 "_law_chain_right" ["_law_well_here"] spRight) (H_L_ring_right : Has P w K mg base 11 "_law_ring_right" ["_law_well_here"] spRight) (H_L_loops_right : Has P w K mg base 11 "_law_loops_right" ["_law_well_here"] spRight) (H_L_put_right : Has P w K mg base 11 "_law_put_right" ["_law_well_here"] spRight) : FnOk P w K mg base CX0 12 (He.ga K "law") fd ["_law_script"] (spLaw K) := by
  obtain ⟨fd_L_well, G_L_well, b_L_well⟩ := H_L_well.ex
  obtain ⟨fd_L_chain_right, G_L_chain_right, b_L_chain_right⟩ := H_L_chain_right.ex
  obtain ⟨fd_L_ring_right, G_L_ring_right, b_L_ring_right⟩ := H_L_ring_right.ex
  obtain ⟨fd_L_loops_right, G_L_loops_right, b_L_loops_right⟩ := H_L_loops_right.ex
  obtain ⟨fd_L_put_right, G_L_put_right, b_L_put_right⟩ := H_L_put_right.ex
  refine F.ok sc_law (fun vs H Q E h => ?_) (fun cdv A outer s H vs Q E hr h => ?_)
  · obtain ⟨a, ns, rfl, hS, hl, k⟩ := h; rfl
  · obtain ⟨a, ns, rfl, hS, hl, k⟩ := h
    have hr_L_well : Room 1 _ := hr.mono (by decide)
    have hr_L_chain_right : Room 11 _ := hr.mono (by decide)
    have hr_L_ring_right : Room 11 _ := hr.mono (by decide)
    have hr_L_loops_right : Room 11 _ := hr.mono (by decide)
    have hr_L_put_right : Room 11 _ := hr.mono (by decide)
    have hu := hu_of hr
    refine ⟨_, PSs.nox (pss_cons (ps_for PassesOwn.never rfl (pi_list (pe_op op_cat (pe_slice sl_list (pv 0) po_none (po_some pe_int)) (pe_lst (pa_cons pe_int pa_nil)))) (pg_name (i := 1) sc_law.nd rfl (Or.inl rfl))
      (pss_cons (ps_set (i := 2) sc_law.nd rfl (Or.inl rfl) (pe_call G_L_well hr_L_well (by rfl) H_L_well.gl H_L_well.kp b_L_well .nil pass0 (pa_cons (pv 1) pa_nil)))
      (pss_cons (ps_if (PW.pt (pw_or (pt_not (pt_val (pe_call G_L_chain_right hr_L_chain_right (by rfl) H_L_chain_right.gl H_L_chain_right.kp b_L_chain_right .nil pass0 (pa_cons (pv 2) pa_nil)))) (pw_or (pt_not (pt_val (pe_call G_L_ring_right hr_L_ring_right (by rfl) H_L_ring_right.gl H_L_ring_right.kp b_L_ring_right .nil pass0 (pa_cons (pv 2) pa_nil)))) (pw_or1 (pt_not (pt_val (pe_call G_L_loops_right hr_L_loops_right (by rfl) H_L_loops_right.gl H_L_loops_right.kp b_L_loops_right .nil pass0 (pa_cons (pv 2) pa_nil)))))))) (pss_one (ps_ret pe_bl)) pss_nil)
      (pss_one (ps_for PassesOwn.never rfl (pi_range1 (by rfl) T.f_range (pa_cons pe_int pa_nil)) (pg_name (i := 3) sc_law.nd rfl (Or.inl rfl))
      (pss_one (ps_if (pt_not (pt_val (pe_call G_L_put_right hr_L_put_right (by rfl) H_L_put_right.gl H_L_put_right.kp b_L_put_right .nil pass0 (pa_cons (pv 2) pa_nil)))) (pss_one (ps_ret pe_bl)) pss_nil)))))))
      (pss_one (ps_ret pe_bl))), ?_⟩
    have hcl : (cutV (ns.map V.int) none (some (3 : Int))).length ≤ 63 := Nat.le_trans (cutV_length _ _ _) (by rw [List.length_map]; exact hl)
    refine ⟨_, rfl, 3, rfl, a, _, rfl, hS, fun l1 hl1 => ⟨sz_of (by show 1 ≤ 100000; decide), fun l2 hl2 => ⟨l1, l2, _, _, rfl, rfl, Same.new hl2 _ _ upd_same, upd_same, sz_of (by show _ + 1 ≤ _; omega), fun L hL => ⟨L, rfl, ⟨_, SqL.of upd_same⟩, ?_⟩⟩⟩⟩
    refine for_it (walk_list (K := K) (a := L) (xs := cutV (ns.map V.int) none (some (3 : Int)) ++ [V.int 0])) (fun i σ H1 => H1 L = some (.lst (cutV (ns.map V.int) none (some (3 : Int)) ++ [V.int 0])) ∧ ∃ v1 v2 v3 : Option V, σ = [some (.ref a), v1, v2, v3]) ⟨upd_same, _, _, _, rfl⟩ (fun i σ H1 _ q => SqL.of q.1) ?_ (fun σ H1 _ => k _)
    rintro i y σ H1' H1 hi ⟨hLL, v1, v2, v3, rfl⟩ ⟨rfl, hy⟩
    obtain ⟨c, rfl⟩ := cell_int hy
    refine ⟨_, rfl, c, rfl, fun p H2 s2 hp w2 => ?_⟩
    have nLp : L ≠ p := ne_of_none hLL hp
    have hL2 := s2 _ _ hLL
    refine ⟨_, rfl, p, rfl, w2, fun H3 b3 w3 => ⟨_, rfl, ifF rfl ⟨_, rfl, p, rfl, w3, fun H4 b4 w4 => ⟨_, rfl, ifF rfl ⟨_, rfl, p, rfl, w4, fun H5 b5 w5 => ⟨_, rfl, ifF rfl ?_⟩⟩⟩⟩⟩⟩
    refine ⟨_, rfl, by decide, by decide, ?_⟩
    refine for_it (walk_range (lo := 0) (n := (4 : Int).toNat)) (fun j σ H6 => H6 L = some (.lst (cutV (ns.map V.int) none (some (3 : Int)) ++ [V.int 0])) ∧ WellAt H6 p ∧ ∃ v1 v3 : Option V, σ = [some (.ref a), v1, some (.ref p), v3]) ⟨b5 _ _ (b4 _ _ (b3 _ _ hL2 nLp) nLp) nLp, w5, _, _, rfl⟩ (fun _ _ _ _ _ => trivial) ?_ (fun σ H6 q => ?_)
    · rintro j y σ H6' H6 hj ⟨h6, w6, v1, v3, rfl⟩ ⟨rfl, rfl⟩
      exact ⟨_, rfl, p, rfl, w6, fun H7 b7 w7 => ⟨_, rfl, ifF rfl ⟨b7 _ _ h6 nLp, w7, _, _, rfl⟩⟩⟩
    · obtain ⟨h6, _, v1, v3, rfl⟩ := q
      exact ⟨h6, _, _, _, rfl⟩

end
end W19
set_option Elab.async false
set_option linter.all false
set_option maxRecDepth 100000
set_option maxHeartbeats 4000000
namespace W19
open PySem PySem.Spec PyProof.Rows L2
theorem law_has {P : Program} {w : World} {K : PySem.W.Frag} {mg : Str → Option Value} {base : Heap} {fd : FuncData} (T : Ctx w K mg) (F : FunD K "law" "law" (defArgs s_law) (defBody s_law) (defScope s_law) [] [] (He.ga K "law") fd) : FnOk P w K mg base CX0 12 (He.ga K "law") fd ["_law_script"] (spLaw K) := by
  have h_is_integer := ok_is_integer (P := P) (base := base) T
  have h_is_integer_in := ok_is_integer_in (P := P) (base := base) T (H_is_integer := h_is_integer)
  have h_is_written_number := ok_is_written_number (P := P) (base := base) T (H_is_integer_in := h_is_integer_in)
  have h_is_name := ok_is_name (P := P) (base := base) T
  have h_is_kind := ok_is_kind (P := P) (base := base) T
  have h_is_tuple_of := ok_is_tuple_of (P := P) (base := base) T
  have h_is_list_of := ok_is_list_of (P := P) (base := base) T
  have h_is_word_tuple := ok_is_word_tuple (P := P) (base := base) T
  have h_frozen0 := ok_frozen0 (P := P) (base := base) T
  have h_frozen1 := ok_frozen1 (P := P) (base := base) T (H_frozen := h_frozen0)
  have h_frozen2 := ok_frozen2 (P := P) (base := base) T (H_frozen := h_frozen1)
  have h_are_named_kinds := ok_are_named_kinds (P := P) (base := base) T (H_is_list_of := h_is_list_of) (H_is_tuple_of := h_is_tuple_of) (H_is_name := h_is_name) (H_is_kind := h_is_kind)
  have h_fills := ok_fills (P := P) (base := base) T (H_is_name := h_is_name) (H_is_written_number := h_is_written_number) (H_is_integer := h_is_integer)
  have h_is_row := ok_is_row (P := P) (base := base) T (H_is_word_tuple := h_is_word_tuple) (H_fills := h_fills)
  have h_row_sets := ok_row_sets (P := P) (base := base) T
  have h_row_reads := ok_row_reads (P := P) (base := base) T
  have h_names_in := ok_names_in (P := P) (base := base) T (H_row_reads := h_row_reads) (H_row_sets := h_row_sets)
  have h_row_kinds_fit := ok_row_kinds_fit (P := P) (base := base) T (H_names_in := h_names_in)
  have h_is_head := ok_is_head (P := P) (base := base) T (H_is_tuple_of := h_is_tuple_of) (H_is_name := h_is_name) (H_is_kind := h_is_kind) (H_are_named_kinds := h_are_named_kinds) (H_is_list_of := h_is_list_of)
  have h_Function_has_row := ok_Function_has_row (P := P) (base := base) T (H_is_integer_in := h_is_integer_in)
  have h_Function_init := ok_Function_init (P := P) (base := base) T (H_frozen := h_frozen2)
  have h_Source_function_at := ok_Source_function_at (P := P) (base := base) T
  have h_Source_take_classes := ok_Source_take_classes (P := P) (base := base) T (H_is_list_of := h_is_list_of)
  have h_Source_is_row_of := ok_Source_is_row_of (P := P) (base := base) T (H_is_row := h_is_row) (H_row_sets := h_row_sets) (H_row_reads := h_row_reads) (H_row_kinds_fit := h_row_kinds_fit)
  have h_Source_take_heads := ok_Source_take_heads (P := P) (base := base) T (H_is_list_of := h_is_list_of) (H_is_head := h_is_head) (H_Function_init := h_Function_init)
  have h_Source_take_rows := ok_Source_take_rows (P := P) (base := base) T (H_Source_is_row_of := h_Source_is_row_of) (H_frozen := h_frozen2)
  have h_Source_init := ok_Source_init (P := P) (base := base) T (H_Source_take_classes := h_Source_take_classes) (H_Source_take_heads := h_Source_take_heads) (H_Source_take_rows := h_Source_take_rows)
  have h_rows_behind := ok_rows_behind (P := P) (base := base) T
  have h_way_to_reader := ok_way_to_reader (P := P) (base := base) T (H_row_reads := h_row_reads) (H_row_sets := h_row_sets) (H_rows_behind := h_rows_behind)
  have h_wanted_in := ok_wanted_in (P := P) (base := base) T (H_way_to_reader := h_way_to_reader)
  have h_function_with := ok_function_with (P := P) (base := base) T (H_Source_function_at := h_Source_function_at) (H_Function_has_row := h_Function_has_row)
  have h_wanted := ok_wanted (P := P) (base := base) T (H_function_with := h_function_with) (H_wanted_in := h_wanted_in)
  have h_wanting := ok_wanting (P := P) (base := base) T (H_function_with := h_function_with) (H_way_to_reader := h_way_to_reader)
  have h_L_well := ok_L_well (P := P) (base := base) T
  have h_L_draw := ok_L_draw (P := P) (base := base) T
  have h_L_one := ok_L_one (P := P) (base := base) T (H_L_draw := h_L_draw)
  have h_L_made := ok_L_made (P := P) (base := base) T (H_Source_init := h_Source_init)
  have h_L_chain_right := ok_L_chain_right (P := P) (base := base) T (H_L_draw := h_L_draw) (H_L_made := h_L_made) (H_wanted := h_wanted) (H_wanting := h_wanting)
  have h_L_ring_right := ok_L_ring_right (P := P) (base := base) T (H_L_draw := h_L_draw) (H_L_made := h_L_made) (H_wanted := h_wanted) (H_wanting := h_wanting)
  have h_L_loops_right := ok_L_loops_right (P := P) (base := base) T (H_L_draw := h_L_draw) (H_L_made := h_L_made) (H_wanted := h_wanted) (H_wanting := h_wanting)
  have h_L_shifted := ok_L_shifted (P := P) (base := base) T
  have h_L_put_right := ok_L_put_right (P := P) (base := base) T (H_L_draw := h_L_draw) (H_L_one := h_L_one) (H_L_made := h_L_made) (H_L_shifted := h_L_shifted) (H_wanted := h_wanted) (H_wanting := h_wanting)
  have h_law := ok_law (fd := fd) (P := P) (base := base) T F (H_L_well := h_L_well) (H_L_chain_right := h_L_chain_right) (H_L_ring_right := h_L_ring_right) (H_L_loops_right := h_L_loops_right) (H_L_put_right := h_L_put_right)
  exact h_law
theorem facts {P : Program} {w : World} {K : PySem.W.Frag} {h : Heap} {mg : Str → Option Value} {f : Addr} (X : K.In h) (G : h.Ns mainGlobals mg) (hfa : mg ("law" : Str) = some (.ref f)) (c : He.SaysX fa fn ts [] ex w h K) :
    ∃ fd : FuncData, (∀ (s : Shared) (v : Value), BindsTo s fd ⟨[v], []⟩ [("_law_script", v)]) ∧ ∀ base : Heap, K.In base → base.Ns mainGlobals mg → FnOk P w K mg base CX0 12 f fd ["_law_script"] (spLaw K) := by
  have T : Ctx w K mg := ⟨⟨h, X, G⟩, c.t, c.more⟩
  obtain ⟨fd, F⟩ := T.D_law
  have e := hfa.symm.trans T.g_law
  cases e
  have b := FunD.bindsA (ps := ["_law_script"]) F fun _ _ _ _ _ _ us hl => match us, hl with | [_], _ => rfl
  exact ⟨fd, fun s v => b s [v] rfl, fun base _ _ => law_has T F⟩
end W19
set_option Elab.async false
set_option linter.all false
set_option maxRecDepth 100000
set_option maxHeartbeats 0
open PySem PySem.W PySem.Calls PyProof.Rows
theorem PySem.Challenge.cw_backframes_k19_whole_known_wanted_rows_holds : PySem.Challenge.rw_backframes_k19_whole_known_wanted_rows.Holds := by
  w_on; o_law
  refine HandSHeadRun.head_any (r := OpenLaw.row PySem.Challenge.rw_backframes_k19_whole_known_wanted_rows) (q := view (OpenLaw.row PySem.Challenge.rw_backframes_k19_whole_known_wanted_rows).prog [64]) (H := W19.hk) (ob := W19.ob) (M := 4200) (loose := W19.nms) (d := HandSHeadRun.topDef (OpenLaw.row PySem.Challenge.rw_backframes_k19_whole_known_wanted_rows).prog 64) (kwd := []) W19.ob_eq
    (by kernel_rfl) (fun s => by kernel_rfl) W19.run (by kernel_rfl) (by kernel_rfl) (by kernel_rfl) (by rfl) (by first | assumption | decide +kernel) (by decide +kernel) ⟨rfl, rfl, rfl, rfl, rfl, by decide +kernel⟩ ?hw ?hc
  case hw => w_witness2
  case hc =>
    refine L2.walk_ofE (l := PySem.Challenge.rw_backframes_k19_whole_known_wanted_rows) (n := 63) (k := 12) (x := "_law_script") (CX := L2.CX0) rfl (by decide) (by kernel_rfl) ⟨rfl, by decide, by decide⟩ ?F (fun _ _ _ _ z => z)
    intro w mg fa h Y G hmg0
    obtain ⟨K, KX, c⟩ := Y
    have hmg : mg ("law" : PySem.Str) = some (.ref fa) := by
      have e : (HandSHeadRun.topDef (OpenLaw.row PySem.Challenge.rw_backframes_k19_whole_known_wanted_rows).prog 64).name = ("law" : PySem.Str) := by kernel_rfl
      rw [← e]
      exact hmg0
    obtain ⟨fd, hb, hF⟩ := W19.facts (P := (PySem.Challenge.rw_backframes_k19_whole_known_wanted_rows).prog) (w := w) KX G hmg c
    exact ⟨K, fd, W19.spLaw K, KX, hb, fun H a ns hl _ hS => ⟨a, ns, rfl, hS, hl, fun _ => rfl⟩, hF⟩
