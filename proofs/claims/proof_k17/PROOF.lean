import PyProof.Rows.All
import Wide.All
import OpenK.AllK
import Wide.FinOn
import HandS.ExcInit
import HandS.ExcField
import KE.KExcInit
import KE.KStateDown
import HandS.ForMost
import HandS.More
import HandS.Words
import HandS.Defaults
import HandS.IsInst
import HandS.Head0
import HandS.Head1
import HandS.Head2
import HandS.HeadEnd
import HandS.HeadHook1
import HandS.HeadHook2
import HandS.HeadHook3
import HandS.HeadHook4
import HandS.Zip
import HandS.Conv
import HandS.Evl
import HandS.Wide
import HandS.WrittenGet
import HandS.Walk
import KE.KDictPairs
import HandS.Star
import HandS.TupAny
import HandS.List
import HandS.Iter
import PyProof.AutoSeq1
import PyProof.ListOps
import HandS.NoneIn
import KE.KLam
import HandS.Lambda
import HandS.TryMany
import HandS.ExcIs
import HandS.Ends
import PyProof.Rows.ReprR
import HandS.EndTab
import HandS.HeadWalk
import PySem.Challenge.RW_backframes_k17_what_wanting_refuses
set_option Elab.async false
set_option linter.all false
set_option maxRecDepth 100000
set_option maxHeartbeats 4000000
namespace AE
open PySem PySem.Spec PyProof.Rows PySem.W PySem.Calls PySem.HandSPX
open Builtin Builtin.ObjectAttr
/-- the built-in classes below an error of the program -/
def low : List Value := [.type "ArithmeticError", .type "Exception", .type "BaseException", .type "object"]
/-- what is asked of an error's class whose __init__ is its own -/
structure AeC (K : Frag) (C : Addr) : Prop where
  cls : excInitIn K C low "ArithmeticError.__new__" = true
  ov : excOver K C low = true
  sa : findIn K (.ref C) "__setattr__" = some (some (.builtin "object.__setattr__"))
  exC : subIn K (.ref C) (.type "BaseException") = some true
  tyC : typeIn K (.ref C) = some (.type "type")
  kC : keepIn K (.ref C) = true
  hd : hasDictIn K C = true
def aeB (K : Frag) (C : Addr) : Bool := excInitIn K C low "ArithmeticError.__new__" && (excOver K C low && (decide (findIn K (.ref C) "__setattr__" = some (some (.builtin "object.__setattr__"))) && (decide (subIn K (.ref C) (.type "BaseException") = some true) && (decide (typeIn K (.ref C) = some (.type "type")) && (keepIn K (.ref C) && hasDictIn K C)))))
theorem aeB_ok {K : Frag} {C : Addr} (h : aeB K C = true) : AeC K C := by
  unfold aeB at h
  simp only [Bool.and_eq_true, decide_eq_true_eq] at h
  exact ⟨h.1, h.2.1, h.2.2.1, h.2.2.2.1, h.2.2.2.2.1, h.2.2.2.2.2.1, h.2.2.2.2.2.2⟩
section
variable {prog : Program} {w : World} {A : Around} {E : Value → Shared → Prop} {R : Result → Shared → Prop} {hp : Heap} {g : Array GenState} {d : Drawn} {t : Nat} {os : OsState}
/-- the first field of such an error: its dict is made -/
theorem ae_osa {K : Frag} {name : Str} {tk : Tok} {v : Value} {x C : Addr} {fv : Array Value} (T : AeC K C) (X : K.In hp)
    (hx : hp.get? x = some { cls := .ref C, data := .fields fv }) (ha : findIn K (.ref C) name = some none)
    (k : ∀ (G : Heap) (tk' : Nat) (y : Addr), (∀ b o, b ≠ x → hp.get? b = some o → G.get? b = some o) → hp.objs.size ≤ y → y ≠ x →
      G.get? x = some { cls := .ref C, dict := some y, data := .fields fv } → G.Ns1 y (fun z => if z = name then some v else none) → R (.ok (.ret .none)) ⟨G, g, d, tk', os⟩) :
    codeAny (model prog w) A (.call (.builtin "object.__setattr__") ⟨[.ref x, .str name tk, v], []⟩) R ⟨hp, g, d, t, os⟩ := by
  have I : InstAt hp x { cls := .ref C, data := .fields fv } C none := ⟨hx, rfl, rfl, trivial⟩
  obtain ⟨cd, hcd, hh⟩ := any_some T.hd
  have Lc : Looks (model prog w) hp (classData C) cd := looks_clsIn X hcd
  have nx : x ≠ hp.objs.size := Nat.ne_of_lt (Heap.lt_size hx)
  refine osa_openX F.store_ArithmeticError X I T.ov (r := none) (by unfold takerIn; rw [ha]; rfl) fun b => ?_
  show wpAny _ _ (storeInOwnDict (.ref x) (.ref C) (.str name tk) name v b) _ _ _
  obtain ⟨nm, bs, mro, ns, qn, hd, sn, sb, ab, col, del⟩ := cd
  have hh : hd = true := hh
  subst hh
  unfold storeInOwnDict ownDictForStores
  repeat first
    | with_reducible refine store_in_new ?_ ?_
    | with_reducible refine wpAny_loadPart_at hx ?_
    | with_reducible refine Lc.at ?_
    | wp_step
  · have made : ∀ o : Obj → Obj, ((hp.push { cls := .type "dict", data := .dict #[] }).update x o).get? hp.objs.size = some { cls := .type "dict", data := .dict #[] } := fun o => by
      rw [Heap.get?_update_ne _ _ _ _ nx.symm]
      exact Heap.get?_push_at rfl rfl
    exact ⟨_, #[], _, made _, rfl, fun e m => by simp at m, fun _ => rfl⟩
  · intro G t2 hG hs
    have hx2 : (hp.push { cls := .type "dict", data := .dict #[] }).get? x = some { cls := .ref C, data := .fields fv } := Heap.get?_push_of_some _ hx
    have keep : ∀ b o, b ≠ x → hp.get? b = some o → G.get? b = some o := fun b o nb q =>
      (hs.2 b (Nat.ne_of_lt (Heap.lt_size q))).trans ((Heap.get?_update_ne _ _ _ _ nb).trans (Heap.get?_push_of_some _ q))
    exact k G t2 hp.objs.size keep (Nat.le_refl _) nx.symm ((hs.2 x nx).trans (Heap.get?_update_self _ hx2 rfl)) hG
end
end AE
set_option Elab.async false
set_option linter.all false
set_option maxRecDepth 100000
set_option maxHeartbeats 4000000
namespace AE
open PySem PySem.Spec PyProof.Rows L2
section
variable {X : Cx} {pins : List (Addr × Obj)} {σ : L2.St} {H : Hp} {s : Shared} {a C dx : Addr} {f : Str} {y : V} {u : Value} {Q : Unit → Shared → Prop} {E : Value → Shared → Prop} {A : Around}
/-- two places of a heap with unlike things are two -/
theorem apart {b c : Addr} {o v : HO} (h1 : H b = some o) (h2 : H c = some v) (n : o ≠ v) : c ≠ b := at_ne h1 h2 n
theorem ae_new (T : AeC X.K C) (I : Inv X pins σ H s) (e : H a = some (exo a C none)) (hno : PySem.W.findIn X.K (.ref C) f = some none) (ry : RelV y u)
    (k : ∀ dx s', H dx = none → dx ≠ a → Inv X pins σ (upd (upd H dx (exd dx [(f, y)])) a (exo a C (some dx))) s' → Q () s') : wpAny (model X.prog X.w) A (setAttr (.ref a) f u) Q E s := by
  obtain ⟨t1, ho⟩ := exo_at I.hok e
  obtain ⟨hp, g, d, t, os⟩ := s
  refine PySem.W.set_plain I.kIn (od := none) ⟨ho, rfl, rfl, trivial⟩ T.sa (ae_osa T I.kIn ho hno fun G t2 dx keep new ne hx hns => ?_)
  have hd : H dx = none := I.hok.fresh new
  have nd : ∀ {b o}, hp.get? b = some o → b ≠ dx := fun q => Nat.ne_of_lt (Nat.lt_of_lt_of_le (Heap.lt_size q) new)
  have na : ∀ {b}, H b = none → b ≠ a := fun n z => by
    rw [z, e] at n
    cases n
  have same : ∀ {b o}, b ≠ a → b ≠ dx → (upd (upd H dx (exd dx [(f, y)])) a (exo a C (some dx))) b = o → H b = o := fun n1 n2 q => by
    rw [upd_ne n1, upd_ne n2] at q
    exact q
  have put : ∀ {b o}, b ≠ a → H b = some o → (upd (upd H dx (exd dx [(f, y)])) a (exo a C (some dx))) b = some o := fun {b o} n q => by
    rw [upd_ne n, upd_ne (ne_of_none q hd)]
    exact q
  have U : Un X.fs [] H (upd (upd H dx (exd dx [(f, y)])) a (exo a C (some dx))) hp G := by
    refine ⟨?_, ?_, ?_, ?_, ?_, ?_, ?_⟩
    · intro b o q n _ _
      exact keep b o (na n) q
    · intro b o q n _ _
      exact ⟨o.slots, keep b o (na n) q⟩
    · intro b o q n _
      rw [upd_ne (na n), upd_ne (nd q)]
      exact n
    · intro b o q _
      by_cases z : b = a
      · exact ⟨_, by rw [z]; exact hx⟩
      · exact ⟨o, keep b o z q⟩
    · intro b xs q
      exact put (apart e q exo_tup) q
    · intro b o v q
      exact put (apart e q exo_frz) q
    · intro b ps q
      exact ⟨#[], by rw [put (apart e q exo_tbl) q]; simp⟩
  refine k dx _ hd ne (I.un (t' := t2) U fun b o q => ?_)
  by_cases z : b = a
  · subst z
    rw [upd_same] at q
    cases q
    exact exo_ok hx
  · by_cases w : b = dx
    · subst w
      rw [upd_ne z, upd_same] at q
      cases q
      exact exd_ok hns (relO_put (fs := []) ry fun _ => True.intro)
    · refine (I.hok b o (same z w q)).stay (fun c v hc m => keep c v ?_ m) (fun c hc => put (apart e hc exo_own) hc) (fun c xs hc => put (apart e hc exo_tup) hc)
      rcases hc with rfl | hc
      · exact z
      · exact apart e hc exo_own
end
/-- self.f = e, the first field of an error that is made -/
def tAst (K : PySem.W.Frag) (f : Str) (to te : TE) : TS := fun D σ H => te σ H fun y H1 => to σ H1 fun x H2 => ∃ a C : Addr, x = .ref a ∧ AeC K C ∧ PySem.W.findIn K (.ref C) f = some none ∧ H2 a = some (exo a C none) ∧
  ∀ dx, H2 dx = none → dx ≠ a → D.nx σ (upd (upd H2 dx (exd dx [(f, y)])) a (exo a C (some dx)))
theorem ps_ast {X : Cx} {o e : Expr} {to te : TE} {f : Str} {p pos : Pos} (ho : PE X o to) (he : PE X e te) (hs : swapsWith e (some (.Attribute o f p)) pos.line X.env = pure false := by rfl) : PS X (.Assign [.Attribute o f p] e pos) (tAst X.K f to te) := by
  refine ⟨fun pins s σ H D I h => plainObj_wpAny_Assign_Attribute (thn (he.run pins s σ H _ I h) fun v s1 ⟨y, H1, I1, r1, q1⟩ => thn (ho.run pins s1 σ H1 _ I1 q1) fun u s2 q2 => ?_) hs⟩
  obtain ⟨x, H2, I2, r2, a, C, rfl, T, hno, ea, q⟩ := q2
  obtain rfl : u = Value.ref a := r2
  exact ae_new T I2 ea hno r1 fun dx s' n ne J => ⟨σ, _, J, q dx n ne⟩
end AE
set_option Elab.async false
set_option linter.all false
set_option maxRecDepth 100000
set_option maxHeartbeats 4000000
namespace AE
open PySem PySem.Spec PyProof.Rows L2
/-- an error of such a class is made by its own __init__ -/
theorem pmk_ae {X : Cx} {CX : CXT} {e : Expr} {es : List Expr} {ta : TA} {p pos : Pos} {x : Str} {C fI : Addr} {k : Nat} {fd : FuncData} {ps : List Str} {sp : Sp} (T : AeC X.K C)
    (iC : PySem.W.findIn X.K (.ref C) "__init__" = some (some (.ref fI))) (tI : PySem.W.typeIn X.K (.ref fI) = some (.type "function")) (F1 : FnOk X.prog X.w X.K X.mg X.base CX k fI fd ps sp)
    (hr : Room (k + 1) X.A) (hb : Binds X.K fd ps []) (hx : Passes CX X (fun _ _ _ => False)) (hg : Gl X x) (hm : X.mg x = some (.ref C)) (ha : PA X (e :: es) ta)
    (hdb : (x == ("__debug__" : Str)) = false := by decide) (he : starEach (e :: es) X.env = (false, eval e X.env) :: starEach es X.env := by rfl) (hpl : (backTo pos (starEach es X.env)).any (·.1) = false := by rfl) :
    PMk X (.Call (.Name x p) (e :: es) [] pos) (tMkO C sp [] ta) := by
  intro pins s σ H Q I h
  refine wpAny_Call_Name_kw (ld_glob I hg hm ?_ hdb)
  refine PySem.W.callWith_K (h₀ := X.base) I.ok.mod.kin T.kC (thn (ha.run pos pins s σ H _ I h) fun us s1 q1 => ?_) he hpl
  obtain ⟨vs, H1, I1, r1, hz, q1⟩ := q1
  refine ⟨I1.kIn, ?_⟩
  show wpAny _ _ (call (.ref C) us) _ _ _
  obtain ⟨hp, g, dr, tk, os⟩ := s1
  obtain ⟨nm, N, qn, bs, bm, hd, sn, sub, ab, col, dd, k0, k1, k2, k3, k5, hC, hbm⟩ := PySem.W.excInit_of I1.kIn T.cls
  generalize hG : (hp.push (PySem.W.kdv_tup us)).push (PySem.HandSPX.excO C hp.objs.size) = G
  have new : hp.objs.size ≤ hp.objs.size + 1 := Nat.le_succ _
  have hn : H1 (hp.objs.size + 1) = none := I1.hok.fresh new
  have keep : ∀ b o, hp.get? b = some o → G.get? b = some o := fun b o q => by
    rw [← hG]
    exact Heap.get?_push_of_some _ (Heap.get?_push_of_some _ q)
  have there : G.get? (hp.objs.size + 1) = some (PySem.HandSPX.excO C hp.objs.size) := by
    rw [← hG]
    heap_get
  have I2 : Inv X pins σ (upd H1 (hp.objs.size + 1) (exo (hp.objs.size + 1) C none)) ⟨G, g, dr, tk, os⟩ := I1.laid (t' := tk) (a := hp.objs.size + 1) keep new (exo_ok there)
  have hq := q1 (hp.objs.size + 1) hn
  rw [List.append_nil] at hq
  have r2 : Vals (V.ref (hp.objs.size + 1) :: vs) (Value.ref (hp.objs.size + 1) :: us) := .cons rfl r1
  have len : (Value.ref (hp.objs.size + 1) :: us ++ []).length = ps.length := by
    rw [List.append_nil, ← r2.length, F1.len _ _ _ _ hq]
  have few : us.length ≤ sizeLine := by
    rw [← Paired.length r1, sizeLine_eq]
    omega
  have run := F1.run _ X.stack _ _ ⟨Value.ref (hp.objs.size + 1) :: us, []⟩ (Value.ref (hp.objs.size + 1) :: us) _ _ (fun _ _ _ => False) (hr.make C us []) (I2.env0.make C us []) (by
    have z := hb _ (Value.ref (hp.objs.size + 1) :: us) I2.kIn len
    rw [List.append_nil] at z
    exact z) r2 hq
  refine wpAny_call (PySem.HandSPX.call_own F.excBase_ArithmeticError hbm hC (PySem.W.looks_findIn I1.kIn iC) (fun self => PySem.W.bind_fn I1.kIn self tI) few ?_)
  rw [hG]
  refine codeAny_mono run fun r s' z => ?_
  match r, z with
  | .error er, z => exact hx pins σ _ _ er s' I2 z
  | .ok (.ret v), z =>
    obtain ⟨y, H2, os2, bare2, un2, hok2, rv, ev, d, fs, ea, ed, hd1, q2⟩ := z
    subst ev
    obtain ⟨h2, g2, d2, t2, os'⟩ := s'
    exact ⟨rv, mk_end (raises_own T.exC T.tyC) I1 new keep un2 hok2 os2 bare2 ea ed hd1 q2⟩
  | .ok .next, z => exact z.elim
  | .ok .brk, z => exact z.elim
  | .ok .cont, z => exact z.elim
end AE
set_option Elab.async false
set_option linter.all false
set_option maxRecDepth 100000
set_option maxHeartbeats 0
namespace W17
open PySem PySem.Spec PyProof.Rows L2
def top (i : Nat) : Stmt := PySem.Challenge.pw_backframes_k17_what_wanting_refuses.main.body.getD i (.Pass ⟨0, 0, 0, 0⟩)
abbrev s_is_integer : Stmt := top 10
def d_is_integer : He.DefD := ⟨("is_integer", none), "is_integer", "is_integer", defArgs s_is_integer, defBody s_is_integer, defScope s_is_integer, [], []⟩
abbrev s_is_integer_in : Stmt := top 11
def d_is_integer_in : He.DefD := ⟨("is_integer_in", none), "is_integer_in", "is_integer_in", defArgs s_is_integer_in, defBody s_is_integer_in, defScope s_is_integer_in, [], []⟩
abbrev s_is_written_number : Stmt := top 12
def d_is_written_number : He.DefD := ⟨("is_written_number", none), "is_written_number", "is_written_number", defArgs s_is_written_number, defBody s_is_written_number, defScope s_is_written_number, [], []⟩
abbrev s_is_name : Stmt := top 13
def d_is_name : He.DefD := ⟨("is_name", none), "is_name", "is_name", defArgs s_is_name, defBody s_is_name, defScope s_is_name, [], []⟩
abbrev s_is_kind : Stmt := top 14
def d_is_kind : He.DefD := ⟨("is_kind", none), "is_kind", "is_kind", defArgs s_is_kind, defBody s_is_kind, defScope s_is_kind, [], []⟩
abbrev s_is_tuple_of : Stmt := top 15
def d_is_tuple_of : He.DefD := ⟨("is_tuple_of", none), "is_tuple_of", "is_tuple_of", defArgs s_is_tuple_of, defBody s_is_tuple_of, defScope s_is_tuple_of, [], []⟩
abbrev s_is_list_of : Stmt := top 16
def d_is_list_of : He.DefD := ⟨("is_list_of", none), "is_list_of", "is_list_of", defArgs s_is_list_of, defBody s_is_list_of, defScope s_is_list_of, [], []⟩
abbrev s_is_list_of_names : Stmt := top 17
def d_is_list_of_names : He.DefD := ⟨("is_list_of_names", none), "is_list_of_names", "is_list_of_names", defArgs s_is_list_of_names, defBody s_is_list_of_names, defScope s_is_list_of_names, [], []⟩
abbrev s_is_word_tuple : Stmt := top 18
def d_is_word_tuple : He.DefD := ⟨("is_word_tuple", none), "is_word_tuple", "is_word_tuple", defArgs s_is_word_tuple, defBody s_is_word_tuple, defScope s_is_word_tuple, [], []⟩
abbrev s_frozen : Stmt := top 19
def d_frozen : He.DefD := ⟨("frozen", none), "frozen", "frozen", defArgs s_frozen, defBody s_frozen, defScope s_frozen, [], []⟩
abbrev s_are_named_kinds : Stmt := top 20
def d_are_named_kinds : He.DefD := ⟨("are_named_kinds", none), "are_named_kinds", "are_named_kinds", defArgs s_are_named_kinds, defBody s_are_named_kinds, defScope s_are_named_kinds, [], []⟩
abbrev s_is_row : Stmt := top 25
def d_is_row : He.DefD := ⟨("is_row", none), "is_row", "is_row", defArgs s_is_row, defBody s_is_row, defScope s_is_row, [], []⟩
abbrev s_fills : Stmt := top 26
def d_fills : He.DefD := ⟨("_fills", none), "_fills", "_fills", defArgs s_fills, defBody s_fills, defScope s_fills, [], []⟩
abbrev s_row_sets : Stmt := top 27
def d_row_sets : He.DefD := ⟨("row_sets", none), "row_sets", "row_sets", defArgs s_row_sets, defBody s_row_sets, defScope s_row_sets, [], []⟩
abbrev s_row_reads : Stmt := top 28
def d_row_reads : He.DefD := ⟨("row_reads", none), "row_reads", "row_reads", defArgs s_row_reads, defBody s_row_reads, defScope s_row_reads, [], []⟩
abbrev s_row_kinds_fit : Stmt := top 29
def d_row_kinds_fit : He.DefD := ⟨("row_kinds_fit", none), "row_kinds_fit", "row_kinds_fit", defArgs s_row_kinds_fit, defBody s_row_kinds_fit, defScope s_row_kinds_fit, [], []⟩
abbrev s_names_in : Stmt := top 30
def d_names_in : He.DefD := ⟨("_names_in", none), "_names_in", "_names_in", defArgs s_names_in, defBody s_names_in, defScope s_names_in, [], []⟩
abbrev s_call_fits : Stmt := top 31
def d_call_fits : He.DefD := ⟨("_call_fits", none), "_call_fits", "_call_fits", defArgs s_call_fits, defBody s_call_fits, defScope s_call_fits, [], []⟩
abbrev s_told_row : Stmt := top 32
def d_told_row : He.DefD := ⟨("told_row", none), "told_row", "told_row", defArgs s_told_row, defBody s_told_row, defScope s_told_row, [], []⟩
abbrev s_is_class : Stmt := top 43
def d_is_class : He.DefD := ⟨("_is_class", none), "_is_class", "_is_class", defArgs s_is_class, defBody s_is_class, defScope s_is_class, [], []⟩
abbrev s_is_head : Stmt := top 44
def d_is_head : He.DefD := ⟨("_is_head", none), "_is_head", "_is_head", defArgs s_is_head, defBody s_is_head, defScope s_is_head, [], []⟩
abbrev s_told_function : Stmt := top 45
def d_told_function : He.DefD := ⟨("_told_function", none), "_told_function", "_told_function", defArgs s_told_function, defBody s_told_function, defScope s_told_function, [], []⟩
abbrev s_wanted : Stmt := top 47
def d_wanted : He.DefD := ⟨("wanted", none), "wanted", "wanted", defArgs s_wanted, defBody s_wanted, defScope s_wanted, [], []⟩
abbrev s_wanting : Stmt := top 48
def d_wanting : He.DefD := ⟨("wanting", none), "wanting", "wanting", defArgs s_wanting, defBody s_wanting, defScope s_wanting, [], []⟩
abbrev s_wanted_at_call : Stmt := top 49
def d_wanted_at_call : He.DefD := ⟨("wanted_at_call", none), "wanted_at_call", "wanted_at_call", defArgs s_wanted_at_call, defBody s_wanted_at_call, defScope s_wanted_at_call, [], []⟩
abbrev s_function_with : Stmt := top 50
def d_function_with : He.DefD := ⟨("_function_with", none), "_function_with", "_function_with", defArgs s_function_with, defBody s_function_with, defScope s_function_with, [], []⟩
abbrev s_wanted_in : Stmt := top 51
def d_wanted_in : He.DefD := ⟨("_wanted_in", none), "_wanted_in", "_wanted_in", defArgs s_wanted_in, defBody s_wanted_in, defScope s_wanted_in, [], []⟩
abbrev s_way_to_reader : Stmt := top 52
def d_way_to_reader : He.DefD := ⟨("_way_to_reader", none), "_way_to_reader", "_way_to_reader", defArgs s_way_to_reader, defBody s_way_to_reader, defScope s_way_to_reader, [], []⟩
abbrev s_rows_behind : Stmt := top 53
def d_rows_behind : He.DefD := ⟨("_rows_behind", none), "_rows_behind", "_rows_behind", defArgs s_rows_behind, defBody s_rows_behind, defScope s_rows_behind, [], []⟩
abbrev s_L_well : Stmt := top 55
def d_L_well : He.DefD := ⟨("_law_well", none), "_law_well", "_law_well", defArgs s_L_well, defBody s_L_well, defScope s_L_well, [], []⟩
abbrev s_L_draw : Stmt := top 56
def d_L_draw : He.DefD := ⟨("_law_draw", none), "_law_draw", "_law_draw", defArgs s_L_draw, defBody s_L_draw, defScope s_L_draw, [], []⟩
abbrev s_L_one : Stmt := top 57
def d_L_one : He.DefD := ⟨("_law_one", none), "_law_one", "_law_one", defArgs s_L_one, defBody s_L_one, defScope s_L_one, [], []⟩
abbrev s_L_plain : Stmt := top 58
def d_L_plain : He.DefD := ⟨("_law_plain", none), "_law_plain", "_law_plain", defArgs s_L_plain, defBody s_L_plain, defScope s_L_plain, [], []⟩
abbrev s_L_function : Stmt := top 59
def d_L_function : He.DefD := ⟨("_law_function", none), "_law_function", "_law_function", defArgs s_L_function, defBody s_L_function, defScope s_L_function, [], []⟩
abbrev s_L_classes : Stmt := top 60
def d_L_classes : He.DefD := ⟨("_law_classes", none), "_law_classes", "_law_classes", defArgs s_L_classes, defBody s_L_classes, defScope s_L_classes, [], []⟩
abbrev s_L_said : Stmt := top 61
def d_L_said : He.DefD := ⟨("_law_said", none), "_law_said", "_law_said", defArgs s_L_said, defBody s_L_said, defScope s_L_said, [], []⟩
abbrev s_law : Stmt := top 62
def d_law : He.DefD := ⟨("law", none), "law", "law", defArgs s_law, defBody s_law, defScope s_law, [], []⟩
abbrev s_Function_init : Stmt := inClass (top 41) 0
def d_Function_init : He.DefD := ⟨("Function", some "__init__"), "__init__", "Function.__init__", defArgs s_Function_init, defBody s_Function_init, defScope s_Function_init, [], []⟩
abbrev s_Function_has_row : Stmt := inClass (top 41) 1
def d_Function_has_row : He.DefD := ⟨("Function", some "has_row"), "has_row", "Function.has_row", defArgs s_Function_has_row, defBody s_Function_has_row, defScope s_Function_has_row, [], []⟩
abbrev s_Function_called_at : Stmt := inClass (top 41) 2
def d_Function_called_at : He.DefD := ⟨("Function", some "called_at"), "called_at", "Function.called_at", defArgs s_Function_called_at, defBody s_Function_called_at, defScope s_Function_called_at, [], []⟩
abbrev s_InvalidSource_init : Stmt := inClass (top 2) 0
def d_InvalidSource_init : He.DefD := ⟨("InvalidSource", some "__init__"), "__init__", "InvalidSource.__init__", defArgs s_InvalidSource_init, defBody s_InvalidSource_init, defScope s_InvalidSource_init, [], []⟩
abbrev s_InvalidArgument_init : Stmt := inClass (top 3) 0
def d_InvalidArgument_init : He.DefD := ⟨("InvalidArgument", some "__init__"), "__init__", "InvalidArgument.__init__", defArgs s_InvalidArgument_init, defBody s_InvalidArgument_init, defScope s_InvalidArgument_init, [], []⟩
abbrev s_InvalidNumber_init : Stmt := inClass (top 4) 0
def d_InvalidNumber_init : He.DefD := ⟨("InvalidNumber", some "__init__"), "__init__", "InvalidNumber.__init__", defArgs s_InvalidNumber_init, defBody s_InvalidNumber_init, defScope s_InvalidNumber_init, [], []⟩
abbrev s_Source_init : Stmt := inClass (top 42) 0
def d_Source_init : He.DefD := ⟨("Source", some "__init__"), "__init__", "Source.__init__", defArgs s_Source_init, defBody s_Source_init, defScope s_Source_init, [], []⟩
abbrev s_Source_take_classes : Stmt := inClass (top 42) 1
def d_Source_take_classes : He.DefD := ⟨("Source", some "_take_classes"), "_take_classes", "Source._take_classes", defArgs s_Source_take_classes, defBody s_Source_take_classes, defScope s_Source_take_classes, [], []⟩
abbrev s_Source_kinds_differ : Stmt := inClass (top 42) 2
def d_Source_kinds_differ : He.DefD := ⟨("Source", some "_kinds_differ"), "_kinds_differ", "Source._kinds_differ", defArgs s_Source_kinds_differ, defBody s_Source_kinds_differ, defScope s_Source_kinds_differ, [], []⟩
abbrev s_Source_take_heads : Stmt := inClass (top 42) 3
def d_Source_take_heads : He.DefD := ⟨("Source", some "_take_heads"), "_take_heads", "Source._take_heads", defArgs s_Source_take_heads, defBody s_Source_take_heads, defScope s_Source_take_heads, [], []⟩
abbrev s_Source_take_rows : Stmt := inClass (top 42) 4
def d_Source_take_rows : He.DefD := ⟨("Source", some "_take_rows"), "_take_rows", "Source._take_rows", defArgs s_Source_take_rows, defBody s_Source_take_rows, defScope s_Source_take_rows, [], []⟩
abbrev s_Source_is_row_of : Stmt := inClass (top 42) 5
def d_Source_is_row_of : He.DefD := ⟨("Source", some "_is_row_of"), "_is_row_of", "Source._is_row_of", defArgs s_Source_is_row_of, defBody s_Source_is_row_of, defScope s_Source_is_row_of, [], []⟩
abbrev s_Source_function_at : Stmt := inClass (top 42) 9
def d_Source_function_at : He.DefD := ⟨("Source", some "function_at"), "function_at", "Source.function_at", defArgs s_Source_function_at, defBody s_Source_function_at, defScope s_Source_function_at, [], []⟩
abbrev s_Source_fields_of : Stmt := inClass (top 42) 10
def d_Source_fields_of : He.DefD := ⟨("Source", some "fields_of"), "fields_of", "Source.fields_of", defArgs s_Source_fields_of, defBody s_Source_fields_of, defScope s_Source_fields_of, [], []⟩
abbrev s_Source_field_kind : Stmt := inClass (top 42) 11
def d_Source_field_kind : He.DefD := ⟨("Source", some "field_kind"), "field_kind", "Source.field_kind", defArgs s_Source_field_kind, defBody s_Source_field_kind, defScope s_Source_field_kind, [], []⟩
abbrev s_Source_classes : Stmt := inClass (top 42) 6
def d_Source_classes : He.DefD := ⟨("Source", some "classes"), "classes", "Source.classes", defArgs s_Source_classes, defBody s_Source_classes, defScope s_Source_classes, [], []⟩
abbrev s_Source_functions : Stmt := inClass (top 42) 7
def d_Source_functions : He.DefD := ⟨("Source", some "functions"), "functions", "Source.functions", defArgs s_Source_functions, defBody s_Source_functions, defScope s_Source_functions, [], []⟩
abbrev s_Source_eq : Stmt := inClass (top 42) 8
def d_Source_eq : He.DefD := ⟨("Source", some "__eq__"), "__eq__", "Source.__eq__", defArgs s_Source_eq, defBody s_Source_eq, defScope s_Source_eq, [], []⟩
def fn : List He.DefD := [d_is_integer, d_is_integer_in, d_is_written_number, d_is_name, d_is_kind, d_is_tuple_of, d_is_list_of, d_is_list_of_names, d_is_word_tuple, d_frozen, d_are_named_kinds, d_is_row, d_fills, d_row_sets, d_row_reads, d_row_kinds_fit, d_names_in, d_call_fits, d_told_row, d_is_class, d_is_head, d_told_function, d_wanted, d_wanting, d_wanted_at_call, d_function_with, d_wanted_in, d_way_to_reader, d_rows_behind, d_L_well, d_L_draw, d_L_one, d_L_plain, d_L_function, d_L_classes, d_L_said, d_law, d_Function_init, d_Function_has_row, d_Function_called_at, d_InvalidSource_init, d_InvalidArgument_init, d_InvalidNumber_init, d_Source_init, d_Source_take_classes, d_Source_kinds_differ, d_Source_take_heads, d_Source_take_rows, d_Source_is_row_of, d_Source_function_at, d_Source_fields_of, d_Source_field_kind, d_Source_classes, d_Source_functions, d_Source_eq]
def fa : List He.Fa := [.glo "is_integer", .glo "is_integer_in", .glo "is_written_number", .glo "is_name", .glo "is_kind", .glo "is_tuple_of", .glo "is_list_of", .glo "is_list_of_names", .glo "is_word_tuple", .glo "frozen", .glo "are_named_kinds", .glo "is_row", .glo "_fills", .glo "row_sets", .glo "row_reads", .glo "row_kinds_fit", .glo "_names_in", .glo "_call_fits", .glo "told_row", .glo "_is_class", .glo "_is_head", .glo "_told_function", .glo "wanted", .glo "wanting", .glo "wanted_at_call", .glo "_function_with", .glo "_wanted_in", .glo "_way_to_reader", .glo "_rows_behind", .glo "_law_well", .glo "_law_draw", .glo "_law_one", .glo "_law_plain", .glo "_law_function", .glo "_law_classes", .glo "_law_said", .glo "law", .free "isinstance", .free "int", .free "bool", .free "str", .free "list", .free "tuple", .free "len", .free "all", .free "any", .free "zip", .free "enumerate", .free "dict", .free "range", .free "min", .free "max", .free "sorted", .free "set", .free "sum", .free "ArithmeticError", .int "GREATEST_WRITTEN" 1000000000, .int "MOST_CLASSES" 6, .int "MOST_FIELDS" 4, .int "MOST_FUNCTIONS" 6, .int "MOST_PARAMETERS" 4, .int "MOST_OTHERS" 8, .int "MOST_ROWS" 40, .str "LETTERS" "abcdefghijklmnopqrstuvwxyz", .str "MARKS" "abcdefghijklmnopqrstuvwxyz0123456789", .glo "InvalidSource", .glo "InvalidArgument", .glo "InvalidNumber", .glo "CodeError", .exm "InvalidSource" "InvalidSource" true, .glo "Function", .glo "Source", .glo "KINDS", .glo "NUMBER_WORDS", .glo "ROW_WORDS", .glo "ROLES", .cls "Function", .mkr "Function", .noat "Function" "name", .noat "Function" "params", .noat "Function" "others", .noat "Function" "result", .noat "Function" "variables", .noat "Function" "body", .cls "Source", .mkr "Source", .noat "Source" "_field_kinds", .noat "Source" "_fields", .noat "Source" "_functions", .meth "Function" "has_row", .meth "Function" "called_at", .meth "Source" "_take_classes", .meth "Source" "_kinds_differ", .meth "Source" "_take_heads", .meth "Source" "_take_rows", .meth "Source" "_is_row_of", .meth "Source" "function_at", .meth "Source" "fields_of", .meth "Source" "field_kind", .meth "Source" "classes", .meth "Source" "functions", .meth "Source" "__eq__", .exm "InvalidArgument" "InvalidSource" false, .exm "InvalidArgument" "InvalidArgument" true, .exm "InvalidNumber" "InvalidSource" false, .exm "InvalidNumber" "InvalidArgument" false, .exm "InvalidNumber" "InvalidNumber" true, .free "repr"]
def v_KINDS : List He.Dv := [.str "number", .str "object"]
def v_NUMBER_WORDS : List He.Dv := [.str "number", .str "add", .str "sub", .str "times", .str "less", .str "if", .str "guard"]
def v_ROW_WORDS : List He.Dv := [.str "number", .str "add", .str "sub", .str "times", .str "less", .str "nil", .str "new", .str "copy", .str "same", .str "get", .str "put", .str "call", .str "see", .str "if", .str "jump", .str "return"]
def roles : List (Str × List Str) := [("number", ["sets", "number"]), ("nil", ["sets"]), ("copy", ["sets", "reads"]), ("add", ["sets", "reads", "reads"]), ("sub", ["sets", "reads", "reads"]), ("times", ["sets", "reads", "reads"]), ("less", ["sets", "reads", "reads"]), ("same", ["sets", "reads", "reads"]), ("new", ["sets", "class"]), ("get", ["sets", "reads", "field"]), ("put", ["reads", "field", "reads"]), ("call", ["sets", "function", "many"]), ("see", ["reads"]), ("if", ["reads", "row"]), ("jump", ["row"]), ("return", ["reads"]), ("guard", ["reads", "point"]), ("look", ["point"])]
/-- the tuple that the table ROLES has at a word -/
def rolA (K : PySem.W.Frag) (x : Str) : Addr := match PySem.W.nsIn K (He.ga K "ROLES") x with
  | some (some (.ref a)) => a
  | _ => 0
def tupAt (K : PySem.W.Frag) (a : Addr) (vs : List V) : Bool := match K.lookup a with
  | some ⟨.type c, _, .seq its _, _⟩ => decide (c = "tuple") && (decide (its.size ≤ sizeLine) && He.relAll vs its.toList)
  | _ => false
def rolB (K : PySem.W.Frag) (q : Str × List Str) : Bool := He.eqO (PySem.W.nsIn K (He.ga K "ROLES") q.1) (some (some (.ref (rolA K q.1)))) && tupAt K (rolA K q.1) (q.2.map V.str)
def isaB (K : PySem.W.Frag) (C : Addr) : Bool := He.eqO (PySem.W.findIn K (.ref C) "__class__") (some (some (.builtin "object.__class__"))) && (He.eqO (PySem.W.specialIn K (.builtin "object.__class__") "__get__") (some (some (.builtin "getset_descriptor.__get__"))) && (decide (PySem.W.takesIn K (.builtin "object.__class__") = some true) && (decide (PySem.W.mroIn K C (.type "object") = some true) && decide (PySem.W.kitOne K (.ref C) (.ref C) = some true))))
/-- what is asked of an error of the program at C -/
def errB (K : PySem.W.Frag) (C : Addr) (fs : List Str) : Bool := AE.aeB K C && (L2.xfB K C && ((fs.all fun f => decide (PySem.W.findIn K (.ref C) f = some none)) && (decide (PySem.W.findIn K (.ref C) "__init__" = some (some (.ref (He.ma K C "__init__")))) && (decide (PySem.W.typeIn K (.ref (He.ma K C "__init__")) = some (.type "function")) && (He.eqO (PySem.W.findIn K (.ref C) "__class__") (some (some (.builtin "object.__class__"))) && decide (PySem.W.mroIn K C (.type "object") = some true))))))
def errN : List Str := ["InvalidSource", "InvalidArgument", "InvalidNumber"]
def errsB (K : PySem.W.Frag) : Bool := errB K (He.ga K "InvalidSource") ["part", "at"] && (errB K (He.ga K "InvalidArgument") ["part"] && (errB K (He.ga K "InvalidNumber") ["number"]))
def marksB (K : PySem.W.Frag) : Bool := errN.all fun x => (errN.all fun y => decide (PySem.W.kitOne K (.ref (He.ga K x)) (.ref (He.ga K y)) = some (decide (x = y)))) && (decide (PySem.W.kitOne K (.ref (He.ga K x)) (.ref (He.ga K "CodeError")) = some true) && decide (PySem.W.kitOne K (.ref (He.ga K x)) (.type "ArithmeticError") = some true))
def eqB (K : PySem.W.Frag) : Bool := decide (PySem.W.findIn K (.ref (He.ga K "Source")) "__eq__" = some (some (.ref (He.ma K (He.ga K "Source") "__eq__")))) && (decide (PySem.W.findIn K (.ref (He.ga K "Source")) "__ne__" = some (some (.builtin "object.__ne__"))) && (decide (PySem.W.subIn K (.ref (He.ga K "Source")) (.type "object") = some true) && PySem.W.isFn K (.ref (He.ma K (He.ga K "Source") "__eq__"))))
def notB (K : PySem.W.Frag) : Bool := (["NoneType", "int", "bool", "str", "list", "tuple", "dict"] : List String).all fun t => decide (PySem.W.kitOne K (.type t) (.ref (He.ga K "Source")) = some false)
def ex (K : PySem.W.Frag) : Bool := He.tupB K "KINDS" v_KINDS && (He.tupB K "NUMBER_WORDS" v_NUMBER_WORDS && (He.tupB K "ROW_WORDS" v_ROW_WORDS && (roles.all (rolB K) && (isaB K (He.ga K "Source") && (errsB K && (marksB K && (eqB K && notB K)))))))
def ts : List He.Tab := [(fun K => He.ga K "ROLES", roles.map (·.1))]
def tf : List He.Defn := [("law", none)]
def nms : List Str := (["CodeError", "InvalidSource", "InvalidArgument", "InvalidNumber", "GREATEST_WRITTEN", "LETTERS", "MARKS", "KINDS", "is_integer", "is_integer_in", "is_written_number", "is_name", "is_kind", "is_tuple_of", "is_list_of", "is_list_of_names", "is_word_tuple", "frozen", "are_named_kinds", "ROLES", "NUMBER_WORDS", "GREATEST_POINT", "is_row", "_fills", "row_sets", "row_reads", "row_kinds_fit", "_names_in", "_call_fits", "told_row"] : List Str) ++ (["MOST_CLASSES", "MOST_FIELDS", "MOST_FUNCTIONS", "MOST_PARAMETERS", "MOST_OTHERS", "MOST_ROWS", "ROW_WORDS", "Function", "Source", "_is_class", "_is_head", "_told_function", "wanted", "wanting", "wanted_at_call", "_function_with", "_wanted_in", "_way_to_reader", "_rows_behind", "_law_well", "_law_draw", "_law_one", "_law_plain", "_law_function", "_law_classes", "_law_said"] : List Str)
abbrev R : PySem.W.OpenRow := PySem.W.OpenLaw.row PySem.Challenge.rw_backframes_k17_what_wanting_refuses
abbrev hk : PySem.W.Hook := He.hookX 4 fa fn ts tf ex
def ob (s : PySem.W.SharedT) : He.AlX := He.obsX 4 fa fn ts tf ex (HandSHeadRun.getT s)
theorem ob_eq (s : PySem.W.SharedT) : ob s = hk.obs s.abs := He.obsX_eq (HandSHeadRun.getT_eq s)
theorem runF (w : World) : HandSHeadRun.RunEq R (PySem.W.view R.prog [62]) hk ob 8000 nms (w.withFollow "special-get-raises" false) := by
  intro os
  kernel_rfl
theorem runT (w : World) : HandSHeadRun.RunEq R (PySem.W.view R.prog [62]) hk ob 8000 nms (w.withFollow "special-get-raises" true) := by
  intro os
  kernel_rfl
theorem run (w : World) : HandSHeadRun.RunEq R (PySem.W.view R.prog [62]) hk ob 8000 nms w := PySem.W.byRow2 "special-get-raises" runF runT w
end W17
set_option Elab.async false
set_option linter.all false
set_option maxRecDepth 100000
set_option maxHeartbeats 4000000
namespace W17
open PySem PySem.Spec PyProof.Rows L2
/-- what stands behind the top -/
structure Ctx (w : World) (K : PySem.W.Frag) (mg : Str → Option Value) : Prop where
  ex_ : ∃ h : Heap, K.In h ∧ h.Ns mainGlobals mg
  says : He.SaysT fa fn ts w K
  more : ex K = true
section
variable {w : World} {K : PySem.W.Frag} {mg : Str → Option Value}
theorem Ctx.glo (T : Ctx w K mg) {x : Str} (i : Nat) (h : fa[i]? = some (.glo x) := by rfl) : mg x = some (.ref (He.ga K x)) := by
  obtain ⟨_, X, G⟩ := T.ex_
  exact He.glo_ok X G (T.says.d.fact i h)
theorem Ctx.free (T : Ctx w K mg) {x : Str} (i : Nat) (h : fa[i]? = some (.free x) := by rfl) : mg x = none := by
  obtain ⟨_, X, G⟩ := T.ex_
  exact He.free_ok X G (T.says.d.fact i h)
theorem Ctx.int (T : Ctx w K mg) {x : Str} {z : Int} (i : Nat) (h : fa[i]? = some (.int x z) := by rfl) : ∃ t, mg x = some (.int z t) := by
  obtain ⟨_, X, G⟩ := T.ex_
  exact He.int_ok X G (T.says.d.fact i h)
theorem Ctx.str (T : Ctx w K mg) {x z : Str} (i : Nat) (h : fa[i]? = some (.str x z) := by rfl) : ∃ t, mg x = some (.str z t) := by
  obtain ⟨_, X, G⟩ := T.ex_
  exact He.str_ok X G (T.says.d.fact i h)
/-- a def that keeps its promise, with all that a caller needs -/
structure Has (P : Program) (w : World) (K : PySem.W.Frag) (mg : Str → Option Value) (base : Heap) (k : Nat) (x : Str) (ps : List Str) (sp : Sp) : Prop where
  ex : ∃ fd, FnOk P w K mg base CX0 k (He.ga K x) fd ps sp ∧ Binds K fd ps []
  kp : PySem.W.keepIn K (.ref (He.ga K x)) = true
  gl : mg x = some (.ref (He.ga K x))
/-- the same of a method -/
structure HasM (P : Program) (w : World) (K : PySem.W.Frag) (mg : Str → Option Value) (base : Heap) (k : Nat) (C m : Str) (ps : List Str) (sp : Sp) : Prop where
  ex : ∃ fd, FnOk P w K mg base CX0 k (He.ma K (He.ga K C) m) fd ps sp ∧ Binds K fd ps []
theorem Ctx.g_is_integer (T : Ctx w K mg) : mg "is_integer" = some (.ref (He.ga K "is_integer")) := T.glo 0
theorem Ctx.g_is_integer_in (T : Ctx w K mg) : mg "is_integer_in" = some (.ref (He.ga K "is_integer_in")) := T.glo 1
theorem Ctx.g_is_written_number (T : Ctx w K mg) : mg "is_written_number" = some (.ref (He.ga K "is_written_number")) := T.glo 2
theorem Ctx.g_is_name (T : Ctx w K mg) : mg "is_name" = some (.ref (He.ga K "is_name")) := T.glo 3
theorem Ctx.g_is_kind (T : Ctx w K mg) : mg "is_kind" = some (.ref (He.ga K "is_kind")) := T.glo 4
theorem Ctx.g_is_tuple_of (T : Ctx w K mg) : mg "is_tuple_of" = some (.ref (He.ga K "is_tuple_of")) := T.glo 5
theorem Ctx.g_is_list_of (T : Ctx w K mg) : mg "is_list_of" = some (.ref (He.ga K "is_list_of")) := T.glo 6
theorem Ctx.g_is_list_of_names (T : Ctx w K mg) : mg "is_list_of_names" = some (.ref (He.ga K "is_list_of_names")) := T.glo 7
theorem Ctx.g_is_word_tuple (T : Ctx w K mg) : mg "is_word_tuple" = some (.ref (He.ga K "is_word_tuple")) := T.glo 8
theorem Ctx.g_frozen (T : Ctx w K mg) : mg "frozen" = some (.ref (He.ga K "frozen")) := T.glo 9
theorem Ctx.g_are_named_kinds (T : Ctx w K mg) : mg "are_named_kinds" = some (.ref (He.ga K "are_named_kinds")) := T.glo 10
theorem Ctx.g_is_row (T : Ctx w K mg) : mg "is_row" = some (.ref (He.ga K "is_row")) := T.glo 11
theorem Ctx.g_fills (T : Ctx w K mg) : mg "_fills" = some (.ref (He.ga K "_fills")) := T.glo 12
theorem Ctx.g_row_sets (T : Ctx w K mg) : mg "row_sets" = some (.ref (He.ga K "row_sets")) := T.glo 13
theorem Ctx.g_row_reads (T : Ctx w K mg) : mg "row_reads" = some (.ref (He.ga K "row_reads")) := T.glo 14
theorem Ctx.g_row_kinds_fit (T : Ctx w K mg) : mg "row_kinds_fit" = some (.ref (He.ga K "row_kinds_fit")) := T.glo 15
theorem Ctx.g_names_in (T : Ctx w K mg) : mg "_names_in" = some (.ref (He.ga K "_names_in")) := T.glo 16
theorem Ctx.g_call_fits (T : Ctx w K mg) : mg "_call_fits" = some (.ref (He.ga K "_call_fits")) := T.glo 17
theorem Ctx.g_told_row (T : Ctx w K mg) : mg "told_row" = some (.ref (He.ga K "told_row")) := T.glo 18
theorem Ctx.g_is_class (T : Ctx w K mg) : mg "_is_class" = some (.ref (He.ga K "_is_class")) := T.glo 19
theorem Ctx.g_is_head (T : Ctx w K mg) : mg "_is_head" = some (.ref (He.ga K "_is_head")) := T.glo 20
theorem Ctx.g_told_function (T : Ctx w K mg) : mg "_told_function" = some (.ref (He.ga K "_told_function")) := T.glo 21
theorem Ctx.g_wanted (T : Ctx w K mg) : mg "wanted" = some (.ref (He.ga K "wanted")) := T.glo 22
theorem Ctx.g_wanting (T : Ctx w K mg) : mg "wanting" = some (.ref (He.ga K "wanting")) := T.glo 23
theorem Ctx.g_wanted_at_call (T : Ctx w K mg) : mg "wanted_at_call" = some (.ref (He.ga K "wanted_at_call")) := T.glo 24
theorem Ctx.g_function_with (T : Ctx w K mg) : mg "_function_with" = some (.ref (He.ga K "_function_with")) := T.glo 25
theorem Ctx.g_wanted_in (T : Ctx w K mg) : mg "_wanted_in" = some (.ref (He.ga K "_wanted_in")) := T.glo 26
theorem Ctx.g_way_to_reader (T : Ctx w K mg) : mg "_way_to_reader" = some (.ref (He.ga K "_way_to_reader")) := T.glo 27
theorem Ctx.g_rows_behind (T : Ctx w K mg) : mg "_rows_behind" = some (.ref (He.ga K "_rows_behind")) := T.glo 28
theorem Ctx.g_L_well (T : Ctx w K mg) : mg "_law_well" = some (.ref (He.ga K "_law_well")) := T.glo 29
theorem Ctx.g_L_draw (T : Ctx w K mg) : mg "_law_draw" = some (.ref (He.ga K "_law_draw")) := T.glo 30
theorem Ctx.g_L_one (T : Ctx w K mg) : mg "_law_one" = some (.ref (He.ga K "_law_one")) := T.glo 31
theorem Ctx.g_L_plain (T : Ctx w K mg) : mg "_law_plain" = some (.ref (He.ga K "_law_plain")) := T.glo 32
theorem Ctx.g_L_function (T : Ctx w K mg) : mg "_law_function" = some (.ref (He.ga K "_law_function")) := T.glo 33
theorem Ctx.g_L_classes (T : Ctx w K mg) : mg "_law_classes" = some (.ref (He.ga K "_law_classes")) := T.glo 34
theorem Ctx.g_L_said (T : Ctx w K mg) : mg "_law_said" = some (.ref (He.ga K "_law_said")) := T.glo 35
theorem Ctx.g_law (T : Ctx w K mg) : mg "law" = some (.ref (He.ga K "law")) := T.glo 36
theorem Ctx.f_isinstance (T : Ctx w K mg) : mg "isinstance" = none := T.free 37
theorem Ctx.f_int (T : Ctx w K mg) : mg "int" = none := T.free 38
theorem Ctx.f_bool (T : Ctx w K mg) : mg "bool" = none := T.free 39
theorem Ctx.f_str (T : Ctx w K mg) : mg "str" = none := T.free 40
theorem Ctx.f_list (T : Ctx w K mg) : mg "list" = none := T.free 41
theorem Ctx.f_tuple (T : Ctx w K mg) : mg "tuple" = none := T.free 42
theorem Ctx.f_len (T : Ctx w K mg) : mg "len" = none := T.free 43
theorem Ctx.f_all (T : Ctx w K mg) : mg "all" = none := T.free 44
theorem Ctx.f_any (T : Ctx w K mg) : mg "any" = none := T.free 45
theorem Ctx.f_zip (T : Ctx w K mg) : mg "zip" = none := T.free 46
theorem Ctx.f_enumerate (T : Ctx w K mg) : mg "enumerate" = none := T.free 47
theorem Ctx.f_dict (T : Ctx w K mg) : mg "dict" = none := T.free 48
theorem Ctx.f_range (T : Ctx w K mg) : mg "range" = none := T.free 49
theorem Ctx.f_min (T : Ctx w K mg) : mg "min" = none := T.free 50
theorem Ctx.f_max (T : Ctx w K mg) : mg "max" = none := T.free 51
theorem Ctx.f_sorted (T : Ctx w K mg) : mg "sorted" = none := T.free 52
theorem Ctx.f_set (T : Ctx w K mg) : mg "set" = none := T.free 53
theorem Ctx.f_sum (T : Ctx w K mg) : mg "sum" = none := T.free 54
theorem Ctx.f_ArithmeticError (T : Ctx w K mg) : mg "ArithmeticError" = none := T.free 55
theorem Ctx.i_GREATEST_WRITTEN (T : Ctx w K mg) : ∃ t, mg "GREATEST_WRITTEN" = some (.int 1000000000 t) := T.int 56
theorem Ctx.i_MOST_CLASSES (T : Ctx w K mg) : ∃ t, mg "MOST_CLASSES" = some (.int 6 t) := T.int 57
theorem Ctx.i_MOST_FIELDS (T : Ctx w K mg) : ∃ t, mg "MOST_FIELDS" = some (.int 4 t) := T.int 58
theorem Ctx.i_MOST_FUNCTIONS (T : Ctx w K mg) : ∃ t, mg "MOST_FUNCTIONS" = some (.int 6 t) := T.int 59
theorem Ctx.i_MOST_PARAMETERS (T : Ctx w K mg) : ∃ t, mg "MOST_PARAMETERS" = some (.int 4 t) := T.int 60
theorem Ctx.i_MOST_OTHERS (T : Ctx w K mg) : ∃ t, mg "MOST_OTHERS" = some (.int 8 t) := T.int 61
theorem Ctx.i_MOST_ROWS (T : Ctx w K mg) : ∃ t, mg "MOST_ROWS" = some (.int 40 t) := T.int 62
theorem Ctx.s_LETTERS (T : Ctx w K mg) : ∃ t, mg "LETTERS" = some (.str "abcdefghijklmnopqrstuvwxyz" t) := T.str 63
theorem Ctx.s_MARKS (T : Ctx w K mg) : ∃ t, mg "MARKS" = some (.str "abcdefghijklmnopqrstuvwxyz0123456789" t) := T.str 64
theorem Ctx.g_InvalidSource (T : Ctx w K mg) : mg "InvalidSource" = some (.ref (He.ga K "InvalidSource")) := T.glo 65
theorem Ctx.g_InvalidArgument (T : Ctx w K mg) : mg "InvalidArgument" = some (.ref (He.ga K "InvalidArgument")) := T.glo 66
theorem Ctx.g_InvalidNumber (T : Ctx w K mg) : mg "InvalidNumber" = some (.ref (He.ga K "InvalidNumber")) := T.glo 67
theorem Ctx.g_CodeError (T : Ctx w K mg) : mg "CodeError" = some (.ref (He.ga K "CodeError")) := T.glo 68
theorem Ctx.x_InvalidSource_InvalidSource (T : Ctx w K mg) : PySem.W.exmOne K (.ref (He.ga K "InvalidSource")) (.ref (He.ga K "InvalidSource")) = some true := He.exm_ok (T.says.d.fact 69 rfl)
theorem Ctx.g_Function (T : Ctx w K mg) : mg "Function" = some (.ref (He.ga K "Function")) := T.glo 70
theorem Ctx.g_Source (T : Ctx w K mg) : mg "Source" = some (.ref (He.ga K "Source")) := T.glo 71
theorem Ctx.g_KINDS (T : Ctx w K mg) : mg "KINDS" = some (.ref (He.ga K "KINDS")) := T.glo 72
theorem Ctx.g_NUMBER_WORDS (T : Ctx w K mg) : mg "NUMBER_WORDS" = some (.ref (He.ga K "NUMBER_WORDS")) := T.glo 73
theorem Ctx.g_ROW_WORDS (T : Ctx w K mg) : mg "ROW_WORDS" = some (.ref (He.ga K "ROW_WORDS")) := T.glo 74
theorem Ctx.g_ROLES (T : Ctx w K mg) : mg "ROLES" = some (.ref (He.ga K "ROLES")) := T.glo 75
theorem Ctx.c_Function (T : Ctx w K mg) : Cls K (He.ga K "Function") := He.cls_ok (T.says.d.fact 76 rfl)
theorem Ctx.k_Function (T : Ctx w K mg) : Mk K (He.ga K "Function") (He.ma K (He.ga K "Function") "__init__") := He.mkr_ok (T.says.d.fact 77 rfl)
theorem Ctx.n_Function_name (T : Ctx w K mg) : NoAttr K (He.ga K "Function") "name" := He.noat_ok (T.says.d.fact 78 rfl)
theorem Ctx.n_Function_params (T : Ctx w K mg) : NoAttr K (He.ga K "Function") "params" := He.noat_ok (T.says.d.fact 79 rfl)
theorem Ctx.n_Function_others (T : Ctx w K mg) : NoAttr K (He.ga K "Function") "others" := He.noat_ok (T.says.d.fact 80 rfl)
theorem Ctx.n_Function_result (T : Ctx w K mg) : NoAttr K (He.ga K "Function") "result" := He.noat_ok (T.says.d.fact 81 rfl)
theorem Ctx.n_Function_variables (T : Ctx w K mg) : NoAttr K (He.ga K "Function") "variables" := He.noat_ok (T.says.d.fact 82 rfl)
theorem Ctx.n_Function_body (T : Ctx w K mg) : NoAttr K (He.ga K "Function") "body" := He.noat_ok (T.says.d.fact 83 rfl)
theorem Ctx.c_Source (T : Ctx w K mg) : Cls K (He.ga K "Source") := He.cls_ok (T.says.d.fact 84 rfl)
theorem Ctx.k_Source (T : Ctx w K mg) : Mk K (He.ga K "Source") (He.ma K (He.ga K "Source") "__init__") := He.mkr_ok (T.says.d.fact 85 rfl)
theorem Ctx.n_Source_field_kinds (T : Ctx w K mg) : NoAttr K (He.ga K "Source") "_field_kinds" := He.noat_ok (T.says.d.fact 86 rfl)
theorem Ctx.n_Source_fields (T : Ctx w K mg) : NoAttr K (He.ga K "Source") "_fields" := He.noat_ok (T.says.d.fact 87 rfl)
theorem Ctx.n_Source_functions (T : Ctx w K mg) : NoAttr K (He.ga K "Source") "_functions" := He.noat_ok (T.says.d.fact 88 rfl)
theorem Ctx.m_Function_has_row (T : Ctx w K mg) : Meth K (He.ga K "Function") "has_row" (He.ma K (He.ga K "Function") "has_row") := He.meth_ok (T.says.d.fact 89 rfl)
theorem Ctx.m_Function_called_at (T : Ctx w K mg) : Meth K (He.ga K "Function") "called_at" (He.ma K (He.ga K "Function") "called_at") := He.meth_ok (T.says.d.fact 90 rfl)
theorem Ctx.m_Source_take_classes (T : Ctx w K mg) : Meth K (He.ga K "Source") "_take_classes" (He.ma K (He.ga K "Source") "_take_classes") := He.meth_ok (T.says.d.fact 91 rfl)
theorem Ctx.m_Source_kinds_differ (T : Ctx w K mg) : Meth K (He.ga K "Source") "_kinds_differ" (He.ma K (He.ga K "Source") "_kinds_differ") := He.meth_ok (T.says.d.fact 92 rfl)
theorem Ctx.m_Source_take_heads (T : Ctx w K mg) : Meth K (He.ga K "Source") "_take_heads" (He.ma K (He.ga K "Source") "_take_heads") := He.meth_ok (T.says.d.fact 93 rfl)
theorem Ctx.m_Source_take_rows (T : Ctx w K mg) : Meth K (He.ga K "Source") "_take_rows" (He.ma K (He.ga K "Source") "_take_rows") := He.meth_ok (T.says.d.fact 94 rfl)
theorem Ctx.m_Source_is_row_of (T : Ctx w K mg) : Meth K (He.ga K "Source") "_is_row_of" (He.ma K (He.ga K "Source") "_is_row_of") := He.meth_ok (T.says.d.fact 95 rfl)
theorem Ctx.m_Source_function_at (T : Ctx w K mg) : Meth K (He.ga K "Source") "function_at" (He.ma K (He.ga K "Source") "function_at") := He.meth_ok (T.says.d.fact 96 rfl)
theorem Ctx.m_Source_fields_of (T : Ctx w K mg) : Meth K (He.ga K "Source") "fields_of" (He.ma K (He.ga K "Source") "fields_of") := He.meth_ok (T.says.d.fact 97 rfl)
theorem Ctx.m_Source_field_kind (T : Ctx w K mg) : Meth K (He.ga K "Source") "field_kind" (He.ma K (He.ga K "Source") "field_kind") := He.meth_ok (T.says.d.fact 98 rfl)
theorem Ctx.m_Source_classes (T : Ctx w K mg) : Meth K (He.ga K "Source") "classes" (He.ma K (He.ga K "Source") "classes") := He.meth_ok (T.says.d.fact 99 rfl)
theorem Ctx.m_Source_functions (T : Ctx w K mg) : Meth K (He.ga K "Source") "functions" (He.ma K (He.ga K "Source") "functions") := He.meth_ok (T.says.d.fact 100 rfl)
theorem Ctx.m_Source_eq (T : Ctx w K mg) : Meth K (He.ga K "Source") "__eq__" (He.ma K (He.ga K "Source") "__eq__") := He.meth_ok (T.says.d.fact 101 rfl)
theorem Ctx.x_InvalidArgument_InvalidSource (T : Ctx w K mg) : PySem.W.exmOne K (.ref (He.ga K "InvalidArgument")) (.ref (He.ga K "InvalidSource")) = some false := He.exm_ok (T.says.d.fact 102 rfl)
theorem Ctx.x_InvalidArgument_InvalidArgument (T : Ctx w K mg) : PySem.W.exmOne K (.ref (He.ga K "InvalidArgument")) (.ref (He.ga K "InvalidArgument")) = some true := He.exm_ok (T.says.d.fact 103 rfl)
theorem Ctx.x_InvalidNumber_InvalidSource (T : Ctx w K mg) : PySem.W.exmOne K (.ref (He.ga K "InvalidNumber")) (.ref (He.ga K "InvalidSource")) = some false := He.exm_ok (T.says.d.fact 104 rfl)
theorem Ctx.x_InvalidNumber_InvalidArgument (T : Ctx w K mg) : PySem.W.exmOne K (.ref (He.ga K "InvalidNumber")) (.ref (He.ga K "InvalidArgument")) = some false := He.exm_ok (T.says.d.fact 105 rfl)
theorem Ctx.x_InvalidNumber_InvalidNumber (T : Ctx w K mg) : PySem.W.exmOne K (.ref (He.ga K "InvalidNumber")) (.ref (He.ga K "InvalidNumber")) = some true := He.exm_ok (T.says.d.fact 106 rfl)
theorem Ctx.f_repr (T : Ctx w K mg) : mg "repr" = none := T.free 107
theorem Ctx.D_is_integer (T : Ctx w K mg) : ∃ fd, FunD K "is_integer" "is_integer" (defArgs s_is_integer) (defBody s_is_integer) (defScope s_is_integer) [] [] (He.ga K "is_integer") fd := T.says.d.def_ 0 (d := d_is_integer) rfl
theorem Ctx.D_is_integer_in (T : Ctx w K mg) : ∃ fd, FunD K "is_integer_in" "is_integer_in" (defArgs s_is_integer_in) (defBody s_is_integer_in) (defScope s_is_integer_in) [] [] (He.ga K "is_integer_in") fd := T.says.d.def_ 1 (d := d_is_integer_in) rfl
theorem Ctx.D_is_written_number (T : Ctx w K mg) : ∃ fd, FunD K "is_written_number" "is_written_number" (defArgs s_is_written_number) (defBody s_is_written_number) (defScope s_is_written_number) [] [] (He.ga K "is_written_number") fd := T.says.d.def_ 2 (d := d_is_written_number) rfl
theorem Ctx.D_is_name (T : Ctx w K mg) : ∃ fd, FunD K "is_name" "is_name" (defArgs s_is_name) (defBody s_is_name) (defScope s_is_name) [] [] (He.ga K "is_name") fd := T.says.d.def_ 3 (d := d_is_name) rfl
theorem Ctx.D_is_kind (T : Ctx w K mg) : ∃ fd, FunD K "is_kind" "is_kind" (defArgs s_is_kind) (defBody s_is_kind) (defScope s_is_kind) [] [] (He.ga K "is_kind") fd := T.says.d.def_ 4 (d := d_is_kind) rfl
theorem Ctx.D_is_tuple_of (T : Ctx w K mg) : ∃ fd, FunD K "is_tuple_of" "is_tuple_of" (defArgs s_is_tuple_of) (defBody s_is_tuple_of) (defScope s_is_tuple_of) [] [] (He.ga K "is_tuple_of") fd := T.says.d.def_ 5 (d := d_is_tuple_of) rfl
theorem Ctx.D_is_list_of (T : Ctx w K mg) : ∃ fd, FunD K "is_list_of" "is_list_of" (defArgs s_is_list_of) (defBody s_is_list_of) (defScope s_is_list_of) [] [] (He.ga K "is_list_of") fd := T.says.d.def_ 6 (d := d_is_list_of) rfl
theorem Ctx.D_is_list_of_names (T : Ctx w K mg) : ∃ fd, FunD K "is_list_of_names" "is_list_of_names" (defArgs s_is_list_of_names) (defBody s_is_list_of_names) (defScope s_is_list_of_names) [] [] (He.ga K "is_list_of_names") fd := T.says.d.def_ 7 (d := d_is_list_of_names) rfl
theorem Ctx.D_is_word_tuple (T : Ctx w K mg) : ∃ fd, FunD K "is_word_tuple" "is_word_tuple" (defArgs s_is_word_tuple) (defBody s_is_word_tuple) (defScope s_is_word_tuple) [] [] (He.ga K "is_word_tuple") fd := T.says.d.def_ 8 (d := d_is_word_tuple) rfl
theorem Ctx.D_frozen (T : Ctx w K mg) : ∃ fd, FunD K "frozen" "frozen" (defArgs s_frozen) (defBody s_frozen) (defScope s_frozen) [] [] (He.ga K "frozen") fd := T.says.d.def_ 9 (d := d_frozen) rfl
theorem Ctx.D_are_named_kinds (T : Ctx w K mg) : ∃ fd, FunD K "are_named_kinds" "are_named_kinds" (defArgs s_are_named_kinds) (defBody s_are_named_kinds) (defScope s_are_named_kinds) [] [] (He.ga K "are_named_kinds") fd := T.says.d.def_ 10 (d := d_are_named_kinds) rfl
theorem Ctx.D_is_row (T : Ctx w K mg) : ∃ fd, FunD K "is_row" "is_row" (defArgs s_is_row) (defBody s_is_row) (defScope s_is_row) [] [] (He.ga K "is_row") fd := T.says.d.def_ 11 (d := d_is_row) rfl
theorem Ctx.D_fills (T : Ctx w K mg) : ∃ fd, FunD K "_fills" "_fills" (defArgs s_fills) (defBody s_fills) (defScope s_fills) [] [] (He.ga K "_fills") fd := T.says.d.def_ 12 (d := d_fills) rfl
theorem Ctx.D_row_sets (T : Ctx w K mg) : ∃ fd, FunD K "row_sets" "row_sets" (defArgs s_row_sets) (defBody s_row_sets) (defScope s_row_sets) [] [] (He.ga K "row_sets") fd := T.says.d.def_ 13 (d := d_row_sets) rfl
theorem Ctx.D_row_reads (T : Ctx w K mg) : ∃ fd, FunD K "row_reads" "row_reads" (defArgs s_row_reads) (defBody s_row_reads) (defScope s_row_reads) [] [] (He.ga K "row_reads") fd := T.says.d.def_ 14 (d := d_row_reads) rfl
theorem Ctx.D_row_kinds_fit (T : Ctx w K mg) : ∃ fd, FunD K "row_kinds_fit" "row_kinds_fit" (defArgs s_row_kinds_fit) (defBody s_row_kinds_fit) (defScope s_row_kinds_fit) [] [] (He.ga K "row_kinds_fit") fd := T.says.d.def_ 15 (d := d_row_kinds_fit) rfl
theorem Ctx.D_names_in (T : Ctx w K mg) : ∃ fd, FunD K "_names_in" "_names_in" (defArgs s_names_in) (defBody s_names_in) (defScope s_names_in) [] [] (He.ga K "_names_in") fd := T.says.d.def_ 16 (d := d_names_in) rfl
theorem Ctx.D_call_fits (T : Ctx w K mg) : ∃ fd, FunD K "_call_fits" "_call_fits" (defArgs s_call_fits) (defBody s_call_fits) (defScope s_call_fits) [] [] (He.ga K "_call_fits") fd := T.says.d.def_ 17 (d := d_call_fits) rfl
theorem Ctx.D_told_row (T : Ctx w K mg) : ∃ fd, FunD K "told_row" "told_row" (defArgs s_told_row) (defBody s_told_row) (defScope s_told_row) [] [] (He.ga K "told_row") fd := T.says.d.def_ 18 (d := d_told_row) rfl
theorem Ctx.D_is_class (T : Ctx w K mg) : ∃ fd, FunD K "_is_class" "_is_class" (defArgs s_is_class) (defBody s_is_class) (defScope s_is_class) [] [] (He.ga K "_is_class") fd := T.says.d.def_ 19 (d := d_is_class) rfl
theorem Ctx.D_is_head (T : Ctx w K mg) : ∃ fd, FunD K "_is_head" "_is_head" (defArgs s_is_head) (defBody s_is_head) (defScope s_is_head) [] [] (He.ga K "_is_head") fd := T.says.d.def_ 20 (d := d_is_head) rfl
theorem Ctx.D_told_function (T : Ctx w K mg) : ∃ fd, FunD K "_told_function" "_told_function" (defArgs s_told_function) (defBody s_told_function) (defScope s_told_function) [] [] (He.ga K "_told_function") fd := T.says.d.def_ 21 (d := d_told_function) rfl
theorem Ctx.D_wanted (T : Ctx w K mg) : ∃ fd, FunD K "wanted" "wanted" (defArgs s_wanted) (defBody s_wanted) (defScope s_wanted) [] [] (He.ga K "wanted") fd := T.says.d.def_ 22 (d := d_wanted) rfl
theorem Ctx.D_wanting (T : Ctx w K mg) : ∃ fd, FunD K "wanting" "wanting" (defArgs s_wanting) (defBody s_wanting) (defScope s_wanting) [] [] (He.ga K "wanting") fd := T.says.d.def_ 23 (d := d_wanting) rfl
theorem Ctx.D_wanted_at_call (T : Ctx w K mg) : ∃ fd, FunD K "wanted_at_call" "wanted_at_call" (defArgs s_wanted_at_call) (defBody s_wanted_at_call) (defScope s_wanted_at_call) [] [] (He.ga K "wanted_at_call") fd := T.says.d.def_ 24 (d := d_wanted_at_call) rfl
theorem Ctx.D_function_with (T : Ctx w K mg) : ∃ fd, FunD K "_function_with" "_function_with" (defArgs s_function_with) (defBody s_function_with) (defScope s_function_with) [] [] (He.ga K "_function_with") fd := T.says.d.def_ 25 (d := d_function_with) rfl
theorem Ctx.D_wanted_in (T : Ctx w K mg) : ∃ fd, FunD K "_wanted_in" "_wanted_in" (defArgs s_wanted_in) (defBody s_wanted_in) (defScope s_wanted_in) [] [] (He.ga K "_wanted_in") fd := T.says.d.def_ 26 (d := d_wanted_in) rfl
theorem Ctx.D_way_to_reader (T : Ctx w K mg) : ∃ fd, FunD K "_way_to_reader" "_way_to_reader" (defArgs s_way_to_reader) (defBody s_way_to_reader) (defScope s_way_to_reader) [] [] (He.ga K "_way_to_reader") fd := T.says.d.def_ 27 (d := d_way_to_reader) rfl
theorem Ctx.D_rows_behind (T : Ctx w K mg) : ∃ fd, FunD K "_rows_behind" "_rows_behind" (defArgs s_rows_behind) (defBody s_rows_behind) (defScope s_rows_behind) [] [] (He.ga K "_rows_behind") fd := T.says.d.def_ 28 (d := d_rows_behind) rfl
theorem Ctx.D_L_well (T : Ctx w K mg) : ∃ fd, FunD K "_law_well" "_law_well" (defArgs s_L_well) (defBody s_L_well) (defScope s_L_well) [] [] (He.ga K "_law_well") fd := T.says.d.def_ 29 (d := d_L_well) rfl
theorem Ctx.D_L_draw (T : Ctx w K mg) : ∃ fd, FunD K "_law_draw" "_law_draw" (defArgs s_L_draw) (defBody s_L_draw) (defScope s_L_draw) [] [] (He.ga K "_law_draw") fd := T.says.d.def_ 30 (d := d_L_draw) rfl
theorem Ctx.D_L_one (T : Ctx w K mg) : ∃ fd, FunD K "_law_one" "_law_one" (defArgs s_L_one) (defBody s_L_one) (defScope s_L_one) [] [] (He.ga K "_law_one") fd := T.says.d.def_ 31 (d := d_L_one) rfl
theorem Ctx.D_L_plain (T : Ctx w K mg) : ∃ fd, FunD K "_law_plain" "_law_plain" (defArgs s_L_plain) (defBody s_L_plain) (defScope s_L_plain) [] [] (He.ga K "_law_plain") fd := T.says.d.def_ 32 (d := d_L_plain) rfl
theorem Ctx.D_L_function (T : Ctx w K mg) : ∃ fd, FunD K "_law_function" "_law_function" (defArgs s_L_function) (defBody s_L_function) (defScope s_L_function) [] [] (He.ga K "_law_function") fd := T.says.d.def_ 33 (d := d_L_function) rfl
theorem Ctx.D_L_classes (T : Ctx w K mg) : ∃ fd, FunD K "_law_classes" "_law_classes" (defArgs s_L_classes) (defBody s_L_classes) (defScope s_L_classes) [] [] (He.ga K "_law_classes") fd := T.says.d.def_ 34 (d := d_L_classes) rfl
theorem Ctx.D_L_said (T : Ctx w K mg) : ∃ fd, FunD K "_law_said" "_law_said" (defArgs s_L_said) (defBody s_L_said) (defScope s_L_said) [] [] (He.ga K "_law_said") fd := T.says.d.def_ 35 (d := d_L_said) rfl
theorem Ctx.D_law (T : Ctx w K mg) : ∃ fd, FunD K "law" "law" (defArgs s_law) (defBody s_law) (defScope s_law) [] [] (He.ga K "law") fd := T.says.d.def_ 36 (d := d_law) rfl
theorem Ctx.D_Function_init (T : Ctx w K mg) : ∃ fd, FunD K "__init__" "Function.__init__" (defArgs s_Function_init) (defBody s_Function_init) (defScope s_Function_init) [] [] (He.ma K (He.ga K "Function") "__init__") fd := T.says.d.def_ 37 (d := d_Function_init) rfl
theorem Ctx.D_Function_has_row (T : Ctx w K mg) : ∃ fd, FunD K "has_row" "Function.has_row" (defArgs s_Function_has_row) (defBody s_Function_has_row) (defScope s_Function_has_row) [] [] (He.ma K (He.ga K "Function") "has_row") fd := T.says.d.def_ 38 (d := d_Function_has_row) rfl
theorem Ctx.D_Function_called_at (T : Ctx w K mg) : ∃ fd, FunD K "called_at" "Function.called_at" (defArgs s_Function_called_at) (defBody s_Function_called_at) (defScope s_Function_called_at) [] [] (He.ma K (He.ga K "Function") "called_at") fd := T.says.d.def_ 39 (d := d_Function_called_at) rfl
theorem Ctx.D_InvalidSource_init (T : Ctx w K mg) : ∃ fd, FunD K "__init__" "InvalidSource.__init__" (defArgs s_InvalidSource_init) (defBody s_InvalidSource_init) (defScope s_InvalidSource_init) [] [] (He.ma K (He.ga K "InvalidSource") "__init__") fd := T.says.d.def_ 40 (d := d_InvalidSource_init) rfl
theorem Ctx.D_InvalidArgument_init (T : Ctx w K mg) : ∃ fd, FunD K "__init__" "InvalidArgument.__init__" (defArgs s_InvalidArgument_init) (defBody s_InvalidArgument_init) (defScope s_InvalidArgument_init) [] [] (He.ma K (He.ga K "InvalidArgument") "__init__") fd := T.says.d.def_ 41 (d := d_InvalidArgument_init) rfl
theorem Ctx.D_InvalidNumber_init (T : Ctx w K mg) : ∃ fd, FunD K "__init__" "InvalidNumber.__init__" (defArgs s_InvalidNumber_init) (defBody s_InvalidNumber_init) (defScope s_InvalidNumber_init) [] [] (He.ma K (He.ga K "InvalidNumber") "__init__") fd := T.says.d.def_ 42 (d := d_InvalidNumber_init) rfl
theorem Ctx.D_Source_init (T : Ctx w K mg) : ∃ fd, FunD K "__init__" "Source.__init__" (defArgs s_Source_init) (defBody s_Source_init) (defScope s_Source_init) [] [] (He.ma K (He.ga K "Source") "__init__") fd := T.says.d.def_ 43 (d := d_Source_init) rfl
theorem Ctx.D_Source_take_classes (T : Ctx w K mg) : ∃ fd, FunD K "_take_classes" "Source._take_classes" (defArgs s_Source_take_classes) (defBody s_Source_take_classes) (defScope s_Source_take_classes) [] [] (He.ma K (He.ga K "Source") "_take_classes") fd := T.says.d.def_ 44 (d := d_Source_take_classes) rfl
theorem Ctx.D_Source_kinds_differ (T : Ctx w K mg) : ∃ fd, FunD K "_kinds_differ" "Source._kinds_differ" (defArgs s_Source_kinds_differ) (defBody s_Source_kinds_differ) (defScope s_Source_kinds_differ) [] [] (He.ma K (He.ga K "Source") "_kinds_differ") fd := T.says.d.def_ 45 (d := d_Source_kinds_differ) rfl
theorem Ctx.D_Source_take_heads (T : Ctx w K mg) : ∃ fd, FunD K "_take_heads" "Source._take_heads" (defArgs s_Source_take_heads) (defBody s_Source_take_heads) (defScope s_Source_take_heads) [] [] (He.ma K (He.ga K "Source") "_take_heads") fd := T.says.d.def_ 46 (d := d_Source_take_heads) rfl
theorem Ctx.D_Source_take_rows (T : Ctx w K mg) : ∃ fd, FunD K "_take_rows" "Source._take_rows" (defArgs s_Source_take_rows) (defBody s_Source_take_rows) (defScope s_Source_take_rows) [] [] (He.ma K (He.ga K "Source") "_take_rows") fd := T.says.d.def_ 47 (d := d_Source_take_rows) rfl
theorem Ctx.D_Source_is_row_of (T : Ctx w K mg) : ∃ fd, FunD K "_is_row_of" "Source._is_row_of" (defArgs s_Source_is_row_of) (defBody s_Source_is_row_of) (defScope s_Source_is_row_of) [] [] (He.ma K (He.ga K "Source") "_is_row_of") fd := T.says.d.def_ 48 (d := d_Source_is_row_of) rfl
theorem Ctx.D_Source_function_at (T : Ctx w K mg) : ∃ fd, FunD K "function_at" "Source.function_at" (defArgs s_Source_function_at) (defBody s_Source_function_at) (defScope s_Source_function_at) [] [] (He.ma K (He.ga K "Source") "function_at") fd := T.says.d.def_ 49 (d := d_Source_function_at) rfl
theorem Ctx.D_Source_fields_of (T : Ctx w K mg) : ∃ fd, FunD K "fields_of" "Source.fields_of" (defArgs s_Source_fields_of) (defBody s_Source_fields_of) (defScope s_Source_fields_of) [] [] (He.ma K (He.ga K "Source") "fields_of") fd := T.says.d.def_ 50 (d := d_Source_fields_of) rfl
theorem Ctx.D_Source_field_kind (T : Ctx w K mg) : ∃ fd, FunD K "field_kind" "Source.field_kind" (defArgs s_Source_field_kind) (defBody s_Source_field_kind) (defScope s_Source_field_kind) [] [] (He.ma K (He.ga K "Source") "field_kind") fd := T.says.d.def_ 51 (d := d_Source_field_kind) rfl
theorem Ctx.D_Source_classes (T : Ctx w K mg) : ∃ fd, FunD K "classes" "Source.classes" (defArgs s_Source_classes) (defBody s_Source_classes) (defScope s_Source_classes) [] [] (He.ma K (He.ga K "Source") "classes") fd := T.says.d.def_ 52 (d := d_Source_classes) rfl
theorem Ctx.D_Source_functions (T : Ctx w K mg) : ∃ fd, FunD K "functions" "Source.functions" (defArgs s_Source_functions) (defBody s_Source_functions) (defScope s_Source_functions) [] [] (He.ma K (He.ga K "Source") "functions") fd := T.says.d.def_ 53 (d := d_Source_functions) rfl
theorem Ctx.D_Source_eq (T : Ctx w K mg) : ∃ fd, FunD K "__eq__" "Source.__eq__" (defArgs s_Source_eq) (defBody s_Source_eq) (defScope s_Source_eq) [] [] (He.ma K (He.ga K "Source") "__eq__") fd := T.says.d.def_ 54 (d := d_Source_eq) rfl
theorem Ctx.kinds (T : Ctx w K mg) (H : Hp) : SqT K H (He.ga K "KINDS") (v_KINDS.map (He.Dv.v K)) := He.tupB_ok (He.ba T.more).1 H
theorem Ctx.numwords (T : Ctx w K mg) (H : Hp) : SqT K H (He.ga K "NUMBER_WORDS") (v_NUMBER_WORDS.map (He.Dv.v K)) := He.tupB_ok (He.ba (He.ba T.more).2).1 H
theorem Ctx.rowwords (T : Ctx w K mg) (H : Hp) : SqT K H (He.ga K "ROW_WORDS") (v_ROW_WORDS.map (He.Dv.v K)) := He.tupB_ok (He.ba (He.ba (He.ba T.more).2).2).1 H
theorem tupAt_ok {K : PySem.W.Frag} {a : Addr} {vs : List V} (h : tupAt K a vs = true) (H : Hp) : SqT K H a vs := by
  unfold tupAt at h
  cases q : K.lookup a with
  | none =>
    rw [q] at h
    cases h
  | some o =>
    obtain ⟨oc, od, dt, osl⟩ := o
    rw [q] at h
    cases oc with
    | type c =>
      cases dt with
      | seq its n =>
        obtain ⟨h1, h2⟩ := He.ba (show (decide (c = "tuple") && (decide (its.size ≤ sizeLine) && He.relAll vs its.toList)) = true from h)
        obtain ⟨h3, h4⟩ := He.ba h2
        exact .inr ⟨_, its, n, q, congrArg Value.type (of_decide_eq_true h1), rfl, of_decide_eq_true h3, He.relAll_ok h4⟩
      | _ => cases h
    | _ => cases dt <;> cases h
theorem Ctx.rolesD (T : Ctx w K mg) : ∃ es n, KDict K w (He.ga K "ROLES") es n := T.says.tab 0 (t := (fun K => He.ga K "ROLES", roles.map (·.1))) rfl
theorem Ctx.role (T : Ctx w K mg) {x : Str} {rs : List Str} (m : (x, rs) ∈ roles) (H : Hp) : PySem.W.nsIn K (He.ga K "ROLES") x = some (some (.ref (rolA K x))) ∧ SqT K H (rolA K x) (rs.map V.str) := by
  have e := List.all_eq_true.mp (He.ba (He.ba (He.ba (He.ba T.more).2).2).2).1 (x, rs) m
  obtain ⟨e1, e2⟩ := He.ba (show (He.eqO (PySem.W.nsIn K (He.ga K "ROLES") x) (some (some (.ref (rolA K x)))) && tupAt K (rolA K x) (rs.map V.str)) = true from e)
  exact ⟨He.eqO_ok e1, tupAt_ok e2 H⟩
theorem Ctx.isSource (T : Ctx w K mg) {H : Hp} {p dx : Addr} {fs : List (Str × V)} (h : H p = some (.ins (He.ga K "Source") dx fs)) : TyX K H (.ref p) (.ref (He.ga K "Source")) ∧ PySem.W.kitOne K (.ref (He.ga K "Source")) (.ref (He.ga K "Source")) = some true := by
  have e := (He.ba (He.ba (He.ba (He.ba (He.ba T.more).2).2).2).2).1
  obtain ⟨e1, e⟩ := He.ba (show (He.eqO (PySem.W.findIn K (.ref (He.ga K "Source")) "__class__") (some (some (.builtin "object.__class__"))) && (He.eqO (PySem.W.specialIn K (.builtin "object.__class__") "__get__") (some (some (.builtin "getset_descriptor.__get__"))) && (decide (PySem.W.takesIn K (.builtin "object.__class__") = some true) && (decide (PySem.W.mroIn K (He.ga K "Source") (.type "object") = some true) && decide (PySem.W.kitOne K (.ref (He.ga K "Source")) (.ref (He.ga K "Source")) = some true))))) = true from e)
  obtain ⟨e2, e⟩ := He.ba e
  obtain ⟨e3, e⟩ := He.ba e
  obtain ⟨e4, e5⟩ := He.ba e
  exact ⟨.base (.ins h T.c_Source (He.eqO_ok e1) (He.eqO_ok e2) (of_decide_eq_true e3) (of_decide_eq_true e4)), of_decide_eq_true e5⟩
end
end W17
set_option Elab.async false
set_option linter.all false
set_option maxRecDepth 100000
set_option maxHeartbeats 4000000
namespace W17
open PySem PySem.Spec PyProof.Rows L2
/-! ### heaps that grow -/
theorem Same.new {H : Hp} {p : Addr} {o : HO} (h : H p = none) : Same H (upd H p o) := fun a u e => by
  rw [upd_ne (ne_of_none e h)]
  exact e
theorem Same.mut {H H' : Hp} {p : Addr} {o : HO} (e : Same H H') (h : H p = none) : Same H (upd H' p o) := fun a u ha => by
  rw [upd_ne (ne_of_none ha h)]
  exact e a u ha
theorem Same.tup {K : PySem.W.Frag} {H H' : Hp} {a : Addr} {xs : List V} (e : Same H H') (h : SqT K H a xs) : SqT K H' a xs := by
  rcases h with (h | ⟨o, h⟩) | h
  · exact .inl (.inl (e _ _ h))
  · exact .inl (.inr ⟨o, e _ _ h⟩)
  · exact .inr h
theorem sz_of {n : Nat} (h : n ≤ 100000) : n ≤ sizeLine := Nat.le_trans h (by decide)
theorem sz_lt {n : Nat} (h : n < 100000) : n < sizeLine := Nat.lt_of_lt_of_le h (by decide)
/-- a comprehension whose elements leave what stood as it was: the list of what they give -/
theorem lc_pure {J : It} {n : Nat} {G : Hp → Prop} {Y : Nat → Hp → V → Hp → Prop} (w : Walk J n G Y) {g : TG} {te : TE} {vs : List Nat} {σ : L2.St} {H0 : Hp} {D : Addr} {Qd : Hp → Prop} (hD : H0 D = none) (f : Nat → V) (hn : n < 100000)
    (hG : ∀ H, Same H0 H → G H)
    (hs : ∀ i H x H', i < n → Same H0 H → Y i H x H' → ∀ Qe : VK, (∀ H4, Same H H4 → Qe (f i) H4) → g x (wipe σ vs) H' fun σ2 H2 => wipe σ2 vs = wipe σ vs ∧ te σ2 H2 Qe)
    (hd : ∀ H, Same H0 H → H D = some (.lst ((List.range n).map f)) → Qd H) :
    ∃ W : Nat → Nat → Hp → Prop, (∃ m, W 0 m (upd H0 D (.lst []))) ∧ ∀ i m H, W i m H →
      (J.stop i H ∧ Qd H) ∨ (J.go i H ∧ ∃ Nx : Hp → Prop, (∀ H', Nx H' → ∃ m', m' < m ∧ W (i + 1) m' H') ∧ ∀ x H', J.yld i H x H' → g x (wipe σ vs) H' fun σ2 H2 => wipe σ2 vs = wipe σ vs ∧ tYes σ2 H2 fun b H3 =>
        if b = true then te σ2 H3 fun y H4 => ∃ acc, H4 D = some (.lst acc) ∧ acc.length < sizeLine ∧ Nx (upd H4 D (.lst (acc ++ [y]))) else Nx H3) := by
  refine lc_it w (fun i H => Same H0 H ∧ H D = some (.lst ((List.range i).map f))) ⟨Same.new hD, upd_same⟩ (fun i H _ p => hG H p.1) (fun i x H H' hi p y => ?_) (fun H p => hd H p.1 p.2)
  have q := hs i H x H' hi p.1 y (fun y H4 => ∃ acc, H4 D = some (.lst acc) ∧ acc.length < sizeLine ∧ (Same H0 (upd H4 D (.lst (acc ++ [y]))) ∧ upd H4 D (.lst (acc ++ [y])) D = some (.lst ((List.range (i + 1)).map f)))) (fun H4 s4 => ?_)
  · exact q
  · refine ⟨_, s4 _ _ p.2, sz_lt ?_, Same.mut (p.1.trans s4) hD, ?_⟩
    · rw [List.length_map, List.length_range]
      exact Nat.lt_trans hi hn
    · rw [upd_same, List.range_succ, List.map_append]
      rfl
theorem qT {Q : VK} {H : Hp} {b : Bool} (e : b = true) (k : Q (.bl true) H) : Q (.bl b) H := by
  rw [e]
  exact k
theorem qF {Q : VK} {H : Hp} {b : Bool} (e : b = false) (k : Q (.bl false) H) : Q (.bl b) H := by
  rw [e]
  exact k
theorem ifT {b : Bool} {A B : Prop} (e : b = true) (h : A) : if b = true then A else B := by
  rw [e]
  exact iteT h
theorem ifF {b : Bool} {A B : Prop} (e : b = false) (h : B) : if b = true then A else B := by
  rw [e]
  exact iteF h
theorem at0 {v : V} {xs : List V} : atI (v :: xs) 0 = some v := atI_nat (j := 0) rfl
theorem at1 {a v : V} {xs : List V} : atI (a :: v :: xs) 1 = some v := atI_nat (j := 1) rfl
theorem at2 {a b v : V} {xs : List V} : atI (a :: b :: v :: xs) 2 = some v := atI_nat (j := 2) rfl
theorem at3 {a b c v : V} {xs : List V} : atI (a :: b :: c :: v :: xs) 3 = some v := atI_nat (j := 3) rfl
theorem at4 {a b c d v : V} {xs : List V} : atI (a :: b :: c :: d :: v :: xs) 4 = some v := atI_nat (j := 4) rfl
/-- .. whose elements are new tuples -/
theorem lc_tups {J : It} {n : Nat} {G : Hp → Prop} {Y : Nat → Hp → V → Hp → Prop} (w : Walk J n G Y) {g : TG} {te : TE} {vs : List Nat} {σ : L2.St} {H0 : Hp} {D : Addr} {Qd : Hp → Prop} (hD : H0 D = none) (f : Nat → List V) (hn : n < 100000)
    (hG : ∀ H, Same H0 H → G H)
    (hs : ∀ i H x H', i < n → Same H0 H → Y i H x H' → ∀ Qe : VK, (∀ q H4, Same H H4 → H4 q = some (.tup (f i)) → Qe (.ref q) H4) → g x (wipe σ vs) H' fun σ2 H2 => wipe σ2 vs = wipe σ vs ∧ te σ2 H2 Qe)
    (hd : ∀ (H : Hp) (qs : List Addr), Same H0 H → qs.length = n → (∀ (i : Nat) (q : Addr), qs[i]? = some q → H q = some (.tup (f i))) → H D = some (.lst (qs.map V.ref)) → Qd H) :
    ∃ W : Nat → Nat → Hp → Prop, (∃ m, W 0 m (upd H0 D (.lst []))) ∧ ∀ i m H, W i m H →
      (J.stop i H ∧ Qd H) ∨ (J.go i H ∧ ∃ Nx : Hp → Prop, (∀ H', Nx H' → ∃ m', m' < m ∧ W (i + 1) m' H') ∧ ∀ x H', J.yld i H x H' → g x (wipe σ vs) H' fun σ2 H2 => wipe σ2 vs = wipe σ vs ∧ tYes σ2 H2 fun b H3 =>
        if b = true then te σ2 H3 fun y H4 => ∃ acc, H4 D = some (.lst acc) ∧ acc.length < sizeLine ∧ Nx (upd H4 D (.lst (acc ++ [y]))) else Nx H3) := by
  refine lc_it w (fun i H => Same H0 H ∧ ∃ qs : List Addr, qs.length = i ∧ (∀ (j : Nat) (q : Addr), qs[j]? = some q → H q = some (.tup (f j))) ∧ H D = some (.lst (qs.map V.ref))) ⟨Same.new hD, [], rfl, fun j q e => by simp at e, upd_same⟩ (fun i H _ p => hG H p.1) (fun i x H H' hi p y => ?_) (fun H p => ?_)
  · obtain ⟨s1, qs, hl, hq, hDD⟩ := p
    have q := hs i H x H' hi s1 y (fun y H4 => ∃ acc, H4 D = some (.lst acc) ∧ acc.length < sizeLine ∧ (Same H0 (upd H4 D (.lst (acc ++ [y]))) ∧ ∃ qs : List Addr, qs.length = i + 1 ∧ (∀ (j : Nat) (q : Addr), qs[j]? = some q → upd H4 D (.lst (acc ++ [y])) q = some (.tup (f j))) ∧ upd H4 D (.lst (acc ++ [y])) D = some (.lst (qs.map V.ref)))) (fun q H4 s4 hq4 => ?_)
    · exact q
    · have h4 := s4 _ _ hDD
      refine ⟨_, h4, sz_lt ?_, Same.mut (s1.trans s4) hD, qs ++ [q], by rw [List.length_append, hl]; rfl, fun j r e => ?_, by rw [upd_same, List.map_append]; rfl⟩
      · rw [List.length_map, hl]
        exact Nat.lt_trans hi hn
      · have z : H4 r = some (.tup (f j)) := by
          by_cases hj : j < qs.length
          · rw [List.getElem?_append_left hj] at e
            exact s4 _ _ (hq j r e)
          · rw [List.getElem?_append_right (by omega)] at e
            have hj2 : j - qs.length = 0 := by
              have := (List.getElem?_eq_some_iff.mp e).1
              simp at this
              omega
            rw [hj2] at e
            have er : q = r := Option.some.inj e
            have ej : j = i := by omega
            rw [← er, ej]
            exact hq4
        rw [upd_ne]
        · exact z
        · intro c
          rw [c, h4] at z
          cases z
  · obtain ⟨s1, qs, hl, hq, hDD⟩ := p
    exact hd H qs s1 hl hq hDD
theorem map_range_getD {xs : List V} : (List.range xs.length).map (fun i => xs.getD i .non) = xs := by
  apply List.ext_getElem
  · simp
  · intro i h1 h2
    simp at h1
    simp [h1]
theorem getD_of {xs : List V} {i : Nat} {x : V} (h : xs[i]? = some x) : xs.getD i .non = x := by
  rw [List.getD_eq_getElem?_getD, h]
  rfl
/-- pairs of a name and "number" -/
structure Pairs (H : Hp) (ps : List Addr) (ns : List Str) : Prop where
  len : ps.length = ns.length
  at_ : ∀ (i : Nat) p x, ps[i]? = some p → ns[i]? = some x → H p = some (.tup [.str x, .str "number"])
theorem Pairs.mono {H H' : Hp} {ps : List Addr} {ns : List Str} (h : Pairs H ps ns) (e : Same H H') : Pairs H' ps ns := ⟨h.len, fun i p x a b => e _ _ (h.at_ i p x a b)⟩
theorem Pairs.append {H : Hp} {ps qs : List Addr} {ns ms : List Str} (h : Pairs H ps ns) (h2 : Pairs H qs ms) : Pairs H (ps ++ qs) (ns ++ ms) := by
  refine ⟨by rw [List.length_append, List.length_append, h.len, h2.len], fun i p x a b => ?_⟩
  by_cases hi : i < ps.length
  · rw [List.getElem?_append_left hi] at a
    rw [List.getElem?_append_left (by rw [← h.len]; exact hi)] at b
    exact h.at_ i p x a b
  · rw [List.getElem?_append_right (by omega)] at a
    rw [List.getElem?_append_right (by rw [← h.len]; omega), ← h.len] at b
    exact h2.at_ _ p x a b
theorem Pairs.get {H : Hp} {ps : List Addr} {ns : List Str} (h : Pairs H ps ns) {i : Nat} {y : V} (e : (ps.map V.ref)[i]? = some y) : ∃ p x, y = .ref p ∧ ps[i]? = some p ∧ ns[i]? = some x ∧ H p = some (.tup [.str x, .str "number"]) := by
  rw [List.getElem?_map] at e
  cases q : ps[i]? with
  | none =>
    rw [q] at e
    cases e
  | some p =>
    rw [q] at e
    have hi : i < ps.length := (List.getElem?_eq_some_iff.mp q).1
    have hx : ns[i]? = some (ns[i]'(by rw [← h.len]; exact hi)) := by
      rw [List.getElem?_eq_getElem]
    exact ⟨p, _, (Option.some.inj e).symm, rfl, hx, h.at_ i p _ q hx⟩
theorem take_snoc {α : Type} : ∀ {l : List α} {i : Nat} {x : α}, l[i]? = some x → l.take (i + 1) = l.take i ++ [x]
  | [], i, x, h => by simp at h
  | a :: l, 0, x, h => by
    have e : a = x := Option.some.inj h
    subst e
    rfl
  | a :: l, i + 1, x, h => by
    have ih := take_snoc (l := l) (i := i) (x := x) h
    show a :: l.take (i + 1) = a :: l.take i ++ [x]
    rw [ih]
    rfl
theorem not_in_take {α : Type} {l : List α} (hN : l.Nodup) {i : Nat} {x : α} (h : l[i]? = some x) : x ∉ l.take i := fun m => by
  obtain ⟨j, hj, e⟩ := List.mem_iff_getElem.mp m
  rw [List.getElem_take] at e
  have hj2 : j < i := by
    rw [List.length_take] at hj
    omega
  have hi := (List.getElem?_eq_some_iff.mp h)
  obtain ⟨hi1, hi2⟩ := hi
  have q := (List.getElem_inj hN).mp (e.trans hi2.symm)
  omega
/-- a dict whose keys are these names -/
def kvT (l : List Str) (f : Str → V) : List (Key × V) := l.map fun x => (Sum.inr x, f x)
theorem valV_kvT {l : List Str} {f : Str → V} {x : Str} (h : x ∉ l) : valV (kvT l f) (Sum.inr x : Key) = none := by
  cases e : valV (kvT l f) (Sum.inr x : Key) with
  | none => rfl
  | some v =>
    have m := valV_in e
    obtain ⟨q, hq, e2⟩ := List.mem_map.mp m
    obtain ⟨y, hy, e3⟩ := List.mem_map.mp hq
    rw [← e3] at e2
    have e4 : y = x := Sum.inr.inj e2
    rw [← e4] at h
    exact absurd hy h
theorem putK_kvT {l : List Str} {f : Str → V} {x : Str} (h : x ∉ l) : putK (kvT l f) (Sum.inr x : Key) (f x) = kvT (l ++ [x]) f := by
  rw [putK_new _ (valV_kvT h)]
  unfold kvT
  rw [List.map_append]
  rfl
/-! ### truth of a list of true things -/
theorem all_true {n : Nat} : (((List.range n).map fun _ => true).all id) = true := by
  simp
/-! ### names -/
def LETS : Str := "abcdefghijklmnopqrstuvwxyz"
def MRKS : Str := "abcdefghijklmnopqrstuvwxyz0123456789"
structure Nam (x : Str) : Prop where
  pos : 0 < x.cps.size
  le : x.cps.size ≤ 8
  one : ∃ c : Nat, x.cps[0]? = some c ∧ c ∈ LETS.cps.toList
  all : ∀ (i c : Nat), x.cps[i]? = some c → c ∈ MRKS.cps.toList
theorem pe_fldK {X : Cx} {K : PySem.W.Frag} {e : Expr} {ta : TE} {f : Str} {pos : Pos} (hk : X.K = K) (he : PE X e ta) (hb : attributeBase e f X.env (eval e X.env) = eval e X.env) : PE X (.Attribute e f pos) (tFld K ta f) := by
  subst hk
  exact pe_fld he hb
end W17
set_option Elab.async false
set_option linter.all false
set_option maxRecDepth 100000
set_option maxHeartbeats 4000000
namespace W17
open PySem PySem.Spec PyProof.Rows L2
/-! ### tuples whose objects are known to have no dict -/
def PlT (o : Obj) : Prop := o.cls = .type "tuple" ∧ o.dict = none
/-- a plain tuple -/
def TupP (H : Hp) (a : Addr) (xs : List V) : Prop := ∃ o, H a = some (.frz o (.tup xs)) ∧ PlT o
theorem TupP.sq {K : PySem.W.Frag} {H : Hp} {a : Addr} {xs : List V} (h : TupP H a xs) : SqT K H a xs := by
  obtain ⟨o, e, _⟩ := h
  exact .inl (.inr ⟨o, e⟩)
theorem TupP.mono {H H' : Hp} {a : Addr} {xs : List V} (h : TupP H a xs) (e : Same H H') : TupP H' a xs := by
  obtain ⟨o, q, p⟩ := h
  exact ⟨o, e _ _ q, p⟩
section
variable {X : Cx}
/-- tuple(list) -/
theorem call_tupleP : CallR X (.type "tuple") (fun xs H Q => ∃ p ys, xs = [.ref p] ∧ SqL X.K H p ys ∧ ∀ l o, H l = none → PlT o → Q (.ref l) (upd H l (.frz o (.tup ys)))) := by
  intro pins s σ H xs us Q I r h
  obtain ⟨p, ys, rfl, hq, q⟩ := h
  obtain ⟨u, rfl, rx⟩ := vals1 r
  cases rx
  obtain ⟨its, r', pl, hz⟩ := I.list hq
  have hlen := r'.length
  refine call_tuple_list pl.isList (fun h' kp => ?_) (by simp only [List.size_toArray] <;> omega)
  have I1 : Inv X pins σ H { s with heap := h' } := I.kept (t' := s.toks) kp
  have I2 : Inv X pins σ (upd H h'.objs.size (.frz { cls := .type "tuple", data := .seq its.toArray } (.tup ys))) { s with heap := h'.push { cls := .type "tuple", data := .seq its.toArray } } :=
    I1.laid (t' := s.toks) (fun b o e => Heap.get?_push_of_some _ e) (Nat.le_refl _) (show ObjOk X.prog X.w _ _ _ (.frz _ (.tup ys)) from ⟨Heap.get?_push_size _ rfl, hz, its, r', IsTup.new _ _⟩)
  exact ⟨.ref h'.objs.size, _, I2, rfl, q _ _ (I1.hok.fresh (Nat.le_refl _)) ⟨rfl, rfl⟩⟩
/-- t + u of plain tuples -/
theorem op_catP : OpR X (binaryOp .Add) (fun x y H Q => ∃ a b xs ys, x = .ref a ∧ y = .ref b ∧ SqT X.K H a xs ∧ SqT X.K H b ys ∧ xs ≠ [] ∧ xs.length + ys.length ≤ sizeLine ∧ (ys = [] → Q (.ref a) H) ∧ (ys ≠ [] → ∀ p o, H p = none → PlT o → Q (.ref p) (upd H p (.frz o (.tup (xs ++ ys)))))) := by
  intro pins s σ H x y v u Q I rx ry h
  obtain ⟨a, b, xs, ys, rfl, rfl, ha, hb, hx, hz, q1, q2⟩ := h
  cases rx
  cases ry
  obtain ⟨its, r1, p1, _⟩ := I.tuple ha
  obtain ⟨its2, r2, p2, _⟩ := I.tuple hb
  refine HT.cat_tup p1 p2 (fun z => hx (r1.nil_iff.mp z)) (fun z => ⟨.ref a, H, I, rfl, q1 (r2.nil_iff.mp z)⟩) (fun z => ?_) (by rw [← r1.length, ← r2.length]; exact hz)
  refine ⟨.ref s.heap.objs.size, _, I.laid (t' := s.toks) (o := .frz { cls := .type "tuple", data := .seq (its ++ its2).toArray } (.tup (xs ++ ys))) (fun b ob q => Heap.get?_push_of_some _ q) (Nat.le_refl _) ?_, rfl, q2 (fun w => z (r2.nil_iff.mpr w)) _ _ (I.hok.fresh (Nat.le_refl _)) ⟨rfl, rfl⟩⟩
  exact ⟨Heap.get?_push_size _ rfl, by rw [List.length_append]; exact hz, _, r1.append r2, IsTup.new _ _⟩
/-- dict(t) of a plain tuple of pairs (key, value) -/
theorem call_dictT (hcalm : X.calm = true) : CallR X (.type "dict") (fun xs H Q => ∃ (a : Addr) (ps : List Addr) (kvs : List (Key × V)), xs = [.ref a] ∧ TupP H a (ps.map V.ref) ∧ Paired (fun p kv => SqT X.K H p [kV kv.1, kv.2]) ps kvs ∧
    ∀ p, H p = none → Q (.ref p) (upd H p (.dK (mergeK [] kvs)))) := by
  intro pins s σ H xs us Q I r q
  obtain ⟨a, ps, kvs, ex, ⟨o, ho, hc, hd⟩, hp, q⟩ := q
  subst ex
  obtain ⟨u, eu, rx⟩ := vals1 r
  subst eu
  cases rx
  obtain ⟨e0, hz, its, rv, ⟨o', e1, _, n, hdat⟩⟩ := (show ObjOk X.prog X.w H s.heap a (.frz o (.tup (ps.map V.ref))) from I.hok a _ ho)
  have eo : o' = o := Option.some.inj (e1.symm.trans e0)
  subst eo
  have ei := refs_at rv
  subst ei
  rw [List.length_map] at hz
  obtain ⟨prs, rel, hl, hpr⟩ := pairs_of I hp
  -- the keys as they stand
  have keyed : ∃ qs : List (Value × Value), qs.length = prs.length ∧ ∀ (j : Nat) (q : Key × Value), prs[j]? = some q → ∃ (b : Addr) (u : Value), ps[j]? = some b ∧ IsTup s.heap b #[u, q.2] ∧ keyIs q.1 u = true ∧ qs[j]? = some (u, q.2) := by
    have go : ∀ (prs : List (Key × Value)) (f : Nat → Key × Value → Value → Prop), (∀ j q, prs[j]? = some q → ∃ u, f j q u) → ∃ qs : List (Value × Value), qs.length = prs.length ∧ ∀ j q, prs[j]? = some q → ∃ u, f j q u ∧ qs[j]? = some (u, q.2) := by
      intro prs
      induction prs with
      | nil => exact fun f _ => ⟨[], rfl, fun j q e => by simp at e⟩
      | cons p r ih =>
        intro f hf
        obtain ⟨u0, h0⟩ := hf 0 p rfl
        obtain ⟨qs, h1, h2⟩ := ih (fun j q u => f (j + 1) q u) fun j q e => hf (j + 1) q (by simpa using e)
        refine ⟨(u0, p.2) :: qs, by simp [h1], fun j q e => ?_⟩
        cases j with
        | zero =>
          have e' : p = q := Option.some.inj e
          subst e'
          exact ⟨u0, h0, rfl⟩
        | succ j =>
          obtain ⟨u, h3, h4⟩ := h2 j q (by simpa using e)
          exact ⟨u, h3, by simpa using h4⟩
    obtain ⟨qs, h1, h2⟩ := go prs (fun j q u => ∃ b, ps[j]? = some b ∧ IsTup s.heap b #[u, q.2] ∧ keyIs q.1 u = true) fun j q e => by
      obtain ⟨b, u, x1, x2, x3⟩ := hpr j q e
      exact ⟨u, b, x1, x2, x3⟩
    refine ⟨qs, h1, fun j q e => ?_⟩
    obtain ⟨u, ⟨b, x1, x2, x3⟩, x4⟩ := h2 j q e
    exact ⟨b, u, x1, x2, x3, x4⟩
  obtain ⟨qs, hql, hqs⟩ := keyed
  have hz' : prs.length ≤ sizeLine := by
    rw [hl]
    exact hz
  have items : PairItems s.heap (ps.map Value.ref).toArray (fun j => ps.getD j 0) qs := by
    refine ⟨by simp [hql, hl], fun j k v e => ?_⟩
    have hj : j < prs.length := by
      rw [← hql]
      exact (List.getElem?_eq_some_iff.mp e).1
    obtain ⟨b, u, x1, x2, x3, x4⟩ := hqs j prs[j] (List.getElem?_eq_getElem hj)
    have e2 : (u, prs[j].2) = (k, v) := Option.some.inj (x4.symm.trans e)
    have eb : ps.getD j 0 = b := by
      rw [List.getD_eq_getElem?_getD, x1]
      rfl
    refine ⟨by simp [x1, eb], .inl ?_⟩
    obtain ⟨e3, e4⟩ := Prod.mk.inj e2
    show s.heap.IsTuple (ps.getD j 0) #[k, v]
    rw [eb, ← e3, ← e4]
    exact x2
  have have_ : PairsHave (mixKind X.prog X.w) qs.length (PairRel qs) prs := by
    refine ⟨hql.symm, fun i key v e => ?_⟩
    have hj : i < prs.length := by
      rw [← hql]
      exact (List.getElem?_eq_some_iff.mp e).1
    obtain ⟨b, u, x1, x2, x3, x4⟩ := hqs i prs[i] (List.getElem?_eq_getElem hj)
    have e2 : (u, prs[i].2) = (key, v) := Option.some.inj (x4.symm.trans e)
    obtain ⟨e3, e4⟩ := Prod.mk.inj e2
    refine ⟨prs[i].1, ?_, ?_⟩
    · rw [List.getElem?_eq_getElem hj, ← e4]
    · rw [← e3]
      exact x3
  refine PySem.call_dict_pairs (knd := mixKind X.prog X.w) (kvs := prs) (PairArg.tuple a (ps.map Value.ref).toArray (fun j => ps.getD j 0) qs) (I.ok.hd hcalm) ⟨⟨o', n, e0, hc, hd, hdat⟩, items⟩ have_ (by rw [hql]; exact hz') fun h' tk hd' k => ?_
  have hm : (s.heap.objs.size == sysModules) = false := beq_eq_false_iff_ne.mpr (Nat.ne_of_gt I.big)
  have hlen : (mergeK [] kvs).length ≤ sizeLine := by
    refine Nat.le_trans (length_mergeK kvs []) ?_
    rw [List.length_nil, Nat.zero_add, rel.length, hl]
    exact hz
  exact ⟨.ref s.heap.objs.size, upd H s.heap.objs.size (.dK (mergeK [] kvs)), I.laid (t' := tk) (fun b o e => k b o (by simp) e) (Nat.le_refl _) (show ObjOk X.prog X.w _ _ _ (.dK (mergeK [] kvs)) from ⟨hlen, hm, merged [] prs, KV.merge rel .nil, hd'⟩), rfl, q _ (I.hok.fresh (Nat.le_refl _))⟩
end
end W17
set_option Elab.async false
set_option linter.all false
set_option maxRecDepth 100000
set_option maxHeartbeats 4000000
namespace W17
open PySem PySem.Spec PyProof.Rows L2
section
variable {P : Program} {w : World} {K : PySem.W.Frag} {mg : Str → Option Value} {base : Heap}

def spIsInt : Sp := fun vs H Q _ => ∃ i, vs = [.int i] ∧ Q (.bl true) H
def spIntIn : Sp := fun vs H Q _ => ∃ i lo hi, vs = [.int i, .int lo, .int hi] ∧ lo ≤ i ∧ i ≤ hi ∧ Q (.bl true) H
def spWritten : Sp := fun vs H Q _ => ∃ i : Int, vs = [.int i] ∧ -1000000000 ≤ i ∧ i ≤ 1000000000 ∧ Q (.bl true) H
def spName : Sp := fun vs H Q _ => ∃ x, vs = [.str x] ∧ Nam x ∧ ∀ H', Same H H' → Q (.bl true) H'
def spKind : Sp := fun vs H Q _ => vs = [.str "number"] ∧ Q (.bl true) H
def spTupOf : Sp := fun vs H Q _ => ∃ a xs n, vs = [.ref a, .int n] ∧ H a = some (.tup xs) ∧ n = (xs.length : Int) ∧ Q (.bl true) H
def spListOf : Sp := fun vs H Q _ => ∃ a xs lo hi, vs = [.ref a, .int lo, .int hi] ∧ H a = some (.lst xs) ∧ lo ≤ (xs.length : Int) ∧ (xs.length : Int) ≤ hi ∧ Q (.bl true) H
def spWord : Sp := fun vs H Q _ => ∃ a x xs, vs = [.ref a] ∧ H a = some (.tup (.str x :: xs)) ∧ Q (.bl true) H
theorem sc_is_integer : FnScope ["thing"] ["thing"] (defScope s_is_integer) := ⟨rfl, rfl, rfl, by decide +kernel, rfl, by decide +kernel, by decide +kernel⟩
theorem ok_is_integer (T : Ctx w K mg) : Has P w K mg base 1 "is_integer" ["thing"] spIsInt := by
  obtain ⟨fd, F⟩ := T.D_is_integer
  refine ⟨⟨fd, F.ok sc_is_integer (fun vs H Q E h => ?_) (fun cdv A outer s H vs Q E hr h => ?_), F.bindsN fun _ _ _ _ _ _ us hl => match us, hl with | [_], _ => rfl⟩, F.kp, T.g_is_integer⟩
  · obtain ⟨i, rfl, k⟩ := h; rfl
  · obtain ⟨i, rfl, k⟩ := h
    have hu := hu_of hr
    refine ⟨_, PSs.nox (pss_one (ps_ret (pe_and (pe_callB call_isi (by rfl) T.f_isinstance (by decide +kernel) (pa_cons (pv 0) (pa_cons (pe_bltn (v := .ty "int") (u := .type "int") rfl T.f_int (by decide +kernel) rfl) pa_nil))) (pe_one (pe_not (pe_callB call_isi (by rfl) T.f_isinstance (by decide +kernel) (pa_cons (pv 0) (pa_cons (pe_bltn (v := .ty "bool") (u := .type "bool") rfl T.f_bool (by decide +kernel) rfl) pa_nil)))))))), ?_⟩
    refine ⟨_, rfl, _, _, _, _, true, rfl, .ty _, .base (.int i), kit_ty (by decide +kernel), true, rfl, iteT ?_⟩
    exact ⟨_, rfl, _, _, _, _, false, rfl, .ty _, .base (.int i), kit_ty (by decide +kernel), false, rfl, k⟩
theorem sc_is_integer_in : FnScope ["thing", "least", "most"] ["thing", "least", "most"] (defScope s_is_integer_in) := ⟨rfl, rfl, rfl, by decide +kernel, rfl, by decide +kernel, by decide +kernel⟩
theorem ok_is_integer_in (T : Ctx w K mg) (H_is_integer : Has P w K mg base 1 "is_integer" ["thing"] spIsInt) : Has P w K mg base 2 "is_integer_in" ["thing", "least", "most"] spIntIn := by
  obtain ⟨fd, F⟩ := T.D_is_integer_in
  obtain ⟨fd_is_integer, G_is_integer, b_is_integer⟩ := H_is_integer.ex
  refine ⟨⟨fd, F.ok sc_is_integer_in (fun vs H Q E h => ?_) (fun cdv A outer s H vs Q E hr h => ?_), F.bindsN fun _ _ _ _ _ _ us hl => match us, hl with | [_, _, _], _ => rfl⟩, F.kp, T.g_is_integer_in⟩
  · obtain ⟨i, lo, hi, rfl, h1, h2, k⟩ := h; rfl
  · obtain ⟨i, lo, hi, rfl, h1, h2, k⟩ := h
    have hr_is_integer : Room 1 _ := hr.mono (by decide)
    have hu := hu_of hr
    refine ⟨_, PSs.nox (pss_one (ps_ret (pe_and (pe_call G_is_integer hr_is_integer (by rfl) H_is_integer.gl H_is_integer.kp b_is_integer .nil pass0 (pa_cons (pv 0) pa_nil)) (pe_one (pe_chain op_le op_le (pv 1) (pv 0) (pv 2)))))), ?_⟩
    refine ⟨_, rfl, i, rfl, true, rfl, iteT ?_⟩
    exact ⟨_, rfl, _, rfl, _, _, rfl, rfl, _, rfl, ifT (decide_eq_true h1) ⟨_, rfl, _, _, rfl, rfl, qT (decide_eq_true h2) k⟩⟩
theorem sc_is_written_number : FnScope ["thing"] ["thing"] (defScope s_is_written_number) := ⟨rfl, rfl, rfl, by decide +kernel, rfl, by decide +kernel, by decide +kernel⟩
theorem ok_is_written_number (T : Ctx w K mg) (H_is_integer_in : Has P w K mg base 2 "is_integer_in" ["thing", "least", "most"] spIntIn) : Has P w K mg base 3 "is_written_number" ["thing"] spWritten := by
  obtain ⟨fd, F⟩ := T.D_is_written_number
  obtain ⟨fd_is_integer_in, G_is_integer_in, b_is_integer_in⟩ := H_is_integer_in.ex
  refine ⟨⟨fd, F.ok sc_is_written_number (fun vs H Q E h => ?_) (fun cdv A outer s H vs Q E hr h => ?_), F.bindsN fun _ _ _ _ _ _ us hl => match us, hl with | [_], _ => rfl⟩, F.kp, T.g_is_written_number⟩
  · obtain ⟨i, rfl, h1, h2, k⟩ := h; rfl
  · obtain ⟨i, rfl, h1, h2, k⟩ := h
    have hr_is_integer_in : Room 2 _ := hr.mono (by decide)
    have hu := hu_of hr
    obtain ⟨tk, e_GREATEST_WRITTEN⟩ := T.i_GREATEST_WRITTEN
    refine ⟨_, PSs.nox (pss_one (ps_ret (pe_call G_is_integer_in hr_is_integer_in (by rfl) H_is_integer_in.gl H_is_integer_in.kp b_is_integer_in .nil pass0 (pa_cons (pv 0) (pa_cons (pe_un un_neg (pe_glob (v := .int 1000000000) rfl e_GREATEST_WRITTEN ⟨_, rfl⟩)) (pa_cons (pe_glob (v := .int 1000000000) rfl e_GREATEST_WRITTEN ⟨_, rfl⟩) pa_nil)))))), ?_⟩
    exact ⟨_, rfl, _, rfl, i, _, _, rfl, h1, h2, k⟩
theorem sc_is_name : FnScope ["thing", "mark"] ["thing"] (defScope s_is_name) := ⟨rfl, rfl, rfl, by decide +kernel, rfl, by decide +kernel, by decide +kernel⟩
theorem ok_is_name (T : Ctx w K mg) : Has P w K mg base 1 "is_name" ["thing"] spName := by
  obtain ⟨fd, F⟩ := T.D_is_name
  refine ⟨⟨fd, F.ok sc_is_name (fun vs H Q E h => ?_) (fun cdv A outer s H vs Q E hr h => ?_), F.bindsN fun _ _ _ _ _ _ us hl => match us, hl with | [_], _ => rfl⟩, F.kp, T.g_is_name⟩
  · obtain ⟨x, rfl, N, k⟩ := h; rfl
  · obtain ⟨x, rfl, N, k⟩ := h
    have hu := hu_of hr
    obtain ⟨tl, e_LETTERS⟩ := T.s_LETTERS
    obtain ⟨tm, e_MARKS⟩ := T.s_MARKS
    refine ⟨_, PSs.nox (pss_cons (ps_if (PW.pt (pw_or (pt_not (pt_val (pe_callB call_isi (by rfl) T.f_isinstance (by decide +kernel) (pa_cons (pv 0) (pa_cons (pe_bltn (v := .ty "str") (u := .type "str") rfl T.f_str (by decide +kernel) rfl) pa_nil))))) (pw_or1 (pt_not (pt_chain op_le op_le pe_int (pe_callB call_len_str (by rfl) T.f_len (by decide +kernel) (pa_cons (pv 0) pa_nil)) pe_int))))) (pss_one (ps_ret pe_bl)) pss_nil)
      (pss_one (ps_ret (pe_and (pe_cmpR op_in_sign (pe_item_str (pv 0) pe_int (fun _ _ => rfl)) (pe_glob (v := .str "abcdefghijklmnopqrstuvwxyz") rfl e_LETTERS ⟨_, rfl⟩) rfl) (pe_one (pe_callB (cr_all rfl) (by rfl) T.f_all (by decide +kernel) (pa_cons (pe_lc (own := [("mark", 1)]) (g := gName 1) (tt := tYes) rfl sc_is_name.nd (pi_str (pv 0)) (blkOk_by (N := ["thing", "mark"]) (sc := defScope s_is_name) (by decide +kernel)) (fun _ _ _ _ _ => (pg_name (i := 1) sc_is_name.nd rfl (Or.inl rfl))) (fun _ _ _ _ _ => pts_nil) (fun _ _ _ _ _ => (pe_cmpR op_in_sign (pv 1) (pe_glob (v := .str "abcdefghijklmnopqrstuvwxyz0123456789") rfl e_MARKS ⟨_, rfl⟩) rfl))) pa_nil))))))), ?_⟩
    obtain ⟨c0, hc0, mc0⟩ := N.one
    have hsz : x.length ≤ sizeLine := sz_of (Nat.le_trans (show x.cps.size ≤ 8 from N.le) (by decide))
    refine ⟨_, rfl, _, _, _, _, true, rfl, .ty _, .base (.str x), kit_ty (by decide +kernel), true, rfl, iteF ?_⟩
    refine ⟨_, rfl, _, rfl, hsz, _, _, rfl, rfl, _, rfl, ?_⟩
    refine ifT (decide_eq_true (show (1 : Int) ≤ ((x.cps.size : Nat) : Int) by have := N.pos; omega)) ⟨_, _, rfl, rfl, _, rfl, ?_⟩
    refine ifF (show (!decide (((x.cps.size : Nat) : Int) ≤ 8)) = false by rw [decide_eq_true (show ((x.cps.size : Nat) : Int) ≤ 8 by have := N.le; omega)]; rfl) ?_
    refine ⟨_, rfl, _, _, c0, rfl, rfl, by decide, by decide, by have := N.pos; exact Int.ofNat_lt.mpr this, hc0, _, _, rfl, rfl, _, rfl, ?_⟩
    refine ifT (decide_eq_true mc0) ?_
    refine ⟨_, rfl, _, rfl, fun D hD => ?_⟩
    refine lc_pure walk_str hD (fun _ => .bl true) (by have := N.le; omega) (fun _ _ => trivial) (fun i H1 y H2 hi s1 hy Qe qe => ?_) (fun H1 s1 h1 => ?_)
    · obtain ⟨rfl, c, hc, rfl⟩ := hy
      exact ⟨rfl, _, rfl, _, _, rfl, rfl, qT (decide_eq_true (N.all i c hc)) (qe _ (Same.refl _))⟩
    · refine ⟨_, (List.range x.cps.size).map (fun _ => true), rfl, SqL.of (by rw [h1, List.map_map]; rfl), qT all_true (k _ s1)⟩
theorem sc_is_kind : FnScope ["thing"] ["thing"] (defScope s_is_kind) := ⟨rfl, rfl, rfl, by decide +kernel, rfl, by decide +kernel, by decide +kernel⟩
theorem ok_is_kind (T : Ctx w K mg) : Has P w K mg base 1 "is_kind" ["thing"] spKind := by
  obtain ⟨fd, F⟩ := T.D_is_kind
  refine ⟨⟨fd, F.ok sc_is_kind (fun vs H Q E h => ?_) (fun cdv A outer s H vs Q E hr h => ?_), F.bindsN fun _ _ _ _ _ _ us hl => match us, hl with | [_], _ => rfl⟩, F.kp, T.g_is_kind⟩
  · obtain ⟨rfl, k⟩ := h; rfl
  · obtain ⟨rfl, k⟩ := h
    have hu := hu_of hr
    refine ⟨_, PSs.nox (pss_one (ps_ret (pe_and (pe_callB call_isi (by rfl) T.f_isinstance (by decide +kernel) (pa_cons (pv 0) (pa_cons (pe_bltn (v := .ty "str") (u := .type "str") rfl T.f_str (by decide +kernel) rfl) pa_nil))) (pe_one (pe_cmpR op_in_seq (pv 0) (pe_glob (v := .ref (He.ga K "KINDS")) rfl T.g_KINDS rfl) rfl))))), ?_⟩
    refine ⟨_, rfl, _, _, _, _, true, rfl, .ty _, .base (.str _), kit_ty (by decide +kernel), true, rfl, iteT ?_⟩
    exact ⟨_, rfl, _, _, rfl, .inr (T.kinds H), rfl, rfl, qT rfl k⟩
theorem sc_is_tuple_of : FnScope ["thing", "many"] ["thing", "many"] (defScope s_is_tuple_of) := ⟨rfl, rfl, rfl, by decide +kernel, rfl, by decide +kernel, by decide +kernel⟩
theorem ok_is_tuple_of (T : Ctx w K mg) : Has P w K mg base 1 "is_tuple_of" ["thing", "many"] spTupOf := by
  obtain ⟨fd, F⟩ := T.D_is_tuple_of
  refine ⟨⟨fd, F.ok sc_is_tuple_of (fun vs H Q E h => ?_) (fun cdv A outer s H vs Q E hr h => ?_), F.bindsN fun _ _ _ _ _ _ us hl => match us, hl with | [_, _], _ => rfl⟩, F.kp, T.g_is_tuple_of⟩
  · obtain ⟨a, xs, n, rfl, ha, hn, k⟩ := h; rfl
  · obtain ⟨a, xs, n, rfl, ha, hn, k⟩ := h
    have hu := hu_of hr
    refine ⟨_, PSs.nox (pss_one (ps_ret (pe_and (pe_callB call_isi (by rfl) T.f_isinstance (by decide +kernel) (pa_cons (pv 0) (pa_cons (pe_bltn (v := .ty "tuple") (u := .type "tuple") rfl T.f_tuple (by decide +kernel) rfl) pa_nil))) (pe_one (pe_cmpR op_eq (pe_callB call_len_seq (by rfl) T.f_len (by decide +kernel) (pa_cons (pv 0) pa_nil)) (pv 1) (nomark _)))))), ?_⟩
    refine ⟨_, rfl, _, _, _, _, true, rfl, .ty _, .base (.tup ha), kit_ty (by decide +kernel), true, rfl, iteT ?_⟩
    exact ⟨_, rfl, _, _, rfl, .inr (SqT.of ha), _, rfl, rfl, qT (decide_eq_true (by rw [hn])) k⟩
theorem sc_is_list_of : FnScope ["thing", "least", "most"] ["thing", "least", "most"] (defScope s_is_list_of) := ⟨rfl, rfl, rfl, by decide +kernel, rfl, by decide +kernel, by decide +kernel⟩
theorem ok_is_list_of (T : Ctx w K mg) : Has P w K mg base 1 "is_list_of" ["thing", "least", "most"] spListOf := by
  obtain ⟨fd, F⟩ := T.D_is_list_of
  refine ⟨⟨fd, F.ok sc_is_list_of (fun vs H Q E h => ?_) (fun cdv A outer s H vs Q E hr h => ?_), F.bindsN fun _ _ _ _ _ _ us hl => match us, hl with | [_, _, _], _ => rfl⟩, F.kp, T.g_is_list_of⟩
  · obtain ⟨a, xs, lo, hi, rfl, ha, h1, h2, k⟩ := h; rfl
  · obtain ⟨a, xs, lo, hi, rfl, ha, h1, h2, k⟩ := h
    have hu := hu_of hr
    refine ⟨_, PSs.nox (pss_one (ps_ret (pe_and (pe_callB call_isi (by rfl) T.f_isinstance (by decide +kernel) (pa_cons (pv 0) (pa_cons (pe_bltn (v := .ty "list") (u := .type "list") rfl T.f_list (by decide +kernel) rfl) pa_nil))) (pe_one (pe_chain op_le op_le (pv 1) (pe_callB call_len_seq (by rfl) T.f_len (by decide +kernel) (pa_cons (pv 0) pa_nil)) (pv 2)))))), ?_⟩
    refine ⟨_, rfl, _, _, _, _, true, rfl, .ty _, .base (.lst ha), kit_ty (by decide +kernel), true, rfl, iteT ?_⟩
    exact ⟨_, rfl, _, rfl, _, _, rfl, .inl (SqL.of ha), _, _, rfl, rfl, _, rfl, ifT (decide_eq_true h1) ⟨_, rfl, _, _, rfl, rfl, qT (decide_eq_true h2) k⟩⟩
theorem sc_is_word_tuple : FnScope ["thing"] ["thing"] (defScope s_is_word_tuple) := ⟨rfl, rfl, rfl, by decide +kernel, rfl, by decide +kernel, by decide +kernel⟩
theorem ok_is_word_tuple (T : Ctx w K mg) : Has P w K mg base 1 "is_word_tuple" ["thing"] spWord := by
  obtain ⟨fd, F⟩ := T.D_is_word_tuple
  refine ⟨⟨fd, F.ok sc_is_word_tuple (fun vs H Q E h => ?_) (fun cdv A outer s H vs Q E hr h => ?_), F.bindsN fun _ _ _ _ _ _ us hl => match us, hl with | [_], _ => rfl⟩, F.kp, T.g_is_word_tuple⟩
  · obtain ⟨a, x, xs, rfl, ha, k⟩ := h; rfl
  · obtain ⟨a, x, xs, rfl, ha, k⟩ := h
    have hu := hu_of hr
    refine ⟨_, PSs.nox (pss_one (ps_ret (pe_and (pe_callB call_isi (by rfl) T.f_isinstance (by decide +kernel) (pa_cons (pv 0) (pa_cons (pe_bltn (v := .ty "tuple") (u := .type "tuple") rfl T.f_tuple (by decide +kernel) rfl) pa_nil))) (pe_and (pe_cmpR op_gt (pe_callB call_len_seq (by rfl) T.f_len (by decide +kernel) (pa_cons (pv 0) pa_nil)) pe_int (nomark _)) (pe_one (pe_callB call_isi (by rfl) T.f_isinstance (by decide +kernel) (pa_cons (pe_ix ix_tup (pv 0) pe_int (fun _ _ => rfl)) (pa_cons (pe_bltn (v := .ty "str") (u := .type "str") rfl T.f_str (by decide +kernel) rfl) pa_nil)))))))), ?_⟩
    refine ⟨_, rfl, _, _, _, _, true, rfl, .ty _, .base (.tup ha), kit_ty (by decide +kernel), true, rfl, iteT ?_⟩
    refine ⟨_, rfl, _, _, rfl, .inr (SqT.of ha), _, _, rfl, rfl, _, rfl, ifT (decide_eq_true (by rw [List.length_cons]; omega)) ?_⟩
    exact ⟨_, rfl, _, _, _, _, rfl, rfl, SqT.of ha, at0, _, _, _, _, true, rfl, .ty _, .base (.str x), kit_ty (by decide +kernel), k⟩

end
end W17
set_option Elab.async false
set_option linter.all false
set_option maxRecDepth 100000
set_option maxHeartbeats 4000000
namespace W17
open PySem PySem.Spec PyProof.Rows L2
section
variable {P : Program} {w : World} {K : PySem.W.Frag} {mg : Str → Option Value} {base : Heap}

/-- a text or an int -/
inductive Fl : V → Prop where
  | str (x : Str) : Fl (.str x)
  | int (i : Int) : Fl (.int i)
def spFz0 : Sp := fun vs H Q _ => ∃ v, vs = [v] ∧ Fl v ∧ ∀ H', Same H H' → Q v H'
def spFz1 : Sp := fun vs H Q _ => ∃ a xs, vs = [.ref a] ∧ H a = some (.tup xs) ∧ (∀ x ∈ xs, Fl x) ∧ xs.length ≤ 100 ∧ ∀ p H', Same H H' → H' p = some (.tup xs) → Q (.ref p) H'
def spFz2 : Sp := fun vs H Q _ => ∃ (a : Addr) (ps : List Addr) (f : Nat → List V), vs = [.ref a] ∧ H a = some (.lst (ps.map V.ref)) ∧ (∀ (i : Nat) (p : Addr), ps[i]? = some p → H p = some (.tup (f i)) ∧ (f i).length ≤ 100 ∧ ∀ x ∈ f i, Fl x) ∧ ps.length ≤ 100 ∧
  ∀ (q : Addr) (qs : List Addr) (H' : Hp), Same H H' → TupP H' q (qs.map V.ref) → qs.length = ps.length → (∀ (i : Nat) (p : Addr), qs[i]? = some p → H' p = some (.tup (f i))) → Q (.ref q) H'
theorem kit2 {K : PySem.W.Frag} {t a b : String} {p q r : Bool} (h1 : kitB t a = some p) (h2 : kitB t b = some q) (e : r = (p || q)) : PySem.W.kitAny K (.type t) [.type a, .type b] = some r := by
  subst e
  refine kitAny_cons (kit_ty h1) (fun e => ?_) (fun e => by rw [e] <;> rfl)
  rw [e]
  exact kitAny_cons (kit_ty h2) (fun e2 => by rw [e2]; exact kitAny_nil) (fun e2 => by rw [e2] <;> rfl)
theorem sc_frozen : FnScope ["thing", "part"] ["thing"] (defScope s_frozen) := ⟨rfl, rfl, rfl, by decide +kernel, rfl, by decide +kernel, by decide +kernel⟩
theorem ok_frozen0 (T : Ctx w K mg) : Has P w K mg base 1 "frozen" ["thing"] spFz0 := by
  obtain ⟨fd, F⟩ := T.D_frozen
  refine ⟨⟨fd, F.ok sc_frozen (fun vs H Q E h => ?_) (fun cdv A outer s H vs Q E hr h => ?_), F.bindsN fun _ _ _ _ _ _ us hl => match us, hl with | [_], _ => rfl⟩, F.kp, T.g_frozen⟩
  · obtain ⟨v, rfl, F0, k⟩ := h; rfl
  · obtain ⟨v, rfl, F0, k⟩ := h
    have hu := hu_of hr
    refine ⟨_, PSs.nox (pss_cons (ps_if (pt_val (pe_callB call_isiT (by rfl) T.f_isinstance (by decide +kernel) (pa_cons (pv 0) (pa_cons (pe_tup (pa_cons (pe_bltn (v := .ty "list") (u := .type "list") rfl T.f_list (by decide +kernel) rfl) (pa_cons (pe_bltn (v := .ty "tuple") (u := .type "tuple") rfl T.f_tuple (by decide +kernel) rfl) pa_nil))) pa_nil)))) (pss_one ps_never) pss_nil)
      (pss_one (ps_ret (pv 0)))), ?_⟩
    refine ⟨_, rfl, sz_of (by decide), fun tp htp => ?_⟩
    cases F0 with
    | str x =>
      exact ⟨_, _, _, _, _, false, rfl, upd_same, .cons (.ty _) (.cons (.ty _) .nil), .base (.str x), kit2 (p := false) (q := false) (by decide +kernel) (by decide +kernel) rfl, _, rfl, iteF ⟨_, rfl, k _ (Same.new htp)⟩⟩
    | int x =>
      exact ⟨_, _, _, _, _, false, rfl, upd_same, .cons (.ty _) (.cons (.ty _) .nil), .base (.int x), kit2 (p := false) (q := false) (by decide +kernel) (by decide +kernel) rfl, _, rfl, iteF ⟨_, rfl, k _ (Same.new htp)⟩⟩
theorem ok_frozen1 (T : Ctx w K mg) (H_frozen : Has P w K mg base 1 "frozen" ["thing"] spFz0) : Has P w K mg base 2 "frozen" ["thing"] spFz1 := by
  obtain ⟨fd, F⟩ := T.D_frozen
  obtain ⟨fd_frozen, G_frozen, b_frozen⟩ := H_frozen.ex
  refine ⟨⟨fd, F.ok sc_frozen (fun vs H Q E h => ?_) (fun cdv A outer s H vs Q E hr h => ?_), F.bindsN fun _ _ _ _ _ _ us hl => match us, hl with | [_], _ => rfl⟩, F.kp, T.g_frozen⟩
  · obtain ⟨a, xs, rfl, ha, hf, hl, k⟩ := h; rfl
  · obtain ⟨a, xs, rfl, ha, hf, hl, k⟩ := h
    have hr_frozen : Room 1 _ := hr.mono (by decide)
    have hu := hu_of hr
    refine ⟨_, PSs.nox (pss_cons (ps_if (pt_val (pe_callB call_isiT (by rfl) T.f_isinstance (by decide +kernel) (pa_cons (pv 0) (pa_cons (pe_tup (pa_cons (pe_bltn (v := .ty "list") (u := .type "list") rfl T.f_list (by decide +kernel) rfl) (pa_cons (pe_bltn (v := .ty "tuple") (u := .type "tuple") rfl T.f_tuple (by decide +kernel) rfl) pa_nil))) pa_nil)))) (pss_one (ps_ret (pe_callTy call_tuple_of (by rfl) T.f_tuple (by decide +kernel) (pa_cons (pe_lc (own := [("part", 1)]) (g := gName 1) (tt := tYes) rfl sc_frozen.nd (pi_tup (pv 0)) (blkOk_by (N := ["thing", "part"]) (sc := defScope s_frozen) (by decide +kernel)) (fun _ _ _ _ _ => (pg_name (i := 1) sc_frozen.nd rfl (Or.inl rfl))) (fun _ _ _ _ _ => pts_nil) (fun _ _ _ _ _ => (pe_call G_frozen hr_frozen (by rfl) H_frozen.gl H_frozen.kp b_frozen .nil pass0 (pa_cons (pv 1) pa_nil)))) pa_nil)))) pss_nil)
      (pss_one (ps_ret (pv 0)))), ?_⟩
    refine ⟨_, rfl, sz_of (by decide), fun tp htp => ?_⟩
    have s1 : Same H (upd H tp (.tup [.ty "list", .ty "tuple"])) := Same.new htp
    refine ⟨_, _, _, _, _, true, rfl, upd_same, .cons (.ty _) (.cons (.ty _) .nil), .base (.tup (s1 _ _ ha)), kit2 (p := false) (q := true) (by decide +kernel) (by decide +kernel) rfl, _, rfl, iteT ?_⟩
    refine ⟨_, rfl, a, rfl, ⟨_, SqT.of (s1 _ _ ha)⟩, fun D hD => ?_⟩
    refine lc_pure (walk_tup (K := K) (a := a) (xs := xs)) hD (fun i => xs.getD i .non) (Nat.lt_of_le_of_lt hl (by decide)) (fun H2 s2 => SqT.of (s2 _ _ (s1 _ _ ha))) (fun i H2 y H3 hi s2 hy Qe qe => ?_) (fun H2 s2 h2 => ?_)
    · obtain ⟨rfl, hx⟩ := hy
      rw [getD_of hx] at qe
      exact ⟨rfl, _, rfl, y, rfl, hf y (List.mem_of_getElem? hx), fun H4 s4 => qe _ s4⟩
    · rw [map_range_getD] at h2
      exact ⟨D, xs, rfl, .inl ⟨SqL.of h2, fun l hl2 => k l _ ((s1.trans s2).trans (Same.new hl2)) upd_same⟩⟩
theorem ok_frozen2 (T : Ctx w K mg) (H_frozen : Has P w K mg base 2 "frozen" ["thing"] spFz1) : Has P w K mg base 3 "frozen" ["thing"] spFz2 := by
  obtain ⟨fd, F⟩ := T.D_frozen
  obtain ⟨fd_frozen, G_frozen, b_frozen⟩ := H_frozen.ex
  refine ⟨⟨fd, F.ok sc_frozen (fun vs H Q E h => ?_) (fun cdv A outer s H vs Q E hr h => ?_), F.bindsN fun _ _ _ _ _ _ us hl => match us, hl with | [_], _ => rfl⟩, F.kp, T.g_frozen⟩
  · obtain ⟨a, ps, f, rfl, ha, hf, hl, k⟩ := h; rfl
  · obtain ⟨a, ps, f, rfl, ha, hf, hl, k⟩ := h
    have hr_frozen : Room 2 _ := hr.mono (by decide)
    have hu := hu_of hr
    refine ⟨_, PSs.nox (pss_cons (ps_if (pt_val (pe_callB call_isiT (by rfl) T.f_isinstance (by decide +kernel) (pa_cons (pv 0) (pa_cons (pe_tup (pa_cons (pe_bltn (v := .ty "list") (u := .type "list") rfl T.f_list (by decide +kernel) rfl) (pa_cons (pe_bltn (v := .ty "tuple") (u := .type "tuple") rfl T.f_tuple (by decide +kernel) rfl) pa_nil))) pa_nil)))) (pss_one (ps_ret (pe_callTy call_tupleP (by rfl) T.f_tuple (by decide +kernel) (pa_cons (pe_lc (own := [("part", 1)]) (g := gName 1) (tt := tYes) rfl sc_frozen.nd (pi_list (pv 0)) (blkOk_by (N := ["thing", "part"]) (sc := defScope s_frozen) (by decide +kernel)) (fun _ _ _ _ _ => (pg_name (i := 1) sc_frozen.nd rfl (Or.inl rfl))) (fun _ _ _ _ _ => pts_nil) (fun _ _ _ _ _ => (pe_call G_frozen hr_frozen (by rfl) H_frozen.gl H_frozen.kp b_frozen .nil pass0 (pa_cons (pv 1) pa_nil)))) pa_nil)))) pss_nil)
      (pss_one (ps_ret (pv 0)))), ?_⟩
    refine ⟨_, rfl, sz_of (by decide), fun tp htp => ?_⟩
    have s1 : Same H (upd H tp (.tup [.ty "list", .ty "tuple"])) := Same.new htp
    refine ⟨_, _, _, _, _, true, rfl, upd_same, .cons (.ty _) (.cons (.ty _) .nil), .base (.lst (s1 _ _ ha)), kit2 (p := true) (q := false) (by decide +kernel) (by decide +kernel) rfl, _, rfl, iteT ?_⟩
    refine ⟨_, rfl, a, rfl, ⟨_, SqL.of (s1 _ _ ha)⟩, fun D hD => ?_⟩
    refine lc_tups (walk_list (K := K) (a := a) (xs := ps.map V.ref)) hD f (by rw [List.length_map]; exact Nat.lt_of_le_of_lt hl (by decide)) (fun H2 s2 => SqL.of (s2 _ _ (s1 _ _ ha))) (fun i H2 y H3 hi s2 hy Qe qe => ?_) (fun H2 qs s2 hq hqs h2 => ?_)
    · obtain ⟨rfl, hx⟩ := hy
      rw [List.getElem?_map] at hx
      cases e : ps[i]? with
      | none =>
        rw [e] at hx
        cases hx
      | some p =>
        rw [e] at hx
        have hy2 : y = V.ref p := (Option.some.inj hx).symm
        subst hy2
        obtain ⟨h3, h4, h5⟩ := hf i p e
        exact ⟨rfl, _, rfl, p, f i, rfl, s2 _ _ (s1 _ _ h3), h5, h4, fun q H4 s4 h6 => qe q _ s4 h6⟩
    · rw [List.length_map] at hq
      refine ⟨D, _, rfl, SqL.of h2, fun l o hl2 po => k l qs _ ((s1.trans s2).trans (Same.new hl2)) ⟨o, upd_same, po⟩ hq fun i p e => Same.new hl2 _ _ (hqs i p e)⟩
def spNamed : Sp := fun vs H Q _ => ∃ (a : Addr) (ps : List Addr) (ns : List Str) (m : Int), vs = [.ref a, .int m] ∧ H a = some (.lst (ps.map V.ref)) ∧ Pairs H ps ns ∧ (∀ x ∈ ns, Nam x) ∧ ns.Nodup ∧ (ns.length : Int) ≤ m ∧ ns.length ≤ 100 ∧ ∀ H', Same H H' → Q (.bl true) H' 
theorem sc_are_named_kinds : FnScope ["thing", "most", "names", "pair"] ["thing", "most"] (defScope s_are_named_kinds) := ⟨rfl, rfl, rfl, by decide +kernel, rfl, by decide +kernel, by decide +kernel⟩
theorem ok_are_named_kinds (T : Ctx w K mg) (H_is_list_of : Has P w K mg base 1 "is_list_of" ["thing", "least", "most"] spListOf) (H_is_tuple_of : Has P w K mg base 1 "is_tuple_of" ["thing", "many"] spTupOf) (H_is_name : Has P w K mg base 1 "is_name" ["thing"] spName) (H_is_kind : Has P w K mg base 1 "is_kind" ["thing"] spKind) : Has P w K mg base 2 "are_named_kinds" ["thing", "most"] spNamed := by
  obtain ⟨fd, F⟩ := T.D_are_named_kinds
  obtain ⟨fd_is_list_of, G_is_list_of, b_is_list_of⟩ := H_is_list_of.ex
  obtain ⟨fd_is_tuple_of, G_is_tuple_of, b_is_tuple_of⟩ := H_is_tuple_of.ex
  obtain ⟨fd_is_name, G_is_name, b_is_name⟩ := H_is_name.ex
  obtain ⟨fd_is_kind, G_is_kind, b_is_kind⟩ := H_is_kind.ex
  refine ⟨⟨fd, F.ok sc_are_named_kinds (fun vs H Q E h => ?_) (fun cdv A outer s H vs Q E hr h => ?_), F.bindsN fun _ _ _ _ _ _ us hl => match us, hl with | [_, _], _ => rfl⟩, F.kp, T.g_are_named_kinds⟩
  · obtain ⟨a, ps, ns, m, rfl, ha, hp, hN, hnd, hm, h100, k⟩ := h; rfl
  · obtain ⟨a, ps, ns, m, rfl, ha, hp, hN, hnd, hm, h100, k⟩ := h
    have hr_is_list_of : Room 1 _ := hr.mono (by decide)
    have hr_is_tuple_of : Room 1 _ := hr.mono (by decide)
    have hr_is_name : Room 1 _ := hr.mono (by decide)
    have hr_is_kind : Room 1 _ := hr.mono (by decide)
    have hu := hu_of hr
    refine ⟨_, PSs.nox (pss_cons (ps_if (pt_not (pt_val (pe_call G_is_list_of hr_is_list_of (by rfl) H_is_list_of.gl H_is_list_of.kp b_is_list_of .nil pass0 (pa_cons (pv 0) (pa_cons pe_int (pa_cons (pv 1) pa_nil)))))) (pss_one (ps_ret pe_bl)) pss_nil)
      (pss_cons (ps_set (i := 2) sc_are_named_kinds.nd rfl (Or.inl rfl) pe_dnewK)
      (pss_cons (ps_for PassesOwn.never rfl (pi_list (pv 0)) (pg_name (i := 3) sc_are_named_kinds.nd rfl (Or.inl rfl))
      (pss_cons (ps_if (PW.pt (pw_or (pt_not (pt_val (pe_call G_is_tuple_of hr_is_tuple_of (by rfl) H_is_tuple_of.gl H_is_tuple_of.kp b_is_tuple_of .nil pass0 (pa_cons (pv 3) (pa_cons pe_int pa_nil))))) (pw_or (pt_not (pt_val (pe_call G_is_name hr_is_name (by rfl) H_is_name.gl H_is_name.kp b_is_name .nil pass0 (pa_cons (pe_ix ix_tup (pv 3) pe_int (fun _ _ => rfl)) pa_nil)))) (pw_or1 (pt_not (pt_val (pe_call G_is_kind hr_is_kind (by rfl) H_is_kind.gl H_is_kind.kp b_is_kind .nil pass0 (pa_cons (pe_ix ix_tup (pv 3) pe_int (fun _ _ => rfl)) pa_nil)))))))) (pss_one (ps_ret pe_bl)) pss_nil)
      (pss_cons (ps_if (pt_cmp (pc_din hu (pe_ix ix_tup (pv 3) pe_int (fun _ _ => rfl)) (pv 2))) (pss_one (ps_ret pe_bl)) pss_nil)
      (pss_one (ps_dput hu (pv 2) (pe_ix ix_tup (pv 3) pe_int (fun _ _ => rfl)) pe_bl rfl)))))
      (pss_one (ps_ret pe_bl))))), ?_⟩
    have hlp : (ps.map V.ref).length = ns.length := by rw [List.length_map, hp.len]
    refine ⟨_, rfl, _, rfl, a, ps.map V.ref, 0, m, rfl, ha, by omega, by rw [hlp]; exact hm, _, rfl, iteF ?_⟩
    intro d hd
    have s1 : Same H (upd H d (.dK [])) := Same.new hd
    refine ⟨_, rfl, a, rfl, ⟨_, SqL.of (s1 _ _ ha)⟩, ?_⟩
    refine for_it (walk_list (K := K) (a := a) (xs := ps.map V.ref)) (fun i σ H1 => ∃ v : Option V, σ = [some (.ref a), some (.int m), some (.ref d), v] ∧ Same H H1 ∧ H1 d = some (.dK (kvT (ns.take i) fun _ => .bl true))) ⟨none, rfl, s1, upd_same⟩ (fun i σ H1 _ ⟨v, _, s2, _⟩ => SqL.of (s2 _ _ ha)) ?_ ?_
    · rintro i y σ H1 H2 hi ⟨v, rfl, s2, h2⟩ ⟨rfl, hy⟩
      obtain ⟨p, x, rfl, hpi, hni, hpt⟩ := hp.get hy
      have hx := s2 _ _ hpt
      have hnot := not_in_take hnd hni
      refine ⟨_, rfl, p, _, 2, rfl, hx, rfl, _, rfl, ?_⟩
      refine iteF ⟨_, rfl, _, _, _, _, rfl, rfl, SqT.of hx, at0, x, rfl, hN x (List.mem_of_getElem? hni), fun H3 s3 => ⟨_, rfl, iteF ?_⟩⟩
      have hx3 := s3 _ _ hx
      refine ⟨_, rfl, _, _, _, _, rfl, rfl, SqT.of hx3, at1, rfl, _, rfl, iteF ?_⟩
      have h3 := s3 _ _ h2
      refine ⟨_, rfl, _, _, _, _, rfl, rfl, SqT.of hx3, at0, _, rfl, d, _, rfl, DGet.k (k := Sum.inr x) h3, _, rfl, ?_⟩
      refine ifF (by rw [valV_kvT hnot]; rfl) ?_
      refine ⟨_, rfl, _, rfl, _, _, _, _, rfl, rfl, SqT.of hx3, at0, d, _, rfl, DPut.k (k := Sum.inr x) h3 (small1000 ?_), ?_⟩
      · unfold kvT
        rw [List.length_map, List.length_take]
        omega
      · refine ⟨_, rfl, Same.mut (s2.trans s3) hd, ?_⟩
        rw [upd_same, take_snoc hni]
        exact congrArg (fun l => some (HO.dK l)) (putK_kvT hnot)
    · rintro σ H1 ⟨v, rfl, s2, h2⟩
      exact k _ s2

end
end W17
set_option Elab.async false
set_option linter.all false
set_option maxRecDepth 100000
set_option maxHeartbeats 4000000
namespace W17
open PySem PySem.Spec PyProof.Rows L2 RZ
theorem walk_zipT {K : PySem.W.Frag} {a b : Addr} {xs ys : List V} {n : Nat} (hn : n = min xs.length ys.length) : Walk (ItzT K a b) n (fun H => SqT K H a xs ∧ SqT K H b ys) (YPair (fun i => xs[i]?) (fun i => ys[i]?)) := by
  subst hn
  refine ⟨fun i _ hi q => ?_, fun _ q => ⟨xs, ys, q.1, q.2, by omega⟩, fun i H v H' _ q y => ?_⟩
  · have h1 : i < xs.length := by omega
    have h2 : i < ys.length := by omega
    exact ⟨xs, ys, xs[i], ys[i], q.1, q.2, by simp [h1], by simp [h2]⟩
  · obtain ⟨T, x, z, h1, h2, h3, h4, h5⟩ := y
    exact ⟨T, x, z, h1, h2, h3, h4 xs q.1, h5 ys q.2⟩
/-! ### rows of a source, all words -/
inductive Rx where
  | num (x : Str) (n : Int) | nil (x : Str) | copy (x y : Str) | bin (k : Fin 4) (x y z : Str) | same (x y z : Str) | new (x c : Str) | get (x y f : Str) | put (x f y : Str) | call (x F : Str) (as : List Str) | see (x : Str) | ifz (x : Str) (r : Nat) | jump (r : Nat) | ret (x : Str)
def binW : Fin 4 → Str
  | 0 => "add" | 1 => "sub" | 2 => "times" | 3 => "less"
def Rx.word : Rx → Str
  | .num _ _ => "number" | .nil _ => "nil" | .copy _ _ => "copy" | .bin k _ _ _ => binW k | .same _ _ _ => "same" | .new _ _ => "new" | .get _ _ _ => "get" | .put _ _ _ => "put" | .call _ _ _ => "call" | .see _ => "see" | .ifz _ _ => "if" | .jump _ => "jump" | .ret _ => "return"
def Rx.roles : Rx → List Str
  | .num _ _ => ["sets", "number"] | .nil _ => ["sets"] | .copy _ _ => ["sets", "reads"] | .bin _ _ _ _ => ["sets", "reads", "reads"] | .same _ _ _ => ["sets", "reads", "reads"] | .new _ _ => ["sets", "class"] | .get _ _ _ => ["sets", "reads", "field"] | .put _ _ _ => ["reads", "field", "reads"]
  | .call _ _ _ => ["sets", "function", "many"] | .see _ => ["reads"] | .ifz _ _ => ["reads", "row"] | .jump _ => ["row"] | .ret _ => ["reads"]
/-- its parts; l stands for the list of a call -/
def Rx.parts (l : V) : Rx → List V
  | .num x n => [.str x, .int n] | .nil x => [.str x] | .copy x y => [.str x, .str y] | .bin _ x y z => [.str x, .str y, .str z] | .same x y z => [.str x, .str y, .str z] | .new x c => [.str x, .str c] | .get x y f => [.str x, .str y, .str f] | .put x f y => [.str x, .str f, .str y]
  | .call x F _ => [.str x, .str F, l] | .see x => [.str x] | .ifz x r => [.str x, .int r] | .jump r => [.int r] | .ret x => [.str x]
def Rx.sets : Rx → Option Str
  | .num x _ => some x | .nil x => some x | .copy x _ => some x | .bin _ x _ _ => some x | .same x _ _ => some x | .new x _ => some x | .get x _ _ => some x | .call x _ _ => some x | _ => none
def Rx.reads : Rx → List Str
  | .copy _ y => [y] | .bin _ _ y z => [y, z] | .same _ y z => [y, z] | .get _ y _ => [y] | .put x _ y => [x, y] | .call _ _ as => as | .see x => [x] | .ifz x _ => [x] | .ret x => [x] | _ => []
def Rx.goal : Rx → Option Nat
  | .ifz _ r => some r | .jump r => some r | _ => none
def Rx.args : Rx → Option (List Str)
  | .call _ _ as => some as | _ => none
theorem rx_roles_mem (r : Rx) : (r.word, r.roles) ∈ roles := by
  cases r with
  | bin k x y z =>
    have key : ∀ k : Fin 4, (binW k, (["sets", "reads", "reads"] : List Str)) ∈ roles := by decide +kernel
    exact key k
  | _ => unfold roles; simp [Rx.word, Rx.roles]
theorem Rx.lens (r : Rx) (l : V) : r.roles.length = (r.parts l).length := by cases r <;> rfl
/-- a row as it is handed in (a call with a list), or as it is kept (with a tuple) -/
def RowAt (kept : Bool) (H : Hp) (a : Addr) (r : Rx) : Prop := ∃ l : Addr, H a = some (.tup (.str r.word :: r.parts (.ref l))) ∧ ∀ as, r.args = some as → H l = some (if kept = true then .tup (as.map V.str) else .lst (as.map V.str))
theorem RowAt.mono {kept : Bool} {H H' : Hp} {a : Addr} {r : Rx} (h : RowAt kept H a r) (e : Same H H') : RowAt kept H' a r := by
  obtain ⟨l, h1, h2⟩ := h
  exact ⟨l, e _ _ h1, fun as q => e _ _ (h2 as q)⟩
/-- what a source tells of names: the kinds of fields, the classes, functions (kinds of parameters, kind of the result) -/
structure Sig where
  classes : List Str
  fields : List (Str × Str)
  funs : List (Str × List Str × Str)
/-- a row that is right by itself -/
def Rx.form (S : Sig) : Rx → Prop
  | .num x n => Nam x ∧ -1000000000 ≤ n ∧ n ≤ 1000000000 | .nil x => Nam x | .copy x y => Nam x ∧ Nam y | .bin _ x y z => Nam x ∧ Nam y ∧ Nam z | .same x y z => Nam x ∧ Nam y ∧ Nam z | .new x c => Nam x ∧ c ∈ S.classes
  | .get x y f => Nam x ∧ Nam y ∧ (S.fields.lookup f).isSome = true | .put x f y => Nam x ∧ (S.fields.lookup f).isSome = true ∧ Nam y | .call x F as => Nam x ∧ (S.funs.lookup F).isSome = true ∧ ∀ y ∈ as, Nam y
  | .see x => Nam x | .ifz x _ => Nam x | .jump _ => True | .ret x => Nam x
/-- .. and of the right kinds -/
def Rx.kinds (S : Sig) (kd : Str → Option Str) (res : Str) : Rx → Prop
  | .num x _ => kd x = some "number" | .nil x => kd x = some "object" | .copy x y => (kd x).isSome = true ∧ kd x = kd y | .bin _ x y z => kd x = some "number" ∧ kd y = some "number" ∧ kd z = some "number" | .same x y z => kd x = some "number" ∧ (kd y).isSome = true ∧ kd y = kd z | .new x _ => kd x = some "object"
  | .get x y f => kd y = some "object" ∧ (kd x).isSome = true ∧ kd x = S.fields.lookup f | .put x f y => kd x = some "object" ∧ (kd y).isSome = true ∧ kd y = S.fields.lookup f
  | .call x F as => ∃ ps q, S.funs.lookup F = some (ps, q) ∧ as.map kd = ps.map some ∧ kd x = some q
  | .see x => (kd x).isSome = true | .ifz x _ => kd x = some "number" | .jump _ => True | .ret x => kd x = some res
end W17
set_option Elab.async false
set_option linter.all false
set_option maxRecDepth 100000
set_option maxHeartbeats 4000000
namespace W17
open PySem PySem.Spec PyProof.Rows L2 RZ
section
variable {P : Program} {w : World} {K : PySem.W.Frag} {mg : Str → Option Value} {base : Heap}

/-- a Source while it is made, or made: its dicts -/
structure SrcG (K : PySem.W.Frag) (H : Hp) (p dx df dk du : Addr) (fs : List (Str × V)) (cs ks us : List (Key × V)) : Prop where
  ob : H p = some (.ins (He.ga K "Source") dx fs)
  f1 : fs.lookup ("_fields" : Str) = some (.ref df)
  f2 : fs.lookup ("_field_kinds" : Str) = some (.ref dk)
  f3 : fs.lookup ("_functions" : Str) = some (.ref du)
  nm : ∀ m ∈ (["function_at", "fields_of", "field_kind", "_take_rows", "_is_row_of", "_kinds_differ", "_take_classes", "_take_heads", "classes", "functions"] : List Str), fs.lookup m = none
  d1 : H df = some (.dK cs)
  d2 : H dk = some (.dK ks)
  d3 : H du = some (.dK us)
theorem SrcG.mono {H H' : Hp} {p dx df dk du : Addr} {fs : List (Str × V)} {cs ks us : List (Key × V)} (h : SrcG K H p dx df dk du fs cs ks us) (e : Same H H') : SrcG K H' p dx df dk du fs cs ks us := ⟨e _ _ h.ob, h.f1, h.f2, h.f3, h.nm, e _ _ h.d1, e _ _ h.d2, e _ _ h.d3⟩
def SrcH (K : PySem.W.Frag) (H : Hp) (p : Addr) (cs ks us : List (Key × V)) : Prop := ∃ dx df dk du fs, SrcG K H p dx df dk du fs cs ks us
theorem SrcH.mono {H H' : Hp} {p : Addr} {cs ks us : List (Key × V)} (h : SrcH K H p cs ks us) (e : Same H H') : SrcH K H' p cs ks us := by
  obtain ⟨dx, df, dk, du, fs, q⟩ := h
  exact ⟨dx, df, dk, du, fs, q.mono e⟩
def spFieldsOf (K : PySem.W.Frag) : Sp := fun vs H Q _ => ∃ p cs ks us x v, vs = [.ref p, .str x] ∧ SrcH K H p cs ks us ∧ valV cs (Sum.inr x : Key) = some v ∧ Q v H
def spFieldKind (K : PySem.W.Frag) : Sp := fun vs H Q _ => ∃ p cs ks us x v, vs = [.ref p, .str x] ∧ SrcH K H p cs ks us ∧ valV ks (Sum.inr x : Key) = some v ∧ Q v H
def spFunAt (K : PySem.W.Frag) : Sp := fun vs H Q _ => ∃ p cs ks us x v, vs = [.ref p, .str x] ∧ SrcH K H p cs ks us ∧ valV us (Sum.inr x : Key) = some v ∧ Q v H
def spNames : Sp := fun vs H Q _ => ∃ (a : Addr) (ns : List Str), vs = [.ref a] ∧ H a = some (.lst (ns.map V.str)) ∧ (∀ x ∈ ns, Nam x) ∧ ns.length ≤ 1000 ∧ ∀ H', Same H H' → Q (.bl true) H' 
theorem sc_Source_fields_of : FnScope ["self", "name"] ["self", "name"] (defScope s_Source_fields_of) := ⟨rfl, rfl, rfl, by decide +kernel, rfl, by decide +kernel, by decide +kernel⟩
theorem ok_Source_fields_of (T : Ctx w K mg) : HasM P w K mg base 1 "Source" "fields_of" ["self", "name"] (spFieldsOf K) := by
  obtain ⟨fd, F⟩ := T.D_Source_fields_of
  refine ⟨⟨fd, F.ok sc_Source_fields_of (fun vs H Q E h => ?_) (fun cdv A outer s H vs Q E hr h => ?_), F.bindsN fun _ _ _ _ _ _ us hl => match us, hl with | [_, _], _ => rfl⟩⟩
  · obtain ⟨p, cs, ks, us, x, v, rfl, S0, hv, k⟩ := h; rfl
  · obtain ⟨p, cs, ks, us, x, v, rfl, S0, hv, k⟩ := h
    have hu := hu_of hr
    refine ⟨_, PSs.nox (pss_one (ps_ret (pe_ifExp (pt_val (pe_callB call_isi (by rfl) T.f_isinstance (by decide +kernel) (pa_cons (pv 1) (pa_cons (pe_bltn (v := .ty "str") (u := .type "str") rfl T.f_str (by decide +kernel) rfl) pa_nil)))) (pe_dget1 hu (pe_fldK (K := K) rfl (pv 0) (by rfl)) (pv 1) ⟨rfl, rfl, rfl, rfl⟩) pe_non))), ?_⟩
    obtain ⟨dx, df, dk, du, fs, S⟩ := S0
    refine ⟨_, rfl, _, _, _, _, true, rfl, .ty _, .base (.str _), kit_ty (by decide +kernel), true, rfl, iteT ?_⟩
    refine ⟨_, rfl, p, _, dx, fs, _, rfl, S.ob, T.c_Source, T.n_Source_fields, S.f1, df, rfl, .inl ⟨_, .inl S.d1⟩, _, rfl, _, DGet.k (k := Sum.inr x) S.d1, ?_⟩
    rw [hv]
    exact k
theorem sc_Source_field_kind : FnScope ["self", "name"] ["self", "name"] (defScope s_Source_field_kind) := ⟨rfl, rfl, rfl, by decide +kernel, rfl, by decide +kernel, by decide +kernel⟩
theorem ok_Source_field_kind (T : Ctx w K mg) : HasM P w K mg base 1 "Source" "field_kind" ["self", "name"] (spFieldKind K) := by
  obtain ⟨fd, F⟩ := T.D_Source_field_kind
  refine ⟨⟨fd, F.ok sc_Source_field_kind (fun vs H Q E h => ?_) (fun cdv A outer s H vs Q E hr h => ?_), F.bindsN fun _ _ _ _ _ _ us hl => match us, hl with | [_, _], _ => rfl⟩⟩
  · obtain ⟨p, cs, ks, us, x, v, rfl, S0, hv, k⟩ := h; rfl
  · obtain ⟨p, cs, ks, us, x, v, rfl, S0, hv, k⟩ := h
    have hu := hu_of hr
    refine ⟨_, PSs.nox (pss_one (ps_ret (pe_ifExp (pt_val (pe_callB call_isi (by rfl) T.f_isinstance (by decide +kernel) (pa_cons (pv 1) (pa_cons (pe_bltn (v := .ty "str") (u := .type "str") rfl T.f_str (by decide +kernel) rfl) pa_nil)))) (pe_dget1 hu (pe_fldK (K := K) rfl (pv 0) (by rfl)) (pv 1) ⟨rfl, rfl, rfl, rfl⟩) pe_non))), ?_⟩
    obtain ⟨dx, df, dk, du, fs, S⟩ := S0
    refine ⟨_, rfl, _, _, _, _, true, rfl, .ty _, .base (.str _), kit_ty (by decide +kernel), true, rfl, iteT ?_⟩
    refine ⟨_, rfl, p, _, dx, fs, _, rfl, S.ob, T.c_Source, T.n_Source_field_kinds, S.f2, dk, rfl, .inl ⟨_, .inl S.d2⟩, _, rfl, _, DGet.k (k := Sum.inr x) S.d2, ?_⟩
    rw [hv]
    exact k
theorem sc_Source_function_at : FnScope ["self", "name"] ["self", "name"] (defScope s_Source_function_at) := ⟨rfl, rfl, rfl, by decide +kernel, rfl, by decide +kernel, by decide +kernel⟩
theorem ok_Source_function_at (T : Ctx w K mg) : HasM P w K mg base 1 "Source" "function_at" ["self", "name"] (spFunAt K) := by
  obtain ⟨fd, F⟩ := T.D_Source_function_at
  refine ⟨⟨fd, F.ok sc_Source_function_at (fun vs H Q E h => ?_) (fun cdv A outer s H vs Q E hr h => ?_), F.bindsN fun _ _ _ _ _ _ us hl => match us, hl with | [_, _], _ => rfl⟩⟩
  · obtain ⟨p, cs, ks, us, x, v, rfl, S0, hv, k⟩ := h; rfl
  · obtain ⟨p, cs, ks, us, x, v, rfl, S0, hv, k⟩ := h
    have hu := hu_of hr
    refine ⟨_, PSs.nox (pss_one (ps_ret (pe_ifExp (pt_val (pe_callB call_isi (by rfl) T.f_isinstance (by decide +kernel) (pa_cons (pv 1) (pa_cons (pe_bltn (v := .ty "str") (u := .type "str") rfl T.f_str (by decide +kernel) rfl) pa_nil)))) (pe_dget1 hu (pe_fldK (K := K) rfl (pv 0) (by rfl)) (pv 1) ⟨rfl, rfl, rfl, rfl⟩) pe_non))), ?_⟩
    obtain ⟨dx, df, dk, du, fs, S⟩ := S0
    refine ⟨_, rfl, _, _, _, _, true, rfl, .ty _, .base (.str _), kit_ty (by decide +kernel), true, rfl, iteT ?_⟩
    refine ⟨_, rfl, p, _, dx, fs, _, rfl, S.ob, T.c_Source, T.n_Source_functions, S.f3, du, rfl, .inl ⟨_, .inl S.d3⟩, _, rfl, _, DGet.k (k := Sum.inr x) S.d3, ?_⟩
    rw [hv]
    exact k
theorem sc_is_list_of_names : FnScope ["thing", "part"] ["thing"] (defScope s_is_list_of_names) := ⟨rfl, rfl, rfl, by decide +kernel, rfl, by decide +kernel, by decide +kernel⟩
theorem ok_is_list_of_names (T : Ctx w K mg) (H_is_name : Has P w K mg base 1 "is_name" ["thing"] spName) : Has P w K mg base 2 "is_list_of_names" ["thing"] spNames := by
  obtain ⟨fd, F⟩ := T.D_is_list_of_names
  obtain ⟨fd_is_name, G_is_name, b_is_name⟩ := H_is_name.ex
  refine ⟨⟨fd, F.ok sc_is_list_of_names (fun vs H Q E h => ?_) (fun cdv A outer s H vs Q E hr h => ?_), F.bindsN fun _ _ _ _ _ _ us hl => match us, hl with | [_], _ => rfl⟩, F.kp, T.g_is_list_of_names⟩
  · obtain ⟨a, ns, rfl, ha, hN, hl, k⟩ := h; rfl
  · obtain ⟨a, ns, rfl, ha, hN, hl, k⟩ := h
    have hr_is_name : Room 1 _ := hr.mono (by decide)
    have hu := hu_of hr
    refine ⟨_, PSs.nox (pss_one (ps_ret (pe_and (pe_callB call_isi (by rfl) T.f_isinstance (by decide +kernel) (pa_cons (pv 0) (pa_cons (pe_bltn (v := .ty "list") (u := .type "list") rfl T.f_list (by decide +kernel) rfl) pa_nil))) (pe_one (pe_callB (cr_all rfl) (by rfl) T.f_all (by decide +kernel) (pa_cons (pe_lc (own := [("part", 1)]) (g := gName 1) (tt := tYes) rfl sc_is_list_of_names.nd (pi_list (pv 0)) (blkOk_by (N := ["thing", "part"]) (sc := defScope s_is_list_of_names) (by decide +kernel)) (fun _ _ _ _ _ => (pg_name (i := 1) sc_is_list_of_names.nd rfl (Or.inl rfl))) (fun _ _ _ _ _ => pts_nil) (fun _ _ _ _ _ => (pe_call G_is_name hr_is_name (by rfl) H_is_name.gl H_is_name.kp b_is_name .nil pass0 (pa_cons (pv 1) pa_nil)))) pa_nil)))))), ?_⟩
    refine ⟨_, rfl, _, _, _, _, true, rfl, .ty _, .base (.lst ha), kit_ty (by decide +kernel), true, rfl, iteT ?_⟩
    refine ⟨_, rfl, a, rfl, ⟨_, SqL.of ha⟩, fun D hD => ?_⟩
    refine lc_pure (walk_list (K := K) (a := a) (xs := ns.map V.str)) hD (fun _ => .bl true) (by rw [List.length_map]; omega) (fun H1 s1 => SqL.of (s1 _ _ ha)) (fun i H1 y H2 hi s1 hy Qe qe => ?_) (fun H1 s1 h1 => ?_)
    · obtain ⟨rfl, hy⟩ := hy
      rw [List.getElem?_map] at hy
      cases e : ns[i]? with
      | none => rw [e] at hy; cases hy
      | some x =>
        rw [e] at hy
        obtain rfl := Option.some.inj hy
        exact ⟨rfl, _, rfl, x, rfl, hN x (List.mem_of_getElem? e), fun H' s' => qe H' s'⟩
    · exact ⟨D, (List.range (ns.map V.str).length).map (fun _ => true), rfl, SqL.of (by rw [h1, List.map_map]; rfl), qT all_true (k _ s1)⟩

end
end W17
set_option Elab.async false
set_option linter.all false
set_option maxRecDepth 100000
set_option maxHeartbeats 4000000
namespace W17
open PySem PySem.Spec PyProof.Rows L2 RZ
section
variable {P : Program} {w : World} {K : PySem.W.Frag} {mg : Str → Option Value} {base : Heap}

theorem slice1 {x : V} {xs : List V} : cutV (x :: xs) (some 1) none = xs ∧ ¬ (HT.sIx (x :: xs).length 0 (some 1) = 0 ∧ HT.sIx (x :: xs).length (x :: xs).length none = (x :: xs).length) := by
  have e1 : HT.sIx (x :: xs).length 0 (some 1) = 1 := by
    unfold HT.sIx
    simp
    try omega
  have e2 : HT.sIx (x :: xs).length (x :: xs).length none = (x :: xs).length := by
    unfold HT.sIx
    rfl
  refine ⟨?_, fun h => by rw [e1] at h; omega⟩
  unfold cutV
  rw [e1, e2]
  simp
theorem map_get {α : Type} {f : α → V} {l : List α} {i : Nat} {y : V} (h : (l.map f)[i]? = some y) : ∃ x, l[i]? = some x ∧ f x = y := by
  rw [List.getElem?_map] at h
  cases e : l[i]? with
  | none =>
    rw [e] at h
    cases h
  | some x =>
    rw [e] at h
    exact ⟨x, rfl, Option.some.inj h⟩
theorem Ctx.roleK (T : Ctx w K mg) {x : Str} {rs : List Str} (m : (x, rs) ∈ roles) : KDct K w (He.ga K "ROLES") x (.ref (rolA K x)) := by
  obtain ⟨es, n, D⟩ := T.rolesD
  exact ⟨es, n, _, D.at_, D.lit, (T.role m (fun _ => none)).1, rfl⟩
/-- what fills a role, in a source with these dicts -/
inductive FitsG (H : Hp) (cs ks us : List (Key × V)) : Str → V → Prop where
  | sets {x : Str} (h : Nam x) : FitsG H cs ks us "sets" (.str x)
  | reads {x : Str} (h : Nam x) : FitsG H cs ks us "reads" (.str x)
  | num {i : Int} (h1 : -1000000000 ≤ i) (h2 : i ≤ 1000000000) : FitsG H cs ks us "number" (.int i)
  | cls {x : Str} {v : V} (h : valV cs (Sum.inr x : Key) = some v) (n : v ≠ .non) : FitsG H cs ks us "class" (.str x)
  | fld {x : Str} {v : V} (h : valV ks (Sum.inr x : Key) = some v) (n : v ≠ .non) : FitsG H cs ks us "field" (.str x)
  | fn {x : Str} {v : V} (h : valV us (Sum.inr x : Key) = some v) (n : v ≠ .non) : FitsG H cs ks us "function" (.str x)
  | many {a : Addr} {ns : List Str} (h : H a = some (.lst (ns.map V.str))) (hN : ∀ x ∈ ns, Nam x) (hl : ns.length ≤ 1000) : FitsG H cs ks us "many" (.ref a)
  | row (i : Int) : FitsG H cs ks us "row" (.int i)
theorem FitsG.mono {H H' : Hp} {cs ks us : List (Key × V)} {x : Str} {v : V} (h : FitsG H cs ks us x v) (e : Same H H') : FitsG H' cs ks us x v := by
  cases h with
  | sets h => exact .sets h
  | reads h => exact .reads h
  | num h1 h2 => exact .num h1 h2
  | cls h n => exact .cls h n
  | fld h n => exact .fld h n
  | fn h n => exact .fn h n
  | many h a b => exact .many (e _ _ h) a b
  | row i => exact .row i
theorem notnone {v : V} (n : v ≠ .non) : (!decide (v = V.non)) = true := by
  rw [decide_eq_false n]
  rfl
def spFillsG (K : PySem.W.Frag) : Sp := fun vs H Q _ => ∃ p cs ks us role part, vs = [.ref p, .str role, part] ∧ SrcH K H p cs ks us ∧ FitsG H cs ks us role part ∧ ∀ H', Same H H' → Q (.bl true) H'
/-- a row that is handed in, right by itself in a source with these dicts -/
def FormG (H : Hp) (cs ks us : List (Key × V)) (l : V) (r : Rx) : Prop := ∀ (i : Nat) x v, r.roles[i]? = some x → (r.parts l)[i]? = some v → FitsG H cs ks us x v
def spIsRowG (K : PySem.W.Frag) : Sp := fun vs H Q _ => ∃ (p : Addr) (cs ks us : List (Key × V)) (a : Addr) (l : V) (r : Rx), vs = [.ref p, .ref a, .ref (He.ga K "ROW_WORDS")] ∧ SrcH K H p cs ks us ∧ H a = some (.tup (.str r.word :: r.parts l)) ∧ FormG H cs ks us l r ∧ ∀ H', Same H H' → Q (.bl true) H'
def oS : Option Str → V
  | some k => .str k
  | none => .non
def spSetsG : Sp := fun vs H Q _ => ∃ (a : Addr) (l : V) (r : Rx), vs = [.ref a] ∧ H a = some (.tup (.str r.word :: r.parts l)) ∧ Q (oS r.sets) H
theorem sc_fills : FnScope ["source", "role", "part"] ["source", "role", "part"] (defScope s_fills) := ⟨rfl, rfl, rfl, by decide +kernel, rfl, by decide +kernel, by decide +kernel⟩
theorem ok_fills (T : Ctx w K mg) (H_is_name : Has P w K mg base 1 "is_name" ["thing"] spName) (H_is_written_number : Has P w K mg base 3 "is_written_number" ["thing"] spWritten) (H_is_integer : Has P w K mg base 1 "is_integer" ["thing"] spIsInt) (H_Source_fields_of : HasM P w K mg base 1 "Source" "fields_of" ["self", "name"] (spFieldsOf K)) (H_Source_field_kind : HasM P w K mg base 1 "Source" "field_kind" ["self", "name"] (spFieldKind K)) (H_Source_function_at : HasM P w K mg base 1 "Source" "function_at" ["self", "name"] (spFunAt K)) (H_is_list_of_names : Has P w K mg base 2 "is_list_of_names" ["thing"] spNames) : Has P w K mg base 4 "_fills" ["source", "role", "part"] (spFillsG K) := by
  obtain ⟨fd, F⟩ := T.D_fills
  obtain ⟨fd_is_name, G_is_name, b_is_name⟩ := H_is_name.ex
  obtain ⟨fd_is_written_number, G_is_written_number, b_is_written_number⟩ := H_is_written_number.ex
  obtain ⟨fd_is_integer, G_is_integer, b_is_integer⟩ := H_is_integer.ex
  obtain ⟨fd_Source_fields_of, G_Source_fields_of, b_Source_fields_of⟩ := H_Source_fields_of.ex
  obtain ⟨fd_Source_field_kind, G_Source_field_kind, b_Source_field_kind⟩ := H_Source_field_kind.ex
  obtain ⟨fd_Source_function_at, G_Source_function_at, b_Source_function_at⟩ := H_Source_function_at.ex
  obtain ⟨fd_is_list_of_names, G_is_list_of_names, b_is_list_of_names⟩ := H_is_list_of_names.ex
  refine ⟨⟨fd, F.ok sc_fills (fun vs H Q E h => ?_) (fun cdv A outer s H vs Q E hr h => ?_), F.bindsN fun _ _ _ _ _ _ us hl => match us, hl with | [_, _, _], _ => rfl⟩, F.kp, T.g_fills⟩
  · obtain ⟨p, cs, ks, us, role, part, rfl, S0, F0, k⟩ := h; rfl
  · obtain ⟨p, cs, ks, us, role, part, rfl, S0, F0, k⟩ := h
    have hr_is_name : Room 1 _ := hr.mono (by decide)
    have hr_is_written_number : Room 3 _ := hr.mono (by decide)
    have hr_is_integer : Room 1 _ := hr.mono (by decide)
    have hr_Source_fields_of : Room 1 _ := hr.mono (by decide)
    have hr_Source_field_kind : Room 1 _ := hr.mono (by decide)
    have hr_Source_function_at : Room 1 _ := hr.mono (by decide)
    have hr_is_list_of_names : Room 2 _ := hr.mono (by decide)
    have hu := hu_of hr
    refine ⟨_, PSs.nox (pss_cons (ps_if (pt_cmpR op_in_seq (pv 1) (pe_tup (pa_cons pe_str (pa_cons pe_str pa_nil))) rfl) (pss_one (ps_ret (pe_call G_is_name hr_is_name (by rfl) H_is_name.gl H_is_name.kp b_is_name .nil pass0 (pa_cons (pv 2) pa_nil)))) pss_nil)
      (pss_cons (ps_if (pt_cmpR op_eq (pv 1) pe_str (nomark _)) (pss_one (ps_ret (pe_call G_is_written_number hr_is_written_number (by rfl) H_is_written_number.gl H_is_written_number.kp b_is_written_number .nil pass0 (pa_cons (pv 2) pa_nil)))) pss_nil)
      (pss_cons (ps_if (pt_cmpR op_eq (pv 1) pe_str (nomark _)) (pss_one (ps_ret (pe_cmpR op_notN (pe_meth (pv 0) T.c_Source T.m_Source_fields_of G_Source_fields_of hr_Source_fields_of b_Source_fields_of .nil pass0 (pa_cons (pv 2) pa_nil)) pe_non (nomark _)))) pss_nil)
      (pss_cons (ps_if (pt_cmpR op_eq (pv 1) pe_str (nomark _)) (pss_one (ps_ret (pe_cmpR op_notN (pe_meth (pv 0) T.c_Source T.m_Source_field_kind G_Source_field_kind hr_Source_field_kind b_Source_field_kind .nil pass0 (pa_cons (pv 2) pa_nil)) pe_non (nomark _)))) pss_nil)
      (pss_cons (ps_if (pt_cmpR op_eq (pv 1) pe_str (nomark _)) (pss_one (ps_ret (pe_cmpR op_notN (pe_meth (pv 0) T.c_Source T.m_Source_function_at G_Source_function_at hr_Source_function_at b_Source_function_at .nil pass0 (pa_cons (pv 2) pa_nil)) pe_non (nomark _)))) pss_nil)
      (pss_cons (ps_if (pt_cmpR op_eq (pv 1) pe_str (nomark _)) (pss_one (ps_ret (pe_call G_is_list_of_names hr_is_list_of_names (by rfl) H_is_list_of_names.gl H_is_list_of_names.kp b_is_list_of_names .nil pass0 (pa_cons (pv 2) pa_nil)))) pss_nil)
      (pss_cons (ps_if (pt_cmpR op_eq (pv 1) pe_str (nomark _)) (pss_one (ps_ret (pe_call G_is_integer hr_is_integer (by rfl) H_is_integer.gl H_is_integer.kp b_is_integer .nil pass0 (pa_cons (pv 2) pa_nil)))) pss_nil)
      (pss_one ps_never)))))))), ?_⟩
    obtain ⟨dx, df, dk, du, fs, S⟩ := id S0
    refine ⟨_, rfl, sz_of (by decide), fun t ht => ⟨t, _, rfl, .inr (SqT.of upd_same), rfl, rfl, ?_⟩⟩
    have s1 : Same H (upd H t (.tup [.str "sets", .str "reads"])) := Same.new ht
    cases F0 with
    | sets h => exact ⟨_, rfl, ifT rfl ⟨_, rfl, _, rfl, h, fun H' s' => k H' (s1.trans s')⟩⟩
    | reads h => exact ⟨_, rfl, ifT rfl ⟨_, rfl, _, rfl, h, fun H' s' => k H' (s1.trans s')⟩⟩
    | num h1 h2 => exact ⟨_, rfl, ifF rfl ⟨_, rfl, rfl, _, rfl, ifT rfl ⟨_, rfl, _, rfl, h1, h2, k _ s1⟩⟩⟩
    | cls h n => exact ⟨_, rfl, ifF rfl ⟨_, rfl, rfl, _, rfl, ifF rfl ⟨_, rfl, rfl, _, rfl, ifT rfl ⟨_, rfl, p, dx, fs, rfl, s1 _ _ S.ob, S.nm _ (by decide +kernel), _, rfl, p, cs, ks, us, _, _, rfl, S0.mono s1, h, rfl, qT (notnone n) (k _ s1)⟩⟩⟩⟩
    | fld h n => exact ⟨_, rfl, ifF rfl ⟨_, rfl, rfl, _, rfl, ifF rfl ⟨_, rfl, rfl, _, rfl, ifF rfl ⟨_, rfl, rfl, _, rfl, ifT rfl ⟨_, rfl, p, dx, fs, rfl, s1 _ _ S.ob, S.nm _ (by decide +kernel), _, rfl, p, cs, ks, us, _, _, rfl, S0.mono s1, h, rfl, qT (notnone n) (k _ s1)⟩⟩⟩⟩⟩
    | fn h n => exact ⟨_, rfl, ifF rfl ⟨_, rfl, rfl, _, rfl, ifF rfl ⟨_, rfl, rfl, _, rfl, ifF rfl ⟨_, rfl, rfl, _, rfl, ifF rfl ⟨_, rfl, rfl, _, rfl, ifT rfl ⟨_, rfl, p, dx, fs, rfl, s1 _ _ S.ob, S.nm _ (by decide +kernel), _, rfl, p, cs, ks, us, _, _, rfl, S0.mono s1, h, rfl, qT (notnone n) (k _ s1)⟩⟩⟩⟩⟩⟩
    | many h hN hl => exact ⟨_, rfl, ifF rfl ⟨_, rfl, rfl, _, rfl, ifF rfl ⟨_, rfl, rfl, _, rfl, ifF rfl ⟨_, rfl, rfl, _, rfl, ifF rfl ⟨_, rfl, rfl, _, rfl, ifF rfl ⟨_, rfl, rfl, _, rfl, ifT rfl ⟨_, rfl, _, _, rfl, s1 _ _ h, hN, hl, fun H' s' => k H' (s1.trans s')⟩⟩⟩⟩⟩⟩⟩
    | row i => exact ⟨_, rfl, ifF rfl ⟨_, rfl, rfl, _, rfl, ifF rfl ⟨_, rfl, rfl, _, rfl, ifF rfl ⟨_, rfl, rfl, _, rfl, ifF rfl ⟨_, rfl, rfl, _, rfl, ifF rfl ⟨_, rfl, rfl, _, rfl, ifF rfl ⟨_, rfl, rfl, _, rfl, ifT rfl ⟨_, rfl, i, rfl, k _ s1⟩⟩⟩⟩⟩⟩⟩⟩
theorem sc_is_row : FnScope ["source", "thing", "words", "roles", "role", "part"] ["source", "thing", "words"] (defScope s_is_row) := ⟨rfl, rfl, rfl, by decide +kernel, rfl, by decide +kernel, by decide +kernel⟩
theorem ok_is_row (T : Ctx w K mg) (H_is_word_tuple : Has P w K mg base 1 "is_word_tuple" ["thing"] spWord) (H_fills : Has P w K mg base 4 "_fills" ["source", "role", "part"] (spFillsG K)) : Has P w K mg base 5 "is_row" ["source", "thing", "words"] (spIsRowG K) := by
  obtain ⟨fd, F⟩ := T.D_is_row
  obtain ⟨fd_is_word_tuple, G_is_word_tuple, b_is_word_tuple⟩ := H_is_word_tuple.ex
  obtain ⟨fd_fills, G_fills, b_fills⟩ := H_fills.ex
  refine ⟨⟨fd, F.ok sc_is_row (fun vs H Q E h => ?_) (fun cdv A outer s H vs Q E hr h => ?_), F.bindsN fun _ _ _ _ _ _ us hl => match us, hl with | [_, _, _], _ => rfl⟩, F.kp, T.g_is_row⟩
  · obtain ⟨p, cs, ks, us, a, l, r, rfl, S0, ha, hb, k⟩ := h; rfl
  · obtain ⟨p, cs, ks, us, a, l, r, rfl, S0, ha, hb, k⟩ := h
    have hr_is_word_tuple : Room 1 _ := hr.mono (by decide)
    have hr_fills : Room 4 _ := hr.mono (by decide)
    have hu := hu_of hr
    refine ⟨_, PSs.nox (pss_cons (ps_if (PW.pt (pw_or (pt_not (pt_val (pe_call G_is_word_tuple hr_is_word_tuple (by rfl) H_is_word_tuple.gl H_is_word_tuple.kp b_is_word_tuple .nil pass0 (pa_cons (pv 1) pa_nil)))) (pw_or1 (pt_cmpR op_notIn_seq (pe_ix ix_tup (pv 1) pe_int (fun _ _ => rfl)) (pv 2) rfl)))) (pss_one (ps_ret pe_bl)) pss_nil)
      (pss_cons (ps_set (i := 3) sc_is_row.nd rfl (Or.inl rfl) (pe_ix ix_kdict (pe_glob (v := .ref (He.ga K "ROLES")) rfl T.g_ROLES rfl) (pe_ix ix_tup (pv 1) pe_int (fun _ _ => rfl)) (fun _ _ => rfl)))
      (pss_cons (ps_if (pt_cmpR op_ne (pe_callB call_len_seq (by rfl) T.f_len (by decide +kernel) (pa_cons (pv 1) pa_nil)) (pe_op op_add (pe_callB call_len_seq (by rfl) T.f_len (by decide +kernel) (pa_cons (pv 3) pa_nil)) pe_int) (nomark _)) (pss_one (ps_ret pe_bl)) pss_nil)
      (pss_one (ps_ret (pe_callB (cr_all rfl) (by rfl) T.f_all (by decide +kernel) (pa_cons (pe_lc (own := [("role", 4), ("part", 5)]) (g := gTup K 2 (gCons (gName 4) (gCons (gName 5) (gNil)))) (tt := tYes) rfl sc_is_row.nd (pi_zipA (by rfl) T.f_zip (pa_cons (pv 3) (pa_cons (pe_slice sl_tup (pv 1) (po_some pe_int) po_none) pa_nil))) (blkOk_by (N := ["source", "thing", "words", "roles", "role", "part"]) (sc := defScope s_is_row) (by decide +kernel)) (fun _ _ _ _ _ => (pg_tup rfl (pgs_cons (pg_name (i := 4) sc_is_row.nd rfl (Or.inl rfl)) (pgs_cons (pg_name (i := 5) sc_is_row.nd rfl (Or.inl rfl)) pgs_nil)))) (fun _ _ _ _ _ => pts_nil) (fun _ _ _ _ _ => (pe_call G_fills hr_fills (by rfl) H_fills.gl H_fills.kp b_fills .nil pass0 (pa_cons (pv 0) (pa_cons (pv 4) (pa_cons (pv 5) pa_nil)))))) pa_nil))))))), ?_⟩
    have hw : inV (V.str r.word) (v_ROW_WORDS.map (He.Dv.v K)) = true := by
      cases r with
      | bin kk x y z =>
        have key : ∀ kk : Fin 4, inV (V.str (binW kk)) (v_ROW_WORDS.map fun d => match d with | .str x => V.str x | _ => V.non) = true := by decide +kernel
        exact key kk
      | _ => rfl
    have hflat : (v_ROW_WORDS.map (He.Dv.v K)).all flatV = true := rfl
    have hlp : (r.parts l).length ≤ 3 := by cases r <;> simp [Rx.parts]
    refine ⟨_, rfl, a, r.word, r.parts l, rfl, ha, _, rfl, iteF ?_⟩
    refine ⟨_, rfl, _, _, _, _, rfl, rfl, SqT.of ha, at0, _, rfl, _, _, rfl, .inr (T.rowwords H), rfl, hflat, _, rfl, ifF ?_ ?_⟩
    · show (if true = true then !inV (V.str r.word) (v_ROW_WORDS.map (He.Dv.v K)) else inV (V.str r.word) (v_ROW_WORDS.map (He.Dv.v K))) = false
      rw [hw]
      rfl
    refine ⟨_, rfl, _, _, _, _, rfl, rfl, SqT.of ha, at0, _, _, _, rfl, rfl, T.roleK (rx_roles_mem r), ?_⟩
    have hro : ∀ H, SqT K H (rolA K r.word) (r.roles.map V.str) := fun H => (T.role (rx_roles_mem r) H).2
    refine ⟨_, rfl, _, _, rfl, .inr (SqT.of ha), _, rfl, _, _, rfl, .inr (hro H), _, _, rfl, rfl, rfl, _, rfl, ifF ?_ ?_⟩
    · show (!decide (V.int (((V.str r.word :: r.parts l).length : Nat) : Int) = V.int (((r.roles.map V.str).length : Nat) + 1 : Int))) = false
      rw [decide_eq_true]
      · rfl
      · rw [List.length_map, r.lens l]
        rfl
    refine ⟨_, rfl, _, rfl, 1, rfl, a, _, rfl, SqT.of ha, slice1.2, fun t ht => ?_⟩
    have s1 : Same H (upd H t (.tup (cutV (V.str r.word :: r.parts l) (some 1) none))) := Same.new ht
    have ht1 : (upd H t (.tup (cutV (V.str r.word :: r.parts l) (some 1) none))) t = some (.tup (r.parts l)) := by
      rw [upd_same]
      exact congrArg (fun l => some (HO.tup l)) slice1.1
    refine ⟨_, t, _, r.parts l, rfl, .inr ⟨hro _, SqT.of ht1, fun D hD => ?_⟩⟩
    refine lc_pure (walk_zipT (K := K) (xs := r.roles.map V.str) (ys := r.parts l) (n := (r.parts l).length) (by rw [List.length_map, r.lens l, Nat.min_self])) hD (fun _ => .bl true) (by omega) (fun H2 s2 => ⟨hro _, SqT.of (s2 _ _ ht1)⟩) (fun i H2 y H3 hi s2 hy Qe qe => ?_) (fun H2 s2 h2 => ?_)
    · obtain ⟨u, x, v, rfl, hu0, rfl, hx, hv⟩ := hy
      obtain ⟨role, e, rfl⟩ := map_get (show (r.roles.map V.str)[i]? = some x from hx)
      have s3 := s1.trans (s2.trans (Same.new (o := .tup [V.str role, v]) hu0))
      refine ⟨u, _, rfl, SqT.of upd_same, rfl, _, _, rfl, _, _, rfl, rfl, rfl, ?_⟩
      exact ⟨_, rfl, _, rfl, _, rfl, p, cs, ks, us, role, v, rfl, S0.mono s3, (hb i role v e hv).mono s3, fun H' s' => qe H' ((Same.new hu0).trans s')⟩
    · exact ⟨D, (List.range (r.parts l).length).map (fun _ => true), rfl, SqL.of (by rw [h2, List.map_map]; rfl), qT all_true (k _ (s1.trans s2))⟩
theorem sc_row_sets : FnScope ["row"] ["row"] (defScope s_row_sets) := ⟨rfl, rfl, rfl, by decide +kernel, rfl, by decide +kernel, by decide +kernel⟩
theorem ok_row_sets (T : Ctx w K mg) : Has P w K mg base 1 "row_sets" ["row"] spSetsG := by
  obtain ⟨fd, F⟩ := T.D_row_sets
  refine ⟨⟨fd, F.ok sc_row_sets (fun vs H Q E h => ?_) (fun cdv A outer s H vs Q E hr h => ?_), F.bindsN fun _ _ _ _ _ _ us hl => match us, hl with | [_], _ => rfl⟩, F.kp, T.g_row_sets⟩
  · obtain ⟨a, l, r, rfl, ha, k⟩ := h; rfl
  · obtain ⟨a, l, r, rfl, ha, k⟩ := h
    have hu := hu_of hr
    refine ⟨_, PSs.nox (pss_one (ps_ret (pe_ifExp (pt_cmpR op_eq (pe_ix ix_tup (pe_ix ix_kdict (pe_glob (v := .ref (He.ga K "ROLES")) rfl T.g_ROLES rfl) (pe_ix ix_tup (pv 0) pe_int (fun _ _ => rfl)) (fun _ _ => rfl)) pe_int (fun _ _ => rfl)) pe_str (nomark _)) (pe_ix ix_tup (pv 0) pe_int (fun _ _ => rfl)) pe_non))), ?_⟩
    have hro : ∀ H, SqT K H (rolA K r.word) (r.roles.map V.str) := fun H => (T.role (rx_roles_mem r) H).2
    refine ⟨_, rfl, _, _, _, _, rfl, rfl, SqT.of ha, at0, _, _, _, rfl, rfl, T.roleK (rx_roles_mem r), ?_⟩
    cases r <;> first
      | exact ⟨_, _, _, _, rfl, rfl, hro H, at0, rfl, _, rfl, ifT rfl ⟨_, rfl, _, _, _, _, rfl, rfl, SqT.of ha, at1, k⟩⟩
      | exact ⟨_, _, _, _, rfl, rfl, hro H, at0, rfl, _, rfl, ifF rfl k⟩

end
end W17
set_option Elab.async false
set_option linter.all false
set_option maxRecDepth 100000
set_option maxHeartbeats 4000000
namespace W17
open PySem PySem.Spec PyProof.Rows L2 RZ
section
variable {P : Program} {w : World} {K : PySem.W.Frag} {mg : Str → Option Value} {base : Heap}

/-- the parts that are read; as stands for the names of a call -/
def rdG (as : List V) : List Str → List V → List V
  | x :: rs, v :: vs => (if x = "reads" then [v] else if x = "many" then as else []) ++ rdG as rs vs
  | _, _ => []
theorem rdG_snoc {as : List V} : ∀ {rs : List Str} {vs : List V} {i : Nat} {x : Str} {v : V}, rs[i]? = some x → vs[i]? = some v → rdG as (rs.take (i + 1)) (vs.take (i + 1)) = rdG as (rs.take i) (vs.take i) ++ (if x = "reads" then [v] else if x = "many" then as else [])
  | [], vs, i, x, v, h, _ => by simp at h
  | a :: rs, [], i, x, v, _, h => by simp at h
  | a :: rs, b :: vs, 0, x, v, h1, h2 => by
    have e1 : a = x := Option.some.inj h1
    have e2 : b = v := Option.some.inj h2
    subst e1 e2
    show (if a = "reads" then [b] else if a = "many" then as else []) ++ rdG as [] [] = [] ++ _
    simp [rdG]
  | a :: rs, b :: vs, i + 1, x, v, h1, h2 => by
    have ih := rdG_snoc (as := as) (rs := rs) (vs := vs) (i := i) (x := x) (v := v) h1 h2
    show _ ++ rdG as (rs.take (i + 1)) (vs.take (i + 1)) = (_ ++ rdG as (rs.take i) (vs.take i)) ++ _
    rw [ih, List.append_assoc]
theorem rdG_len {as : List V} : ∀ (rs : List Str) (vs : List V), (rdG as rs vs).length ≤ rs.length * (as.length + 1)
  | [], vs => by simp [rdG]
  | a :: rs, [] => by simp [rdG]
  | a :: rs, b :: vs => by
    have ih := rdG_len (as := as) rs vs
    have h1 : (if a = "reads" then [b] else if a = "many" then as else []).length ≤ as.length + 1 := by
      split
      · simp
      · split <;> simp
    show (_ ++ rdG as rs vs).length ≤ (rs.length + 1) * (as.length + 1)
    rw [List.length_append, Nat.add_mul]
    omega
theorem Rx.rd (r : Rx) (l : V) (as : List V) (h : ∀ bs, r.args = some bs → as = bs.map V.str) : rdG as r.roles (r.parts l) = r.reads.map V.str := by
  have n1 : ¬ (("sets" : Str) = "reads") := by decide +kernel
  have n2 : ¬ (("row" : Str) = "reads") := by decide +kernel
  have n3 : ¬ (("number" : Str) = "reads") := by decide +kernel
  have n4 : ¬ (("class" : Str) = "reads") := by decide +kernel
  have n5 : ¬ (("field" : Str) = "reads") := by decide +kernel
  have n6 : ¬ (("function" : Str) = "reads") := by decide +kernel
  have n7 : ¬ (("many" : Str) = "reads") := by decide +kernel
  have m1 : ¬ (("sets" : Str) = "many") := by decide +kernel
  have m2 : ¬ (("row" : Str) = "many") := by decide +kernel
  have m3 : ¬ (("number" : Str) = "many") := by decide +kernel
  have m4 : ¬ (("class" : Str) = "many") := by decide +kernel
  have m5 : ¬ (("field" : Str) = "many") := by decide +kernel
  have m6 : ¬ (("function" : Str) = "many") := by decide +kernel
  cases r with
  | call x F bs => simp [Rx.roles, Rx.parts, Rx.reads, rdG, n1, n6, n7, m1, m6, h bs rfl]
  | _ => simp [Rx.roles, Rx.parts, Rx.reads, rdG, n1, n2, n3, n4, n5, m1, m2, m3, m4, m5]
/-- the names of a call, where its list stands -/
def Rx.namesOf (r : Rx) : List Str := r.args.getD []
theorem Rx.many_at {r : Rx} {l : V} {i : Nat} {v : V} (h1 : r.roles[i]? = some "many") (h2 : (r.parts l)[i]? = some v) : ∃ bs, r.args = some bs ∧ v = l := by
  have key : ∀ {xs : List Str}, ¬ (("many" : Str) ∈ xs) → xs[i]? = some "many" → False := fun hn h => hn (List.mem_of_getElem? h)
  cases r with
  | call x F bs =>
    refine ⟨bs, rfl, ?_⟩
    match i, h1, h2 with
    | 0, h1, _ => exact absurd (Option.some.inj h1) (by decide +kernel)
    | 1, h1, _ => exact absurd (Option.some.inj h1) (by decide +kernel)
    | 2, _, h2 => exact (Option.some.inj h2).symm
  | _ => exact (key (by simp [Rx.roles]; decide +kernel) h1).elim
def spReadsG : Sp := fun vs H Q _ => ∃ (a l : Addr) (r : Rx), vs = [.ref a] ∧ H a = some (.tup (.str r.word :: r.parts (.ref l))) ∧ (∀ bs, r.args = some bs → H l = some (.lst (bs.map V.str)) ∧ bs.length ≤ 1000) ∧ ∀ p H', Same H H' → H p = none → H' p = some (.lst (r.reads.map V.str)) → Q (.ref p) H' 
theorem sc_row_reads : FnScope ["row", "names", "role", "part"] ["row"] (defScope s_row_reads) := ⟨rfl, rfl, rfl, by decide +kernel, rfl, by decide +kernel, by decide +kernel⟩
theorem ok_row_reads (T : Ctx w K mg) : Has P w K mg base 1 "row_reads" ["row"] spReadsG := by
  obtain ⟨fd, F⟩ := T.D_row_reads
  refine ⟨⟨fd, F.ok sc_row_reads (fun vs H Q E h => ?_) (fun cdv A outer s H vs Q E hr h => ?_), F.bindsN fun _ _ _ _ _ _ us hl => match us, hl with | [_], _ => rfl⟩, F.kp, T.g_row_reads⟩
  · obtain ⟨a, m, r, rfl, ha, hm, k⟩ := h; rfl
  · obtain ⟨a, m, r, rfl, ha, hm, k⟩ := h
    have hu := hu_of hr
    refine ⟨_, PSs.nox (pss_cons (ps_set (i := 1) sc_row_reads.nd rfl (Or.inl rfl) (pe_lst pa_nil))
      (pss_cons (ps_for PassesOwn.never rfl (pi_zipA (by rfl) T.f_zip (pa_cons (pe_ix ix_kdict (pe_glob (v := .ref (He.ga K "ROLES")) rfl T.g_ROLES rfl) (pe_ix ix_tup (pv 0) pe_int (fun _ _ => rfl)) (fun _ _ => rfl)) (pa_cons (pe_slice sl_tup (pv 0) (po_some pe_int) po_none) pa_nil))) (pg_tup rfl (pgs_cons (pg_name (i := 2) sc_row_reads.nd rfl (Or.inl rfl)) (pgs_cons (pg_name (i := 3) sc_row_reads.nd rfl (Or.inl rfl)) pgs_nil)))
      (pss_one (ps_if (pt_cmpR op_eq (pv 2) pe_str (nomark _)) (pss_one (ps_expr (pe_bm PySem.F.plainAttrs_list PySem.F.slot_list_append PySem.F.type_list_append mt_append (pv 1) (pa_cons (pv 3) pa_nil)))) (pss_one (ps_if (pt_cmpR op_eq (pv 2) pe_str (nomark _)) (pss_one (ps_expr (pe_bm PySem.F.plainAttrs_list PySem.F.slot_list_extend PySem.F.type_list_extend mt_extend (pv 1) (pa_cons (pv 3) pa_nil)))) pss_nil)))))
      (pss_one (ps_ret (pv 1))))), ?_⟩
    have hro : ∀ H, SqT K H (rolA K r.word) (r.roles.map V.str) := fun H => (T.role (rx_roles_mem r) H).2
    have hlp : (r.parts (.ref m)).length ≤ 3 := by cases r <;> simp [Rx.parts]
    have hlr := r.lens (.ref m)
    refine ⟨sz_of (by decide), fun l hl => ?_⟩
    have s0 : Same H (upd H l (.lst [])) := Same.new hl
    refine ⟨_, rfl, _, _, _, _, rfl, rfl, SqT.of (s0 _ _ ha), at0, _, _, _, rfl, rfl, T.roleK (rx_roles_mem r), ?_⟩
    refine ⟨_, rfl, 1, rfl, a, _, rfl, SqT.of (s0 _ _ ha), slice1.2, fun t ht => ?_⟩
    have s1 : Same (upd H l (.lst [])) (upd (upd H l (.lst [])) t (.tup (cutV (V.str r.word :: r.parts (.ref m)) (some 1) none))) := Same.new ht
    have ht1 : (upd (upd H l (.lst [])) t (.tup (cutV (V.str r.word :: r.parts (.ref m)) (some 1) none))) t = some (.tup (r.parts (.ref m))) := by
      rw [upd_same]
      exact congrArg (fun l => some (HO.tup l)) slice1.1
    have hnl : r.namesOf.length ≤ 1000 := by
      unfold Rx.namesOf
      cases e : r.args with
      | none => simp
      | some bs => exact (hm bs e).2
    refine ⟨_, t, _, r.parts (.ref m), rfl, .inr ⟨hro _, SqT.of ht1, ?_⟩⟩
    refine for_it (walk_zipT (K := K) (xs := r.roles.map V.str) (ys := r.parts (.ref m)) (n := (r.parts (.ref m)).length) (by rw [List.length_map, hlr, Nat.min_self])) (fun i σ H1 => ∃ v1 v2 : Option V, σ = [some (.ref a), some (.ref l), v1, v2] ∧ Same H H1 ∧ H1 t = some (.tup (r.parts (.ref m))) ∧ H1 l = some (.lst (rdG (r.namesOf.map V.str) (r.roles.take i) ((r.parts (.ref m)).take i)))) ⟨none, none, rfl, s0.trans s1, ht1, s1 _ _ upd_same⟩ (fun i σ H1 _ ⟨_, _, _, _, h3, _⟩ => ⟨hro _, SqT.of h3⟩) ?_ ?_
    · rintro i y σ H1 H2 hi ⟨v1, v2, rfl, s2, h3, h4⟩ ⟨u, x, v, rfl, hu0, rfl, hx, hv⟩
      obtain ⟨role, e, rfl⟩ := map_get (show (r.roles.map V.str)[i]? = some x from hx)
      have hv : (r.parts (.ref m))[i]? = some v := hv
      have s3 : Same H1 (upd H1 u (.tup [V.str role, v])) := Same.new hu0
      have hsn := rdG_snoc (as := r.namesOf.map V.str) e hv
      have hsz : (rdG (r.namesOf.map V.str) (r.roles.take i) ((r.parts (.ref m)).take i)).length ≤ 3003 := by
        refine Nat.le_trans (rdG_len _ _) ?_
        rw [List.length_take, List.length_map]
        have h6 : min i r.roles.length ≤ 3 := by omega
        exact Nat.le_trans (Nat.mul_le_mul h6 (Nat.succ_le_succ hnl)) (by decide)
      have keep : ∀ {o : List V}, (upd (upd H1 u (.tup [V.str role, v])) l (.lst o)) t = some (.tup (r.parts (.ref m))) := fun {o} => by
        rw [upd_ne]
        · exact s3 _ _ h3
        · intro z
          rw [z, h4] at h3
          cases h3
      refine ⟨u, _, rfl, SqT.of upd_same, rfl, _, _, rfl, _, _, rfl, rfl, ?_⟩
      refine ⟨_, rfl, rfl, _, rfl, ?_⟩
      by_cases c : role = "reads"
      · rw [if_pos c] at hsn
        refine ifT (decide_eq_true (by rw [c])) ?_
        refine ⟨_, rfl, .inl ⟨rfl, _, SqL.of (s3 _ _ h4)⟩, _, rfl, l, _, _, rfl, rfl, s3 _ _ h4, sz_lt (by omega), ?_⟩
        exact ⟨_, _, rfl, Same.mut (s2.trans s3) hl, keep, by rw [upd_same, hsn]⟩
      · rw [if_neg c] at hsn
        refine ifF (decide_eq_false (fun z => c (V.str.inj z))) ?_
        refine ⟨_, rfl, rfl, _, rfl, ?_⟩
        by_cases c2 : role = "many"
        · subst c2
          obtain ⟨bs, hbs, rfl⟩ := Rx.many_at e hv
          rw [if_pos rfl] at hsn
          have hn : r.namesOf = bs := by
            unfold Rx.namesOf
            rw [hbs]
            rfl
          rw [hn] at hsn hsz h4
          refine ifT (decide_eq_true rfl) ?_
          have hml := s3 _ _ (s2 _ _ (hm bs hbs).1)
          refine ⟨_, rfl, .inl ⟨rfl, _, SqL.of (s3 _ _ h4)⟩, _, rfl, l, m, _, _, rfl, rfl, s3 _ _ h4, hml, sz_of (by have := (hm bs hbs).2; rw [List.length_map]; omega), ?_⟩
          refine ⟨_, _, rfl, Same.mut (s2.trans s3) hl, ?_, by rw [upd_same, hn, hsn]⟩
          rw [upd_ne]
          · exact s3 _ _ h3
          · intro z
            rw [z, h4] at h3
            cases h3
        · rw [if_neg c2, List.append_nil] at hsn
          refine ifF (decide_eq_false (fun z => c2 (V.str.inj z))) ?_
          refine ⟨_, _, rfl, s2.trans s3, s3 _ _ h3, ?_⟩
          rw [hsn]
          exact s3 _ _ h4
    · rintro σ H1 ⟨v1, v2, rfl, s2, h3, h4⟩
      refine ⟨_, rfl, k l _ s2 hl ?_⟩
      rw [h4, List.take_of_length_le (by rw [hlr]; exact Nat.le_refl _), List.take_length, r.rd _ _ (fun bs hb => by unfold Rx.namesOf; rw [hb]; rfl)]

end
end W17
set_option Elab.async false
set_option linter.all false
set_option maxRecDepth 100000
set_option maxHeartbeats 4000000
namespace W17
open PySem PySem.Spec PyProof.Rows L2 RZ
section
variable {P : Program} {w : World} {K : PySem.W.Frag} {mg : Str → Option Value} {base : Heap}

def Rx.names (r : Rx) : List Str := match r.sets with
  | some k => k :: r.reads
  | none => r.reads
def ArgsAt (H : Hp) (l : Addr) (r : Rx) : Prop := ∀ bs, r.args = some bs → H l = some (.lst (bs.map V.str)) ∧ bs.length ≤ 1000
theorem ArgsAt.mono {H H' : Hp} {l : Addr} {r : Rx} (h : ArgsAt H l r) (e : Same H H') : ArgsAt H' l r := fun bs q => ⟨e _ _ (h bs q).1, (h bs q).2⟩
def spNamesInG : Sp := fun vs H Q _ => ∃ (a l : Addr) (r : Rx), vs = [.ref a] ∧ H a = some (.tup (.str r.word :: r.parts (.ref l))) ∧ ArgsAt H l r ∧ ∀ p H', Same H H' → H' p = some (.lst (r.names.map V.str)) → Q (.ref p) H' 
theorem sc_names_in : FnScope ["row", "names", "name"] ["row"] (defScope s_names_in) := ⟨rfl, rfl, rfl, by decide +kernel, rfl, by decide +kernel, by decide +kernel⟩
theorem ok_names_in (T : Ctx w K mg) (H_row_reads : Has P w K mg base 1 "row_reads" ["row"] spReadsG) (H_row_sets : Has P w K mg base 1 "row_sets" ["row"] spSetsG) : Has P w K mg base 2 "_names_in" ["row"] spNamesInG := by
  obtain ⟨fd, F⟩ := T.D_names_in
  obtain ⟨fd_row_reads, G_row_reads, b_row_reads⟩ := H_row_reads.ex
  obtain ⟨fd_row_sets, G_row_sets, b_row_sets⟩ := H_row_sets.ex
  refine ⟨⟨fd, F.ok sc_names_in (fun vs H Q E h => ?_) (fun cdv A outer s H vs Q E hr h => ?_), F.bindsN fun _ _ _ _ _ _ us hl => match us, hl with | [_], _ => rfl⟩, F.kp, T.g_names_in⟩
  · obtain ⟨a, l, r, rfl, ha, hm, k⟩ := h; rfl
  · obtain ⟨a, l, r, rfl, ha, hm, k⟩ := h
    have hr_row_reads : Room 1 _ := hr.mono (by decide)
    have hr_row_sets : Room 1 _ := hr.mono (by decide)
    have hu := hu_of hr
    refine ⟨_, PSs.nox (pss_cons (ps_set (i := 1) sc_names_in.nd rfl (Or.inl rfl) (pe_call G_row_reads hr_row_reads (by rfl) H_row_reads.gl H_row_reads.kp b_row_reads .nil pass0 (pa_cons (pv 0) pa_nil)))
      (pss_cons (ps_set (i := 2) sc_names_in.nd rfl (Or.inl rfl) (pe_call G_row_sets hr_row_sets (by rfl) H_row_sets.gl H_row_sets.kp b_row_sets .nil pass0 (pa_cons (pv 0) pa_nil)))
      (pss_one (ps_ret (pe_ifExp (pt_cmpR op_isN (pv 2) pe_non (nomark _)) (pv 1) (pe_lst (pa_cons (pv 2) (StX.pa_star (pv 1) pa_nil)))))))), ?_⟩
    refine ⟨_, rfl, a, l, r, rfl, ha, hm, fun p H1 s1 _ hp => ?_⟩
    refine ⟨_, rfl, a, .ref l, r, rfl, s1 _ _ ha, ?_⟩
    refine ⟨_, rfl, rfl, _, rfl, ?_⟩
    have hrl : r.reads.length ≤ 1003 := by
      cases r with
      | call x F bs =>
        have := (hm bs rfl).2
        simp only [Rx.reads]
        omega
      | _ => simp [Rx.reads]
    cases e : r.sets with
    | none =>
      refine ifT rfl ⟨_, rfl, k p _ s1 ?_⟩
      rw [hp]
      unfold Rx.names
      rw [e]
    | some x =>
      refine ifF rfl ⟨_, rfl, _, rfl, _, _, rfl, .inr (SqL.of hp), ?_⟩
      refine ⟨sz_of ?_, fun q hq => k q _ (s1.trans (Same.new hq)) ?_⟩
      · simp only [List.length_append, List.length_cons, List.length_nil, List.length_map]
        omega
      · rw [upd_same]
        unfold Rx.names
        rw [e]
        simp [oS]
/-- a Function's head, where it stands -/
structure HeadG (K : PySem.W.Frag) (H : Hp) (fp dx pa : Addr) (fs : List (Str × V)) (ps : List Addr) (qs : List (Str × Str)) (res : Str) : Prop where
  ob : H fp = some (.ins (He.ga K "Function") dx fs)
  f1 : fs.lookup ("params" : Str) = some (.ref pa)
  f2 : fs.lookup ("result" : Str) = some (.str res)
  d1 : SqT K H pa (ps.map V.ref)
  len : ps.length = qs.length
  le : qs.length ≤ 100
  at_ : ∀ (i : Nat) p q, ps[i]? = some p → qs[i]? = some q → SqT K H p [.str q.1, .str q.2]
theorem HeadG.mono {H H' : Hp} {fp dx pa : Addr} {fs : List (Str × V)} {ps : List Addr} {qs : List (Str × Str)} {res : Str} (h : HeadG K H fp dx pa fs ps qs res) (e : Same H H') : HeadG K H' fp dx pa fs ps qs res :=
  ⟨e _ _ h.ob, h.f1, h.f2, Same.tup e h.d1, h.len, h.le, fun i p q a b => Same.tup e (h.at_ i p q a b)⟩
/-- the kinds of variables, as a dict tells them -/
def KindOf (kv : List (Key × V)) (x q : Str) : Prop := valV kv (Sum.inr x : Key) = some (.str q)
def spCallFits (K : PySem.W.Frag) : Sp := fun vs H Q _ => ∃ (fp dx pa a l d : Addr) (fs : List (Str × V)) (ps : List Addr) (qs : List (Str × Str)) (res x F : Str) (bs : List Str) (kv : List (Key × V)), vs = [.ref fp, .ref a, .ref d] ∧ HeadG K H fp dx pa fs ps qs res ∧ H a = some (.tup [.str "call", .str x, .str F, .ref l]) ∧ H l = some (.lst (bs.map V.str)) ∧ H d = some (.dK kv) ∧
  bs.length = qs.length ∧ (∀ (i : Nat) y q, bs[i]? = some y → qs[i]? = some q → KindOf kv y q.2) ∧ (∀ q ∈ qs, PyData.strOk q.2 = true) ∧ KindOf kv x res ∧ ∀ H', Same H H' → Q (.bl true) H'
theorem dpStr {H : Hp} {a : Addr} {ns : List Str} (h : H a = some (.lst (ns.map V.str))) : Dp K H (.ref a) (.list (ns.map PyData.str)) := by
  refine .lst (SqL.of h) ?_
  clear h
  induction ns with
  | nil => exact .nil
  | cons x l ih => exact .cons (.str _) ih
theorem strs_ok : ∀ {ns : List Str}, (∀ x ∈ ns, PyData.strOk x = true) → SeqAt.shaped (.list (ns.map PyData.str)) = true := by
  intro ns h
  have key : ∀ {ns : List Str}, (∀ x ∈ ns, PyData.strOk x = true) → PyData.canLayAll0 (ns.map PyData.str) = true ∧ PyData.depthAll (ns.map PyData.str) = 0 := by
    intro ns
    induction ns with
    | nil => exact fun _ => ⟨rfl, rfl⟩
    | cons a l ih =>
      intro h
      obtain ⟨h1, h2⟩ := ih fun k m => h k (List.mem_cons_of_mem _ m)
      rw [List.map_cons, PyData.canLayAll0, PyData.depthAll, h1, h2, PyData.canLay0, PyData.depth, h a List.mem_cons_self]
      exact ⟨rfl, rfl⟩
  unfold SeqAt.shaped
  rw [PyData.canLay0, PyData.depth, (key h).1, (key h).2]
  rfl
theorem sc_call_fits : FnScope ["function", "row", "kinds", "given", "name", "_", "kind"] ["function", "row", "kinds"] (defScope s_call_fits) := ⟨rfl, rfl, rfl, by decide +kernel, rfl, by decide +kernel, by decide +kernel⟩
theorem ok_call_fits (T : Ctx w K mg) : Has P w K mg base 1 "_call_fits" ["function", "row", "kinds"] (spCallFits K) := by
  obtain ⟨fd, F⟩ := T.D_call_fits
  refine ⟨⟨fd, F.ok sc_call_fits (fun vs H Q E h => ?_) (fun cdv A outer s H vs Q E hr h => ?_), F.bindsN fun _ _ _ _ _ _ us hl => match us, hl with | [_, _, _], _ => rfl⟩, F.kp, T.g_call_fits⟩
  · obtain ⟨fp, dx, pa, a, l, d, fs, ps, qs, res, x, F, bs, kv, rfl, hh, ha, hlst, hd, hbl, hk, hok, hx, k⟩ := h; rfl
  · obtain ⟨fp, dx, pa, a, l, d, fs, ps, qs, res, x, F, bs, kv, rfl, hh, ha, hlst, hd, hbl, hk, hok, hx, k⟩ := h
    have hu := hu_of hr
    refine ⟨_, PSs.nox (pss_cons (ps_setLc (i := 3) (own := [("name", 4)]) (g := gName 4) (tt := tYes) rfl sc_call_fits.nd rfl rfl (sw_true rfl rfl rfl (by decide +kernel)) (pi_list (pe_ix ix_tup (pv 1) pe_int (fun _ _ => rfl))) (blkOk_by (N := ["function", "row", "kinds", "given", "name", "_", "kind"]) (sc := defScope s_call_fits) (by decide +kernel)) (fun _ _ _ _ _ => (pg_name (i := 4) sc_call_fits.nd rfl (Or.inl rfl))) (fun _ _ _ _ _ => pts_nil) (fun _ _ _ _ _ => (pe_dget hu (pv 2) (pv 4) (fun _ _ => rfl))))
      (pss_one (ps_ret (pe_and (pe_cmpR (op_eqD hr.units) (pv 3) (pe_lc (own := [("_", 5), ("kind", 6)]) (g := gTup K 2 (gCons (gName 5) (gCons (gName 6) (gNil)))) (tt := tYes) rfl sc_call_fits.nd (pi_tup (pe_fldK (K := K) rfl (pv 0) (by rfl))) (blkOk_by (N := ["function", "row", "kinds", "given", "name", "_", "kind"]) (sc := defScope s_call_fits) (by decide +kernel)) (fun _ _ _ _ _ => (pg_tup rfl (pgs_cons (pg_name (i := 5) sc_call_fits.nd rfl (Or.inl rfl)) (pgs_cons (pg_name (i := 6) sc_call_fits.nd rfl (Or.inl rfl)) pgs_nil)))) (fun _ _ _ _ _ => pts_nil) (fun _ _ _ _ _ => (pv 6))) (nomark _)) (pe_one (pe_cmpR op_eq (pe_dget hu (pv 2) (pe_ix ix_tup (pv 1) pe_int (fun _ _ => rfl)) (fun _ _ => rfl)) (pe_fldK (K := K) rfl (pv 0) (by rfl)) (nomark _))))))), ?_⟩
    have dg : ∀ {y q : Str}, KindOf kv y q → ∀ H', Same H H' → DGet H' d (.str y) (some (.str q)) := fun hx H' s' => by
      rw [← hx]
      exact DGet.k (k := Sum.inr _) (s' _ _ hd)
    refine ⟨_, rfl, _, _, _, _, rfl, rfl, SqT.of ha, at3, l, rfl, ⟨_, SqL.of hlst⟩, fun D hD => ?_⟩
    refine lc_pure (walk_list (K := K) (a := l) (xs := bs.map V.str)) hD (fun i => .str (qs.getD i ("", "")).2) (by rw [List.length_map]; have := hh.le; omega) (fun H1 s1 => SqL.of (s1 _ _ hlst)) (fun i H1 y H2 hi s1 hy Qe qe => ?_) (fun H1 s1 h1 => ?_)
    · obtain ⟨rfl, hy⟩ := hy
      obtain ⟨x1, hx1, rfl⟩ := map_get hy
      have hiq : i < qs.length := by
        rw [List.length_map] at hi
        omega
      have hq : qs[i]? = some qs[i] := List.getElem?_eq_getElem hiq
      have eq1 : (qs.getD i ("", "")).2 = qs[i].2 := by
        rw [List.getD_eq_getElem?_getD, hq]
        rfl
      rw [eq1] at qe
      exact ⟨rfl, _, rfl, _, rfl, d, .str qs[i].2, rfl, dg (hk i x1 qs[i] hx1 hq) _ s1, qe _ (Same.refl _)⟩
    rw [List.length_map, hbl] at h1
    have hh1 := hh.mono s1
    refine ⟨_, rfl, _, rfl, fp, _, dx, fs, _, rfl, hh1.ob, T.c_Function, T.n_Function_params, hh1.f1, pa, rfl, ⟨_, hh1.d1⟩, fun E2 hE => ?_⟩
    refine lc_pure (walk_tup (K := K) (a := pa) (xs := ps.map V.ref)) hE (fun i => .str (qs.getD i ("", "")).2) (by rw [List.length_map, hh.len]; have := hh.le; omega) (fun H2 s2 => (hh1.mono s2).d1) (fun i H2 y H3 hi s2 hy Qe qe => ?_) (fun H2 s2 h2 => ?_)
    · obtain ⟨rfl, hy⟩ := hy
      obtain ⟨p1, hp1, rfl⟩ := map_get hy
      have hiq : i < qs.length := by
        rw [List.length_map, hh.len] at hi
        exact hi
      have hq : qs[i]? = some qs[i] := List.getElem?_eq_getElem hiq
      have eq1 : (qs.getD i ("", "")).2 = qs[i].2 := by
        rw [List.getD_eq_getElem?_getD, hq]
        rfl
      rw [eq1] at qe
      exact ⟨p1, _, rfl, (hh1.mono s2).at_ i p1 _ hp1 hq, rfl, _, _, rfl, _, _, rfl, rfl, rfl, _, rfl, qe _ (Same.refl _)⟩
    rw [List.length_map, hh.len] at h2
    have el : (List.range qs.length).map (fun i => V.str (qs.getD i ("", "")).2) = (qs.map Prod.snd).map V.str := by
      apply List.ext_getElem
      · simp
      · intro i h1 h2
        simp at h1
        simp [h1]
    rw [el] at h1 h2
    have hs : SeqAt.shaped (.list ((qs.map Prod.snd).map PyData.str)) = true := strs_ok fun x m => by
      obtain ⟨q, hq, rfl⟩ := List.mem_map.mp m
      exact hok q hq
    have s12 := s1.trans s2
    refine ⟨_, _, dpStr (s2 _ _ h1), dpStr h2, hs, hs, ?_⟩
    refine ⟨_, rfl, ?_⟩
    rw [SeqAt.eqv_refl _ (SeqAt.canLay_of_shaped hs)]
    refine iteT ?_
    exact ⟨_, rfl, _, rfl, _, _, _, _, rfl, rfl, SqT.of (s12 _ _ ha), at1, d, .str res, rfl, dg hx _ s12, _, rfl, fp, _, dx, fs, _, rfl, (hh1.mono s2).ob, T.c_Function, T.n_Function_result, hh.f2, rfl, qT (decide_eq_true rfl) (k _ s12)⟩

end
end W17
set_option Elab.async false
set_option linter.all false
set_option maxRecDepth 100000
set_option maxHeartbeats 4000000
namespace W17
open PySem PySem.Spec PyProof.Rows L2 RZ
section
variable {P : Program} {w : World} {K : PySem.W.Frag} {mg : Str → Option Value} {base : Heap}

/-- a row of the right kinds: field kinds ks, functions us, variables kv, the function's result -/
def KindsG (K : PySem.W.Frag) (H : Hp) (ks us kv : List (Key × V)) (res : Str) : Rx → Prop
  | .num x _ => KindOf kv x "number"
  | .bin _ x y z => KindOf kv x "number" ∧ KindOf kv y "number" ∧ KindOf kv z "number"
  | .ifz x _ => KindOf kv x "number"
  | .get x y f => ∃ q : Str, KindOf kv y "object" ∧ KindOf kv x q ∧ valV ks (Sum.inr f : Key) = some (.str q)
  | .put x f y => ∃ q : Str, KindOf kv x "object" ∧ KindOf kv y q ∧ valV ks (Sum.inr f : Key) = some (.str q)
  | .call x F bs => ∃ fp dx pa fs ps qs rs, valV us (Sum.inr F : Key) = some (.ref fp) ∧ HeadG K H fp dx pa fs ps qs rs ∧ bs.length = qs.length ∧ (∀ (i : Nat) y q, bs[i]? = some y → qs[i]? = some q → KindOf kv y q.2) ∧ (∀ q ∈ qs, PyData.strOk q.2 = true) ∧ KindOf kv x rs
  | .same x y z => ∃ q, KindOf kv x "number" ∧ KindOf kv y q ∧ KindOf kv z q
  | .copy x y => ∃ q, KindOf kv x q ∧ KindOf kv y q
  | .nil x => KindOf kv x "object" | .new x _ => KindOf kv x "object"
  | .ret x => KindOf kv x res
  | .jump _ => True | .see _ => True
def spFitG (K : PySem.W.Frag) : Sp := fun vs H Q _ => ∃ (p a l d : Addr) (cs ks us kv : List (Key × V)) (res : Str) (r : Rx), vs = [.ref p, .ref a, .ref d, .str res] ∧ SrcH K H p cs ks us ∧ H a = some (.tup (.str r.word :: r.parts (.ref l))) ∧ ArgsAt H l r ∧ H d = some (.dK kv) ∧ KindsG K H ks us kv res r ∧ ∀ H', Same H H' → Q (.bl true) H' 
theorem sc_row_kinds_fit : FnScope ["source", "row", "kinds", "result", "word", "name"] ["source", "row", "kinds", "result"] (defScope s_row_kinds_fit) := ⟨rfl, rfl, rfl, by decide +kernel, rfl, by decide +kernel, by decide +kernel⟩
theorem ok_row_kinds_fit (T : Ctx w K mg) (H_names_in : Has P w K mg base 2 "_names_in" ["row"] spNamesInG) (H_call_fits : Has P w K mg base 1 "_call_fits" ["function", "row", "kinds"] (spCallFits K)) (H_Source_field_kind : HasM P w K mg base 1 "Source" "field_kind" ["self", "name"] (spFieldKind K)) (H_Source_function_at : HasM P w K mg base 1 "Source" "function_at" ["self", "name"] (spFunAt K)) : Has P w K mg base 3 "row_kinds_fit" ["source", "row", "kinds", "result"] (spFitG K) := by
  obtain ⟨fd, F⟩ := T.D_row_kinds_fit
  obtain ⟨fd_names_in, G_names_in, b_names_in⟩ := H_names_in.ex
  obtain ⟨fd_call_fits, G_call_fits, b_call_fits⟩ := H_call_fits.ex
  obtain ⟨fd_Source_field_kind, G_Source_field_kind, b_Source_field_kind⟩ := H_Source_field_kind.ex
  obtain ⟨fd_Source_function_at, G_Source_function_at, b_Source_function_at⟩ := H_Source_function_at.ex
  refine ⟨⟨fd, F.ok sc_row_kinds_fit (fun vs H Q E h => ?_) (fun cdv A outer s H vs Q E hr h => ?_), F.bindsN fun _ _ _ _ _ _ us hl => match us, hl with | [_, _, _, _], _ => rfl⟩, F.kp, T.g_row_kinds_fit⟩
  · obtain ⟨p, a, l, d, cs, ks, us, kv, res, r, rfl, S0, ha, hm, hd, hk, k⟩ := h; rfl
  · obtain ⟨p, a, l, d, cs, ks, us, kv, res, r, rfl, S0, ha, hm, hd, hk, k⟩ := h
    have hr_names_in : Room 2 _ := hr.mono (by decide)
    have hr_call_fits : Room 1 _ := hr.mono (by decide)
    have hr_Source_field_kind : Room 1 _ := hr.mono (by decide)
    have hr_Source_function_at : Room 1 _ := hr.mono (by decide)
    have hu := hu_of hr
    refine ⟨_, PSs.nox (pss_cons (ps_set (i := 4) sc_row_kinds_fit.nd rfl (Or.inl rfl) (pe_ix ix_tup (pv 1) pe_int (fun _ _ => rfl)))
      (pss_cons (ps_if (pt_cmpR op_in_seq (pv 4) (pe_glob (v := .ref (He.ga K "NUMBER_WORDS")) rfl T.g_NUMBER_WORDS rfl) rfl) (pss_one (ps_ret (pe_callB (cr_all rfl) (by rfl) T.f_all (by decide +kernel) (pa_cons (pe_lc (own := [("name", 5)]) (g := gName 5) (tt := tYes) rfl sc_row_kinds_fit.nd (pi_list (pe_call G_names_in hr_names_in (by rfl) H_names_in.gl H_names_in.kp b_names_in .nil pass0 (pa_cons (pv 1) pa_nil))) (blkOk_by (N := ["source", "row", "kinds", "result", "word", "name"]) (sc := defScope s_row_kinds_fit) (by decide +kernel)) (fun _ _ _ _ _ => (pg_name (i := 5) sc_row_kinds_fit.nd rfl (Or.inl rfl))) (fun _ _ _ _ _ => pts_nil) (fun _ _ _ _ _ => (pe_cmpR op_eq (pe_dget hu (pv 2) (pv 5) (fun _ _ => rfl)) pe_str (nomark _)))) pa_nil)))) pss_nil)
      (pss_cons (ps_if (pt_cmpR op_eq (pv 4) pe_str (nomark _)) (pss_one (ps_ret (pe_and (pe_cmpR op_eq (pe_dget hu (pv 2) (pe_ix ix_tup (pv 1) pe_int (fun _ _ => rfl)) (fun _ _ => rfl)) pe_str (nomark _)) (pe_one (pe_cmpR op_eq (pe_dget hu (pv 2) (pe_ix ix_tup (pv 1) pe_int (fun _ _ => rfl)) (fun _ _ => rfl)) (pe_meth (pv 0) T.c_Source T.m_Source_field_kind G_Source_field_kind hr_Source_field_kind b_Source_field_kind .nil pass0 (pa_cons (pe_ix ix_tup (pv 1) pe_int (fun _ _ => rfl)) pa_nil)) (nomark _)))))) pss_nil)
      (pss_cons (ps_if (pt_cmpR op_eq (pv 4) pe_str (nomark _)) (pss_one (ps_ret (pe_and (pe_cmpR op_eq (pe_dget hu (pv 2) (pe_ix ix_tup (pv 1) pe_int (fun _ _ => rfl)) (fun _ _ => rfl)) pe_str (nomark _)) (pe_one (pe_cmpR op_eq (pe_dget hu (pv 2) (pe_ix ix_tup (pv 1) pe_int (fun _ _ => rfl)) (fun _ _ => rfl)) (pe_meth (pv 0) T.c_Source T.m_Source_field_kind G_Source_field_kind hr_Source_field_kind b_Source_field_kind .nil pass0 (pa_cons (pe_ix ix_tup (pv 1) pe_int (fun _ _ => rfl)) pa_nil)) (nomark _)))))) pss_nil)
      (pss_cons (ps_if (pt_cmpR op_eq (pv 4) pe_str (nomark _)) (pss_one (ps_ret (pe_call G_call_fits hr_call_fits (by rfl) H_call_fits.gl H_call_fits.kp b_call_fits .nil pass0 (pa_cons (pe_meth (pv 0) T.c_Source T.m_Source_function_at G_Source_function_at hr_Source_function_at b_Source_function_at .nil pass0 (pa_cons (pe_ix ix_tup (pv 1) pe_int (fun _ _ => rfl)) pa_nil)) (pa_cons (pv 1) (pa_cons (pv 2) pa_nil)))))) pss_nil)
      (pss_cons (ps_if (pt_cmpR op_eq (pv 4) pe_str (nomark _)) (pss_one (ps_ret (pe_and (pe_cmpR op_eq (pe_dget hu (pv 2) (pe_ix ix_tup (pv 1) pe_int (fun _ _ => rfl)) (fun _ _ => rfl)) pe_str (nomark _)) (pe_one (pe_cmpR op_eq (pe_dget hu (pv 2) (pe_ix ix_tup (pv 1) pe_int (fun _ _ => rfl)) (fun _ _ => rfl)) (pe_dget hu (pv 2) (pe_ix ix_tup (pv 1) pe_int (fun _ _ => rfl)) (fun _ _ => rfl)) (nomark _)))))) pss_nil)
      (pss_cons (ps_if (pt_cmpR op_eq (pv 4) pe_str (nomark _)) (pss_one (ps_ret (pe_cmpR op_eq (pe_dget hu (pv 2) (pe_ix ix_tup (pv 1) pe_int (fun _ _ => rfl)) (fun _ _ => rfl)) (pe_dget hu (pv 2) (pe_ix ix_tup (pv 1) pe_int (fun _ _ => rfl)) (fun _ _ => rfl)) (nomark _)))) pss_nil)
      (pss_cons (ps_if (pt_cmpR op_in_seq (pv 4) (pe_tup (pa_cons pe_str (pa_cons pe_str pa_nil))) rfl) (pss_one (ps_ret (pe_cmpR op_eq (pe_dget hu (pv 2) (pe_ix ix_tup (pv 1) pe_int (fun _ _ => rfl)) (fun _ _ => rfl)) pe_str (nomark _)))) pss_nil)
      (pss_one (ps_ret (pe_or (pe_cmpR op_ne (pv 4) pe_str (nomark _)) (pe_one (pe_cmpR op_eq (pe_dget hu (pv 2) (pe_ix ix_tup (pv 1) pe_int (fun _ _ => rfl)) (fun _ _ => rfl)) (pv 3) (nomark _)))))))))))))), ?_⟩
    obtain ⟨dx0, df, dk, du, fs0, S⟩ := id S0
    have dg : ∀ {y q : Str}, KindOf kv y q → ∀ H', Same H H' → DGet H' d (.str y) (some (.str q)) := fun hx H' s' => by
      rw [← hx]
      exact DGet.k (k := Sum.inr _) (s' _ _ hd)
    refine ⟨_, rfl, _, _, _, _, rfl, rfl, SqT.of ha, at0, ?_⟩
    refine ⟨_, rfl, _, _, rfl, .inr (T.numwords H), rfl, rfl, _, rfl, ?_⟩
    cases r with
    | num x n =>
      let r0 : Rx := .num x n
      have hn : ∀ x ∈ r0.names, KindOf kv x "number" := fun z m => by
        have e : z = x := by simpa [r0, Rx.names, Rx.sets, Rx.reads] using m
        rw [e]
        exact hk
      have hnl : r0.names.length ≤ 5 := by show _ ≤ 5; simp [r0, Rx.names, Rx.sets, Rx.reads]
      refine ifT rfl ?_
      refine ⟨_, rfl, a, l, r0, rfl, ha, hm, fun p1 H1 s1 hp => ⟨p1, rfl, ⟨_, SqL.of hp⟩, fun D hD => ?_⟩⟩
      refine lc_pure (walk_list (K := K) (a := p1) (xs := r0.names.map V.str)) hD (fun _ => .bl true) (by rw [List.length_map]; exact Nat.lt_of_le_of_lt hnl (by decide)) (fun H2 s2 => SqL.of (s2 _ _ hp)) (fun i H2 y H3 hi s2 hy Qe qe => ?_) (fun H2 s2 h2 => ?_)
      · obtain ⟨rfl, hy⟩ := hy
        obtain ⟨x1, hx1, rfl⟩ := map_get hy
        exact ⟨rfl, _, rfl, _, rfl, d, .str "number", rfl, dg (hn x1 (List.mem_of_getElem? hx1)) _ (s1.trans s2), rfl, qT (decide_eq_true rfl) (qe _ (Same.refl _))⟩
      · exact ⟨D, (List.range (r0.names.map V.str).length).map (fun _ => true), rfl, SqL.of (by rw [h2, List.map_map]; rfl), qT all_true (k _ (s1.trans s2))⟩
    | ifz x n =>
      let r0 : Rx := .ifz x n
      have hn : ∀ x ∈ r0.names, KindOf kv x "number" := fun z m => by
        have e : z = x := by simpa [r0, Rx.names, Rx.sets, Rx.reads] using m
        rw [e]
        exact hk
      have hnl : r0.names.length ≤ 5 := by show _ ≤ 5; simp [r0, Rx.names, Rx.sets, Rx.reads]
      refine ifT rfl ?_
      refine ⟨_, rfl, a, l, r0, rfl, ha, hm, fun p1 H1 s1 hp => ⟨p1, rfl, ⟨_, SqL.of hp⟩, fun D hD => ?_⟩⟩
      refine lc_pure (walk_list (K := K) (a := p1) (xs := r0.names.map V.str)) hD (fun _ => .bl true) (by rw [List.length_map]; exact Nat.lt_of_le_of_lt hnl (by decide)) (fun H2 s2 => SqL.of (s2 _ _ hp)) (fun i H2 y H3 hi s2 hy Qe qe => ?_) (fun H2 s2 h2 => ?_)
      · obtain ⟨rfl, hy⟩ := hy
        obtain ⟨x1, hx1, rfl⟩ := map_get hy
        exact ⟨rfl, _, rfl, _, rfl, d, .str "number", rfl, dg (hn x1 (List.mem_of_getElem? hx1)) _ (s1.trans s2), rfl, qT (decide_eq_true rfl) (qe _ (Same.refl _))⟩
      · exact ⟨D, (List.range (r0.names.map V.str).length).map (fun _ => true), rfl, SqL.of (by rw [h2, List.map_map]; rfl), qT all_true (k _ (s1.trans s2))⟩
    | bin kk x y z =>
      let r0 : Rx := .bin kk x y z
      have hn : ∀ x ∈ r0.names, KindOf kv x "number" := fun u m => by
        have e : u = x ∨ u = y ∨ u = z := by simpa [r0, Rx.names, Rx.sets, Rx.reads] using m
        obtain ⟨h1, h2, h3⟩ := hk
        rcases e with e | e | e
        · rw [e]; exact h1
        · rw [e]; exact h2
        · rw [e]; exact h3
      have hnl : r0.names.length ≤ 5 := by show _ ≤ 5; simp [r0, Rx.names, Rx.sets, Rx.reads]
      refine ifT (by
        have key : ∀ kk : Fin 4, inV (V.str (binW kk)) (v_NUMBER_WORDS.map fun d => match d with | .str x => V.str x | _ => V.non) = true := by decide +kernel
        exact key kk) ?_
      refine ⟨_, rfl, a, l, r0, rfl, ha, hm, fun p1 H1 s1 hp => ⟨p1, rfl, ⟨_, SqL.of hp⟩, fun D hD => ?_⟩⟩
      refine lc_pure (walk_list (K := K) (a := p1) (xs := r0.names.map V.str)) hD (fun _ => .bl true) (by rw [List.length_map]; exact Nat.lt_of_le_of_lt hnl (by decide)) (fun H2 s2 => SqL.of (s2 _ _ hp)) (fun i H2 y H3 hi s2 hy Qe qe => ?_) (fun H2 s2 h2 => ?_)
      · obtain ⟨rfl, hy⟩ := hy
        obtain ⟨x1, hx1, rfl⟩ := map_get hy
        exact ⟨rfl, _, rfl, _, rfl, d, .str "number", rfl, dg (hn x1 (List.mem_of_getElem? hx1)) _ (s1.trans s2), rfl, qT (decide_eq_true rfl) (qe _ (Same.refl _))⟩
      · exact ⟨D, (List.range (r0.names.map V.str).length).map (fun _ => true), rfl, SqL.of (by rw [h2, List.map_map]; rfl), qT all_true (k _ (s1.trans s2))⟩
    | get x y f =>
      obtain ⟨q, h1, h2, h3⟩ := hk
      refine ifF rfl ⟨_, rfl, rfl, _, rfl, ifT rfl ?_⟩
      exact ⟨_, rfl, _, rfl, _, _, _, _, rfl, rfl, SqT.of ha, at2, d, .str "object", rfl, dg h1 _ (Same.refl H), rfl, _, rfl, ifT (decide_eq_true rfl) ⟨_, rfl, _, rfl, _, _, _, _, rfl, rfl, SqT.of ha, at1, d, .str q, rfl, dg h2 _ (Same.refl H), _, rfl, p, dx0, fs0, rfl, S.ob, S.nm _ (by decide +kernel), _, rfl, _, _, _, _, rfl, rfl, SqT.of ha, at3, p, cs, ks, us, f, .str q, rfl, S0, h3, rfl, qT (decide_eq_true rfl) (k _ (Same.refl H))⟩⟩
    | put x f y =>
      obtain ⟨q, h1, h2, h3⟩ := hk
      refine ifF rfl ⟨_, rfl, rfl, _, rfl, ifF rfl ⟨_, rfl, rfl, _, rfl, ifT rfl ?_⟩⟩
      exact ⟨_, rfl, _, rfl, _, _, _, _, rfl, rfl, SqT.of ha, at1, d, .str "object", rfl, dg h1 _ (Same.refl H), rfl, _, rfl, ifT (decide_eq_true rfl) ⟨_, rfl, _, rfl, _, _, _, _, rfl, rfl, SqT.of ha, at3, d, .str q, rfl, dg h2 _ (Same.refl H), _, rfl, p, dx0, fs0, rfl, S.ob, S.nm _ (by decide +kernel), _, rfl, _, _, _, _, rfl, rfl, SqT.of ha, at2, p, cs, ks, us, f, .str q, rfl, S0, h3, rfl, qT (decide_eq_true rfl) (k _ (Same.refl H))⟩⟩
    | call x F bs =>
      obtain ⟨fp, dx, pa, fs, ps, qs, rs, h1, h2, h3, h4, h5, h6⟩ := hk
      refine ifF rfl ⟨_, rfl, rfl, _, rfl, ifF rfl ⟨_, rfl, rfl, _, rfl, ifF rfl ⟨_, rfl, rfl, _, rfl, ifT rfl ?_⟩⟩⟩
      exact ⟨_, rfl, p, dx0, fs0, rfl, S.ob, S.nm _ (by decide +kernel), _, rfl, _, _, _, _, rfl, rfl, SqT.of ha, at2, p, cs, ks, us, F, .ref fp, rfl, S0, h1, _, rfl, _, rfl, fp, dx, pa, a, l, d, fs, ps, qs, rs, x, F, bs, kv, rfl, h2, ha, (hm bs rfl).1, hd, h3, h4, h5, h6, k⟩
    | same x y z =>
      obtain ⟨q, h1, h2, h3⟩ := hk
      refine ifF rfl ⟨_, rfl, rfl, _, rfl, ifF rfl ⟨_, rfl, rfl, _, rfl, ifF rfl ⟨_, rfl, rfl, _, rfl, ifF rfl ⟨_, rfl, rfl, _, rfl, ifT rfl ?_⟩⟩⟩⟩
      exact ⟨_, rfl, _, rfl, _, _, _, _, rfl, rfl, SqT.of ha, at1, d, .str "number", rfl, dg h1 _ (Same.refl H), rfl, _, rfl, ifT (decide_eq_true rfl) ⟨_, rfl, _, rfl, _, _, _, _, rfl, rfl, SqT.of ha, at2, d, .str q, rfl, dg h2 _ (Same.refl H), _, rfl, _, rfl, _, _, _, _, rfl, rfl, SqT.of ha, at3, d, .str q, rfl, dg h3 _ (Same.refl H), rfl, qT (decide_eq_true rfl) (k _ (Same.refl H))⟩⟩
    | copy x y =>
      obtain ⟨q, h1, h2⟩ := hk
      refine ifF rfl ⟨_, rfl, rfl, _, rfl, ifF rfl ⟨_, rfl, rfl, _, rfl, ifF rfl ⟨_, rfl, rfl, _, rfl, ifF rfl ⟨_, rfl, rfl, _, rfl, ifF rfl ⟨_, rfl, rfl, _, rfl, ifT rfl ?_⟩⟩⟩⟩⟩
      exact ⟨_, rfl, _, rfl, _, _, _, _, rfl, rfl, SqT.of ha, at1, d, .str q, rfl, dg h1 _ (Same.refl H), _, rfl, _, rfl, _, _, _, _, rfl, rfl, SqT.of ha, at2, d, .str q, rfl, dg h2 _ (Same.refl H), rfl, qT (decide_eq_true rfl) (k _ (Same.refl H))⟩
    | nil x => 
      refine ifF rfl ⟨_, rfl, rfl, _, rfl, ifF rfl ⟨_, rfl, rfl, _, rfl, ifF rfl ⟨_, rfl, rfl, _, rfl, ifF rfl ⟨_, rfl, rfl, _, rfl, ifF rfl ⟨_, rfl, rfl, _, rfl, ifF rfl ?_⟩⟩⟩⟩⟩
      refine ⟨_, rfl, sz_of (by decide), fun t ht => ⟨t, _, rfl, .inr (SqT.of upd_same), rfl, rfl, _, rfl, ifT rfl ?_⟩⟩
      have s1 : Same H (upd H t (.tup [.str "nil", .str "new"])) := Same.new ht
      exact ⟨_, rfl, _, rfl, _, _, _, _, rfl, rfl, SqT.of (s1 _ _ ha), at1, d, .str "object", rfl, dg hk _ s1, rfl, qT (decide_eq_true rfl) (k _ s1)⟩
    | new x c => 
      refine ifF rfl ⟨_, rfl, rfl, _, rfl, ifF rfl ⟨_, rfl, rfl, _, rfl, ifF rfl ⟨_, rfl, rfl, _, rfl, ifF rfl ⟨_, rfl, rfl, _, rfl, ifF rfl ⟨_, rfl, rfl, _, rfl, ifF rfl ?_⟩⟩⟩⟩⟩
      refine ⟨_, rfl, sz_of (by decide), fun t ht => ⟨t, _, rfl, .inr (SqT.of upd_same), rfl, rfl, _, rfl, ifT rfl ?_⟩⟩
      have s1 : Same H (upd H t (.tup [.str "nil", .str "new"])) := Same.new ht
      exact ⟨_, rfl, _, rfl, _, _, _, _, rfl, rfl, SqT.of (s1 _ _ ha), at1, d, .str "object", rfl, dg hk _ s1, rfl, qT (decide_eq_true rfl) (k _ s1)⟩
    | ret x =>
      refine ifF rfl ⟨_, rfl, rfl, _, rfl, ifF rfl ⟨_, rfl, rfl, _, rfl, ifF rfl ⟨_, rfl, rfl, _, rfl, ifF rfl ⟨_, rfl, rfl, _, rfl, ifF rfl ⟨_, rfl, rfl, _, rfl, ifF rfl ?_⟩⟩⟩⟩⟩
      refine ⟨_, rfl, sz_of (by decide), fun t ht => ⟨t, _, rfl, .inr (SqT.of upd_same), rfl, rfl, _, rfl, ifF rfl ?_⟩⟩
      have s1 : Same H (upd H t (.tup [.str "nil", .str "new"])) := Same.new ht
      exact ⟨_, rfl, rfl, false, rfl, iteF ⟨_, rfl, _, rfl, _, _, _, _, rfl, rfl, SqT.of (s1 _ _ ha), at1, d, _, rfl, dg hk _ s1, _, rfl, rfl, qT (decide_eq_true rfl) (k _ s1)⟩⟩
    | see x => 
      refine ifF rfl ⟨_, rfl, rfl, _, rfl, ifF rfl ⟨_, rfl, rfl, _, rfl, ifF rfl ⟨_, rfl, rfl, _, rfl, ifF rfl ⟨_, rfl, rfl, _, rfl, ifF rfl ⟨_, rfl, rfl, _, rfl, ifF rfl ?_⟩⟩⟩⟩⟩
      refine ⟨_, rfl, sz_of (by decide), fun t ht => ⟨t, _, rfl, .inr (SqT.of upd_same), rfl, rfl, _, rfl, ifF rfl ?_⟩⟩
      have s1 : Same H (upd H t (.tup [.str "nil", .str "new"])) := Same.new ht
      exact ⟨_, rfl, rfl, true, rfl, iteT (k _ s1)⟩
    | jump x => 
      refine ifF rfl ⟨_, rfl, rfl, _, rfl, ifF rfl ⟨_, rfl, rfl, _, rfl, ifF rfl ⟨_, rfl, rfl, _, rfl, ifF rfl ⟨_, rfl, rfl, _, rfl, ifF rfl ⟨_, rfl, rfl, _, rfl, ifF rfl ?_⟩⟩⟩⟩⟩
      refine ⟨_, rfl, sz_of (by decide), fun t ht => ⟨t, _, rfl, .inr (SqT.of upd_same), rfl, rfl, _, rfl, ifF rfl ?_⟩⟩
      have s1 : Same H (upd H t (.tup [.str "nil", .str "new"])) := Same.new ht
      exact ⟨_, rfl, rfl, true, rfl, iteT (k _ s1)⟩

end
end W17
set_option Elab.async false
set_option linter.all false
set_option maxRecDepth 100000
set_option maxHeartbeats 4000000
namespace W17
open PySem PySem.Spec PyProof.Rows L2 RZ
section
variable {P : Program} {w : World} {K : PySem.W.Frag} {mg : Str → Option Value} {base : Heap}

/-- a comprehension whose elements are values as told, or new tuples -/
def Mix (c : Nat → Bool) (f : Nat → V) (g : Nat → List V) (i : Nat) (H : Hp) (v : V) : Prop := (c i = false ∧ v = f i) ∨ (c i = true ∧ ∃ q, v = .ref q ∧ H q = some (.tup (g i)))
theorem lc_mix {J : It} {n : Nat} {G : Hp → Prop} {Y : Nat → Hp → V → Hp → Prop} (w : Walk J n G Y) {gg : TG} {te : TE} {vs : List Nat} {σ : L2.St} {H0 : Hp} {D : Addr} {Qd : Hp → Prop} (hD : H0 D = none) (c : Nat → Bool) (f : Nat → V) (g : Nat → List V) (hn : n < 100000)
    (hG : ∀ H, Same H0 H → G H)
    (hs : ∀ i H x H', i < n → Same H0 H → Y i H x H' → ∀ Qe : VK, (∀ v H4, Same H H4 → Mix c f g i H4 v → Qe v H4) → gg x (wipe σ vs) H' fun σ2 H2 => wipe σ2 vs = wipe σ vs ∧ te σ2 H2 Qe)
    (hd : ∀ (H : Hp) (xs : List V), Same H0 H → xs.length = n → (∀ (i : Nat) v, xs[i]? = some v → Mix c f g i H v) → H D = some (.lst xs) → Qd H) :
    ∃ W : Nat → Nat → Hp → Prop, (∃ m, W 0 m (upd H0 D (.lst []))) ∧ ∀ i m H, W i m H →
      (J.stop i H ∧ Qd H) ∨ (J.go i H ∧ ∃ Nx : Hp → Prop, (∀ H', Nx H' → ∃ m', m' < m ∧ W (i + 1) m' H') ∧ ∀ x H', J.yld i H x H' → gg x (wipe σ vs) H' fun σ2 H2 => wipe σ2 vs = wipe σ vs ∧ tYes σ2 H2 fun b H3 =>
        if b = true then te σ2 H3 fun y H4 => ∃ acc, H4 D = some (.lst acc) ∧ acc.length < sizeLine ∧ Nx (upd H4 D (.lst (acc ++ [y]))) else Nx H3) := by
  refine lc_it w (fun i H => Same H0 H ∧ ∃ xs : List V, xs.length = i ∧ (∀ (j : Nat) v, xs[j]? = some v → Mix c f g j H v) ∧ H D = some (.lst xs)) ⟨Same.new hD, [], rfl, fun j v e => by simp at e, upd_same⟩ (fun i H _ p => hG H p.1) (fun i x H H' hi q y => ?_) (fun H q => ?_)
  · obtain ⟨s1, xs, hl, hx, hDD⟩ := q
    have q := hs i H x H' hi s1 y (fun y H4 => ∃ acc, H4 D = some (.lst acc) ∧ acc.length < sizeLine ∧ (Same H0 (upd H4 D (.lst (acc ++ [y]))) ∧ ∃ xs : List V, xs.length = i + 1 ∧ (∀ (j : Nat) v, xs[j]? = some v → Mix c f g j (upd H4 D (.lst (acc ++ [y]))) v) ∧ upd H4 D (.lst (acc ++ [y])) D = some (.lst xs))) (fun v H4 s4 mv => ?_)
    · exact q
    · have h4 := s4 _ _ hDD
      have stay : ∀ {j : Nat} {u : V}, Mix c f g j H4 u → Mix c f g j (upd H4 D (.lst (xs ++ [v]))) u := fun {j u} m => by
        rcases m with m | ⟨m1, q, m2, m3⟩
        · exact .inl m
        · refine .inr ⟨m1, q, m2, ?_⟩
          rw [upd_ne (ne_of m3 h4 (by intro z; cases z))]
          exact m3
      refine ⟨xs, h4, sz_lt (by omega), Same.mut (s1.trans s4) hD, xs ++ [v], by rw [List.length_append, hl]; rfl, fun j u e => stay ?_, upd_same⟩
      by_cases hj : j < xs.length
      · rw [List.getElem?_append_left hj] at e
        rcases hx j u e with m | ⟨m1, q, m2, m3⟩
        · exact .inl m
        · exact .inr ⟨m1, q, m2, s4 _ _ m3⟩
      · rw [List.getElem?_append_right (by omega)] at e
        have h2 := (List.getElem?_eq_some_iff.mp e).1
        simp at h2
        have ej : j = i := by omega
        have e0 : j - xs.length = 0 := by omega
        rw [e0] at e
        rw [← Option.some.inj e, ej]
        exact mv
  · obtain ⟨s1, xs, hl, hx, hDD⟩ := q
    exact hd H xs s1 hl hx hDD
def spFzL : Sp := fun vs H Q _ => ∃ a xs, vs = [.ref a] ∧ H a = some (.lst xs) ∧ (∀ x ∈ xs, Fl x) ∧ xs.length ≤ 1000 ∧ ∀ p H', Same H H' → H' p = some (.tup xs) → Q (.ref p) H'
/-- a text, an int, or a list of such -/
def spFzM : Sp := fun vs H Q E => spFz0 vs H Q E ∨ spFzL vs H Q E
theorem sc_frozenM : FnScope ["thing", "part"] ["thing"] (defScope s_frozen) := ⟨rfl, rfl, rfl, by decide +kernel, rfl, by decide +kernel, by decide +kernel⟩
theorem ok_frozenM (T : Ctx w K mg) (H_frozen : Has P w K mg base 1 "frozen" ["thing"] spFz0) : Has P w K mg base 2 "frozen" ["thing"] spFzM := by
  obtain ⟨fd, F⟩ := T.D_frozen
  obtain ⟨fd_frozen, G_frozen, b_frozen⟩ := H_frozen.ex
  refine ⟨⟨fd, F.ok sc_frozenM (fun vs H Q E h => ?_) (fun cdv A outer s H vs Q E hr h => ?_), F.bindsN fun _ _ _ _ _ _ us hl => match us, hl with | [_], _ => rfl⟩, F.kp, T.g_frozen⟩
  · rcases h with ⟨v, rfl, _⟩ | ⟨a, xs, rfl, _⟩ <;> rfl
  · obtain h := h
    have hr_frozen : Room 1 _ := hr.mono (by decide)
    have hu := hu_of hr
    refine ⟨_, PSs.nox (pss_cons (ps_if (pt_val (pe_callB call_isiT (by rfl) T.f_isinstance (by decide +kernel) (pa_cons (pv 0) (pa_cons (pe_tup (pa_cons (pe_bltn (v := .ty "list") (u := .type "list") rfl T.f_list (by decide +kernel) rfl) (pa_cons (pe_bltn (v := .ty "tuple") (u := .type "tuple") rfl T.f_tuple (by decide +kernel) rfl) pa_nil))) pa_nil)))) (pss_one (ps_ret (pe_callTy call_tuple_of (by rfl) T.f_tuple (by decide +kernel) (pa_cons (pe_lc (own := [("part", 1)]) (g := gName 1) (tt := tYes) rfl sc_frozenM.nd (pi_list (pv 0)) (blkOk_by (N := ["thing", "part"]) (sc := defScope s_frozen) (by decide +kernel)) (fun _ _ _ _ _ => (pg_name (i := 1) sc_frozenM.nd rfl (Or.inl rfl))) (fun _ _ _ _ _ => pts_nil) (fun _ _ _ _ _ => (pe_call G_frozen hr_frozen (by rfl) H_frozen.gl H_frozen.kp b_frozen .nil pass0 (pa_cons (pv 1) pa_nil)))) pa_nil)))) pss_nil)
      (pss_one (ps_ret (pv 0)))), ?_⟩
    rcases h with ⟨v, rfl, F0, k⟩ | ⟨a, xs, rfl, ha, hf, hl, k⟩
    · refine ⟨_, rfl, sz_of (by decide), fun tp htp => ?_⟩
      cases F0 with
      | str x =>
        exact ⟨_, _, _, _, _, false, rfl, upd_same, .cons (.ty _) (.cons (.ty _) .nil), .base (.str x), kit2 (p := false) (q := false) (by decide +kernel) (by decide +kernel) rfl, _, rfl, iteF ⟨_, rfl, k _ (Same.new htp)⟩⟩
      | int x =>
        exact ⟨_, _, _, _, _, false, rfl, upd_same, .cons (.ty _) (.cons (.ty _) .nil), .base (.int x), kit2 (p := false) (q := false) (by decide +kernel) (by decide +kernel) rfl, _, rfl, iteF ⟨_, rfl, k _ (Same.new htp)⟩⟩
    refine ⟨_, rfl, sz_of (by decide), fun tp htp => ?_⟩
    have s1 : Same H (upd H tp (.tup [.ty "list", .ty "tuple"])) := Same.new htp
    refine ⟨_, _, _, _, _, true, rfl, upd_same, .cons (.ty _) (.cons (.ty _) .nil), .base (.lst (s1 _ _ ha)), kit2 (p := true) (q := false) (by decide +kernel) (by decide +kernel) rfl, _, rfl, iteT ?_⟩
    refine ⟨_, rfl, a, rfl, ⟨_, SqL.of (s1 _ _ ha)⟩, fun D hD => ?_⟩
    refine lc_pure (walk_list (K := K) (a := a) (xs := xs)) hD (fun i => xs.getD i .non) (Nat.lt_of_le_of_lt hl (by decide)) (fun H2 s2 => SqL.of (s2 _ _ (s1 _ _ ha))) (fun i H2 y H3 hi s2 hy Qe qe => ?_) (fun H2 s2 h2 => ?_)
    · obtain ⟨rfl, hx⟩ := hy
      rw [getD_of hx] at qe
      exact ⟨rfl, _, rfl, y, rfl, hf y (List.mem_of_getElem? hx), fun H4 s4 => qe _ s4⟩
    · rw [map_range_getD] at h2
      exact ⟨D, xs, rfl, .inl ⟨SqL.of h2, fun l hl2 => k l _ ((s1.trans s2).trans (Same.new hl2)) upd_same⟩⟩

end
end W17
set_option Elab.async false
set_option linter.all false
set_option maxRecDepth 100000
set_option maxHeartbeats 4000000
namespace W17
open PySem PySem.Spec PyProof.Rows L2 RZ
section
variable {P : Program} {w : World} {K : PySem.W.Frag} {mg : Str → Option Value} {base : Heap}

theorem parts_at {r : Rx} {l : V} {i : Nat} {y : V} (h : (V.str r.word :: r.parts l)[i]? = some y) : (Fl y ∧ (r.args.isSome && (i == 3)) = false) ∨ (∃ bs, r.args = some bs ∧ i = 3 ∧ y = l) := by
  cases r with
  | call x F bs =>
    match i, h with
    | 0, h => obtain rfl := Option.some.inj h; exact .inl ⟨.str _, rfl⟩
    | 1, h => obtain rfl := Option.some.inj h; exact .inl ⟨.str _, rfl⟩
    | 2, h => obtain rfl := Option.some.inj h; exact .inl ⟨.str _, rfl⟩
    | 3, h => obtain rfl := Option.some.inj h; exact .inr ⟨bs, rfl, rfl, rfl⟩
    | n + 4, h => simp [Rx.parts] at h
  | _ =>
    refine .inl ⟨?_, rfl⟩
    have m := List.mem_of_getElem? h
    simp only [Rx.parts, List.mem_cons, List.not_mem_nil, or_false] at m
    rcases m with rfl | m
    · exact .str _
    · first
        | (subst m; first | exact .str _ | exact .int _)
        | (rcases m with rfl | rfl <;> first | exact .str _ | exact .int _)
        | (rcases m with rfl | rfl | rfl <;> first | exact .str _ | exact .int _)
theorem parts_same {r : Rx} {l l2 : V} (h : r.args = none) : r.parts l = r.parts l2 := by
  cases r <;> first | rfl | cases h
def spFzRow : Sp := fun vs H Q _ => ∃ (a l : Addr) (r : Rx), vs = [.ref a] ∧ H a = some (.tup (.str r.word :: r.parts (.ref l))) ∧ ArgsAt H l r ∧ ∀ p H', Same H H' → RowAt true H' p r → Q (.ref p) H' 
theorem sc_frozenR : FnScope ["thing", "part"] ["thing"] (defScope s_frozen) := ⟨rfl, rfl, rfl, by decide +kernel, rfl, by decide +kernel, by decide +kernel⟩
theorem ok_frozenR (T : Ctx w K mg) (H_frozen : Has P w K mg base 2 "frozen" ["thing"] spFzM) : Has P w K mg base 3 "frozen" ["thing"] spFzRow := by
  obtain ⟨fd, F⟩ := T.D_frozen
  obtain ⟨fd_frozen, G_frozen, b_frozen⟩ := H_frozen.ex
  refine ⟨⟨fd, F.ok sc_frozenR (fun vs H Q E h => ?_) (fun cdv A outer s H vs Q E hr h => ?_), F.bindsN fun _ _ _ _ _ _ us hl => match us, hl with | [_], _ => rfl⟩, F.kp, T.g_frozen⟩
  · obtain ⟨a, l, r, rfl, ha, hm, k⟩ := h; rfl
  · obtain ⟨a, l, r, rfl, ha, hm, k⟩ := h
    have hr_frozen : Room 2 _ := hr.mono (by decide)
    have hu := hu_of hr
    refine ⟨_, PSs.nox (pss_cons (ps_if (pt_val (pe_callB call_isiT (by rfl) T.f_isinstance (by decide +kernel) (pa_cons (pv 0) (pa_cons (pe_tup (pa_cons (pe_bltn (v := .ty "list") (u := .type "list") rfl T.f_list (by decide +kernel) rfl) (pa_cons (pe_bltn (v := .ty "tuple") (u := .type "tuple") rfl T.f_tuple (by decide +kernel) rfl) pa_nil))) pa_nil)))) (pss_one (ps_ret (pe_callTy call_tuple_of (by rfl) T.f_tuple (by decide +kernel) (pa_cons (pe_lc (own := [("part", 1)]) (g := gName 1) (tt := tYes) rfl sc_frozenR.nd (pi_tup (pv 0)) (blkOk_by (N := ["thing", "part"]) (sc := defScope s_frozen) (by decide +kernel)) (fun _ _ _ _ _ => (pg_name (i := 1) sc_frozenR.nd rfl (Or.inl rfl))) (fun _ _ _ _ _ => pts_nil) (fun _ _ _ _ _ => (pe_call G_frozen hr_frozen (by rfl) H_frozen.gl H_frozen.kp b_frozen .nil pass0 (pa_cons (pv 1) pa_nil)))) pa_nil)))) pss_nil)
      (pss_one (ps_ret (pv 0)))), ?_⟩
    refine ⟨_, rfl, sz_of (by decide), fun tp htp => ?_⟩
    have s1 : Same H (upd H tp (.tup [.ty "list", .ty "tuple"])) := Same.new htp
    refine ⟨_, _, _, _, _, true, rfl, upd_same, .cons (.ty _) (.cons (.ty _) .nil), .base (.tup (s1 _ _ ha)), kit2 (p := false) (q := true) (by decide +kernel) (by decide +kernel) rfl, _, rfl, iteT ?_⟩
    refine ⟨_, rfl, a, rfl, ⟨_, SqT.of (s1 _ _ ha)⟩, fun D hD => ?_⟩
    have hlp : (V.str r.word :: r.parts (.ref l)).length ≤ 4 := by cases r <;> simp [Rx.parts]
    refine lc_mix (walk_tup (K := K) (a := a) (xs := V.str r.word :: r.parts (.ref l))) hD (fun i => r.args.isSome && (i == 3)) (fun i => (V.str r.word :: r.parts (.ref l)).getD i .non) (fun _ => r.namesOf.map V.str) (by omega) (fun H2 s2 => SqT.of (s2 _ _ (s1 _ _ ha))) (fun i H2 y H3 hi s2 hy Qe qe => ?_) (fun H2 xs s2 hl hx h2 => ?_)
    · obtain ⟨rfl, hy⟩ := hy
      rcases parts_at hy with ⟨f1, c1⟩ | ⟨bs, hb, rfl, rfl⟩
      · exact ⟨rfl, _, rfl, .inl ⟨y, rfl, f1, fun H4 s4 => qe _ _ s4 (.inl ⟨c1, (getD_of hy).symm⟩)⟩⟩
      · obtain ⟨q1, q2⟩ := hm bs hb
        refine ⟨rfl, _, rfl, .inr ⟨l, bs.map V.str, rfl, s2 _ _ (s1 _ _ q1), fun x m => ?_, by rw [List.length_map]; exact q2, fun p H4 s4 hp => qe _ _ s4 (.inr ⟨by rw [hb]; rfl, p, rfl, ?_⟩)⟩⟩
        · obtain ⟨z, _, rfl⟩ := List.mem_map.mp m
          exact .str z
        · rw [hp]
          unfold Rx.namesOf
          rw [hb]
          rfl
    refine ⟨D, xs, rfl, .inl ⟨SqL.of h2, fun q hq => k q _ ((s1.trans s2).trans (Same.new hq)) ?_⟩⟩
    have same : ∀ (i : Nat) v, xs[i]? = some v → (r.args.isSome && (i == 3)) = false → v = (V.str r.word :: r.parts (.ref l)).getD i .non := fun i v e c => by
      rcases hx i v e with ⟨_, h⟩ | ⟨h, _⟩
      · exact h
      · have h2 : (r.args.isSome && (i == 3)) = true := h
        rw [c] at h2
        cases h2
    cases e : r.args with
    | none =>
      refine ⟨l, ?_, fun bs z => by rw [e] at z; cases z⟩
      rw [upd_same]
      have ex : xs = V.str r.word :: r.parts (.ref l) := by
        apply List.ext_getElem hl
        intro i h1 h3
        have := same i xs[i] (List.getElem?_eq_getElem h1) (by rw [e]; rfl)
        rw [this, List.getD_eq_getElem?_getD, List.getElem?_eq_getElem h3]
        rfl
      rw [ex]
    | some bs =>
      cases r with
      | call x F cs =>
        obtain rfl : cs = bs := Option.some.inj e
        have h4 : xs.length = 4 := hl
        match xs, h4 with
        | [a0, a1, a2, a3], _ =>
          have e0 := same 0 a0 rfl rfl
          have e1 := same 1 a1 rfl rfl
          have e2 := same 2 a2 rfl rfl
          rcases hx 3 a3 rfl with ⟨z, _⟩ | ⟨_, q3, e3, h3⟩
          · cases z
          · subst e0 e1 e2 e3
            exact ⟨q3, upd_same, fun bs2 z => by
              obtain rfl := Option.some.inj z
              exact Same.new hq _ _ h3⟩
      | _ => cases e

end
end W17
set_option Elab.async false
set_option linter.all false
set_option maxRecDepth 100000
set_option maxHeartbeats 4000000
namespace W17
open PySem PySem.Spec PyProof.Rows L2 RZ
section
variable {P : Program} {w : World} {K : PySem.W.Frag} {mg : Str → Option Value} {base : Heap}

theorem RowAt.put {H : Hp} {a D : Addr} {r : Rx} {xs ys : List V} (h : RowAt true H a r) (hD : H D = some (.lst xs)) : RowAt true (upd H D (.lst ys)) a r := by
  obtain ⟨l, h1, h2⟩ := h
  refine ⟨l, ?_, fun bs e => ?_⟩
  · rw [upd_ne (ne_of h1 hD (by intro z; cases z))]
    exact h1
  · have q := h2 bs e
    rw [if_pos rfl] at q ⊢
    rw [upd_ne (ne_of q hD (by intro z; cases z))]
    exact q
/-- a comprehension whose elements are kept rows -/
theorem lc_rows {J : It} {n : Nat} {G : Hp → Prop} {Y : Nat → Hp → V → Hp → Prop} (w : Walk J n G Y) {gg : TG} {te : TE} {vs : List Nat} {σ : L2.St} {H0 : Hp} {D : Addr} {Qd : Hp → Prop} (hD : H0 D = none) (rws : List Rx) (hn : n < 100000)
    (hG : ∀ H, Same H0 H → G H)
    (hs : ∀ i H x H', i < n → Same H0 H → Y i H x H' → ∀ Qe : VK, (∀ q H4, Same H H4 → (∀ r, rws[i]? = some r → RowAt true H4 q r) → Qe (.ref q) H4) → gg x (wipe σ vs) H' fun σ2 H2 => wipe σ2 vs = wipe σ vs ∧ te σ2 H2 Qe)
    (hd : ∀ (H : Hp) (qs : List Addr), Same H0 H → qs.length = n → (∀ (i : Nat) q r, qs[i]? = some q → rws[i]? = some r → RowAt true H q r) → H D = some (.lst (qs.map V.ref)) → Qd H) :
    ∃ W : Nat → Nat → Hp → Prop, (∃ m, W 0 m (upd H0 D (.lst []))) ∧ ∀ i m H, W i m H →
      (J.stop i H ∧ Qd H) ∨ (J.go i H ∧ ∃ Nx : Hp → Prop, (∀ H', Nx H' → ∃ m', m' < m ∧ W (i + 1) m' H') ∧ ∀ x H', J.yld i H x H' → gg x (wipe σ vs) H' fun σ2 H2 => wipe σ2 vs = wipe σ vs ∧ tYes σ2 H2 fun b H3 =>
        if b = true then te σ2 H3 fun y H4 => ∃ acc, H4 D = some (.lst acc) ∧ acc.length < sizeLine ∧ Nx (upd H4 D (.lst (acc ++ [y]))) else Nx H3) := by
  refine lc_it w (fun i H => Same H0 H ∧ ∃ qs : List Addr, qs.length = i ∧ (∀ (j : Nat) q r, qs[j]? = some q → rws[j]? = some r → RowAt true H q r) ∧ H D = some (.lst (qs.map V.ref))) ⟨Same.new hD, [], rfl, fun j q r e => by simp at e, upd_same⟩ (fun i H _ p => hG H p.1) (fun i x H H' hi q y => ?_) (fun H q => ?_)
  · obtain ⟨s1, qs, hl, hx, hDD⟩ := q
    have q := hs i H x H' hi s1 y (fun y H4 => ∃ acc, H4 D = some (.lst acc) ∧ acc.length < sizeLine ∧ (Same H0 (upd H4 D (.lst (acc ++ [y]))) ∧ ∃ qs : List Addr, qs.length = i + 1 ∧ (∀ (j : Nat) q r, qs[j]? = some q → rws[j]? = some r → RowAt true (upd H4 D (.lst (acc ++ [y]))) q r) ∧ upd H4 D (.lst (acc ++ [y])) D = some (.lst (qs.map V.ref)))) (fun q H4 s4 mv => ?_)
    · exact q
    · have h4 := s4 _ _ hDD
      refine ⟨_, h4, sz_lt (by rw [List.length_map]; omega), Same.mut (s1.trans s4) hD, qs ++ [q], by rw [List.length_append, hl]; rfl, fun j u r e er => RowAt.put ?_ h4, by rw [upd_same, List.map_append]; rfl⟩
      by_cases hj : j < qs.length
      · rw [List.getElem?_append_left hj] at e
        exact (hx j u r e er).mono s4
      · rw [List.getElem?_append_right (by omega)] at e
        have h2 := (List.getElem?_eq_some_iff.mp e).1
        simp at h2
        have ej : j = i := by omega
        have e0 : j - qs.length = 0 := by omega
        rw [e0] at e
        rw [← Option.some.inj e]
        exact mv r (by rw [← ej]; exact er)
  · obtain ⟨s1, xs, hl, hx, hDD⟩ := q
    exact hd H xs s1 hl hx hDD
/-- rows as they are handed in -/
structure RawRows (H : Hp) (rs : List Addr) (rws : List Rx) : Prop where
  len : rs.length = rws.length
  at_ : ∀ (i : Nat) a r, rs[i]? = some a → rws[i]? = some r → ∃ l, H a = some (.tup (.str r.word :: r.parts (.ref l))) ∧ ArgsAt H l r
theorem RawRows.mono {H H' : Hp} {rs : List Addr} {rws : List Rx} (h : RawRows H rs rws) (e : Same H H') : RawRows H' rs rws := ⟨h.len, fun i a r x y => by
  obtain ⟨l, q1, q2⟩ := h.at_ i a r x y
  exact ⟨l, e _ _ q1, q2.mono e⟩⟩
/-- rows as they are kept -/
structure KeptRows (H : Hp) (rs : List Addr) (rws : List Rx) : Prop where
  len : rs.length = rws.length
  at_ : ∀ (i : Nat) a r, rs[i]? = some a → rws[i]? = some r → RowAt true H a r
theorem KeptRows.mono {H H' : Hp} {rs : List Addr} {rws : List Rx} (h : KeptRows H rs rws) (e : Same H H') : KeptRows H' rs rws := ⟨h.len, fun i a r x y => (h.at_ i a r x y).mono e⟩
def spFzRows : Sp := fun vs H Q _ => ∃ (a : Addr) (rs : List Addr) (rws : List Rx), vs = [.ref a] ∧ H a = some (.lst (rs.map V.ref)) ∧ RawRows H rs rws ∧ rws.length ≤ 100 ∧ ∀ (q : Addr) (qs : List Addr) (H' : Hp), Same H H' → TupP H' q (qs.map V.ref) → KeptRows H' qs rws → Q (.ref q) H' 
theorem sc_frozenW : FnScope ["thing", "part"] ["thing"] (defScope s_frozen) := ⟨rfl, rfl, rfl, by decide +kernel, rfl, by decide +kernel, by decide +kernel⟩
theorem ok_frozenW (T : Ctx w K mg) (H_frozen : Has P w K mg base 3 "frozen" ["thing"] spFzRow) : Has P w K mg base 4 "frozen" ["thing"] spFzRows := by
  obtain ⟨fd, F⟩ := T.D_frozen
  obtain ⟨fd_frozen, G_frozen, b_frozen⟩ := H_frozen.ex
  refine ⟨⟨fd, F.ok sc_frozenW (fun vs H Q E h => ?_) (fun cdv A outer s H vs Q E hr h => ?_), F.bindsN fun _ _ _ _ _ _ us hl => match us, hl with | [_], _ => rfl⟩, F.kp, T.g_frozen⟩
  · obtain ⟨a, rs, rws, rfl, ha, hR, hl, k⟩ := h; rfl
  · obtain ⟨a, rs, rws, rfl, ha, hR, hl, k⟩ := h
    have hr_frozen : Room 3 _ := hr.mono (by decide)
    have hu := hu_of hr
    refine ⟨_, PSs.nox (pss_cons (ps_if (pt_val (pe_callB call_isiT (by rfl) T.f_isinstance (by decide +kernel) (pa_cons (pv 0) (pa_cons (pe_tup (pa_cons (pe_bltn (v := .ty "list") (u := .type "list") rfl T.f_list (by decide +kernel) rfl) (pa_cons (pe_bltn (v := .ty "tuple") (u := .type "tuple") rfl T.f_tuple (by decide +kernel) rfl) pa_nil))) pa_nil)))) (pss_one (ps_ret (pe_callTy call_tupleP (by rfl) T.f_tuple (by decide +kernel) (pa_cons (pe_lc (own := [("part", 1)]) (g := gName 1) (tt := tYes) rfl sc_frozenW.nd (pi_list (pv 0)) (blkOk_by (N := ["thing", "part"]) (sc := defScope s_frozen) (by decide +kernel)) (fun _ _ _ _ _ => (pg_name (i := 1) sc_frozenW.nd rfl (Or.inl rfl))) (fun _ _ _ _ _ => pts_nil) (fun _ _ _ _ _ => (pe_call G_frozen hr_frozen (by rfl) H_frozen.gl H_frozen.kp b_frozen .nil pass0 (pa_cons (pv 1) pa_nil)))) pa_nil)))) pss_nil)
      (pss_one (ps_ret (pv 0)))), ?_⟩
    refine ⟨_, rfl, sz_of (by decide), fun tp htp => ?_⟩
    have s1 : Same H (upd H tp (.tup [.ty "list", .ty "tuple"])) := Same.new htp
    refine ⟨_, _, _, _, _, true, rfl, upd_same, .cons (.ty _) (.cons (.ty _) .nil), .base (.lst (s1 _ _ ha)), kit2 (p := true) (q := false) (by decide +kernel) (by decide +kernel) rfl, _, rfl, iteT ?_⟩
    refine ⟨_, rfl, a, rfl, ⟨_, SqL.of (s1 _ _ ha)⟩, fun D hD => ?_⟩
    refine lc_rows (walk_list (K := K) (a := a) (xs := rs.map V.ref)) hD rws (by rw [List.length_map, hR.len]; omega) (fun H2 s2 => SqL.of (s2 _ _ (s1 _ _ ha))) (fun i H2 y H3 hi s2 hy Qe qe => ?_) (fun H2 qs s2 hq hqs h2 => ?_)
    · obtain ⟨rfl, hy⟩ := hy
      obtain ⟨p1, hp1, rfl⟩ := map_get hy
      have hir : i < rws.length := by
        rw [← hR.len]
        exact (List.getElem?_eq_some_iff.mp hp1).1
      have er : rws[i]? = some rws[i] := List.getElem?_eq_getElem hir
      obtain ⟨l, h3, h4⟩ := ((hR.mono s1).mono s2).at_ i p1 rws[i] hp1 er
      refine ⟨rfl, _, rfl, p1, l, rws[i], rfl, h3, h4, fun q H4 s4 hk => qe q _ s4 (fun r e => ?_)⟩
      rw [er] at e
      rw [← Option.some.inj e]
      exact hk
    · rw [List.length_map, hR.len] at hq
      refine ⟨D, _, rfl, SqL.of h2, fun l o hl2 po => k l qs _ ((s1.trans s2).trans (Same.new hl2)) ⟨o, upd_same, po⟩ ⟨hq, fun i p r e1 e2 => (hqs i p r e1 e2).mono (Same.new hl2)⟩⟩

end
end W17
set_option Elab.async false
set_option linter.all false
set_option maxRecDepth 100000
set_option maxHeartbeats 4000000
namespace W17
open PySem PySem.Spec PyProof.Rows L2 RZ
section
variable {P : Program} {w : World} {K : PySem.W.Frag} {mg : Str → Option Value} {base : Heap}

/-- list.extend of any tuple object -/
theorem extend_tupG (l : Addr) (xs : Array Value) (n : Nat) (b : Addr) (ys : Array Value) (n2 : Nat) (dd : Option Addr) (ss : Array (Option Value))
    (h0 : ¬(!xs.isEmpty && Builtin.List.listTooLong (xs.size + ys.size)) = true) (h1 : xs.size ≤ sizeLine) (h2 : xs.size + ys.size ≤ sizeLine + 1) :
    Meets (Builtin.«list.extend» ⟨[.ref l, .ref b], []⟩) (fun _ R s => s.heap.get? l = some { cls := .type "list", dict := none, data := .seq xs n, slots := #[] } ∧
      s.heap.get? b = some { cls := .type "tuple", dict := dd, data := .seq ys n2, slots := ss } ∧
      R (.ok (.ret Value.none)) { s with heap := s.heap.update l (Obj.mapSeq fun x => x ++ ys), toks := s.toks }) := by
  refine .of_wp fun prog w A R s h => ?_
  obtain ⟨hp, g, d, tk, os⟩ := s
  obtain ⟨hl, hb, h⟩ := h
  have f1 := AutoSeq1.idx_int
  have f2 := AutoSeq1.sub_tuple_tuple
  have f3 := AutoSeq1.sub_list_list
  have f4 := AutoSeq1.sub_tuple_list
  have f5 := AutoSeq1.sub_list_tuple
  have hz : (xs ++ ys).size ≤ sizeLine + 1 := by
    rw [Array.size_append]
    exact h2
  wp_walk using (wpAny_updateSeq hl rfl (hz := h1) (_hz' := hz)), wpAny_loadPart' hl, wpAny_loadPart' hb
  exact ⟨_, rfl, h⟩
def rExtendT (K : PySem.W.Frag) : V → List V → Hp → VK → Prop := fun x vs H Q => ∃ l b xs zs, x = .ref l ∧ vs = [.ref b] ∧ H l = some (.lst xs) ∧ SqT K H b zs ∧ xs.length + zs.length ≤ sizeLine ∧ Q .non (upd H l (.lst (xs ++ zs)))
theorem mt_extendT {X : Cx} : MtM X "list.extend" (rExtendT X.K) := by
  intro pins s σ H x vs v us Q I rx rv h
  obtain ⟨l, b, xs, zs, rfl, rfl, hH, hB, hz, q⟩ := h
  cases rx
  obtain ⟨u, rfl, ru⟩ := rv.one
  cases ru
  obtain ⟨z, its, n, r, hl, e⟩ := I.lstM hH
  obtain ⟨its2, r2, ⟨o, ho, hc, n2, hd⟩, hl2⟩ := I.tuple hB
  have e3 : xs.length = its.length := hl
  have e4 : zs.length = its2.length := r2.length
  have hsz : its.toArray.size + its2.toArray.size ≤ sizeLine := by rw [List.size_toArray, List.size_toArray]; omega
  have hlong : ¬ (!its.toArray.isEmpty && Builtin.List.listTooLong (its.toArray.size + its2.toArray.size)) = true := by
    rw [notLongL hsz, Bool.and_false]
    exact Bool.false_ne_true
  obtain ⟨oc, od, dt, osl⟩ := o
  subst hc hd
  refine call_meets F.slot_list_extend ⟨_, e, rfl⟩ F.entry_list_extend (F.args_list_extend_2 _ _)
    (extend_tupG l its.toArray n b its2.toArray n2 od osl hlong (by rw [List.size_toArray]; omega) (by omega)) ⟨e, ho, ?_⟩
  refine ⟨.non, _, I.lset (its' := its ++ its2) hH e (by simp) (r.append r2) ?_, rfl, q⟩
  rw [List.length_append]
  omega

end
end W17
set_option Elab.async false
set_option linter.all false
set_option maxRecDepth 100000
set_option maxHeartbeats 4000000
namespace W17
open PySem PySem.Spec PyProof.Rows L2 RZ
section
variable {P : Program} {w : World} {K : PySem.W.Frag} {mg : Str → Option Value} {base : Heap}

/-- row_reads, row_sets of rows as they are kept -/
def spReadsK : Sp := fun vs H Q _ => ∃ (a : Addr) (r : Rx), vs = [.ref a] ∧ RowAt true H a r ∧ r.reads.length ≤ 1000 ∧ ∀ p H', Same H H' → H p = none → H' p = some (.lst (r.reads.map V.str)) → Q (.ref p) H'
theorem Rx.args_le {r : Rx} {bs : List Str} (h : r.args = some bs) : bs = r.reads := by
  cases r with
  | call x F cs => exact (Option.some.inj h).symm
  | _ => cases h
theorem sc_row_readsK : FnScope ["row", "names", "role", "part"] ["row"] (defScope s_row_reads) := ⟨rfl, rfl, rfl, by decide +kernel, rfl, by decide +kernel, by decide +kernel⟩
theorem ok_row_readsK (T : Ctx w K mg) : Has P w K mg base 1 "row_reads" ["row"] spReadsK := by
  obtain ⟨fd, F⟩ := T.D_row_reads
  refine ⟨⟨fd, F.ok sc_row_readsK (fun vs H Q E h => ?_) (fun cdv A outer s H vs Q E hr h => ?_), F.bindsN fun _ _ _ _ _ _ us hl => match us, hl with | [_], _ => rfl⟩, F.kp, T.g_row_reads⟩
  · obtain ⟨a, r, rfl, hRow, hle, k⟩ := h; rfl
  · obtain ⟨a, r, rfl, hRow, hle, k⟩ := h
    have hu := hu_of hr
    refine ⟨_, PSs.nox (pss_cons (ps_set (i := 1) sc_row_readsK.nd rfl (Or.inl rfl) (pe_lst pa_nil))
      (pss_cons (ps_for PassesOwn.never rfl (pi_zipA (by rfl) T.f_zip (pa_cons (pe_ix ix_kdict (pe_glob (v := .ref (He.ga K "ROLES")) rfl T.g_ROLES rfl) (pe_ix ix_tup (pv 0) pe_int (fun _ _ => rfl)) (fun _ _ => rfl)) (pa_cons (pe_slice sl_tup (pv 0) (po_some pe_int) po_none) pa_nil))) (pg_tup rfl (pgs_cons (pg_name (i := 2) sc_row_readsK.nd rfl (Or.inl rfl)) (pgs_cons (pg_name (i := 3) sc_row_readsK.nd rfl (Or.inl rfl)) pgs_nil)))
      (pss_one (ps_if (pt_cmpR op_eq (pv 2) pe_str (nomark _)) (pss_one (ps_expr (pe_bm PySem.F.plainAttrs_list PySem.F.slot_list_append PySem.F.type_list_append mt_append (pv 1) (pa_cons (pv 3) pa_nil)))) (pss_one (ps_if (pt_cmpR op_eq (pv 2) pe_str (nomark _)) (pss_one (ps_expr (pe_bm PySem.F.plainAttrs_list PySem.F.slot_list_extend PySem.F.type_list_extend mt_extendT (pv 1) (pa_cons (pv 3) pa_nil)))) pss_nil)))))
      (pss_one (ps_ret (pv 1))))), ?_⟩
    obtain ⟨m, ha, hm0⟩ := hRow
    have hm : ∀ bs, r.args = some bs → H m = some (.tup (bs.map V.str)) ∧ bs.length ≤ 1000 := fun bs e => ⟨hm0 bs e, by rw [Rx.args_le e]; exact hle⟩
    have hro : ∀ H, SqT K H (rolA K r.word) (r.roles.map V.str) := fun H => (T.role (rx_roles_mem r) H).2
    have hlp : (r.parts (.ref m)).length ≤ 3 := by cases r <;> simp [Rx.parts]
    have hlr := r.lens (.ref m)
    refine ⟨sz_of (by decide), fun l hl => ?_⟩
    have s0 : Same H (upd H l (.lst [])) := Same.new hl
    refine ⟨_, rfl, _, _, _, _, rfl, rfl, SqT.of (s0 _ _ ha), at0, _, _, _, rfl, rfl, T.roleK (rx_roles_mem r), ?_⟩
    refine ⟨_, rfl, 1, rfl, a, _, rfl, SqT.of (s0 _ _ ha), slice1.2, fun t ht => ?_⟩
    have s1 : Same (upd H l (.lst [])) (upd (upd H l (.lst [])) t (.tup (cutV (V.str r.word :: r.parts (.ref m)) (some 1) none))) := Same.new ht
    have ht1 : (upd (upd H l (.lst [])) t (.tup (cutV (V.str r.word :: r.parts (.ref m)) (some 1) none))) t = some (.tup (r.parts (.ref m))) := by
      rw [upd_same]
      exact congrArg (fun l => some (HO.tup l)) slice1.1
    have hnl : r.namesOf.length ≤ 1000 := by
      unfold Rx.namesOf
      cases e : r.args with
      | none => simp
      | some bs => exact (hm bs e).2
    refine ⟨_, t, _, r.parts (.ref m), rfl, .inr ⟨hro _, SqT.of ht1, ?_⟩⟩
    refine for_it (walk_zipT (K := K) (xs := r.roles.map V.str) (ys := r.parts (.ref m)) (n := (r.parts (.ref m)).length) (by rw [List.length_map, hlr, Nat.min_self])) (fun i σ H1 => ∃ v1 v2 : Option V, σ = [some (.ref a), some (.ref l), v1, v2] ∧ Same H H1 ∧ H1 t = some (.tup (r.parts (.ref m))) ∧ H1 l = some (.lst (rdG (r.namesOf.map V.str) (r.roles.take i) ((r.parts (.ref m)).take i)))) ⟨none, none, rfl, s0.trans s1, ht1, s1 _ _ upd_same⟩ (fun i σ H1 _ ⟨_, _, _, _, h3, _⟩ => ⟨hro _, SqT.of h3⟩) ?_ ?_
    · rintro i y σ H1 H2 hi ⟨v1, v2, rfl, s2, h3, h4⟩ ⟨u, x, v, rfl, hu0, rfl, hx, hv⟩
      obtain ⟨role, e, rfl⟩ := map_get (show (r.roles.map V.str)[i]? = some x from hx)
      have hv : (r.parts (.ref m))[i]? = some v := hv
      have s3 : Same H1 (upd H1 u (.tup [V.str role, v])) := Same.new hu0
      have hsn := rdG_snoc (as := r.namesOf.map V.str) e hv
      have hsz : (rdG (r.namesOf.map V.str) (r.roles.take i) ((r.parts (.ref m)).take i)).length ≤ 3003 := by
        refine Nat.le_trans (rdG_len _ _) ?_
        rw [List.length_take, List.length_map]
        have h6 : min i r.roles.length ≤ 3 := by omega
        exact Nat.le_trans (Nat.mul_le_mul h6 (Nat.succ_le_succ hnl)) (by decide)
      have keep : ∀ {o : List V}, (upd (upd H1 u (.tup [V.str role, v])) l (.lst o)) t = some (.tup (r.parts (.ref m))) := fun {o} => by
        rw [upd_ne]
        · exact s3 _ _ h3
        · intro z
          rw [z, h4] at h3
          cases h3
      refine ⟨u, _, rfl, SqT.of upd_same, rfl, _, _, rfl, _, _, rfl, rfl, ?_⟩
      refine ⟨_, rfl, rfl, _, rfl, ?_⟩
      by_cases c : role = "reads"
      · rw [if_pos c] at hsn
        refine ifT (decide_eq_true (by rw [c])) ?_
        refine ⟨_, rfl, .inl ⟨rfl, _, SqL.of (s3 _ _ h4)⟩, _, rfl, l, _, _, rfl, rfl, s3 _ _ h4, sz_lt (by omega), ?_⟩
        exact ⟨_, _, rfl, Same.mut (s2.trans s3) hl, keep, by rw [upd_same, hsn]⟩
      · rw [if_neg c] at hsn
        refine ifF (decide_eq_false (fun z => c (V.str.inj z))) ?_
        refine ⟨_, rfl, rfl, _, rfl, ?_⟩
        by_cases c2 : role = "many"
        · subst c2
          obtain ⟨bs, hbs, rfl⟩ := Rx.many_at e hv
          rw [if_pos rfl] at hsn
          have hn : r.namesOf = bs := by
            unfold Rx.namesOf
            rw [hbs]
            rfl
          rw [hn] at hsn hsz h4
          refine ifT (decide_eq_true rfl) ?_
          have hml := s3 _ _ (s2 _ _ (hm bs hbs).1)
          refine ⟨_, rfl, .inl ⟨rfl, _, SqL.of (s3 _ _ h4)⟩, _, rfl, l, m, _, _, rfl, rfl, s3 _ _ h4, SqT.of hml, sz_of (by have := (hm bs hbs).2; rw [List.length_map]; omega), ?_⟩
          refine ⟨_, _, rfl, Same.mut (s2.trans s3) hl, ?_, by rw [upd_same, hn, hsn]⟩
          rw [upd_ne]
          · exact s3 _ _ h3
          · intro z
            rw [z, h4] at h3
            cases h3
        · rw [if_neg c2, List.append_nil] at hsn
          refine ifF (decide_eq_false (fun z => c2 (V.str.inj z))) ?_
          refine ⟨_, _, rfl, s2.trans s3, s3 _ _ h3, ?_⟩
          rw [hsn]
          exact s3 _ _ h4
    · rintro σ H1 ⟨v1, v2, rfl, s2, h3, h4⟩
      refine ⟨_, rfl, k l _ s2 hl ?_⟩
      rw [h4, List.take_of_length_le (by rw [hlr]; exact Nat.le_refl _), List.take_length, r.rd _ _ (fun bs hb => by unfold Rx.namesOf; rw [hb]; rfl)]

end
end W17
set_option Elab.async false
set_option linter.all false
set_option maxRecDepth 100000
set_option maxHeartbeats 4000000
namespace W17
open PySem PySem.Spec PyProof.Rows L2 RZ
section
variable {P : Program} {w : World} {K : PySem.W.Frag} {mg : Str → Option Value} {base : Heap}

theorem binNo : ∀ kk : Fin 4, inV (V.str (binW kk)) [.str "if", .str "jump"] = false := by decide +kernel
theorem KindsG.mono {H H' : Hp} {ks us kv : List (Key × V)} {res : Str} {r : Rx} (h : KindsG K H ks us kv res r) (e : Same H H') : KindsG K H' ks us kv res r := by
  cases r with
  | call x F bs =>
    obtain ⟨fp, dx, pa, fs, ps, qs, rs, h1, h2, h3⟩ := h
    exact ⟨fp, dx, pa, fs, ps, qs, rs, h1, h2.mono e, h3⟩
  | _ => exact h
/-- a Function's variables and result, where it stands -/
structure FnG (K : PySem.W.Frag) (H : Hp) (p dx va : Addr) (fs : List (Str × V)) (kv : List (Key × V)) (res : Str) : Prop where
  ob : H p = some (.ins (He.ga K "Function") dx fs)
  vars : fs.lookup ("variables" : Str) = some (.ref va)
  res : fs.lookup ("result" : Str) = some (.str res)
  vd : H va = some (.dK kv)
theorem FnG.mono {H H' : Hp} {p dx va : Addr} {fs : List (Str × V)} {kv : List (Key × V)} {res : Str} (h : FnG K H p dx va fs kv res) (e : Same H H') : FnG K H' p dx va fs kv res := ⟨e _ _ h.ob, h.vars, h.res, e _ _ h.vd⟩
def spIsRowOfG (K : PySem.W.Frag) : Sp := fun vs H Q _ => ∃ (p fp dx va a m0 : Addr) (fs : List (Str × V)) (cs ks us kv : List (Key × V)) (res : Str) (r : Rx) (m : Nat), vs = [.ref p, .ref fp, .ref a, .int m] ∧ SrcH K H p cs ks us ∧ FnG K H fp dx va fs kv res ∧ H a = some (.tup (.str r.word :: r.parts (.ref m0))) ∧ ArgsAt H m0 r ∧
  FormG H cs ks us (.ref m0) r ∧ KindsG K H ks us kv res r ∧ (∀ x ∈ r.names, ∃ v, valV kv (Sum.inr x : Key) = some v) ∧ (∀ g, r.goal = some g → g < m) ∧ ∀ H', Same H H' → Q (.bl true) H' 
theorem sc_Source_is_row_of : FnScope ["self", "function", "row", "many", "names", "name"] ["self", "function", "row", "many"] (defScope s_Source_is_row_of) := ⟨rfl, rfl, rfl, by decide +kernel, rfl, by decide +kernel, by decide +kernel⟩
theorem ok_Source_is_row_of (T : Ctx w K mg) (H_is_row : Has P w K mg base 5 "is_row" ["source", "thing", "words"] (spIsRowG K)) (H_row_sets : Has P w K mg base 1 "row_sets" ["row"] spSetsG) (H_row_reads : Has P w K mg base 1 "row_reads" ["row"] spReadsG) (H_row_kinds_fit : Has P w K mg base 3 "row_kinds_fit" ["source", "row", "kinds", "result"] (spFitG K)) : HasM P w K mg base 6 "Source" "_is_row_of" ["self", "function", "row", "many"] (spIsRowOfG K) := by
  obtain ⟨fd, F⟩ := T.D_Source_is_row_of
  obtain ⟨fd_is_row, G_is_row, b_is_row⟩ := H_is_row.ex
  obtain ⟨fd_row_sets, G_row_sets, b_row_sets⟩ := H_row_sets.ex
  obtain ⟨fd_row_reads, G_row_reads, b_row_reads⟩ := H_row_reads.ex
  obtain ⟨fd_row_kinds_fit, G_row_kinds_fit, b_row_kinds_fit⟩ := H_row_kinds_fit.ex
  refine ⟨⟨fd, F.ok sc_Source_is_row_of (fun vs H Q E h => ?_) (fun cdv A outer s H vs Q E hr h => ?_), F.bindsN fun _ _ _ _ _ _ us hl => match us, hl with | [_, _, _, _], _ => rfl⟩⟩
  · obtain ⟨p, fp, dx, va, a, m0, fs, cs, ks, us, kv, res, r, m, rfl, S0, F0, ha, hm, hb, hk, hn, hg, k⟩ := h; rfl
  · obtain ⟨p, fp, dx, va, a, m0, fs, cs, ks, us, kv, res, r, m, rfl, S0, F0, ha, hm, hb, hk, hn, hg, k⟩ := h
    have hr_is_row : Room 5 _ := hr.mono (by decide)
    have hr_row_sets : Room 1 _ := hr.mono (by decide)
    have hr_row_reads : Room 1 _ := hr.mono (by decide)
    have hr_row_kinds_fit : Room 3 _ := hr.mono (by decide)
    have hu := hu_of hr
    refine ⟨_, PSs.nox (pss_cons (ps_if (pt_not (pt_val (pe_call G_is_row hr_is_row (by rfl) H_is_row.gl H_is_row.kp b_is_row .nil pass0 (pa_cons (pv 0) (pa_cons (pv 2) (pa_cons (pe_glob (v := .ref (He.ga K "ROW_WORDS")) rfl T.g_ROW_WORDS rfl) pa_nil)))))) (pss_one (ps_ret pe_bl)) pss_nil)
      (pss_cons (ps_if (PW.pt (pw_and (pt_cmpR op_in_seq (pe_ix ix_tup (pv 2) pe_int (fun _ _ => rfl)) (pe_tup (pa_cons pe_str (pa_cons pe_str pa_nil))) rfl) (pw_and1 (pt_not (pt_chain op_le op_lt pe_int (pe_ix ix_tup (pv 2) (pe_un un_neg pe_int) (fun _ _ => rfl)) (pv 3)))))) (pss_one (ps_ret pe_bl)) pss_nil)
      (pss_cons (ps_set (i := 4) sc_Source_is_row_of.nd rfl (Or.inl rfl) (pe_lst (pa_cons (pe_call G_row_sets hr_row_sets (by rfl) H_row_sets.gl H_row_sets.kp b_row_sets .nil pass0 (pa_cons (pv 2) pa_nil)) pa_nil)))
      (pss_cons (ps_expr (pe_bm PySem.F.plainAttrs_list PySem.F.slot_list_extend PySem.F.type_list_extend mt_extend (pv 4) (pa_cons (pe_call G_row_reads hr_row_reads (by rfl) H_row_reads.gl H_row_reads.kp b_row_reads .nil pass0 (pa_cons (pv 2) pa_nil)) pa_nil)))
      (pss_cons (ps_if (pt_not (pt_val (pe_callB (cr_all rfl) (by rfl) T.f_all (by decide +kernel) (pa_cons (pe_lc (own := [("name", 5)]) (g := gName 5) (tt := tYes) rfl sc_Source_is_row_of.nd (pi_list (pv 4)) (blkOk_by (N := ["self", "function", "row", "many", "names", "name"]) (sc := defScope s_Source_is_row_of) (by decide +kernel)) (fun _ _ _ _ _ => (pg_name (i := 5) sc_Source_is_row_of.nd rfl (Or.inl rfl))) (fun _ _ _ _ _ => pts_nil) (fun _ _ _ _ _ => (pe_or (pe_cmpR op_isN (pv 5) pe_non (nomark _)) (pe_one (pe_cmp (pc_din hu (pv 5) (pe_fldK (K := K) rfl (pv 1) (by rfl))) (by rfl)))))) pa_nil)))) (pss_one (ps_ret pe_bl)) pss_nil)
      (pss_one (ps_ret (pe_call G_row_kinds_fit hr_row_kinds_fit (by rfl) H_row_kinds_fit.gl H_row_kinds_fit.kp b_row_kinds_fit .nil pass0 (pa_cons (pv 0) (pa_cons (pv 2) (pa_cons (pe_fldK (K := K) rfl (pv 1) (by rfl)) (pa_cons (pe_fldK (K := K) rfl (pv 1) (by rfl)) pa_nil)))))))))))), ?_⟩
    refine ⟨_, rfl, _, rfl, p, cs, ks, us, a, .ref m0, r, rfl, S0, ha, hb, fun H1 s1 => ⟨_, rfl, iteF ?_⟩⟩
    have ha1 := s1 _ _ ha
    have F1 := F0.mono s1
    have hrl : r.reads.length ≤ 1003 := by
      cases r with
      | call x F bs =>
        have := (hm bs rfl).2
        simp only [Rx.reads]
        omega
      | _ => simp [Rx.reads]
    refine ⟨_, rfl, _, _, _, _, rfl, rfl, SqT.of ha1, at0, ?_⟩
    refine ⟨sz_of (by decide), fun t ht => ⟨t, _, rfl, .inr (SqT.of upd_same), rfl, rfl, ?_⟩⟩
    have s2 : Same H1 (upd H1 t (.tup [.str "if", .str "jump"])) := Same.new ht
    cases e : r.goal with
    | none =>
      refine ⟨_, rfl, ifF ?_ ?_⟩
      · cases r <;> first | rfl | exact binNo _ | cases e
      refine iteF ?_
      have ha2 := s2 _ _ ha1
      refine ⟨_, rfl, a, .ref m0, r, rfl, ha2, sz_of (by show 1 ≤ 100000; decide), fun l hl => ?_⟩
      have s3 : Same (upd H1 t (.tup [.str "if", .str "jump"])) (upd (upd H1 t (.tup [.str "if", .str "jump"])) l (.lst [oS r.sets])) := Same.new hl
      refine ⟨_, rfl, .inl ⟨rfl, _, SqL.of upd_same⟩, _, rfl, a, m0, r, rfl, s3 _ _ ha2, hm.mono (s1.trans (s2.trans s3)), fun q H3 s4 _ hq => ?_⟩
      refine ⟨l, q, _, _, rfl, rfl, s4 _ _ upd_same, hq, sz_of ?_, ?_⟩
      · have := hrl
        simp only [List.length_map, List.length_cons, List.length_nil]
        omega
      have s5 : Same H1 (upd H3 l (.lst ([oS r.sets] ++ r.reads.map V.str))) := s2.trans (Same.mut (s3.trans s4) hl)
      refine ⟨_, rfl, l, rfl, ⟨_, SqL.of upd_same⟩, fun D hD => ?_⟩
      have hin : ∀ y ∈ ([oS r.sets] ++ r.reads.map V.str), y = .non ∨ ∃ x ∈ r.names, y = .str x := by
        intro y hy
        simp only [List.mem_append, List.mem_singleton, List.mem_map] at hy
        unfold Rx.names
        rcases hy with rfl | ⟨x, hx, rfl⟩
        · cases e : r.sets with
          | none => exact .inl rfl
          | some x => exact .inr ⟨x, List.mem_cons_self, rfl⟩
        · cases e : r.sets with
          | none => exact .inr ⟨x, hx, rfl⟩
          | some z => exact .inr ⟨x, List.mem_cons_of_mem _ hx, rfl⟩
      refine lc_pure (walk_list (K := K) (a := l) (xs := [oS r.sets] ++ r.reads.map V.str)) hD (fun _ => .bl true) ?_ (fun H4 s6 => SqL.of (s6 _ _ upd_same)) (fun i H4 y H5 hi s6 hy Qe qe => ?_) (fun H4 s6 h4 => ?_)
      · have := hrl
        simp only [List.length_append, List.length_map, List.length_cons, List.length_nil]
        omega
      · obtain ⟨rfl, hy⟩ := hy
        have F2 := F1.mono (s5.trans s6)
        rcases hin y (List.mem_of_getElem? hy) with rfl | ⟨x, hx, rfl⟩
        · exact ⟨rfl, _, rfl, rfl, _, rfl, iteT (qe _ (Same.refl _))⟩
        · obtain ⟨v, hv⟩ := hn x hx
          refine ⟨rfl, _, rfl, rfl, _, rfl, iteF ⟨_, rfl, _, rfl, fp, _, dx, fs, _, rfl, F2.ob, T.c_Function, T.n_Function_variables, F2.vars, va, some v, rfl, ?_, qe _ (Same.refl _)⟩⟩
          rw [← hv]
          exact DGet.k (k := Sum.inr x) F2.vd
      refine ⟨D, (List.range ([oS r.sets] ++ r.reads.map V.str).length).map (fun _ => true), rfl, SqL.of (by rw [h4, List.map_map]; rfl), _, rfl, ifF (show (!((List.range ([oS r.sets] ++ r.reads.map V.str).length).map (fun _ => true)).all id) = false by rw [all_true]; rfl) ?_⟩
      have F3 := F1.mono (s5.trans s6)
      refine ⟨_, rfl, _, rfl, _, rfl, fp, _, dx, fs, _, rfl, F3.ob, T.c_Function, T.n_Function_variables, F3.vars, _, rfl, fp, _, dx, fs, _, rfl, F3.ob, T.c_Function, T.n_Function_result, F3.res, p, a, m0, va, cs, ks, us, kv, res, r, rfl, S0.mono (s1.trans (s5.trans s6)), s6 _ _ (s5 _ _ ha1), hm.mono (s1.trans (s5.trans s6)), F3.vd, hk.mono (s1.trans (s5.trans s6)), fun H' s7 => k H' ((s1.trans (s5.trans s6)).trans s7)⟩
    | some gg =>
      have hgg := hg gg e
      have hat : atI (V.str r.word :: r.parts (.ref m0)) (-1) = some (.int gg) := by
        cases r with
        | ifz x z =>
          have e2 : z = gg := Option.some.inj e
          rw [← e2]
          exact atI_last [V.str "if", V.str x] (.int z)
        | jump z =>
          have e2 : z = gg := Option.some.inj e
          rw [← e2]
          exact atI_last [V.str "jump"] (.int z)
        | _ => cases e
      refine ⟨_, rfl, ifT ?_ ?_⟩
      · cases r <;> first | rfl | cases e
      refine ⟨_, rfl, 1, rfl, _, _, _, _, rfl, rfl, SqT.of (s2 _ _ ha1), hat, _, _, rfl, rfl, _, rfl, ifT (decide_eq_true (by omega)) ⟨_, rfl, _, _, rfl, rfl, _, rfl, ?_⟩⟩
      have eqq : (!decide ((gg : Int) < (m : Int))) = false := by
        rw [decide_eq_true (by omega)]
        rfl
      refine ifF eqq ?_
      have ha2 := s2 _ _ ha1
      refine ⟨_, rfl, a, .ref m0, r, rfl, ha2, sz_of (by show 1 ≤ 100000; decide), fun l hl => ?_⟩
      have s3 : Same (upd H1 t (.tup [.str "if", .str "jump"])) (upd (upd H1 t (.tup [.str "if", .str "jump"])) l (.lst [oS r.sets])) := Same.new hl
      refine ⟨_, rfl, .inl ⟨rfl, _, SqL.of upd_same⟩, _, rfl, a, m0, r, rfl, s3 _ _ ha2, hm.mono (s1.trans (s2.trans s3)), fun q H3 s4 _ hq => ?_⟩
      refine ⟨l, q, _, _, rfl, rfl, s4 _ _ upd_same, hq, sz_of ?_, ?_⟩
      · have := hrl
        simp only [List.length_map, List.length_cons, List.length_nil]
        omega
      have s5 : Same H1 (upd H3 l (.lst ([oS r.sets] ++ r.reads.map V.str))) := s2.trans (Same.mut (s3.trans s4) hl)
      refine ⟨_, rfl, l, rfl, ⟨_, SqL.of upd_same⟩, fun D hD => ?_⟩
      have hin : ∀ y ∈ ([oS r.sets] ++ r.reads.map V.str), y = .non ∨ ∃ x ∈ r.names, y = .str x := by
        intro y hy
        simp only [List.mem_append, List.mem_singleton, List.mem_map] at hy
        unfold Rx.names
        rcases hy with rfl | ⟨x, hx, rfl⟩
        · cases e : r.sets with
          | none => exact .inl rfl
          | some x => exact .inr ⟨x, List.mem_cons_self, rfl⟩
        · cases e : r.sets with
          | none => exact .inr ⟨x, hx, rfl⟩
          | some z => exact .inr ⟨x, List.mem_cons_of_mem _ hx, rfl⟩
      refine lc_pure (walk_list (K := K) (a := l) (xs := [oS r.sets] ++ r.reads.map V.str)) hD (fun _ => .bl true) ?_ (fun H4 s6 => SqL.of (s6 _ _ upd_same)) (fun i H4 y H5 hi s6 hy Qe qe => ?_) (fun H4 s6 h4 => ?_)
      · have := hrl
        simp only [List.length_append, List.length_map, List.length_cons, List.length_nil]
        omega
      · obtain ⟨rfl, hy⟩ := hy
        have F2 := F1.mono (s5.trans s6)
        rcases hin y (List.mem_of_getElem? hy) with rfl | ⟨x, hx, rfl⟩
        · exact ⟨rfl, _, rfl, rfl, _, rfl, iteT (qe _ (Same.refl _))⟩
        · obtain ⟨v, hv⟩ := hn x hx
          refine ⟨rfl, _, rfl, rfl, _, rfl, iteF ⟨_, rfl, _, rfl, fp, _, dx, fs, _, rfl, F2.ob, T.c_Function, T.n_Function_variables, F2.vars, va, some v, rfl, ?_, qe _ (Same.refl _)⟩⟩
          rw [← hv]
          exact DGet.k (k := Sum.inr x) F2.vd
      refine ⟨D, (List.range ([oS r.sets] ++ r.reads.map V.str).length).map (fun _ => true), rfl, SqL.of (by rw [h4, List.map_map]; rfl), _, rfl, ifF (show (!((List.range ([oS r.sets] ++ r.reads.map V.str).length).map (fun _ => true)).all id) = false by rw [all_true]; rfl) ?_⟩
      have F3 := F1.mono (s5.trans s6)
      refine ⟨_, rfl, _, rfl, _, rfl, fp, _, dx, fs, _, rfl, F3.ob, T.c_Function, T.n_Function_variables, F3.vars, _, rfl, fp, _, dx, fs, _, rfl, F3.ob, T.c_Function, T.n_Function_result, F3.res, p, a, m0, va, cs, ks, us, kv, res, r, rfl, S0.mono (s1.trans (s5.trans s6)), s6 _ _ (s5 _ _ ha1), hm.mono (s1.trans (s5.trans s6)), F3.vd, hk.mono (s1.trans (s5.trans s6)), fun H' s7 => k H' ((s1.trans (s5.trans s6)).trans s7)⟩

end
end W17
set_option Elab.async false
set_option linter.all false
set_option maxRecDepth 100000
set_option maxHeartbeats 4000000
namespace W17
open PySem PySem.Spec PyProof.Rows L2 RZ
section
variable {P : Program} {w : World} {K : PySem.W.Frag} {mg : Str → Option Value} {base : Heap}

/-- all but what stands at p is as it was -/
def But (p : Addr) (H H' : Hp) : Prop := ∀ b u, H b = some u → b ≠ p → H' b = some u
theorem But.refl (p : Addr) (H : Hp) : But p H H := fun _ _ h _ => h
theorem But.trans {p : Addr} {H H1 H2 : Hp} (a : But p H H1) (b : But p H1 H2) : But p H H2 := fun c u h n => b c u (a c u h n) n
theorem But.of {p : Addr} {H H' : Hp} (e : Same H H') : But p H H' := fun b u h _ => e b u h
theorem But.upd {p : Addr} {H : Hp} {o : HO} : But p H (upd H p o) := fun b u h n => by
  rw [upd_ne n]
  exact h
theorem FormG.mono {H H' : Hp} {cs ks us : List (Key × V)} {l : V} {r : Rx} (h : FormG H cs ks us l r) (e : Same H H') : FormG H' cs ks us l r := fun i x v a b => (h i x v a b).mono e
theorem KeptRows.tupfn {p C dx : Addr} {fs fs' : List (Str × V)} {H : Hp} {qs : List Addr} {rws : List Rx} (h : KeptRows H qs rws) (hp : H p = some (.ins C dx fs)) : KeptRows (L2.upd H p (.ins C dx fs')) qs rws :=
  ⟨h.len, fun i a r e1 e2 => by
    obtain ⟨l, h1, h2⟩ := h.at_ i a r e1 e2
    refine ⟨l, ?_, fun bs e => ?_⟩
    · rw [upd_ne (ne_of h1 hp (by intro z; cases z))]
      exact h1
    · have q := h2 bs e
      rw [if_pos rfl] at q ⊢
      rw [upd_ne (ne_of q hp (by intro z; cases z))]
      exact q⟩
def spTakeRG (K : PySem.W.Frag) : Sp := fun vs H Q _ => ∃ (p fp dy va ra : Addr) (kk : Int) (gs : List (Str × V)) (cs ks us kv : List (Key × V)) (res : Str) (rs : List Addr) (rws : List Rx), vs = [.ref p, .int kk, .ref fp, .ref ra] ∧ SrcH K H p cs ks us ∧ gs.length ≤ 900 ∧ FnG K H fp dy va gs kv res ∧ H ra = some (.lst (rs.map V.ref)) ∧ RawRows H rs rws ∧
  (∀ (i : Nat) a r l, rs[i]? = some a → rws[i]? = some r → H a = some (.tup (.str r.word :: r.parts (.ref l))) → FormG H cs ks us (.ref l) r) ∧ (∀ r ∈ rws, KindsG K H ks us kv res r ∧ (∀ x ∈ r.names, ∃ v, valV kv (Sum.inr x : Key) = some v) ∧ ∀ g, r.goal = some g → g < rws.length) ∧
  (∃ r0 rl, rws = r0 ++ [rl] ∧ (rl.word = ("jump" : Str) ∨ rl.word = ("return" : Str))) ∧ rws.length ≤ 40 ∧
  ∀ (H' : Hp) (q : Addr) (qs : List Addr), But fp H H' → FnG K H' fp dy va (putF "body" (.ref q) gs) kv res → TupP H' q (qs.map V.ref) → KeptRows H' qs rws → Q .non H' 
theorem sc_Source_take_rows : FnScope ["self", "k", "function", "rows", "r", "row"] ["self", "k", "function", "rows"] (defScope s_Source_take_rows) := ⟨rfl, rfl, rfl, by decide +kernel, rfl, by decide +kernel, by decide +kernel⟩
theorem ok_Source_take_rows (T : Ctx w K mg) (H_Source_is_row_of : HasM P w K mg base 6 "Source" "_is_row_of" ["self", "function", "row", "many"] (spIsRowOfG K)) (H_frozen : Has P w K mg base 4 "frozen" ["thing"] spFzRows) : HasM P w K mg base 7 "Source" "_take_rows" ["self", "k", "function", "rows"] (spTakeRG K) := by
  obtain ⟨fd, F⟩ := T.D_Source_take_rows
  obtain ⟨fd_Source_is_row_of, G_Source_is_row_of, b_Source_is_row_of⟩ := H_Source_is_row_of.ex
  obtain ⟨fd_frozen, G_frozen, b_frozen⟩ := H_frozen.ex
  refine ⟨⟨fd, F.ok sc_Source_take_rows (fun vs H Q E h => ?_) (fun cdv A outer s H vs Q E hr h => ?_), F.bindsN fun _ _ _ _ _ _ us hl => match us, hl with | [_, _, _, _], _ => rfl⟩⟩
  · obtain ⟨p, fp, dy, va, ra, kk, gs, cs, ks, us, kv, res, rs, rws, rfl, S0, few0, F0, hra, hR, hf, hok, hlast, hle, k⟩ := h; rfl
  · obtain ⟨p, fp, dy, va, ra, kk, gs, cs, ks, us, kv, res, rs, rws, rfl, S0, few0, F0, hra, hR, hf, hok, hlast, hle, k⟩ := h
    have hr_Source_is_row_of : Room 6 _ := hr.mono (by decide)
    have hr_frozen : Room 4 _ := hr.mono (by decide)
    have hu := hu_of hr
    refine ⟨_, PSs.nox (pss_cons (ps_for PassesOwn.never rfl (pi_enum (by rfl) T.f_enumerate (pa_cons (pv 3) pa_nil)) (pg_tup rfl (pgs_cons (pg_name (i := 4) sc_Source_take_rows.nd rfl (Or.inl rfl)) (pgs_cons (pg_name (i := 5) sc_Source_take_rows.nd rfl (Or.inl rfl)) pgs_nil)))
      (pss_one (ps_if (pt_not (pt_val (pe_meth (pv 0) T.c_Source T.m_Source_is_row_of G_Source_is_row_of hr_Source_is_row_of b_Source_is_row_of .nil pass0 (pa_cons (pv 2) (pa_cons (pv 5) (pa_cons (pe_callB call_len_seq (by rfl) T.f_len (by decide +kernel) (pa_cons (pv 3) pa_nil)) pa_nil)))))) (pss_one ps_never) pss_nil)))
      (pss_cons (ps_if (pt_cmpR op_notIn_seq (pe_ix ix_tup (pe_ix ix_list (pv 3) (pe_un un_neg pe_int) (fun _ _ => rfl)) pe_int (fun _ _ => rfl)) (pe_tup (pa_cons pe_str (pa_cons pe_str pa_nil))) rfl) (pss_one ps_never) pss_nil)
      (pss_one (ps_fld (pv 2) (pe_call G_frozen hr_frozen (by rfl) H_frozen.gl H_frozen.kp b_frozen .nil pass0 (pa_cons (pv 3) pa_nil)) rfl)))), ?_⟩
    obtain ⟨dx, df, dk, du, fs, S⟩ := id S0
    have hlr : rs.length = rws.length := hR.len
    have nra : ra ≠ fp := ne_of hra F0.ob (by intro z; cases z)
    refine ⟨_, rfl, ra, _, rfl, SqL.of hra, ?_⟩
    refine for_it (walk_enum (K := K) (a := ra) (xs := rs.map V.ref)) (fun i σ H1 => ∃ v1 v2 : Option V, σ = [some (.ref p), some (.int kk), some (.ref fp), some (.ref ra), v1, v2] ∧ Same H H1) ⟨none, none, rfl, Same.refl H⟩ (fun i σ H1 _ ⟨_, _, _, s1⟩ => SqL.of (s1 _ _ hra)) ?_ ?_
    · rintro i y σ H1 H2 hi ⟨v1, v2, rfl, s1⟩ ⟨u, a, b, rfl, hu0, rfl, h1, h2⟩
      have h2 : (rs.map V.ref)[i]? = some b := h2
      obtain rfl : V.int (i : Nat) = a := Option.some.inj h1
      obtain ⟨c, hc, rfl⟩ := map_get h2
      have hir : i < rws.length := by
        rw [← hlr]
        exact (List.getElem?_eq_some_iff.mp hc).1
      have hr1 : rws[i]? = some rws[i] := List.getElem?_eq_getElem hir
      obtain ⟨l, hca, hm⟩ := hR.at_ i c _ hc hr1
      have s2 : Same H1 (upd H1 u (.tup [.int (i : Nat), .ref c])) := Same.new hu0
      have s12 := s1.trans s2
      obtain ⟨q1, q2, q3⟩ := hok rws[i] (List.getElem_mem hir)
      refine ⟨u, _, rfl, SqT.of upd_same, rfl, _, _, rfl, _, _, rfl, rfl, ?_⟩
      refine ⟨_, rfl, p, dx, fs, rfl, s12 _ _ S.ob, S.nm _ (by decide +kernel), _, rfl, _, rfl, _, rfl, _, _, rfl, .inl (SqL.of (s12 _ _ hra)), ?_⟩
      refine ⟨p, fp, dy, va, c, l, gs, cs, ks, us, kv, res, rws[i], (rs.map V.ref).length, rfl, S0.mono s12, F0.mono s12, s12 _ _ hca, hm.mono s12, (hf i c _ l hc hr1 hca).mono s12, q1.mono s12, q2, fun g e => by rw [List.length_map, hlr]; exact q3 g e, fun H3 s3 => ⟨_, rfl, iteF ?_⟩⟩
      exact ⟨_, _, rfl, s12.trans s3⟩
    · rintro σ H1 ⟨v1, v2, rfl, s1⟩
      have hl2 := hlast
      obtain ⟨r0, rl, erl, hword⟩ := hl2
      have hrl : rws[r0.length]? = some rl := by
        rw [erl]
        simp
      have hl0 : rs.length = r0.length + 1 := by
        rw [hlr, erl]
        simp
      obtain ⟨c, hc⟩ : ∃ c, rs[r0.length]? = some c := ⟨rs[r0.length], List.getElem?_eq_getElem _⟩
      obtain ⟨l, hcl, _⟩ := hR.at_ _ c rl hc hrl
      have hat : atI (rs.map V.ref) (-1) = some (.ref c) := by
        have e1 : rs = rs.take r0.length ++ [c] := by
          have e2 := take_snoc hc
          rw [← e2, List.take_of_length_le (by omega)]
        rw [e1, List.map_append]
        exact atI_last _ _
      refine ⟨_, rfl, 1, rfl, _, _, _, _, rfl, rfl, SqL.of (s1 _ _ hra), hat, _, _, _, _, rfl, rfl, SqT.of (s1 _ _ hcl), at0, sz_of (by show 2 ≤ 100000; decide), fun t ht => ⟨t, _, rfl, .inr (SqT.of upd_same), rfl, rfl, _, rfl, ifF ?_ ?_⟩⟩
      · show (if true = true then !inV (V.str rl.word) [.str "jump", .str "return"] else inV (V.str rl.word) [.str "jump", .str "return"]) = false
        rcases hword with e | e <;> rw [e] <;> rfl
      have s2 : Same H1 (upd H1 t (.tup [.str "jump", .str "return"])) := Same.new ht
      have s12 := s1.trans s2
      refine ⟨_, rfl, ra, rs, rws, rfl, s12 _ _ hra, hR.mono s12, by omega, fun q qs H3 s3 tq hqs => ?_⟩
      have s13 := s12.trans s3
      refine ⟨_, rfl, fp, _, dy, _, rfl, s13 _ _ F0.ob, T.c_Function, T.n_Function_body, Nat.lt_of_le_of_lt few0 (by decide), ?_⟩
      refine k _ q qs ((But.of s13).trans But.upd) ⟨upd_same, ?_, ?_, ?_⟩ ?_ (hqs.tupfn (s13 _ _ F0.ob))
      · rw [lookup_putF, if_neg (by decide +kernel)]
        exact F0.vars
      · rw [lookup_putF, if_neg (by decide +kernel)]
        exact F0.res
      · rw [upd_ne (ne_of F0.vd F0.ob (by intro z; cases z))]
        exact s13 _ _ F0.vd
      · obtain ⟨ob, e, pl⟩ := tq
        exact ⟨ob, by rw [upd_ne (ne_of e (s13 _ _ F0.ob) (by intro z; cases z))]; exact e, pl⟩

end
end W17
set_option Elab.async false
set_option linter.all false
set_option maxRecDepth 100000
set_option maxHeartbeats 4000000
namespace W17
open PySem PySem.Spec PyProof.Rows L2
section
variable {P : Program} {w : World} {K : PySem.W.Frag} {mg : Str → Option Value} {base : Heap}

/-- pairs of a name and a kind -/
structure PairsG (H : Hp) (ps : List Addr) (qs : List (Str × Str)) : Prop where
  len : ps.length = qs.length
  at_ : ∀ (i : Nat) p q, ps[i]? = some p → qs[i]? = some q → H p = some (.tup [.str q.1, .str q.2])
theorem PairsG.mono {H H' : Hp} {ps : List Addr} {qs : List (Str × Str)} (h : PairsG H ps qs) (e : Same H H') : PairsG H' ps qs := ⟨h.len, fun i p x a b => e _ _ (h.at_ i p x a b)⟩
theorem PairsG.get {H : Hp} {ps : List Addr} {qs : List (Str × Str)} (h : PairsG H ps qs) {i : Nat} {y : V} (e : (ps.map V.ref)[i]? = some y) : ∃ p q, y = .ref p ∧ ps[i]? = some p ∧ qs[i]? = some q ∧ H p = some (.tup [.str q.1, .str q.2]) := by
  obtain ⟨p, hp, rfl⟩ := map_get e
  have hi : i < qs.length := by
    rw [← h.len]
    exact (List.getElem?_eq_some_iff.mp hp).1
  have hx : qs[i]? = some qs[i] := List.getElem?_eq_getElem hi
  exact ⟨p, _, rfl, hp, hx, h.at_ i p _ hp hx⟩
def IsKind (q : Str) : Prop := q = "number" ∨ q = "object"
def spKindG : Sp := fun vs H Q _ => ∃ q, vs = [.str q] ∧ IsKind q ∧ Q (.bl true) H
def spNamedG : Sp := fun vs H Q _ => ∃ (a : Addr) (ps : List Addr) (qs : List (Str × Str)) (m : Int), vs = [.ref a, .int m] ∧ H a = some (.lst (ps.map V.ref)) ∧ PairsG H ps qs ∧ (∀ q ∈ qs, Nam q.1 ∧ IsKind q.2) ∧ (qs.map Prod.fst).Nodup ∧ (qs.length : Int) ≤ m ∧ qs.length ≤ 100 ∧ ∀ H', Same H H' → Q (.bl true) H' 
theorem sc_is_kindG : FnScope ["thing"] ["thing"] (defScope s_is_kind) := ⟨rfl, rfl, rfl, by decide +kernel, rfl, by decide +kernel, by decide +kernel⟩
theorem ok_is_kindG (T : Ctx w K mg) : Has P w K mg base 1 "is_kind" ["thing"] spKindG := by
  obtain ⟨fd, F⟩ := T.D_is_kind
  refine ⟨⟨fd, F.ok sc_is_kindG (fun vs H Q E h => ?_) (fun cdv A outer s H vs Q E hr h => ?_), F.bindsN fun _ _ _ _ _ _ us hl => match us, hl with | [_], _ => rfl⟩, F.kp, T.g_is_kind⟩
  · obtain ⟨q, rfl, hq, k⟩ := h; rfl
  · obtain ⟨q, rfl, hq, k⟩ := h
    have hu := hu_of hr
    refine ⟨_, PSs.nox (pss_one (ps_ret (pe_and (pe_callB call_isi (by rfl) T.f_isinstance (by decide +kernel) (pa_cons (pv 0) (pa_cons (pe_bltn (v := .ty "str") (u := .type "str") rfl T.f_str (by decide +kernel) rfl) pa_nil))) (pe_one (pe_cmpR op_in_seq (pv 0) (pe_glob (v := .ref (He.ga K "KINDS")) rfl T.g_KINDS rfl) rfl))))), ?_⟩
    refine ⟨_, rfl, _, _, _, _, true, rfl, .ty _, .base (.str _), kit_ty (by decide +kernel), true, rfl, iteT ?_⟩
    refine ⟨_, rfl, _, _, rfl, .inr (T.kinds H), rfl, rfl, qT ?_ k⟩
    rcases hq with rfl | rfl <;> rfl
theorem sc_are_named_kindsG : FnScope ["thing", "most", "names", "pair"] ["thing", "most"] (defScope s_are_named_kinds) := ⟨rfl, rfl, rfl, by decide +kernel, rfl, by decide +kernel, by decide +kernel⟩
theorem ok_are_named_kindsG (T : Ctx w K mg) (H_is_list_of : Has P w K mg base 1 "is_list_of" ["thing", "least", "most"] spListOf) (H_is_tuple_of : Has P w K mg base 1 "is_tuple_of" ["thing", "many"] spTupOf) (H_is_name : Has P w K mg base 1 "is_name" ["thing"] spName) (H_is_kind : Has P w K mg base 1 "is_kind" ["thing"] spKindG) : Has P w K mg base 2 "are_named_kinds" ["thing", "most"] spNamedG := by
  obtain ⟨fd, F⟩ := T.D_are_named_kinds
  obtain ⟨fd_is_list_of, G_is_list_of, b_is_list_of⟩ := H_is_list_of.ex
  obtain ⟨fd_is_tuple_of, G_is_tuple_of, b_is_tuple_of⟩ := H_is_tuple_of.ex
  obtain ⟨fd_is_name, G_is_name, b_is_name⟩ := H_is_name.ex
  obtain ⟨fd_is_kind, G_is_kind, b_is_kind⟩ := H_is_kind.ex
  refine ⟨⟨fd, F.ok sc_are_named_kindsG (fun vs H Q E h => ?_) (fun cdv A outer s H vs Q E hr h => ?_), F.bindsN fun _ _ _ _ _ _ us hl => match us, hl with | [_, _], _ => rfl⟩, F.kp, T.g_are_named_kinds⟩
  · obtain ⟨a, ps, qs, m, rfl, ha, hp, hN, hnd, hm, h100, k⟩ := h; rfl
  · obtain ⟨a, ps, qs, m, rfl, ha, hp, hN, hnd, hm, h100, k⟩ := h
    have hr_is_list_of : Room 1 _ := hr.mono (by decide)
    have hr_is_tuple_of : Room 1 _ := hr.mono (by decide)
    have hr_is_name : Room 1 _ := hr.mono (by decide)
    have hr_is_kind : Room 1 _ := hr.mono (by decide)
    have hu := hu_of hr
    refine ⟨_, PSs.nox (pss_cons (ps_if (pt_not (pt_val (pe_call G_is_list_of hr_is_list_of (by rfl) H_is_list_of.gl H_is_list_of.kp b_is_list_of .nil pass0 (pa_cons (pv 0) (pa_cons pe_int (pa_cons (pv 1) pa_nil)))))) (pss_one (ps_ret pe_bl)) pss_nil)
      (pss_cons (ps_set (i := 2) sc_are_named_kindsG.nd rfl (Or.inl rfl) pe_dnewK)
      (pss_cons (ps_for PassesOwn.never rfl (pi_list (pv 0)) (pg_name (i := 3) sc_are_named_kindsG.nd rfl (Or.inl rfl))
      (pss_cons (ps_if (PW.pt (pw_or (pt_not (pt_val (pe_call G_is_tuple_of hr_is_tuple_of (by rfl) H_is_tuple_of.gl H_is_tuple_of.kp b_is_tuple_of .nil pass0 (pa_cons (pv 3) (pa_cons pe_int pa_nil))))) (pw_or (pt_not (pt_val (pe_call G_is_name hr_is_name (by rfl) H_is_name.gl H_is_name.kp b_is_name .nil pass0 (pa_cons (pe_ix ix_tup (pv 3) pe_int (fun _ _ => rfl)) pa_nil)))) (pw_or1 (pt_not (pt_val (pe_call G_is_kind hr_is_kind (by rfl) H_is_kind.gl H_is_kind.kp b_is_kind .nil pass0 (pa_cons (pe_ix ix_tup (pv 3) pe_int (fun _ _ => rfl)) pa_nil)))))))) (pss_one (ps_ret pe_bl)) pss_nil)
      (pss_cons (ps_if (pt_cmp (pc_din hu (pe_ix ix_tup (pv 3) pe_int (fun _ _ => rfl)) (pv 2))) (pss_one (ps_ret pe_bl)) pss_nil)
      (pss_one (ps_dput hu (pv 2) (pe_ix ix_tup (pv 3) pe_int (fun _ _ => rfl)) pe_bl rfl)))))
      (pss_one (ps_ret pe_bl))))), ?_⟩
    have hlp : (ps.map V.ref).length = qs.length := by rw [List.length_map, hp.len]
    refine ⟨_, rfl, _, rfl, a, ps.map V.ref, 0, m, rfl, ha, by omega, by rw [hlp]; exact hm, _, rfl, iteF ?_⟩
    intro d hd
    have s1 : Same H (upd H d (.dK [])) := Same.new hd
    refine ⟨_, rfl, a, rfl, ⟨_, SqL.of (s1 _ _ ha)⟩, ?_⟩
    refine for_it (walk_list (K := K) (a := a) (xs := ps.map V.ref)) (fun i σ H1 => ∃ v : Option V, σ = [some (.ref a), some (.int m), some (.ref d), v] ∧ Same H H1 ∧ H1 d = some (.dK (kvT ((qs.map Prod.fst).take i) fun _ => .bl true))) ⟨none, rfl, s1, upd_same⟩ (fun i σ H1 _ ⟨v, _, s2, _⟩ => SqL.of (s2 _ _ ha)) ?_ ?_
    · rintro i y σ H1 H2 hi ⟨v, rfl, s2, h2⟩ ⟨rfl, hy⟩
      obtain ⟨p, x, rfl, hpi, hni, hpt⟩ := hp.get hy
      have hx := s2 _ _ hpt
      have hni1 : (qs.map Prod.fst)[i]? = some x.1 := by
        rw [List.getElem?_map, hni]
        rfl
      have hnot := not_in_take hnd hni1
      obtain ⟨n1, n2⟩ := hN x (List.mem_of_getElem? hni)
      refine ⟨_, rfl, p, _, 2, rfl, hx, rfl, _, rfl, ?_⟩
      refine iteF ⟨_, rfl, _, _, _, _, rfl, rfl, SqT.of hx, at0, x.1, rfl, n1, fun H3 s3 => ⟨_, rfl, iteF ?_⟩⟩
      have hx3 := s3 _ _ hx
      refine ⟨_, rfl, _, _, _, _, rfl, rfl, SqT.of hx3, at1, x.2, rfl, n2, _, rfl, iteF ?_⟩
      have h3 := s3 _ _ h2
      refine ⟨_, rfl, _, _, _, _, rfl, rfl, SqT.of hx3, at0, _, rfl, d, _, rfl, DGet.k (k := Sum.inr x.1) h3, _, rfl, ?_⟩
      refine ifF (by rw [valV_kvT hnot]; rfl) ?_
      refine ⟨_, rfl, _, rfl, _, _, _, _, rfl, rfl, SqT.of hx3, at0, d, _, rfl, DPut.k (k := Sum.inr x.1) h3 (small1000 ?_), ?_⟩
      · unfold kvT
        rw [List.length_map, List.length_take, List.length_map]
        omega
      · refine ⟨_, rfl, Same.mut (s2.trans s3) hd, ?_⟩
        rw [upd_same, take_snoc hni1]
        exact congrArg (fun l => some (HO.dK l)) (putK_kvT hnot)
    · rintro σ H1 ⟨v, rfl, s2, h2⟩
      exact k _ s2

end
end W17
set_option Elab.async false
set_option linter.all false
set_option maxRecDepth 100000
set_option maxHeartbeats 4000000
namespace W17
open PySem PySem.Spec PyProof.Rows L2
section
variable {P : Program} {w : World} {K : PySem.W.Frag} {mg : Str → Option Value} {base : Heap}

theorem PairsG.append {H : Hp} {ps qs : List Addr} {ns ms : List (Str × Str)} (h : PairsG H ps ns) (h2 : PairsG H qs ms) : PairsG H (ps ++ qs) (ns ++ ms) := by
  refine ⟨by rw [List.length_append, List.length_append, h.len, h2.len], fun i p x a b => ?_⟩
  by_cases hi : i < ps.length
  · rw [List.getElem?_append_left hi] at a
    rw [List.getElem?_append_left (by rw [← h.len]; exact hi)] at b
    exact h.at_ i p x a b
  · rw [List.getElem?_append_right (by omega)] at a
    rw [List.getElem?_append_right (by rw [← h.len]; omega), ← h.len] at b
    exact h2.at_ _ p x a b
/-- a function as it is handed in, all but its rows -/
structure EntryG (H : Hp) (e pa oa ra : Addr) (nm res : Str) (ps qs : List Addr) (ns ms : List (Str × Str)) (rs : List V) : Prop where
  he : H e = some (.tup [.str nm, .ref pa, .ref oa, .str res, .ref ra])
  nf : Nam nm
  kd : IsKind res
  hpa : H pa = some (.lst (ps.map V.ref))
  p1 : PairsG H ps ns
  hoa : H oa = some (.lst (qs.map V.ref))
  p2 : PairsG H qs ms
  nam : ∀ q ∈ ns ++ ms, Nam q.1 ∧ IsKind q.2
  nd : ((ns ++ ms).map Prod.fst).Nodup
  l1 : ns.length ≤ 4
  l2 : ms.length ≤ 8
  hra : H ra = some (.lst rs)
  l3 : 1 ≤ rs.length
  l4 : rs.length ≤ 40
def spHeadG : Sp := fun vs H Q _ => ∃ (e pa oa ra : Addr) (nm res : Str) (ps qs : List Addr) (ns ms : List (Str × Str)) (rs : List V), vs = [.ref e] ∧ EntryG H e pa oa ra nm res ps qs ns ms rs ∧ ∀ H', Same H H' → Q (.bl true) H'
/-- a class as it is handed in -/
def spClassG : Sp := fun vs H Q _ => ∃ (e fa : Addr) (nm : Str) (ps : List Addr) (ns : List (Str × Str)), vs = [.ref e] ∧ H e = some (.tup [.str nm, .ref fa]) ∧ Nam nm ∧ H fa = some (.lst (ps.map V.ref)) ∧ PairsG H ps ns ∧ (∀ q ∈ ns, Nam q.1 ∧ IsKind q.2) ∧ (ns.map Prod.fst).Nodup ∧ ns.length ≤ 4 ∧ ∀ H', Same H H' → Q (.bl true) H' 
theorem sc_is_head : FnScope ["entry"] ["entry"] (defScope s_is_head) := ⟨rfl, rfl, rfl, by decide +kernel, rfl, by decide +kernel, by decide +kernel⟩
theorem ok_is_head (T : Ctx w K mg) (H_is_tuple_of : Has P w K mg base 1 "is_tuple_of" ["thing", "many"] spTupOf) (H_is_name : Has P w K mg base 1 "is_name" ["thing"] spName) (H_is_kind : Has P w K mg base 1 "is_kind" ["thing"] spKindG) (H_are_named_kinds : Has P w K mg base 2 "are_named_kinds" ["thing", "most"] spNamedG) (H_is_list_of : Has P w K mg base 1 "is_list_of" ["thing", "least", "most"] spListOf) : Has P w K mg base 3 "_is_head" ["entry"] spHeadG := by
  obtain ⟨fd, F⟩ := T.D_is_head
  obtain ⟨fd_is_tuple_of, G_is_tuple_of, b_is_tuple_of⟩ := H_is_tuple_of.ex
  obtain ⟨fd_is_name, G_is_name, b_is_name⟩ := H_is_name.ex
  obtain ⟨fd_is_kind, G_is_kind, b_is_kind⟩ := H_is_kind.ex
  obtain ⟨fd_are_named_kinds, G_are_named_kinds, b_are_named_kinds⟩ := H_are_named_kinds.ex
  obtain ⟨fd_is_list_of, G_is_list_of, b_is_list_of⟩ := H_is_list_of.ex
  refine ⟨⟨fd, F.ok sc_is_head (fun vs H Q E h => ?_) (fun cdv A outer s H vs Q E hr h => ?_), F.bindsN fun _ _ _ _ _ _ us hl => match us, hl with | [_], _ => rfl⟩, F.kp, T.g_is_head⟩
  · obtain ⟨e, pa, oa, ra, nm, res, ps, qs, ns, ms, rs, rfl, E0, k⟩ := h; rfl
  · obtain ⟨e, pa, oa, ra, nm, res, ps, qs, ns, ms, rs, rfl, E0, k⟩ := h
    have hr_is_tuple_of : Room 1 _ := hr.mono (by decide)
    have hr_is_name : Room 1 _ := hr.mono (by decide)
    have hr_is_kind : Room 1 _ := hr.mono (by decide)
    have hr_are_named_kinds : Room 2 _ := hr.mono (by decide)
    have hr_is_list_of : Room 1 _ := hr.mono (by decide)
    have hu := hu_of hr
    obtain ⟨t_MOST_PARAMETERS, e_MOST_PARAMETERS⟩ := T.i_MOST_PARAMETERS
    obtain ⟨t_MOST_OTHERS, e_MOST_OTHERS⟩ := T.i_MOST_OTHERS
    obtain ⟨t_MOST_ROWS, e_MOST_ROWS⟩ := T.i_MOST_ROWS
    refine ⟨_, PSs.nox (pss_cons (ps_if (PW.pt (pw_or (pt_not (pt_val (pe_call G_is_tuple_of hr_is_tuple_of (by rfl) H_is_tuple_of.gl H_is_tuple_of.kp b_is_tuple_of .nil pass0 (pa_cons (pv 0) (pa_cons pe_int pa_nil))))) (pw_or (pt_not (pt_val (pe_call G_is_name hr_is_name (by rfl) H_is_name.gl H_is_name.kp b_is_name .nil pass0 (pa_cons (pe_ix ix_tup (pv 0) pe_int (fun _ _ => rfl)) pa_nil)))) (pw_or1 (pt_not (pt_val (pe_call G_is_kind hr_is_kind (by rfl) H_is_kind.gl H_is_kind.kp b_is_kind .nil pass0 (pa_cons (pe_ix ix_tup (pv 0) pe_int (fun _ _ => rfl)) pa_nil)))))))) (pss_one (ps_ret pe_bl)) pss_nil)
      (pss_cons (ps_if (PW.pt (pw_or (pt_not (pt_val (pe_call G_are_named_kinds hr_are_named_kinds (by rfl) H_are_named_kinds.gl H_are_named_kinds.kp b_are_named_kinds .nil pass0 (pa_cons (pe_ix ix_tup (pv 0) pe_int (fun _ _ => rfl)) (pa_cons (pe_glob (v := .int 4) rfl e_MOST_PARAMETERS ⟨_, rfl⟩) pa_nil))))) (pw_or1 (pt_not (pt_val (pe_call G_are_named_kinds hr_are_named_kinds (by rfl) H_are_named_kinds.gl H_are_named_kinds.kp b_are_named_kinds .nil pass0 (pa_cons (pe_ix ix_tup (pv 0) pe_int (fun _ _ => rfl)) (pa_cons (pe_glob (v := .int 8) rfl e_MOST_OTHERS ⟨_, rfl⟩) pa_nil)))))))) (pss_one (ps_ret pe_bl)) pss_nil)
      (pss_cons (ps_if (pt_not (pt_val (pe_call G_are_named_kinds hr_are_named_kinds (by rfl) H_are_named_kinds.gl H_are_named_kinds.kp b_are_named_kinds .nil pass0 (pa_cons (pe_op op_cat (pe_ix ix_tup (pv 0) pe_int (fun _ _ => rfl)) (pe_ix ix_tup (pv 0) pe_int (fun _ _ => rfl))) (pa_cons (pe_op op_add (pe_glob (v := .int 4) rfl e_MOST_PARAMETERS ⟨_, rfl⟩) (pe_glob (v := .int 8) rfl e_MOST_OTHERS ⟨_, rfl⟩)) pa_nil))))) (pss_one (ps_ret pe_bl)) pss_nil)
      (pss_one (ps_ret (pe_call G_is_list_of hr_is_list_of (by rfl) H_is_list_of.gl H_is_list_of.kp b_is_list_of .nil pass0 (pa_cons (pe_ix ix_tup (pv 0) pe_int (fun _ _ => rfl)) (pa_cons pe_int (pa_cons (pe_glob (v := .int 40) rfl e_MOST_ROWS ⟨_, rfl⟩) pa_nil))))))))), ?_⟩
    obtain ⟨he, nf, kd, hpa, hp1, hoa, hp2, hN, hnd, l1, l2, hra, l3, l4⟩ := E0
    have hnd0 := hnd
    rw [List.map_append] at hnd0
    have hnd1 := (List.nodup_append.mp hnd0).1
    have hnd2 := (List.nodup_append.mp hnd0).2.1
    refine ⟨_, rfl, e, _, 5, rfl, he, rfl, _, rfl, iteF ?_⟩
    refine ⟨_, rfl, _, _, _, _, rfl, rfl, SqT.of he, at0, nm, rfl, nf, fun H1 s1 => ⟨_, rfl, iteF ?_⟩⟩
    refine ⟨_, rfl, _, _, _, _, rfl, rfl, SqT.of (s1 _ _ he), at3, res, rfl, kd, _, rfl, iteF ?_⟩
    refine ⟨_, rfl, _, _, _, _, rfl, rfl, SqT.of (s1 _ _ he), at1, pa, ps, ns, 4, rfl, s1 _ _ hpa, hp1.mono s1, fun x m => hN x (List.mem_append_left _ m), hnd1, by omega, by omega, fun H2 s2 => ⟨_, rfl, iteF ?_⟩⟩
    have s12 := s1.trans s2
    refine ⟨_, rfl, _, _, _, _, rfl, rfl, SqT.of (s12 _ _ he), at2, oa, qs, ms, 8, rfl, s12 _ _ hoa, hp2.mono s12, fun x m => hN x (List.mem_append_right _ m), hnd2, by omega, by omega, fun H3 s3 => ⟨_, rfl, iteF ?_⟩⟩
    have s13 := s12.trans s3
    refine ⟨_, rfl, _, _, _, _, rfl, rfl, SqT.of (s13 _ _ he), at1, _, rfl, _, _, _, _, rfl, rfl, SqT.of (s13 _ _ he), at2, ?_⟩
    have hl1 : ps.length = ns.length := hp1.len
    have hl2 : qs.length = ms.length := hp2.len
    refine ⟨pa, oa, _, _, rfl, rfl, s13 _ _ hpa, s13 _ _ hoa, sz_of (by rw [List.length_map, List.length_map]; omega), fun c hc => ?_⟩
    have s4 := Same.new (o := .lst (ps.map V.ref ++ qs.map V.ref)) hc
    refine ⟨_, _, rfl, rfl, c, ps ++ qs, ns ++ ms, 12, rfl, by rw [upd_same, List.map_append], (hp1.append hp2).mono (s13.trans s4), hN, hnd, by rw [List.length_append]; omega, by rw [List.length_append]; omega, fun H5 s5 => ⟨_, rfl, iteF ?_⟩⟩
    have s15 := (s13.trans s4).trans s5
    exact ⟨_, rfl, _, _, _, _, rfl, rfl, SqT.of (s15 _ _ he), at4, ra, rs, 1, 40, rfl, s15 _ _ hra, by omega, by omega, k _ s15⟩
theorem sc_is_class : FnScope ["entry"] ["entry"] (defScope s_is_class) := ⟨rfl, rfl, rfl, by decide +kernel, rfl, by decide +kernel, by decide +kernel⟩
theorem ok_is_class (T : Ctx w K mg) (H_is_tuple_of : Has P w K mg base 1 "is_tuple_of" ["thing", "many"] spTupOf) (H_is_name : Has P w K mg base 1 "is_name" ["thing"] spName) (H_are_named_kinds : Has P w K mg base 2 "are_named_kinds" ["thing", "most"] spNamedG) : Has P w K mg base 3 "_is_class" ["entry"] spClassG := by
  obtain ⟨fd, F⟩ := T.D_is_class
  obtain ⟨fd_is_tuple_of, G_is_tuple_of, b_is_tuple_of⟩ := H_is_tuple_of.ex
  obtain ⟨fd_is_name, G_is_name, b_is_name⟩ := H_is_name.ex
  obtain ⟨fd_are_named_kinds, G_are_named_kinds, b_are_named_kinds⟩ := H_are_named_kinds.ex
  refine ⟨⟨fd, F.ok sc_is_class (fun vs H Q E h => ?_) (fun cdv A outer s H vs Q E hr h => ?_), F.bindsN fun _ _ _ _ _ _ us hl => match us, hl with | [_], _ => rfl⟩, F.kp, T.g_is_class⟩
  · obtain ⟨e, fa, nm, ps, ns, rfl, he, nf, hfa, hp, hN, hnd, hl, k⟩ := h; rfl
  · obtain ⟨e, fa, nm, ps, ns, rfl, he, nf, hfa, hp, hN, hnd, hl, k⟩ := h
    have hr_is_tuple_of : Room 1 _ := hr.mono (by decide)
    have hr_is_name : Room 1 _ := hr.mono (by decide)
    have hr_are_named_kinds : Room 2 _ := hr.mono (by decide)
    have hu := hu_of hr
    obtain ⟨t_MOST_FIELDS, e_MOST_FIELDS⟩ := T.i_MOST_FIELDS
    refine ⟨_, PSs.nox (pss_one (ps_ret (pe_and (pe_call G_is_tuple_of hr_is_tuple_of (by rfl) H_is_tuple_of.gl H_is_tuple_of.kp b_is_tuple_of .nil pass0 (pa_cons (pv 0) (pa_cons pe_int pa_nil))) (pe_and (pe_call G_is_name hr_is_name (by rfl) H_is_name.gl H_is_name.kp b_is_name .nil pass0 (pa_cons (pe_ix ix_tup (pv 0) pe_int (fun _ _ => rfl)) pa_nil)) (pe_one (pe_call G_are_named_kinds hr_are_named_kinds (by rfl) H_are_named_kinds.gl H_are_named_kinds.kp b_are_named_kinds .nil pass0 (pa_cons (pe_ix ix_tup (pv 0) pe_int (fun _ _ => rfl)) (pa_cons (pe_glob (v := .int 4) rfl e_MOST_FIELDS ⟨_, rfl⟩) pa_nil)))))))), ?_⟩
    refine ⟨_, rfl, e, _, 2, rfl, he, rfl, _, rfl, iteT ?_⟩
    refine ⟨_, rfl, _, _, _, _, rfl, rfl, SqT.of he, at0, nm, rfl, nf, fun H1 s1 => ⟨_, rfl, iteT ?_⟩⟩
    exact ⟨_, rfl, _, _, _, _, rfl, rfl, SqT.of (s1 _ _ he), at1, fa, ps, ns, 4, rfl, s1 _ _ hfa, hp.mono s1, hN, hnd, by omega, by omega, fun H2 s2 => k _ (s1.trans s2)⟩

end
end W17
set_option Elab.async false
set_option linter.all false
set_option maxRecDepth 100000
set_option maxHeartbeats 4000000
namespace W17
open PySem PySem.Spec PyProof.Rows L2 RZ
section
variable {P : Program} {w : World} {K : PySem.W.Frag} {mg : Str → Option Value} {base : Heap}

/-- pairs as a dict -/
def kvP (ns : List (Str × Str)) : List (Key × V) := ns.map fun n => (Sum.inr n.1, V.str n.2)
theorem valV_kvP {x : Str} : ∀ {l : List (Str × Str)}, x ∉ l.map Prod.fst → valV (kvP l) (Sum.inr x : Key) = none
  | [], _ => rfl
  | a :: l, h => by
    have h1 : ¬ a.1 = x := fun z => h (by rw [← z]; exact List.mem_cons_self)
    have ih := valV_kvP (x := x) (l := l) fun m => h (List.mem_cons_of_mem _ m)
    unfold kvP at ih ⊢
    unfold valV at ih ⊢
    rw [List.map_cons, List.find?_cons_of_neg (by simpa using h1)]
    exact ih
theorem valV_kvP_in {q : Str × Str} : ∀ {l : List (Str × Str)}, (l.map Prod.fst).Nodup → q ∈ l → valV (kvP l) (Sum.inr q.1 : Key) = some (.str q.2)
  | [], _, m => by cases m
  | a :: l, nd, m => by
    obtain ⟨n1, n2⟩ := List.nodup_cons.mp (show (a.1 :: l.map Prod.fst).Nodup from nd)
    unfold kvP
    unfold valV
    rw [List.map_cons]
    by_cases c : a.1 = q.1
    · rw [List.find?_cons_of_pos (by simpa using c)]
      have e : a = q := by
        rcases List.mem_cons.mp m with m | m
        · exact m.symm
        · exact absurd (by rw [c]; exact List.mem_map.mpr ⟨q, m, rfl⟩) n1
      rw [e]
      rfl
    · rw [List.find?_cons_of_neg (by simpa using c)]
      have m2 : q ∈ l := by
        rcases List.mem_cons.mp m with m | m
        · exact absurd (by rw [m]) c
        · exact m
      exact valV_kvP_in n2 m2
theorem putK_new {k : Key} {v : V} {l : List (Key × V)} (h : ∀ q ∈ l, q.1 ≠ k) : putK l k v = l ++ [(k, v)] := by
  unfold putK
  rw [if_neg]
  intro z
  obtain ⟨q, m, e⟩ := List.any_eq_true.mp z
  exact h q m (of_decide_eq_true e)
theorem putK_kvP {q : Str × Str} {l : List (Str × Str)} (h : q.1 ∉ l.map Prod.fst) : putK (kvP l) (Sum.inr q.1 : Key) (.str q.2) = kvP (l ++ [q]) := by
  unfold kvP
  rw [List.map_append]
  refine putK_new fun r m e => h ?_
  obtain ⟨a, ma, rfl⟩ := List.mem_map.mp m
  exact List.mem_map.mpr ⟨a, ma, Sum.inr.inj e⟩
theorem pairFG {H : Hp} {ps : List Addr} {ns : List (Str × Str)} (h : PairsG H ps ns) : ∀ (i : Nat) (p : Addr), ps[i]? = some p → H p = some (.tup [.str (ns.getD i ("", "")).1, .str (ns.getD i ("", "")).2]) ∧ ([V.str (ns.getD i ("", "")).1, .str (ns.getD i ("", "")).2] : List V).length ≤ 100 ∧ ∀ x ∈ ([V.str (ns.getD i ("", "")).1, .str (ns.getD i ("", "")).2] : List V), Fl x := by
  intro i p e
  have hi : i < ns.length := by
    rw [← h.len]
    exact (List.getElem?_eq_some_iff.mp e).1
  refine ⟨?_, by simp, fun x m => ?_⟩
  · have q := h.at_ i p ns[i] e (List.getElem?_eq_getElem hi)
    rw [q, List.getD_eq_getElem?_getD, List.getElem?_eq_getElem hi]
    rfl
  · simp at m
    rcases m with rfl | rfl
    · exact .str _
    · exact .str _
theorem fPairG {H : Hp} {qs : List Addr} {ns : List (Str × Str)} (hl : qs.length = ns.length) (h : ∀ (i : Nat) (p : Addr), qs[i]? = some p → H p = some (.tup [.str (ns.getD i ("", "")).1, .str (ns.getD i ("", "")).2])) : PairsG H qs ns := by
  refine ⟨hl, fun i p x e1 e2 => ?_⟩
  rw [h i p e1, List.getD_eq_getElem?_getD, e2]
  rfl
def spDiff (K : PySem.W.Frag) : Sp := fun vs H Q _ => ∃ (p fa : Addr) (cs ks us : List (Key × V)) (ps : List Addr) (ns : List (Str × Str)), vs = [.ref p, .ref fa] ∧ SrcH K H p cs ks us ∧ H fa = some (.lst (ps.map V.ref)) ∧ PairsG H ps ns ∧ (∀ q ∈ ns, valV ks (Sum.inr q.1 : Key) = none ∨ valV ks (Sum.inr q.1 : Key) = some (.str q.2)) ∧ ns.length ≤ 100 ∧ ∀ H', Same H H' → Q (.bl false) H'
theorem any_false {n : Nat} : ((List.range n).map fun _ => false).any id = false := by
  rw [List.any_map]
  exact List.any_eq_false.mpr fun x _ => by simp
/-- all but what stands at the places of l -/
def ButL (l : List Addr) (H H' : Hp) : Prop := ∀ b u, H b = some u → b ∉ l → H' b = some u
/-- a class as it is handed in, with its fields -/
def ClsG (H : Hp) (e : Addr) (c : Str × List (Str × Str)) : Prop := ∃ (fa : Addr) (ps : List Addr), H e = some (.tup [.str c.1, .ref fa]) ∧ H fa = some (.lst (ps.map V.ref)) ∧ PairsG H ps c.2
theorem ClsG.mono {H H' : Hp} {e : Addr} {c : Str × List (Str × Str)} (h : ClsG H e c) (s : Same H H') : ClsG H' e c := by
  obtain ⟨fa, ps, h1, h2, h3⟩ := h
  exact ⟨fa, ps, s _ _ h1, s _ _ h2, h3.mono s⟩
def csM (cl : List (Str × List (Str × Str))) (qs : List Addr) : List (Key × V) := (cl.zip qs).map fun q => (Sum.inr q.1.1, V.ref q.2)
def ksF (ks : List (Key × V)) (ns : List (Str × Str)) : List (Key × V) := ns.foldl (fun ks q => putK ks (Sum.inr q.1) (.str q.2)) ks
def ksM (cl : List (Str × List (Str × Str))) : List (Key × V) := cl.foldl (fun ks c => ksF ks c.2) []
theorem putK_len (ks : List (Key × V)) (k : Key) (v : V) : (putK ks k v).length ≤ ks.length + 1 := by
  unfold putK
  split
  · rw [List.length_map]
    omega
  · rw [List.length_append]
    exact Nat.le_refl _
theorem ksF_len (ns : List (Str × Str)) : ∀ ks : List (Key × V), (ksF ks ns).length ≤ ks.length + ns.length := by
  induction ns with
  | nil => exact fun ks => Nat.le_refl _
  | cons a l ih =>
    intro ks
    have h1 := ih (putK ks (Sum.inr a.1) (.str a.2))
    have h2 := putK_len ks (Sum.inr a.1) (.str a.2)
    show (ksF (putK ks (Sum.inr a.1) (.str a.2)) l).length ≤ _
    rw [List.length_cons]
    omega
theorem ksF_snoc (ks : List (Key × V)) (ns : List (Str × Str)) (q : Str × Str) : ksF ks (ns ++ [q]) = putK (ksF ks ns) (Sum.inr q.1) (.str q.2) := by
  unfold ksF
  rw [List.foldl_append]
  rfl
theorem ksM_snoc (cl : List (Str × List (Str × Str))) (c : Str × List (Str × Str)) : ksM (cl ++ [c]) = ksF (ksM cl) c.2 := by
  unfold ksM
  rw [List.foldl_append]
  rfl
theorem ksM_len : ∀ (cl : List (Str × List (Str × Str))) (ks : List (Key × V)), (∀ c ∈ cl, c.2.length ≤ 4) → (cl.foldl (fun ks c => ksF ks c.2) ks).length ≤ ks.length + 4 * cl.length
  | [], ks, _ => by simp
  | c :: cl, ks, h => by
    have h1 := ksM_len cl (ksF ks c.2) fun d m => h d (List.mem_cons_of_mem _ m)
    have h2 := ksF_len c.2 ks
    have h3 := h c List.mem_cons_self
    rw [List.foldl_cons, List.length_cons]
    omega
theorem cs_ne {cl : List (Str × List (Str × Str))} {qs : List Addr} {i : Nat} {c : Str × List (Str × Str)} (nd : (cl.map Prod.fst).Nodup) (h : cl[i]? = some c) : ∀ q ∈ csM (cl.take i) qs, q.1 ≠ (Sum.inr c.1 : Key) := by
  intro q m e
  unfold csM at m
  obtain ⟨r, mr, rfl⟩ := List.mem_map.mp m
  have m1 := (List.of_mem_zip mr).1
  have e1 : r.1.1 = c.1 := Sum.inr.inj e
  have q1 : (cl.map Prod.fst)[i]? = some c.1 := by
    rw [List.getElem?_map, h]
    rfl
  refine not_in_take nd q1 ?_
  rw [← List.map_take, ← e1]
  exact List.mem_map.mpr ⟨r.1, m1, rfl⟩
theorem cs_snoc {cl : List (Str × List (Str × Str))} {qs : List Addr} {i : Nat} {c : Str × List (Str × Str)} {x : Addr} (h : cl[i]? = some c) (hl : qs.length = i) : csM (cl.take (i + 1)) (qs ++ [x]) = csM (cl.take i) qs ++ [(Sum.inr c.1, V.ref x)] := by
  unfold csM
  rw [take_snoc h, List.zip_append (by
    rw [List.length_take, hl]
    have := (List.getElem?_eq_some_iff.mp h).1
    omega), List.map_append]
  rfl
theorem valV_newC {k : Key} : ∀ {l : List (Key × V)}, (∀ q ∈ l, q.1 ≠ k) → valV l k = none
  | [], _ => rfl
  | a :: l, h => by
    have ih := valV_newC (k := k) (l := l) fun q m => h q (List.mem_cons_of_mem _ m)
    unfold valV at ih ⊢
    rw [List.find?_cons_of_neg (by simpa using h a List.mem_cons_self)]
    exact ih
/-- classes that are right, by themselves and beside one another -/
structure ClsOk (cl : List (Str × List (Str × Str))) : Prop where
  nd : (cl.map Prod.fst).Nodup
  one : ∀ c ∈ cl, Nam c.1 ∧ (∀ q ∈ c.2, Nam q.1 ∧ IsKind q.2) ∧ (c.2.map Prod.fst).Nodup ∧ c.2.length ≤ 4
  l6 : cl.length ≤ 6
  fit : ∀ (i : Nat) c, cl[i]? = some c → ∀ q ∈ c.2, valV (ksM (cl.take i)) (Sum.inr q.1 : Key) = none ∨ valV (ksM (cl.take i)) (Sum.inr q.1 : Key) = some (.str q.2)
/-- what is changed in place: dicts and instances -/
def Loose (u : HO) : Prop := (∃ z, u = .dK z) ∨ ∃ C d fs, u = .ins C d fs
def KeepN (H H' : Hp) : Prop := ∀ b u, H b = some u → ¬ Loose u → H' b = some u
theorem KeepN.of {H H' : Hp} (e : Same H H') : KeepN H H' := fun b u h _ => e b u h
theorem KeepN.trans {H H1 H2 : Hp} (a : KeepN H H1) (b : KeepN H1 H2) : KeepN H H2 := fun c u h n => b c u (a c u h n) n
theorem KeepN.butL {H H' : Hp} {l : List Addr} (hl : ∀ d ∈ l, ∀ u, H d = some u → Loose u) (b : ButL l H H') : KeepN H H' := fun a u h n => b a u h fun m => n (hl a m u h)
theorem KeepN.but {H H' : Hp} {p C dx : Addr} {fs : List (Str × V)} (hp : H p = some (.ins C dx fs)) (b : But p H H') : KeepN H H' := fun a u h n => b a u h fun z => n (.inr ⟨C, dx, fs, by rw [z, hp] at h; exact (Option.some.inj h).symm⟩)
theorem loose_tup {xs : List V} : ¬ Loose (.tup xs) := fun z => by
  rcases z with ⟨_, z⟩ | ⟨_, _, _, z⟩ <;> cases z
theorem loose_frz {o : Obj} {u : HO} : ¬ Loose (.frz o u) := fun z => by
  rcases z with ⟨_, z⟩ | ⟨_, _, _, z⟩ <;> cases z
theorem TupP.keepN {H H' : Hp} {a : Addr} {xs : List V} (h : TupP H a xs) (k : KeepN H H') : TupP H' a xs := by
  obtain ⟨o, e, q⟩ := h
  exact ⟨o, k _ _ e loose_frz, q⟩
theorem PairsG.keepN {H H' : Hp} {ps : List Addr} {qs : List (Str × Str)} (h : PairsG H ps qs) (k : KeepN H H') : PairsG H' ps qs := ⟨h.len, fun i p x a b => k _ _ (h.at_ i p x a b) loose_tup⟩
/-- the fields of classes, as they are kept -/
def ClsA (H : Hp) (cl : List (Str × List (Str × Str))) (qs : List Addr) : Prop := ∀ (i : Nat) c x, cl[i]? = some c → qs[i]? = some x → ∃ ps : List Addr, TupP H x (ps.map V.ref) ∧ PairsG H ps c.2
theorem ClsA.keepN {H H' : Hp} {cl : List (Str × List (Str × Str))} {qs : List Addr} (h : ClsA H cl qs) (k : KeepN H H') : ClsA H' cl qs := fun i c x a b => by
  obtain ⟨ps, h1, h2⟩ := h i c x a b
  exact ⟨ps, h1.keepN k, h2.keepN k⟩
theorem ClsA.snoc {H : Hp} {cl : List (Str × List (Str × Str))} {qs : List Addr} {i : Nat} {c : Str × List (Str × Str)} {q : Addr} {ps : List Addr} (h : ClsA H cl qs) (hl : qs.length = i) (hc : cl[i]? = some c) (h1 : TupP H q (ps.map V.ref)) (h2 : PairsG H ps c.2) : ClsA H cl (qs ++ [q]) := fun j d x a b => by
  by_cases hj : j < i
  · rw [List.getElem?_append_left (by omega)] at b
    exact h j d x a b
  · by_cases e : j = i
    · subst e
      rw [List.getElem?_append_right (by omega), hl, Nat.sub_self] at b
      rw [hc] at a
      rw [← Option.some.inj a, ← show q = x from Option.some.inj b]
      exact ⟨ps, h1, h2⟩
    · rw [List.getElem?_append_right (by omega)] at b
      have := (List.getElem?_eq_some_iff.mp b).1
      rw [List.length_singleton] at this
      omega
structure ClsK (H : Hp) (cl : List (Str × List (Str × Str))) (qs : List Addr) : Prop where
  len : qs.length = cl.length
  at_ : ClsA H cl qs
theorem ClsK.keepN {H H' : Hp} {cl : List (Str × List (Str × Str))} {qs : List Addr} (h : ClsK H cl qs) (k : KeepN H H') : ClsK H' cl qs := ⟨h.len, h.at_.keepN k⟩
def spTakeCM (K : PySem.W.Frag) : Sp := fun vs H Q _ => ∃ (p ca dx df dk du : Addr) (fs : List (Str × V)) (us : List (Key × V)) (cl : List (Str × List (Str × Str))) (es : List Addr), vs = [.ref p, .ref ca] ∧ SrcG K H p dx df dk du fs [] [] us ∧ df ≠ dk ∧ du ≠ df ∧ du ≠ dk ∧ H ca = some (.lst (es.map V.ref)) ∧ es.length = cl.length ∧
  (∀ (i : Nat) e c, es[i]? = some e → cl[i]? = some c → ClsG H e c) ∧ ClsOk cl ∧ ∀ (H' : Hp) (qs : List Addr), ButL [df, dk] H H' → ClsK H' cl qs → H' df = some (.dK (csM cl qs)) → H' dk = some (.dK (ksM cl)) → Q .non H' 
theorem sc_Source_kinds_differ : FnScope ["self", "fields", "field", "kind"] ["self", "fields"] (defScope s_Source_kinds_differ) := ⟨rfl, rfl, rfl, by decide +kernel, rfl, by decide +kernel, by decide +kernel⟩
theorem ok_Source_kinds_differ (T : Ctx w K mg) : HasM P w K mg base 1 "Source" "_kinds_differ" ["self", "fields"] (spDiff K) := by
  obtain ⟨fd, F⟩ := T.D_Source_kinds_differ
  refine ⟨⟨fd, F.ok sc_Source_kinds_differ (fun vs H Q E h => ?_) (fun cdv A outer s H vs Q E hr h => ?_), F.bindsN fun _ _ _ _ _ _ us hl => match us, hl with | [_, _], _ => rfl⟩⟩
  · obtain ⟨p, fa, cs, ks, us, ps, ns, rfl, S0, hfa, hp, hk, hl, k⟩ := h; rfl
  · obtain ⟨p, fa, cs, ks, us, ps, ns, rfl, S0, hfa, hp, hk, hl, k⟩ := h
    have hu := hu_of hr
    refine ⟨_, PSs.nox (pss_one (ps_ret (pe_callB (cr_any rfl) (by rfl) T.f_any (by decide +kernel) (pa_cons (pe_lc (own := [("field", 2), ("kind", 3)]) (g := gTup K 2 (gCons (gName 2) (gCons (gName 3) (gNil)))) (tt := tYes) rfl sc_Source_kinds_differ.nd (pi_list (pv 1)) (blkOk_by (N := ["self", "fields", "field", "kind"]) (sc := defScope s_Source_kinds_differ) (by decide +kernel)) (fun _ _ _ _ _ => (pg_tup rfl (pgs_cons (pg_name (i := 2) sc_Source_kinds_differ.nd rfl (Or.inl rfl)) (pgs_cons (pg_name (i := 3) sc_Source_kinds_differ.nd rfl (Or.inl rfl)) pgs_nil)))) (fun _ _ _ _ _ => pts_nil) (fun _ _ _ _ _ => (pe_cmpR op_ne (pe_dget2 hu (pe_fldK (K := K) rfl (pv 0) (by rfl)) (pv 2) (pv 3) ⟨rfl, rfl, rfl, rfl⟩) (pv 3) (nomark _)))) pa_nil)))), ?_⟩
    obtain ⟨dx, df, dk, du, fs, S⟩ := S0
    refine ⟨_, rfl, fa, rfl, ⟨_, SqL.of hfa⟩, fun D hD => ?_⟩
    refine lc_pure (walk_list (K := K) (a := fa) (xs := ps.map V.ref)) hD (fun _ => .bl false) (by rw [List.length_map, hp.len]; omega) (fun H1 s1 => SqL.of (s1 _ _ hfa)) (fun i H1 y H2 hi s1 hy Qe qe => ?_) (fun H1 s1 h1 => ?_)
    · obtain ⟨rfl, hy⟩ := hy
      obtain ⟨p1, x, rfl, hp1, hx, hpt⟩ := (hp.mono s1).get hy
      have S1 := S.mono s1
      refine ⟨p1, _, rfl, SqT.of hpt, rfl, _, _, rfl, _, _, rfl, rfl, rfl, ?_⟩
      refine ⟨_, rfl, p, _, dx, fs, _, rfl, S1.ob, T.c_Source, T.n_Source_field_kinds, S1.f2, dk, rfl, .inl ⟨_, .inl S1.d2⟩, _, rfl, _, rfl, _, DGet.k (k := Sum.inr x.1) S1.d2, ?_⟩
      have e : (valV ks (Sum.inr x.1 : Key)).getD (.str x.2) = .str x.2 := by
        rcases hk x (List.mem_of_getElem? hx) with e | e <;> rw [e] <;> rfl
      rw [e]
      exact ⟨_, rfl, rfl, qF (by simp) (qe _ (Same.refl _))⟩
    · exact ⟨D, (List.range (ps.map V.ref).length).map (fun _ => false), rfl, SqL.of (by rw [h1, List.map_map]; rfl), qF any_false (k _ s1)⟩
theorem sc_Source_take_classes : FnScope ["self", "classes", "k", "entry", "field", "kind"] ["self", "classes"] (defScope s_Source_take_classes) := ⟨rfl, rfl, rfl, by decide +kernel, rfl, by decide +kernel, by decide +kernel⟩
theorem ok_Source_take_classes (T : Ctx w K mg) (H_is_list_of : Has P w K mg base 1 "is_list_of" ["thing", "least", "most"] spListOf) (H_is_class : Has P w K mg base 3 "_is_class" ["entry"] spClassG) (H_Source_kinds_differ : HasM P w K mg base 1 "Source" "_kinds_differ" ["self", "fields"] (spDiff K)) (H_frozen : Has P w K mg base 3 "frozen" ["thing"] spFz2) : HasM P w K mg base 4 "Source" "_take_classes" ["self", "classes"] (spTakeCM K) := by
  obtain ⟨fd, F⟩ := T.D_Source_take_classes
  obtain ⟨fd_is_list_of, G_is_list_of, b_is_list_of⟩ := H_is_list_of.ex
  obtain ⟨fd_is_class, G_is_class, b_is_class⟩ := H_is_class.ex
  obtain ⟨fd_Source_kinds_differ, G_Source_kinds_differ, b_Source_kinds_differ⟩ := H_Source_kinds_differ.ex
  obtain ⟨fd_frozen, G_frozen, b_frozen⟩ := H_frozen.ex
  refine ⟨⟨fd, F.ok sc_Source_take_classes (fun vs H Q E h => ?_) (fun cdv A outer s H vs Q E hr h => ?_), F.bindsN fun _ _ _ _ _ _ us hl => match us, hl with | [_, _], _ => rfl⟩⟩
  · obtain ⟨p, ca, dx, df, dk, du, fs, us, cl, es, rfl, S, hdd, hu1, hu2, hca, hel, hE, O, k⟩ := h; rfl
  · obtain ⟨p, ca, dx, df, dk, du, fs, us, cl, es, rfl, S, hdd, hu1, hu2, hca, hel, hE, O, k⟩ := h
    have hr_is_list_of : Room 1 _ := hr.mono (by decide)
    have hr_is_class : Room 3 _ := hr.mono (by decide)
    have hr_Source_kinds_differ : Room 1 _ := hr.mono (by decide)
    have hr_frozen : Room 3 _ := hr.mono (by decide)
    have hu := hu_of hr
    obtain ⟨t_c, e_MOST_CLASSES⟩ := T.i_MOST_CLASSES
    refine ⟨_, PSs.nox (pss_cons (ps_if (pt_not (pt_val (pe_call G_is_list_of hr_is_list_of (by rfl) H_is_list_of.gl H_is_list_of.kp b_is_list_of .nil pass0 (pa_cons (pv 1) (pa_cons pe_int (pa_cons (pe_glob (v := .int 6) rfl e_MOST_CLASSES ⟨_, rfl⟩) pa_nil)))))) (pss_one ps_never) pss_nil)
      (pss_one (ps_for PassesOwn.never rfl (pi_enum (by rfl) T.f_enumerate (pa_cons (pv 1) pa_nil)) (pg_tup rfl (pgs_cons (pg_name (i := 2) sc_Source_take_classes.nd rfl (Or.inl rfl)) (pgs_cons (pg_name (i := 3) sc_Source_take_classes.nd rfl (Or.inl rfl)) pgs_nil)))
      (pss_cons (ps_if (PW.pt (pw_or (pt_not (pt_val (pe_call G_is_class hr_is_class (by rfl) H_is_class.gl H_is_class.kp b_is_class .nil pass0 (pa_cons (pv 3) pa_nil)))) (pw_or (pt_cmp (pc_din hu (pe_ix ix_tup (pv 3) pe_int (fun _ _ => rfl)) (pe_fldK (K := K) rfl (pv 0) (by rfl)))) (pw_or1 (pt_val (pe_meth (pv 0) T.c_Source T.m_Source_kinds_differ G_Source_kinds_differ hr_Source_kinds_differ b_Source_kinds_differ .nil pass0 (pa_cons (pe_ix ix_tup (pv 3) pe_int (fun _ _ => rfl)) pa_nil))))))) (pss_one ps_never) pss_nil)
      (pss_cons (ps_dput hu (pe_fldK (K := K) rfl (pv 0) (by rfl)) (pe_ix ix_tup (pv 3) pe_int (fun _ _ => rfl)) (pe_call G_frozen hr_frozen (by rfl) H_frozen.gl H_frozen.kp b_frozen .nil pass0 (pa_cons (pe_ix ix_tup (pv 3) pe_int (fun _ _ => rfl)) pa_nil)) rfl)
      (pss_one (ps_for PassesOwn.never rfl (pi_list (pe_ix ix_tup (pv 3) pe_int (fun _ _ => rfl))) (pg_tup rfl (pgs_cons (pg_name (i := 4) sc_Source_take_classes.nd rfl (Or.inl rfl)) (pgs_cons (pg_name (i := 5) sc_Source_take_classes.nd rfl (Or.inl rfl)) pgs_nil)))
      (pss_one (ps_dput hu (pe_fldK (K := K) rfl (pv 0) (by rfl)) (pv 4) (pv 5) rfl))))))))), ?_⟩
    have hlr : (es.map V.ref).length = cl.length := by rw [List.length_map, hel]
    have ne : ∀ {b : Addr} {u : HO}, H b = some u → (∀ z, u ≠ .dK z) → b ∉ [df, dk] := fun q n m => by
      rcases List.mem_cons.mp m with m | m
      · rw [m, S.d1] at q
        exact n _ (Option.some.inj q).symm
      · rw [List.mem_singleton.mp m, S.d2] at q
        exact n _ (Option.some.inj q).symm
    have l6 := O.l6
    have lens : ∀ c ∈ cl, c.2.length ≤ 4 := fun c m => (O.one c m).2.2.2
    refine ⟨_, rfl, ca, _, 0, 6, rfl, hca, by omega, by omega, _, rfl, iteF ?_⟩
    refine ⟨_, rfl, ca, _, rfl, SqL.of hca, ?_⟩
    refine for_it (walk_enum (K := K) (a := ca) (xs := es.map V.ref)) (fun i σ H1 => ∃ v2 v3 v4 v5 : Option V, σ = [some (.ref p), some (.ref ca), v2, v3, v4, v5] ∧ ButL [df, dk] H H1 ∧ ∃ qs : List Addr, qs.length = i ∧ ClsA H1 cl qs ∧ H1 df = some (.dK (csM (cl.take i) qs)) ∧ H1 dk = some (.dK (ksM (cl.take i)))) ⟨none, none, none, none, rfl, fun b u q _ => q, [], rfl, (fun _ _ _ _ z => by cases z), S.d1, S.d2⟩ (fun i σ H1 _ ⟨_, _, _, _, _, b1, _⟩ => SqL.of (b1 _ _ hca (ne hca (by intro z w; cases w)))) ?_ ?_
    · rintro i y σ H1 H2 hi ⟨v2, v3, v4, v5, rfl, b1, qs, ql, hA, h1f, h1k⟩ ⟨u, a, b, rfl, hu0, rfl, h1, h2⟩
      have h2 : (es.map V.ref)[i]? = some b := h2
      obtain rfl : V.int (i : Nat) = a := Option.some.inj h1
      obtain ⟨e, hc, rfl⟩ := map_get h2
      have hif : i < cl.length := by rw [hlr] at hi; exact hi
      have hA2 : ∀ {H' : Hp} {q : Addr} {qq : List Addr}, ClsA H' cl qs → TupP H' q (qq.map V.ref) → PairsG H' qq cl[i].2 → ClsA H' cl (qs ++ [q]) := fun h h1 h2 => h.snoc ql (List.getElem?_eq_getElem hif) h1 h2
      have hf : cl[i]? = some cl[i] := List.getElem?_eq_getElem hif
      obtain ⟨hC, hN, hnd, hl⟩ := O.one _ (List.mem_of_getElem? hf)
      have fit := O.fit i _ hf
      have hE0 := hE i e _ hc hf
      have hnm : ∀ q ∈ csM (cl.take i) qs, q.1 ≠ (Sum.inr cl[i].1 : Key) := cs_ne O.nd hf
      have hsn : ∀ x : Addr, csM (cl.take (i + 1)) (qs ++ [x]) = csM (cl.take i) qs ++ [(Sum.inr cl[i].1, V.ref x)] := fun x => cs_snoc hf ql
      have hks : ksM (cl.take (i + 1)) = ksF (ksM (cl.take i)) cl[i].2 := by rw [take_snoc hf, ksM_snoc]
      have kl : (ksM (cl.take i)).length ≤ 24 := by
        have h := ksM_len (cl.take i) [] fun c m => lens c (List.take_subset _ _ m)
        unfold ksM
        rw [List.length_take] at h
        rw [List.length_nil] at h
        omega
      have cll : (csM (cl.take i) qs).length ≤ 6 := by
        unfold csM
        rw [List.length_map, List.length_zip]
        omega
      generalize cl[i] = c0 at *
      obtain ⟨C, ns⟩ := c0
      obtain ⟨fa, ps, he, hfa, hp⟩ := hE0
      have hp : PairsG H ps ns := hp
      have hl : ns.length ≤ 4 := hl
      have s1 : Same H1 (upd H1 u (.tup [.int (i : Nat), .ref e])) := Same.new hu0
      have keep1 : ∀ {b : Addr} {o : HO}, H b = some o → (∀ z, o ≠ .dK z) → H1 b = some o := fun q n => b1 _ _ q (ne q n)
      have he1 := keep1 he (by intro z w; cases w)
      have hfa1 := keep1 hfa (by intro z w; cases w)
      have hp1 : PairsG H1 ps ns := ⟨hp.len, fun j x q e1 e2 => keep1 (hp.at_ j x q e1 e2) (by intro z w; cases w)⟩
      have ob1 := keep1 S.ob (by intro z w; cases w)
      have d31 : H1 du = some (.dK us) := b1 _ _ S.d3 (fun m => by
        rcases List.mem_cons.mp m with m | m
        · exact hu1 m
        · exact hu2 (List.mem_singleton.mp m))
      have S1 : SrcG K H1 p dx df dk du fs (csM (cl.take i) qs) (ksM (cl.take i)) us := ⟨ob1, S.f1, S.f2, S.f3, S.nm, h1f, h1k, d31⟩
      refine ⟨u, _, rfl, SqT.of upd_same, rfl, _, _, rfl, _, _, rfl, rfl, ?_⟩
      refine ⟨_, rfl, e, fa, C, ps, ns, rfl, s1 _ _ he1, hC, s1 _ _ hfa1, hp1.mono s1, hN, hnd, hl, fun H3 s3 => ⟨_, rfl, iteF ?_⟩⟩
      have s13 := s1.trans s3
      have he3 := s13 _ _ he1
      have ob3 := s13 _ _ ob1
      have f3 := s13 _ _ h1f
      have k3 := s13 _ _ h1k
      have g3 := DGet.k (k := Sum.inr C) f3
      rw [valV_newC hnm] at g3
      refine ⟨_, rfl, _, _, _, _, rfl, rfl, SqT.of he3, at0, _, rfl, p, _, dx, fs, _, rfl, ob3, T.c_Source, T.n_Source_fields, S.f1, df, none, rfl, g3, _, rfl, iteF ?_⟩
      refine ⟨_, rfl, p, dx, fs, rfl, ob3, S.nm _ (by decide +kernel), _, rfl, _, _, _, _, rfl, rfl, SqT.of he3, at1, ?_⟩
      refine ⟨p, fa, _, _, us, ps, ns, rfl, ⟨dx, df, dk, du, fs, S1.mono s13⟩, s13 _ _ hfa1, hp1.mono s13, fit, by omega, fun H4 s4 => ⟨_, rfl, iteF ?_⟩⟩
      have s14 := s13.trans s4
      have he4 := s14 _ _ he1
      refine ⟨_, rfl, _, _, _, _, rfl, rfl, SqT.of he4, at1, fa, ps, _, rfl, s14 _ _ hfa1, pairFG (hp1.mono s14), by rw [hp1.len]; omega, fun q qq H5 s5 tq hq fq => ?_⟩
      have s15 := s14.trans s5
      have S5 := S1.mono s15
      have he5 := s15 _ _ he1
      refine ⟨_, rfl, p, _, dx, fs, _, rfl, S5.ob, T.c_Source, T.n_Source_fields, S5.f1, _, rfl, _, _, _, _, rfl, rfl, SqT.of he5, at0, df, _, rfl, DPut.k (k := Sum.inr C) S5.d1 (sz_lt (by omega)), ?_⟩
      rw [putK_new hnm, ← hsn q]
      have b6 : ButL [df, dk] H1 (upd H5 df (.dK (csM (cl.take (i + 1)) (qs ++ [q])))) := fun b u q n => by
        rw [upd_ne (fun z => n (by rw [z]; exact List.mem_cons_self))]
        exact s15 _ _ q
      have hd6 : upd H5 df (.dK (csM (cl.take (i + 1)) (qs ++ [q]))) dk = some (.dK (ksM (cl.take i))) := by
        rw [upd_ne (Ne.symm hdd)]
        exact S5.d2
      have ne1 : ∀ {b : Addr} {u : HO}, H1 b = some u → (∀ z, u ≠ .dK z) → b ∉ [df, dk] := fun q n m => by
        rcases List.mem_cons.mp m with m | m
        · rw [m, h1f] at q
          exact n _ (Option.some.inj q).symm
        · rw [List.mem_singleton.mp m, h1k] at q
          exact n _ (Option.some.inj q).symm
      have n15 := hA.keepN (KeepN.of s15)
      have b56 : ButL [df, dk] H5 (upd H5 df (.dK (csM (cl.take (i + 1)) (qs ++ [q])))) := fun b u w n => by
        rw [upd_ne (fun z => n (by rw [z]; exact List.mem_cons_self))]
        exact w
      have c5 := hA2 n15 tq (fPairG (hq.trans hp1.len) fq)
      have he6 := b6 _ _ he1 (ne1 he1 (by intro z w; cases w))
      have hfa6 := b6 _ _ hfa1 (ne1 hfa1 (by intro z w; cases w))
      refine ⟨_, rfl, _, _, _, _, rfl, rfl, SqT.of he6, at1, fa, rfl, ⟨_, SqL.of hfa6⟩, ?_⟩
      have hd7 : upd H5 df (.dK (csM (cl.take (i + 1)) (qs ++ [q]))) df = some (.dK (csM (cl.take (i + 1)) (qs ++ [q]))) := upd_same
      generalize upd H5 df (.dK (csM (cl.take (i + 1)) (qs ++ [q]))) = H6 at *
      refine for_it (walk_list (K := K) (a := fa) (xs := ps.map V.ref)) (fun j σ H1' => ∃ v1 v2 : Option V, σ = [some (.ref p), some (.ref ca), some (.int (i : Nat)), some (.ref e), v1, v2] ∧ ButL [df, dk] H1 H1' ∧ ButL [df, dk] H5 H1' ∧ H1' df = some (.dK (csM (cl.take (i + 1)) (qs ++ [q]))) ∧ H1' dk = some (.dK (ksF (ksM (cl.take i)) (ns.take j)))) ⟨v4, v5, rfl, b6, b56, hd7, hd6⟩ (fun j σ H1' _ ⟨_, _, _, b7, _⟩ => SqL.of (b7 _ _ hfa1 (ne1 hfa1 (by intro z w; cases w)))) ?_ ?_
      · rintro j y σ H7 H8 hj ⟨v1, v2, rfl, b7, b57, h7, k7⟩ ⟨rfl, hy⟩
        obtain ⟨p1, hp2, rfl⟩ := map_get hy
        have hin : j < ns.length := by
          rw [List.length_map, hp1.len] at hj
          exact hj
        have hx : ns[j]? = some ns[j] := List.getElem?_eq_getElem hin
        have hpt := hp1.at_ j p1 _ hp2 hx
        have hpt7 := b7 _ _ hpt (ne1 hpt (by intro z w; cases w))
        have ob7 := b7 _ _ ob1 (ne1 ob1 (by intro z w; cases w))
        refine ⟨p1, _, rfl, SqT.of hpt7, rfl, _, _, rfl, _, _, rfl, rfl, ?_⟩
        refine ⟨_, rfl, _, rfl, p, _, dx, fs, _, rfl, ob7, T.c_Source, T.n_Source_field_kinds, S.f2, _, rfl, dk, _, rfl, DPut.k (k := Sum.inr ns[j].1) k7 (sz_lt ?_), ?_⟩
        · have h := ksF_len (ns.take j) (ksM (cl.take i))
          rw [List.length_take] at h
          omega
        refine ⟨_, _, rfl, fun b u q n => ?_, fun b u q n => ?_, ?_, ?_⟩
        · rw [upd_ne (fun z => n (by rw [z]; exact List.mem_cons_of_mem _ (List.mem_singleton_self _)))]
          exact b7 _ _ q n
        · rw [upd_ne (fun z => n (by rw [z]; exact List.mem_cons_of_mem _ (List.mem_singleton_self _)))]
          exact b57 _ _ q n
        · rw [upd_ne hdd]
          exact h7
        · rw [upd_same, take_snoc hx, ksF_snoc]
      · rintro σ H7 ⟨v1, v2, rfl, b7, b57, h7, k7⟩
        rw [List.length_map, hp1.len, List.take_length] at k7
        refine ⟨_, _, _, _, rfl, fun b u q n => b7 _ _ (b1 _ _ q n) n, qs ++ [q], by rw [List.length_append, ql]; rfl, c5.keepN (.butL (fun d m u e => ?_) b57), h7, ?_⟩
        · rcases List.mem_cons.mp m with m | m
          · rw [m, S5.d1] at e
            exact .inl ⟨_, (Option.some.inj e).symm⟩
          · rw [List.mem_singleton.mp m, S5.d2] at e
            exact .inl ⟨_, (Option.some.inj e).symm⟩
        rw [hks]
        exact k7
    · rintro σ H1 ⟨v2, v3, v4, v5, rfl, b1, qs, ql, hA, h1f, h1k⟩
      rw [hlr] at ql
      rw [hlr, List.take_length] at h1f h1k
      exact k H1 qs b1 ⟨ql, hA⟩ h1f h1k

end
end W17
set_option Elab.async false
set_option linter.all false
set_option maxRecDepth 100000
set_option maxHeartbeats 4000000
namespace W17
open PySem PySem.Spec PyProof.Rows L2 RZ
section
variable {P : Program} {w : World} {K : PySem.W.Frag} {mg : Str → Option Value} {base : Heap}

/-- t + u of plain tuples, whichever is empty -/
def rCatPA : R2 := fun x y H Q => ∃ (a b : Addr) (xs ys : List V), x = .ref a ∧ y = .ref b ∧ TupP H a xs ∧ TupP H b ys ∧ xs.length + ys.length ≤ sizeLine ∧ ∀ (c : Addr) (H' : Hp), Same H H' → TupP H' c (xs ++ ys) → Q (.ref c) H'
theorem op_catPA {X : Cx} : OpR X (binaryOp .Add) rCatPA := by
  intro pins s σ H x y v u Q I rx ry h
  obtain ⟨a, b, xs, ys, rfl, rfl, ta, tb, hz, q⟩ := h
  have ha : SqT X.K H a xs := ta.sq
  have hb : SqT X.K H b ys := tb.sq
  cases rx
  cases ry
  obtain ⟨its, r1, p1, _⟩ := I.tuple ha
  obtain ⟨its2, r2, p2, _⟩ := I.tuple hb
  by_cases hx : xs = []
  · have e : its = [] := r1.nil_iff.mpr hx
    subst e
    refine cat_tup0 p1 p2 ⟨.ref b, H, I, rfl, q b H (Same.refl H) ?_⟩
    rw [hx]
    exact tb
  · refine HT.cat_tup p1 p2 (fun z => hx (r1.nil_iff.mp z)) (fun z => ⟨.ref a, H, I, rfl, q a H (Same.refl H) (by rw [r2.nil_iff.mp z, List.append_nil]; exact ta)⟩) (fun z => ?_) (by rw [← r1.length, ← r2.length]; exact hz)
    have hf := I.hok.fresh (Nat.le_refl s.heap.objs.size)
    refine ⟨.ref s.heap.objs.size, _, I.laid (t' := s.toks) (o := .frz { cls := .type "tuple", data := .seq (its ++ its2).toArray } (.tup (xs ++ ys))) (fun b ob q => Heap.get?_push_of_some _ q) (Nat.le_refl _) ?_, rfl, q _ _ (Same.new hf) ⟨_, upd_same, rfl, rfl⟩⟩
    exact ⟨Heap.get?_push_size _ rfl, by rw [List.length_append]; exact hz, _, r1.append r2, IsTup.new _ _⟩
theorem mergeK_kvP : ∀ (l2 l1 : List (Str × Str)), ((l1 ++ l2).map Prod.fst).Nodup → mergeK (kvP l1) (kvP l2) = kvP (l1 ++ l2)
  | [], l1, _ => by
    rw [List.append_nil]
    rfl
  | a :: r, l1, h => by
    have e : l1 ++ a :: r = (l1 ++ [a]) ++ r := by simp
    have h1 : a.1 ∉ l1.map Prod.fst := fun m => by
      rw [List.map_append, List.map_cons] at h
      have := List.nodup_append.mp h
      exact this.2.2 a.1 m a.1 (List.mem_cons_self) rfl
    show mergeK (putK (kvP l1) (Sum.inr a.1 : Key) (.str a.2)) (kvP r) = _
    rw [putK_kvP h1, e]
    exact mergeK_kvP r (l1 ++ [a]) (by rw [← e]; exact h)
theorem pairsG_paired {H : Hp} : ∀ {qs : List Addr} {ns : List (Str × Str)}, PairsG H qs ns → Paired (fun p (kv : Key × V) => SqT K H p [kV kv.1, kv.2]) qs (kvP ns)
  | [], [], _ => .nil
  | [], b :: ns, h => by have := h.len; simp at this
  | a :: qs, [], h => by have := h.len; simp at this
  | a :: qs, b :: ns, h => .cons (SqT.of (h.at_ 0 a b rfl rfl)) (pairsG_paired (qs := qs) (ns := ns) ⟨by have := h.len; simpa using this, fun i p x e1 e2 => h.at_ (i + 1) p x (by simpa using e1) (by simpa using e2)⟩)
theorem But.tupP {p a C dx : Addr} {fs : List (Str × V)} {H H' : Hp} {xs : List V} (b : But p H H') (hp : H p = some (.ins C dx fs)) (h : TupP H a xs) : TupP H' a xs := by
  obtain ⟨o, e, q⟩ := h
  exact ⟨o, b _ _ e (ne_of e hp (by intro z; cases z)), q⟩
theorem But.pairsG {p C dx : Addr} {fs : List (Str × V)} {H H' : Hp} {as : List Addr} {xs : List (Str × Str)} (b : But p H H') (hp : H p = some (.ins C dx fs)) (h : PairsG H as xs) : PairsG H' as xs :=
  ⟨h.len, fun i q x e1 e2 => b _ _ (h.at_ i q x e1 e2) (ne_of (h.at_ i q x e1 e2) hp (by intro z; cases z))⟩
theorem putF_le (f : Str) (v : V) : ∀ fs : List (Str × V), (putF f v fs).length ≤ fs.length + 1
  | [] => Nat.le_refl _
  | (g, u) :: r => by
    show (if g = f then (g, v) :: r else (g, u) :: putF f v r).length ≤ _
    split
    · simp
    · rw [List.length_cons, List.length_cons]
      have := putF_le f v r
      omega
theorem pl1 {f : Str} {v : V} {fs : List (Str × V)} {n : Nat} (h : fs.length ≤ n) : (putF f v fs).length ≤ n + 1 := Nat.le_trans (putF_le f v fs) (Nat.succ_le_succ h)
theorem pf0 : ([] : List (Str × V)).length ≤ 0 := Nat.le_refl _
theorem few {fs : List (Str × V)} {n : Nat} (h : fs.length ≤ n) (hn : n < 900 := by decide) : fs.length < 1000 := by omega
theorem few8 {fs : List (Str × V)} {n : Nat} (h : fs.length ≤ n) (hn : n ≤ 900 := by decide) : fs.length ≤ 900 := by omega
/-- its name and its other variables, as they are kept -/
def OthG (H : Hp) (fs : List (Str × V)) (nm : Str) (ms : List (Str × Str)) : Prop := fs.lookup ("name" : Str) = some (.str nm) ∧ ∃ (oa : Addr) (qs : List Addr), fs.lookup ("others" : Str) = some (.ref oa) ∧ TupP H oa (qs.map V.ref) ∧ PairsG H qs ms
theorem OthG.keepN {H H' : Hp} {fs : List (Str × V)} {nm : Str} {ms : List (Str × Str)} (h : OthG H fs nm ms) (k : KeepN H H') : OthG H' fs nm ms := by
  obtain ⟨h1, oa, qs, h2, h3, h4⟩ := h
  exact ⟨h1, oa, qs, h2, h3.keepN k, h4.keepN k⟩
/-- a Function, all but its rows -/
structure FunG (K : PySem.W.Frag) (H : Hp) (p dx pa va : Addr) (fs : List (Str × V)) (ps : List Addr) (ns ms : List (Str × Str)) (res nm : Str) : Prop where
  ob : H p = some (.ins (He.ga K "Function") dx fs)
  f1 : fs.lookup ("params" : Str) = some (.ref pa)
  f2 : fs.lookup ("result" : Str) = some (.str res)
  f3 : fs.lookup ("variables" : Str) = some (.ref va)
  nohas : fs.lookup ("has_row" : Str) = none ∧ fs.lookup ("called_at" : Str) = none
  few : fs.length ≤ 900
  d1 : TupP H pa (ps.map V.ref)
  pr : PairsG H ps ns
  vd : H va = some (.dK (kvP (ns ++ ms)))
  ot : OthG H fs nm ms
theorem FunG.mono {H H' : Hp} {p dx pa va : Addr} {fs : List (Str × V)} {ps : List Addr} {ns ms : List (Str × Str)} {res nm : Str} (h : FunG K H p dx pa va fs ps ns ms res nm) (e : Same H H') : FunG K H' p dx pa va fs ps ns ms res nm :=
  ⟨e _ _ h.ob, h.f1, h.f2, h.f3, h.nohas, h.few, h.d1.mono e, h.pr.mono e, e _ _ h.vd, h.ot.keepN (.of e)⟩
def spFnInitG (K : PySem.W.Frag) : Sp := fun vs H Q _ => ∃ (p dx pa oa : Addr) (nm res : Str) (ps qs : List Addr) (ns ms : List (Str × Str)), vs = [.ref p, .str nm, .ref pa, .ref oa, .str res] ∧ H p = some (.ins (He.ga K "Function") dx []) ∧
  H pa = some (.lst (ps.map V.ref)) ∧ PairsG H ps ns ∧ H oa = some (.lst (qs.map V.ref)) ∧ PairsG H qs ms ∧ ((ns ++ ms).map Prod.fst).Nodup ∧ ns.length ≤ 4 ∧ ms.length ≤ 8 ∧
  ∀ (H' : Hp) (ta va : Addr) (fs : List (Str × V)) (ps' : List Addr), But p H H' → FunG K H' p dx ta va fs ps' ns ms res nm → H va = none → Q .non H' 
theorem sc_Function_init : FnScope ["self", "name", "params", "others", "result"] ["self", "name", "params", "others", "result"] (defScope s_Function_init) := ⟨rfl, rfl, rfl, by decide +kernel, rfl, by decide +kernel, by decide +kernel⟩
theorem ok_Function_init (T : Ctx w K mg) (H_frozen : Has P w K mg base 3 "frozen" ["thing"] spFz2) : HasM P w K mg base 4 "Function" "__init__" ["self", "name", "params", "others", "result"] (spFnInitG K) := by
  obtain ⟨fd, F⟩ := T.D_Function_init
  obtain ⟨fd_frozen, G_frozen, b_frozen⟩ := H_frozen.ex
  refine ⟨⟨fd, F.ok sc_Function_init (fun vs H Q E h => ?_) (fun cdv A outer s H vs Q E hr h => ?_), F.bindsN fun _ _ _ _ _ _ us hl => match us, hl with | [_, _, _, _, _], _ => rfl⟩⟩
  · obtain ⟨p, dx, pa, oa, nm, res, ps, qs, ns, ms, rfl, hp, hpa, hp1, hoa, hp2, hnd, l1, l2, k⟩ := h; rfl
  · obtain ⟨p, dx, pa, oa, nm, res, ps, qs, ns, ms, rfl, hp, hpa, hp1, hoa, hp2, hnd, l1, l2, k⟩ := h
    have hr_frozen : Room 3 _ := hr.mono (by decide)
    have hu := hu_of hr
    refine ⟨_, PSs.nox (pss_cons (ps_fld (pv 0) (pv 1) rfl)
      (pss_cons (ps_fld (pv 0) (pe_call G_frozen hr_frozen (by rfl) H_frozen.gl H_frozen.kp b_frozen .nil pass0 (pa_cons (pv 2) pa_nil)) rfl)
      (pss_cons (ps_fld (pv 0) (pe_call G_frozen hr_frozen (by rfl) H_frozen.gl H_frozen.kp b_frozen .nil pass0 (pa_cons (pv 3) pa_nil)) rfl)
      (pss_cons (ps_fld (pv 0) (pv 4) rfl)
      (pss_cons (ps_fld (pv 0) (pe_callTy (call_dictT rfl) (by rfl) T.f_dict (by decide +kernel) (pa_cons (pe_op op_catPA (pe_fldK (K := K) rfl (pv 0) (by rfl)) (pe_fldK (K := K) rfl (pv 0) (by rfl))) pa_nil)) rfl)
      (pss_one (ps_fld (pv 0) (pe_tup pa_nil) rfl))))))), ?_⟩
    have npa : pa ≠ p := ne_of hpa hp (by intro z; cases z)
    have noa : oa ≠ p := ne_of hoa hp (by intro z; cases z)
    have hl1 : ps.length = ns.length := hp1.len
    have hl2 : qs.length = ms.length := hp2.len
    refine ⟨_, rfl, _, rfl, p, _, dx, _, rfl, hp, T.c_Function, T.n_Function_name, few pf0, ?_⟩
    have b1 : But p H (upd H p (.ins (He.ga K "Function") dx (putF "name" (.str nm) []))) := But.upd
    refine ⟨_, rfl, pa, ps, _, rfl, b1 _ _ hpa npa, pairFG (b1.pairsG hp hp1), by omega, fun q1 qs1 H2 s2 t1 h1 f1 => ?_⟩
    refine ⟨_, rfl, p, _, dx, _, rfl, s2 _ _ upd_same, T.c_Function, T.n_Function_params, few (pl1 pf0), ?_⟩
    have b2 : But p H H2 := b1.trans (But.of s2)
    have hp2' := s2 _ _ (upd_same (H := H) (a := p))
    have b3 : But p H2 (upd H2 p (.ins (He.ga K "Function") dx (putF "params" (.ref q1) (putF "name" (.str nm) [])))) := But.upd
    have b13 := b2.trans b3
    refine ⟨_, rfl, oa, qs, _, rfl, b13 _ _ hoa noa, pairFG (b13.pairsG hp hp2), by omega, fun q2 qs2 H4 s4 t2 h2 f2 => ?_⟩
    refine ⟨_, rfl, p, _, dx, _, rfl, s4 _ _ upd_same, T.c_Function, T.n_Function_others, few (pl1 (pl1 pf0)), ?_⟩
    have hp4 := s4 _ _ (upd_same (H := H2) (a := p))
    have b4 : But p H2 H4 := b3.trans (But.of s4)
    refine ⟨_, rfl, _, rfl, p, _, dx, _, rfl, upd_same, T.c_Function, T.n_Function_result, few (pl1 (pl1 (pl1 pf0))), ?_⟩
    refine ⟨_, rfl, p, _, dx, _, _, rfl, upd_same, T.c_Function, T.n_Function_params, rfl, _, rfl, p, _, dx, _, _, rfl, upd_same, T.c_Function, T.n_Function_others, rfl, ?_⟩
    refine ⟨q1, q2, _, _, rfl, rfl, But.tupP (b4.trans (But.upd.trans But.upd)) hp2' t1, But.tupP (But.upd.trans But.upd) hp4 t2, by rw [List.length_map, List.length_map]; exact sz_of (by omega), fun c H6 s6 tc => ?_⟩
    have t6 : TupP H6 q1 (qs1.map V.ref) := But.tupP ((b4.trans (But.upd.trans But.upd)).trans (But.of s6)) hp2' t1
    have pq1 : PairsG H6 qs1 ns := But.pairsG ((b4.trans (But.upd.trans But.upd)).trans (But.of s6)) hp2' (fPairG (h1.trans hl1) f1)
    have pq2 : PairsG H6 qs2 ms := But.pairsG ((But.upd.trans But.upd).trans (But.of s6)) hp4 (fPairG (h2.trans hl2) f2)
    refine ⟨c, qs1 ++ qs2, kvP (ns ++ ms), rfl, (by rw [List.map_append]; exact tc), pairsG_paired (pq1.append pq2), fun d hd => ?_⟩
    have hp6 := s6 p _ upd_same
    refine ⟨_, rfl, p, _, dx, _, rfl, Same.new hd _ _ hp6, T.c_Function, T.n_Function_variables, few (pl1 (pl1 (pl1 (pl1 pf0)))), ?_⟩
    refine ⟨sz_of (by decide), fun t ht => ?_⟩
    refine ⟨_, rfl, p, _, dx, _, rfl, Same.new ht _ _ upd_same, T.c_Function, T.n_Function_body, few (pl1 (pl1 (pl1 (pl1 (pl1 pf0))))), ?_⟩
    have ndp : d ≠ p := (ne_of_none hp6 hd).symm
    have ndt : d ≠ t := fun z => by
      rw [← z, upd_ne ndp, upd_same] at ht
      cases ht
    have b6 : But p H H6 := b2.trans (b4.trans ((But.upd.trans But.upd).trans (But.of s6)))
    have hq1p : q1 ≠ p := by
      obtain ⟨oo, e, _⟩ := t1
      exact ne_of e hp2' (by intro z; cases z)
    have dnone : H d = none := by
      cases z : H d with
      | none => rfl
      | some u => exact absurd (b6 _ _ z ndp) (by rw [hd]; intro z; cases z)
    refine k _ q1 d _ qs1 (b6.trans ((But.of (Same.new hd)).trans (But.upd.trans ((But.of (Same.new ht)).trans But.upd)))) ⟨upd_same, rfl, rfl, rfl, ⟨rfl, rfl⟩, few8 (pl1 (pl1 (pl1 (pl1 (pl1 (pl1 pf0)))))), But.tupP ((But.of (Same.new hd)).trans (But.upd.trans ((But.of (Same.new ht)).trans But.upd))) hp6 t6, But.pairsG ((But.of (Same.new hd)).trans (But.upd.trans ((But.of (Same.new ht)).trans But.upd))) hp6 pq1, ?_, rfl, q2, qs2, rfl, But.tupP ((But.of (Same.new hd)).trans (But.upd.trans ((But.of (Same.new ht)).trans But.upd))) hp6 (But.tupP ((But.upd.trans But.upd).trans (But.of s6)) hp4 t2), But.pairsG ((But.of (Same.new hd)).trans (But.upd.trans ((But.of (Same.new ht)).trans But.upd))) hp6 pq2⟩ dnone
    · rw [upd_ne ndp, upd_ne ndt, upd_ne ndp, upd_same]
      exact congrArg (fun l => some (HO.dK l)) (mergeK_kvP _ [] hnd)

end
end W17
set_option Elab.async false
set_option linter.all false
set_option maxRecDepth 100000
set_option maxHeartbeats 4000000
namespace W17
open PySem PySem.Spec PyProof.Rows L2 RZ
section
variable {P : Program} {w : World} {K : PySem.W.Frag} {mg : Str → Option Value} {base : Heap}

/-- a function, as plain data -/
structure FdT where
  nm : Str
  res : Str
  ns : List (Str × Str)
  ms : List (Str × Str)
  rws : List Rx
/-- tuples and lists stay -/
def KeepTL (H H' : Hp) : Prop := (∀ b xs, H b = some (.tup xs) → H' b = some (.tup xs)) ∧ ∀ b xs, H b = some (.lst xs) → H' b = some (.lst xs)
theorem KeepTL.of {H H' : Hp} (e : Same H H') : KeepTL H H' := ⟨fun b xs h => e _ _ h, fun b xs h => e _ _ h⟩
theorem KeepTL.butD {H H' : Hp} {d : Addr} {ks : List (Key × V)} (hd : H d = some (.dK ks)) (b : ButL [d] H H') : KeepTL H H' :=
  ⟨fun a xs h => b _ _ h (fun m => by rw [List.mem_singleton.mp m, hd] at h; cases h), fun a xs h => b _ _ h (fun m => by rw [List.mem_singleton.mp m, hd] at h; cases h)⟩
theorem PairsG.keep {H H' : Hp} {ps : List Addr} {qs : List (Str × Str)} (h : PairsG H ps qs) (e : KeepTL H H') : PairsG H' ps qs := ⟨h.len, fun i p x a b => e.1 _ _ (h.at_ i p x a b)⟩
theorem EntryG.keep {H H' : Hp} {e pa oa ra : Addr} {nm res : Str} {ps qs : List Addr} {ns ms : List (Str × Str)} {rs : List V} (h : EntryG H e pa oa ra nm res ps qs ns ms rs) (k : KeepTL H H') : EntryG H' e pa oa ra nm res ps qs ns ms rs :=
  ⟨k.1 _ _ h.he, h.nf, h.kd, k.2 _ _ h.hpa, h.p1.keep k, k.2 _ _ h.hoa, h.p2.keep k, h.nam, h.nd, h.l1, h.l2, k.2 _ _ h.hra, h.l3, h.l4⟩
def EntryAt (H : Hp) (e : Addr) (f : FdT) : Prop := ∃ (pa oa ra : Addr) (ps qs : List Addr) (rs : List V), EntryG H e pa oa ra f.nm f.res ps qs f.ns f.ms rs
theorem EntryAt.keep {H H' : Hp} {e : Addr} {f : FdT} (h : EntryAt H e f) (k : KeepTL H H') : EntryAt H' e f := by
  obtain ⟨pa, oa, ra, ps, qs, rs, q⟩ := h
  exact ⟨pa, oa, ra, ps, qs, rs, q.keep k⟩
def usOf (fds : List FdT) (fps : List Addr) : List (Key × V) := (fds.zip fps).map fun q => (Sum.inr q.1.nm, V.ref q.2)
theorem valV_new {k : Key} : ∀ {l : List (Key × V)}, (∀ q ∈ l, q.1 ≠ k) → valV l k = none
  | [], _ => rfl
  | a :: l, h => by
    have ih := valV_new (k := k) (l := l) fun q m => h q (List.mem_cons_of_mem _ m)
    unfold valV at ih ⊢
    rw [List.find?_cons_of_neg (by simpa using h a List.mem_cons_self)]
    exact ih
theorem us_ne {fds : List FdT} {fps : List Addr} {i : Nat} {f : FdT} (nd : (fds.map FdT.nm).Nodup) (h : fds[i]? = some f) : ∀ q ∈ usOf (fds.take i) fps, q.1 ≠ (Sum.inr f.nm : Key) := by
  intro q m e
  unfold usOf at m
  obtain ⟨r, mr, rfl⟩ := List.mem_map.mp m
  have m1 := (List.of_mem_zip mr).1
  have e1 : r.1.nm = f.nm := Sum.inr.inj e
  have q1 : (fds.map FdT.nm)[i]? = some f.nm := by
    rw [List.getElem?_map, h]
    rfl
  refine not_in_take nd q1 ?_
  rw [← List.map_take, ← e1]
  exact List.mem_map.mpr ⟨r.1, m1, rfl⟩
theorem us_snoc {fds : List FdT} {fps : List Addr} {i : Nat} {f : FdT} {x : Addr} (h : fds[i]? = some f) (hl : fps.length = i) : usOf (fds.take (i + 1)) (fps ++ [x]) = usOf (fds.take i) fps ++ [(Sum.inr f.nm, V.ref x)] := by
  unfold usOf
  rw [take_snoc h, List.zip_append (by
    rw [List.length_take, hl]
    have := (List.getElem?_eq_some_iff.mp h).1
    omega), List.map_append]
  rfl
theorem us_at {fds : List FdT} {fps : List Addr} {i : Nat} {f : FdT} {x : Addr} (nd : (fds.map FdT.nm).Nodup) (h : fds[i]? = some f) (hx : fps[i]? = some x) : valV (usOf fds fps) (Sum.inr f.nm : Key) = some (.ref x) := by
  induction fds generalizing fps i with
  | nil => simp at h
  | cons a l ih =>
    cases fps with
    | nil => simp at hx
    | cons y fps =>
      obtain ⟨n1, n2⟩ := List.nodup_cons.mp (show (a.nm :: l.map FdT.nm).Nodup from nd)
      cases i with
      | zero =>
        have e1 : a = f := Option.some.inj h
        have e2 : y = x := Option.some.inj hx
        unfold usOf valV
        rw [List.zip_cons_cons, List.map_cons, List.find?_cons_of_pos (by simp [e1]), e2]
        rfl
      | succ i =>
        have h' : l[i]? = some f := by simpa using h
        have hx' : fps[i]? = some x := by simpa using hx
        have k := ih n2 h' hx'
        have c : ¬ a.nm = f.nm := fun z => n1 (by rw [z]; exact List.mem_map.mpr ⟨f, List.mem_of_getElem? h', rfl⟩)
        unfold usOf valV at k ⊢
        rw [List.zip_cons_cons, List.map_cons, List.find?_cons_of_neg (by simpa using c)]
        exact k
/-- the functions made, all but their rows -/
def Heads (K : PySem.W.Frag) (H : Hp) (du : Addr) (fds : List FdT) (fps : List Addr) : Prop := ∀ (j : Nat) (f : FdT) (a : Addr), fds[j]? = some f → fps[j]? = some a → ∃ (dx pa va : Addr) (fs : List (Str × V)) (ps : List Addr), va ≠ du ∧ FunG K H a dx pa va fs ps f.ns f.ms f.res f.nm
theorem FunG.butD {H H' : Hp} {d : Addr} {ks : List (Key × V)} {p dx pa va : Addr} {fs : List (Str × V)} {ps : List Addr} {ns ms : List (Str × Str)} {res nm : Str} (h : FunG K H p dx pa va fs ps ns ms res nm) (hd : H d = some (.dK ks)) (hv : va ≠ d) (b : ButL [d] H H') : FunG K H' p dx pa va fs ps ns ms res nm := by
  have n : ∀ {a : Addr} {u : HO}, H a = some u → a ≠ d → H' a = some u := fun q z => b _ _ q fun m => z (List.mem_singleton.mp m)
  obtain ⟨o, e, pl⟩ := h.d1
  exact ⟨n h.ob (ne_of h.ob hd (by intro z; cases z)), h.f1, h.f2, h.f3, h.nohas, h.few, ⟨o, n e (ne_of e hd (by intro z; cases z)), pl⟩, h.pr.keep (.butD hd b), n h.vd hv, h.ot.keepN (.butL (fun c m u e => .inl ⟨ks, by rw [List.mem_singleton.mp m, hd] at e; exact (Option.some.inj e).symm⟩) b)⟩
def spTakeHG (K : PySem.W.Frag) : Sp := fun vs H Q _ => ∃ (p dx df dk du fa : Addr) (fs : List (Str × V)) (cs ks : List (Key × V)) (es : List Addr) (fds : List FdT), vs = [.ref p, .ref fa] ∧ SrcG K H p dx df dk du fs cs ks [] ∧ H fa = some (.lst (es.map V.ref)) ∧ es.length = fds.length ∧ (∀ (i : Nat) e f, es[i]? = some e → fds[i]? = some f → EntryAt H e f) ∧ (fds.map FdT.nm).Nodup ∧ 1 ≤ fds.length ∧ fds.length ≤ 6 ∧
  ∀ (H' : Hp) (fps : List Addr), ButL [du] H H' → fps.length = fds.length → Heads K H' du fds fps → (∀ a ∈ fps, H a = none) → fps.Nodup → H' du = some (.dK (usOf fds fps)) → Q .non H' 
theorem sc_Source_take_heads : FnScope ["self", "functions", "k", "entry"] ["self", "functions"] (defScope s_Source_take_heads) := ⟨rfl, rfl, rfl, by decide +kernel, rfl, by decide +kernel, by decide +kernel⟩
theorem ok_Source_take_heads (T : Ctx w K mg) (H_is_list_of : Has P w K mg base 1 "is_list_of" ["thing", "least", "most"] spListOf) (H_is_head : Has P w K mg base 3 "_is_head" ["entry"] spHeadG) (H_Function_init : HasM P w K mg base 4 "Function" "__init__" ["self", "name", "params", "others", "result"] (spFnInitG K)) : HasM P w K mg base 6 "Source" "_take_heads" ["self", "functions"] (spTakeHG K) := by
  obtain ⟨fd, F⟩ := T.D_Source_take_heads
  obtain ⟨fd_is_list_of, G_is_list_of, b_is_list_of⟩ := H_is_list_of.ex
  obtain ⟨fd_is_head, G_is_head, b_is_head⟩ := H_is_head.ex
  obtain ⟨fd_Function_init, G_Function_init, b_Function_init⟩ := H_Function_init.ex
  refine ⟨⟨fd, F.ok sc_Source_take_heads (fun vs H Q E h => ?_) (fun cdv A outer s H vs Q E hr h => ?_), F.bindsN fun _ _ _ _ _ _ us hl => match us, hl with | [_, _], _ => rfl⟩⟩
  · obtain ⟨p, dx, df, dk, du, fa, fs, cs, ks, es, fds, rfl, S, hfa, hel, hE, hN, hl1, hl6, k⟩ := h; rfl
  · obtain ⟨p, dx, df, dk, du, fa, fs, cs, ks, es, fds, rfl, S, hfa, hel, hE, hN, hl1, hl6, k⟩ := h
    have hr_is_list_of : Room 1 _ := hr.mono (by decide)
    have hr_is_head : Room 3 _ := hr.mono (by decide)
    have hr_Function_init : Room 5 _ := hr.mono (by decide)
    have hu := hu_of hr
    obtain ⟨t_c, e_MOST_FUNCTIONS⟩ := T.i_MOST_FUNCTIONS
    refine ⟨_, PSs.nox (pss_cons (ps_if (pt_not (pt_val (pe_call G_is_list_of hr_is_list_of (by rfl) H_is_list_of.gl H_is_list_of.kp b_is_list_of .nil pass0 (pa_cons (pv 1) (pa_cons pe_int (pa_cons (pe_glob (v := .int 6) rfl e_MOST_FUNCTIONS ⟨_, rfl⟩) pa_nil)))))) (pss_one ps_never) pss_nil)
      (pss_one (ps_for PassesOwn.never rfl (pi_enum (by rfl) T.f_enumerate (pa_cons (pv 1) pa_nil)) (pg_tup rfl (pgs_cons (pg_name (i := 2) sc_Source_take_heads.nd rfl (Or.inl rfl)) (pgs_cons (pg_name (i := 3) sc_Source_take_heads.nd rfl (Or.inl rfl)) pgs_nil)))
      (pss_cons (ps_if (PW.pt (pw_or (pt_not (pt_val (pe_call G_is_head hr_is_head (by rfl) H_is_head.gl H_is_head.kp b_is_head .nil pass0 (pa_cons (pv 3) pa_nil)))) (pw_or1 (pt_cmp (pc_din hu (pe_ix ix_tup (pv 3) pe_int (fun _ _ => rfl)) (pe_fldK (K := K) rfl (pv 0) (by rfl))))))) (pss_one ps_never) pss_nil)
      (pss_one (ps_dput hu (pe_fldK (K := K) rfl (pv 0) (by rfl)) (pe_ix ix_tup (pv 3) pe_int (fun _ _ => rfl)) (pe_make T.k_Function G_Function_init hr_Function_init rfl T.g_Function b_Function_init .nil pass0 (pa_cons (pe_ix ix_tup (pv 3) pe_int (fun _ _ => rfl)) (pa_cons (pe_ix ix_tup (pv 3) pe_int (fun _ _ => rfl)) (pa_cons (pe_ix ix_tup (pv 3) pe_int (fun _ _ => rfl)) (pa_cons (pe_ix ix_tup (pv 3) pe_int (fun _ _ => rfl)) pa_nil))))) rfl)))))), ?_⟩
    have hlr : (es.map V.ref).length = fds.length := by rw [List.length_map, hel]
    have nd : ∀ {b : Addr} {u : HO}, H b = some u → (∀ z, u ≠ .dK z) → b ∉ [du] := fun q n m => by
      rw [List.mem_singleton.mp m, S.d3] at q
      exact n _ (Option.some.inj q).symm
    refine ⟨_, rfl, fa, _, 1, 6, rfl, hfa, by omega, by omega, _, rfl, iteF ?_⟩
    refine ⟨_, rfl, fa, _, rfl, SqL.of hfa, ?_⟩
    refine for_it (walk_enum (K := K) (a := fa) (xs := es.map V.ref)) (fun i σ H1 => ∃ v1 v2 : Option V, σ = [some (.ref p), some (.ref fa), v1, v2] ∧ ButL [du] H H1 ∧ ∃ fps : List Addr, fps.length = i ∧ H1 du = some (.dK (usOf (fds.take i) fps)) ∧ Heads K H1 du (fds.take i) fps ∧ (∀ a ∈ fps, H a = none ∧ ∃ u, H1 a = some u) ∧ fps.Nodup) ⟨none, none, rfl, fun b u q _ => q, [], rfl, S.d3, fun j f a e _ => by simp at e, (fun a m => by cases m), List.nodup_nil⟩ (fun i σ H1 _ ⟨_, _, _, b1, _⟩ => SqL.of (b1 _ _ hfa (nd hfa (by intro z w; cases w)))) ?_ ?_
    · rintro i y σ H1 H2 hi ⟨v1, v2, rfl, b1, fps, fl, h1d, hH, hfr, hnd⟩ ⟨u, a, b, rfl, hu0, rfl, h1, h2⟩
      have h2 : (es.map V.ref)[i]? = some b := h2
      obtain rfl : V.int (i : Nat) = a := Option.some.inj h1
      obtain ⟨e, hc, rfl⟩ := map_get h2
      have hif : i < fds.length := by rw [hlr] at hi; exact hi
      have hf : fds[i]? = some fds[i] := List.getElem?_eq_getElem hif
      obtain ⟨pa, oa, ra, ps, qs, rs, E0⟩ := hE i e _ hc hf
      have E1 := E0.keep (.butD S.d3 b1)
      have s1 : Same H1 (upd H1 u (.tup [.int (i : Nat), .ref e])) := Same.new hu0
      refine ⟨u, _, rfl, SqT.of upd_same, rfl, _, _, rfl, _, _, rfl, rfl, ?_⟩
      have A1 := E1.keep (.of s1)
      refine ⟨_, rfl, e, pa, oa, ra, fds[i].nm, fds[i].res, ps, qs, fds[i].ns, fds[i].ms, rs, rfl, A1, fun H3 s3 => ⟨_, rfl, iteF ?_⟩⟩
      have s13 := s1.trans s3
      have A3 := E1.keep (.of s13)
      have hp1 := b1 _ _ S.ob (nd S.ob (by intro z w; cases w))
      have ob3 := s13 _ _ hp1
      have d3 := s13 _ _ h1d
      refine ⟨_, rfl, _, _, _, _, rfl, rfl, SqT.of A3.he, at0, _, rfl, p, _, dx, fs, _, rfl, ob3, T.c_Source, T.n_Source_functions, S.f3, du, none, rfl, ?_, _, rfl, iteF ?_⟩
      · have q := DGet.k (k := Sum.inr fds[i].nm) d3
        rw [valV_new (us_ne hN hf)] at q
        exact q
      -- Function(..)
      refine ⟨_, rfl, _, _, _, _, rfl, rfl, SqT.of A3.he, at0, _, rfl, _, _, _, _, rfl, rfl, SqT.of A3.he, at1, _, rfl, _, _, _, _, rfl, rfl, SqT.of A3.he, at2, _, rfl, _, _, _, _, rfl, rfl, SqT.of A3.he, at3, fun x dy nx ny nxy => ?_⟩
      have s4 : Same H3 (upd (upd H3 dy (.own x)) x (.ins (He.ga K "Function") dy [])) := (Same.new ny).trans (Same.new (by rw [upd_ne nxy.symm]; exact nx))
      have A4 := A3.keep (.of s4)
      refine ⟨x, dy, pa, oa, fds[i].nm, fds[i].res, ps, qs, fds[i].ns, fds[i].ms, rfl, upd_same, A4.hpa, A4.p1, A4.hoa, A4.p2, A4.nd, A4.l1, A4.l2, fun H5 ta va gs ps' b5 F5 hva => ⟨rfl, ?_⟩⟩
      have s15 : Same H1 H5 := fun b o q => b5 b o (s4 _ _ (s13 _ _ q)) (ne_of_none (s13 _ _ q) nx)
      have A5 := E1.keep (.of s15)
      have d5 := s15 _ _ h1d
      have vne : va ≠ du := fun z => by
        rw [z, s4 _ _ d3] at hva
        cases hva
      have nxf : x ≠ du := fun z => by
        rw [z, d3] at nx
        cases nx
      refine ⟨_, rfl, p, _, dx, fs, _, rfl, s15 _ _ hp1, T.c_Source, T.n_Source_functions, S.f3, _, rfl, _, _, _, _, rfl, rfl, SqT.of A5.he, at0, du, _, rfl, DPut.k (k := Sum.inr fds[i].nm) d5 ?_, ?_⟩
      · unfold usOf
        rw [List.length_map, List.length_zip, fl]
        exact sz_lt (by omega)
      have b6 : ButL [du] H5 (upd H5 du (.dK (putK (usOf (fds.take i) fps) (Sum.inr fds[i].nm : Key) (.ref x)))) := fun b u q n => by
        rw [upd_ne (fun z => n (by rw [z]; exact List.mem_singleton_self _))]
        exact q
      refine ⟨_, _, rfl, fun b u q n => b6 _ _ (s15 _ _ (b1 _ _ q n)) n, fps ++ [x], by rw [List.length_append, fl]; rfl, ?_, ?_, ?_, ?_⟩
      · rw [upd_same, us_snoc hf fl, putK_new (us_ne hN hf)]
      · intro j f a e1 e2
        by_cases hj : j < i
        · rw [List.getElem?_append_left (by omega)] at e2
          rw [List.getElem?_take, if_pos (by omega)] at e1
          obtain ⟨dx', pa', va', fs', ps'', vn', F⟩ := hH j f a (by rw [List.getElem?_take, if_pos hj]; exact e1) e2
          exact ⟨dx', pa', va', fs', ps'', vn', (F.mono s15).butD d5 vn' b6⟩
        · by_cases hj2 : j = i
          · subst hj2
            rw [List.getElem?_append_right (by omega), fl, Nat.sub_self] at e2
            have e3 : x = a := Option.some.inj e2
            rw [List.getElem?_take, if_pos (by omega), hf] at e1
            have e4 : fds[j] = f := Option.some.inj e1
            rw [← e3, ← e4]
            exact ⟨dy, ta, va, gs, ps', vne, F5.butD d5 vne b6⟩
          · rw [List.getElem?_append_right (by omega)] at e2
            have := (List.getElem?_eq_some_iff.mp e2).1
            rw [List.length_singleton] at this
            omega
      · intro a m
        rcases List.mem_append.mp m with m | m
        · obtain ⟨q1, u', q2⟩ := hfr a m
          by_cases z : a = du
          · exact ⟨q1, by rw [z]; exact ⟨_, upd_same⟩⟩
          · exact ⟨q1, u', b6 _ _ (s15 _ _ q2) (fun w => z (List.mem_singleton.mp w))⟩
        · rw [List.mem_singleton.mp m]
          refine ⟨?_, _, b6 _ _ F5.ob (fun w => nxf (List.mem_singleton.mp w))⟩
          cases z : H x with
          | none => rfl
          | some o =>
            have := s13 _ _ (b1 _ _ z (fun w => nxf (List.mem_singleton.mp w)))
            rw [nx] at this
            cases this
      · refine List.nodup_append.mpr ⟨hnd, List.nodup_cons.mpr ⟨by simp, List.nodup_nil⟩, fun a ma b mb z => ?_⟩
        rw [List.mem_singleton.mp mb] at z
        obtain ⟨_, u', q2⟩ := hfr a ma
        have := s13 _ _ q2
        rw [z, nx] at this
        cases this
    · rintro σ H1 ⟨v1, v2, rfl, b1, fps, fl, h1d, hH, hfr, hnd⟩
      rw [hlr] at fl
      rw [hlr, List.take_length] at h1d hH
      exact k H1 fps b1 fl hH (fun a m => (hfr a m).1) hnd h1d

end
end W17
set_option Elab.async false
set_option linter.all false
set_option maxRecDepth 100000
set_option maxHeartbeats 4000000
namespace W17
open PySem PySem.Spec PyProof.Rows L2 RZ
section
variable {P : Program} {w : World} {K : PySem.W.Frag} {mg : Str → Option Value} {base : Heap}

abbrev ClsT := List (Str × List (Str × Str))
/-- rows whose goals are there, the last of which does not go on -/
structure OkG (rws : List Rx) : Prop where
  ok : ∀ r ∈ rws, ∀ g, r.goal = some g → g < rws.length
  last : ∃ r0 rl, rws = r0 ++ [rl] ∧ (rl.word = ("jump" : Str) ∨ rl.word = ("return" : Str))
  le : rws.length ≤ 40
theorem cs_at {cl : ClsT} {qs : List Addr} {i : Nat} {c : Str × List (Str × Str)} {x : Addr} (nd : (cl.map Prod.fst).Nodup) (h : cl[i]? = some c) (hx : qs[i]? = some x) : valV (csM cl qs) (Sum.inr c.1 : Key) = some (.ref x) := by
  induction cl generalizing qs i with
  | nil => simp at h
  | cons a l ih =>
    cases qs with
    | nil => simp at hx
    | cons y qs =>
      obtain ⟨n1, n2⟩ := List.nodup_cons.mp (show (a.1 :: l.map Prod.fst).Nodup from nd)
      cases i with
      | zero =>
        have e1 : a = c := Option.some.inj h
        have e2 : y = x := Option.some.inj hx
        unfold csM valV
        rw [List.zip_cons_cons, List.map_cons, List.find?_cons_of_pos (by simp [e1]), e2]
        rfl
      | succ i =>
        have h2 : l[i]? = some c := by simpa using h
        have hx2 : qs[i]? = some x := by simpa using hx
        have k := ih n2 h2 hx2
        have cc : ¬ a.1 = c.1 := fun z => n1 (by rw [z]; exact List.mem_map.mpr ⟨c, List.mem_of_getElem? h2, rfl⟩)
        unfold csM valV at k ⊢
        rw [List.zip_cons_cons, List.map_cons, List.find?_cons_of_neg (by simpa using cc)]
        exact k
/-- a variable of a function with its kind -/
def KO (f : FdT) (x q : Str) : Prop := (x, q) ∈ f.ns ++ f.ms
/-- a row that fits a function of a source -/
def RowOk (cl : ClsT) (fds : List FdT) (f : FdT) : Rx → Prop
  | .num x n => KO f x "number" ∧ -1000000000 ≤ n ∧ n ≤ 1000000000
  | .nil x => KO f x "object"
  | .copy x y => ∃ q, KO f x q ∧ KO f y q
  | .bin _ x y z => KO f x "number" ∧ KO f y "number" ∧ KO f z "number"
  | .same x y z => ∃ q, KO f x "number" ∧ KO f y q ∧ KO f z q
  | .new x c => KO f x "object" ∧ c ∈ cl.map Prod.fst
  | .get x y g => ∃ q, KO f y "object" ∧ KO f x q ∧ valV (ksM cl) (Sum.inr g : Key) = some (.str q)
  | .put x g y => ∃ q, KO f x "object" ∧ KO f y q ∧ valV (ksM cl) (Sum.inr g : Key) = some (.str q)
  | .call x F as => ∃ (j : Nat) (g : FdT), fds[j]? = some g ∧ g.nm = F ∧ as.length = g.ns.length ∧ (∀ (i : Nat) y q, as[i]? = some y → g.ns[i]? = some q → KO f y q.2) ∧ KO f x g.res
  | .see x => ∃ q, KO f x q
  | .ifz x _ => KO f x "number"
  | .jump _ => True
  | .ret x => KO f x f.res
structure FdOk (cl : ClsT) (fds : List FdT) (f : FdT) : Prop where
  nf : Nam f.nm
  kd : IsKind f.res
  nam : ∀ q ∈ f.ns ++ f.ms, Nam q.1 ∧ IsKind q.2
  nd : ((f.ns ++ f.ms).map Prod.fst).Nodup
  l1 : f.ns.length ≤ 4
  l2 : f.ms.length ≤ 8
  rows : ∀ r ∈ f.rws, RowOk cl fds f r
  ok : OkG f.rws
theorem FdOk.kind {cl : ClsT} {fds : List FdT} {f : FdT} (h : FdOk cl fds f) {x q : Str} (m : KO f x q) : KindOf (kvP (f.ns ++ f.ms)) x q := valV_kvP_in (q := (x, q)) h.nd m
theorem FdOk.name {cl : ClsT} {fds : List FdT} {f : FdT} (h : FdOk cl fds f) {x q : Str} (m : KO f x q) : Nam x := (h.nam (x, q) m).1
theorem args_kind {f g : FdT} {as : List Str} (hl : as.length = g.ns.length) (hk : ∀ (i : Nat) y q, as[i]? = some y → g.ns[i]? = some q → KO f y q.2) : ∀ y ∈ as, ∃ q, KO f y q := by
  intro y m
  obtain ⟨i, hi, e⟩ := List.getElem_of_mem m
  have e1 : as[i]? = some y := by rw [List.getElem?_eq_getElem hi, e]
  have hi2 : i < g.ns.length := by omega
  exact ⟨_, hk i y _ e1 (List.getElem?_eq_getElem hi2)⟩
theorem form_of {R : Str → V → Prop} : ∀ {rs : List Str} {vs : List V}, Paired R rs vs → ∀ (i : Nat) x v, rs[i]? = some x → vs[i]? = some v → R x v
  | _, _, .nil, i, x, v, h, _ => by simp at h
  | _, _, .cons h t, 0, x, v, e1, e2 => by
    rw [← Option.some.inj e1, ← Option.some.inj e2]
    exact h
  | _, _, .cons h t, i + 1, x, v, e1, e2 => form_of t i x v (by simpa using e1) (by simpa using e2)
theorem FdOk.form {cl : ClsT} {fds : List FdT} {f : FdT} {fps : List Addr} {H : Hp} {qs : List Addr} {l : Addr} (h : FdOk cl fds f) (hN : (fds.map FdT.nm).Nodup) (hl : fps.length = fds.length) (hF : (cl.map Prod.fst).Nodup) (hq : qs.length = cl.length) {r : Rx} (hr : RowOk cl fds f r) (hA : ArgsAt H l r) :
    FormG H (csM cl qs) (ksM cl) (usOf fds fps) (.ref l) r := by
  have fld : ∀ {g q : Str}, valV (ksM cl) (Sum.inr g : Key) = some (.str q) → FitsG H (csM cl qs) (ksM cl) (usOf fds fps) "field" (.str g) := fun {g q} m => .fld (v := .str q) m (by intro z; cases z)
  unfold FormG
  cases r with
  | num x n => exact form_of (.cons (.sets (h.name hr.1)) (.cons (.num hr.2.1 hr.2.2) .nil))
  | nil x => exact form_of (.cons (.sets (h.name hr)) .nil)
  | copy x y =>
    obtain ⟨q, h1, h2⟩ := hr
    exact form_of (.cons (.sets (h.name h1)) (.cons (.reads (h.name h2)) .nil))
  | bin kk x y z => exact form_of (.cons (.sets (h.name hr.1)) (.cons (.reads (h.name hr.2.1)) (.cons (.reads (h.name hr.2.2)) .nil)))
  | same x y z =>
    obtain ⟨q, h1, h2, h3⟩ := hr
    exact form_of (.cons (.sets (h.name h1)) (.cons (.reads (h.name h2)) (.cons (.reads (h.name h3)) .nil)))
  | new x c =>
    obtain ⟨h1, h2⟩ := hr
    obtain ⟨d, md, rfl⟩ := List.mem_map.mp h2
    obtain ⟨i, hi, rfl⟩ := List.getElem_of_mem md
    have hi2 : i < qs.length := by omega
    exact form_of (.cons (.sets (h.name h1)) (.cons (.cls (cs_at hF (List.getElem?_eq_getElem hi) (List.getElem?_eq_getElem hi2)) (by intro z; cases z)) .nil))
  | get x y g =>
    obtain ⟨q, h1, h2, h3⟩ := hr
    exact form_of (.cons (.sets (h.name h2)) (.cons (.reads (h.name h1)) (.cons (fld h3) .nil)))
  | put x g y =>
    obtain ⟨q, h1, h2, h3⟩ := hr
    exact form_of (.cons (.reads (h.name h1)) (.cons (fld h3) (.cons (.reads (h.name h2)) .nil)))
  | call x F as =>
    obtain ⟨j, g, h1, h2, h3, h4, h5⟩ := hr
    obtain ⟨a1, a2⟩ := hA as rfl
    obtain ⟨a, ha⟩ : ∃ a, fps[j]? = some a := ⟨fps[j]'(by rw [hl]; exact (List.getElem?_eq_some_iff.mp h1).1), List.getElem?_eq_getElem _⟩
    have e : valV (usOf fds fps) (Sum.inr F : Key) = some (.ref a) := by
      rw [← h2]
      exact us_at hN h1 ha
    refine form_of (.cons (.sets (h.name h5)) (.cons (.fn e (by intro z; cases z)) (.cons (.many a1 (fun y m => ?_) a2) .nil)))
    obtain ⟨q, hq⟩ := args_kind h3 h4 y m
    exact h.name hq
  | see x =>
    obtain ⟨q, h1⟩ := hr
    exact form_of (.cons (.reads (h.name h1)) .nil)
  | ifz x r => exact form_of (.cons (.reads (h.name hr)) (.cons (.row _) .nil))
  | jump r => exact form_of (.cons (.row _) .nil)
  | ret x => exact form_of (.cons (.reads (h.name hr)) .nil)
theorem kind_str {q : Str} (h : IsKind q) : PyData.strOk q = true := by
  rcases h with rfl | rfl <;> decide +kernel
theorem FdOk.kinds {cl : ClsT} {fds : List FdT} {f : FdT} {fps : List Addr} {H : Hp} (h : FdOk cl fds f) (hN : (fds.map FdT.nm).Nodup) (hK : ∀ g ∈ fds, FdOk cl fds g)
    (hH : ∀ (j : Nat) (g : FdT), fds[j]? = some g → ∃ a dx pa fs ps, fps[j]? = some a ∧ HeadG K H a dx pa fs ps g.ns g.res) {r : Rx} (hr : RowOk cl fds f r) :
    KindsG K H (ksM cl) (usOf fds fps) (kvP (f.ns ++ f.ms)) f.res r := by
  have fld : ∀ {g q : Str}, valV (ksM cl) (Sum.inr g : Key) = some (.str q) → valV (ksM cl) (Sum.inr g : Key) = some (.str q) := fun {g q} m => m
  cases r with
  | num x n => exact h.kind hr.1
  | nil x => exact h.kind hr
  | copy x y =>
    obtain ⟨q, h1, h2⟩ := hr
    exact ⟨q, h.kind h1, h.kind h2⟩
  | bin kk x y z => exact ⟨h.kind hr.1, h.kind hr.2.1, h.kind hr.2.2⟩
  | same x y z =>
    obtain ⟨q, h1, h2, h3⟩ := hr
    exact ⟨q, h.kind h1, h.kind h2, h.kind h3⟩
  | new x c => exact h.kind hr.1
  | get x y g =>
    obtain ⟨q, h1, h2, h3⟩ := hr
    exact ⟨q, h.kind h1, h.kind h2, fld h3⟩
  | put x g y =>
    obtain ⟨q, h1, h2, h3⟩ := hr
    exact ⟨q, h.kind h1, h.kind h2, fld h3⟩
  | call x F as =>
    obtain ⟨j, g, h1, h2, h3, h4, h5⟩ := hr
    obtain ⟨a, dx, pa, fs, ps, ha, hg⟩ := hH j g h1
    refine ⟨a, dx, pa, fs, ps, g.ns, g.res, ?_, hg, h3, fun i y q e1 e2 => h.kind (h4 i y q e1 e2), fun q m => kind_str ((hK g (List.mem_of_getElem? h1)).nam q (List.mem_append_left _ m)).2, h.kind h5⟩
    rw [← h2]
    exact us_at hN h1 ha
  | see x => trivial
  | ifz x r => exact h.kind hr
  | jump r => trivial
  | ret x => exact h.kind hr
theorem FdOk.names {cl : ClsT} {fds : List FdT} {f : FdT} (h : FdOk cl fds f) {r : Rx} (hr : RowOk cl fds f r) : ∀ x ∈ r.names, ∃ v, valV (kvP (f.ns ++ f.ms)) (Sum.inr x : Key) = some v := by
  have key : ∀ x ∈ r.names, ∃ q, KO f x q := by
    intro x m
    cases r with
    | num y n =>
      simp only [Rx.names, Rx.sets, Rx.reads, List.mem_cons, List.not_mem_nil, or_false] at m
      exact ⟨_, m ▸ hr.1⟩
    | nil y =>
      simp only [Rx.names, Rx.sets, Rx.reads, List.mem_cons, List.not_mem_nil, or_false] at m
      exact ⟨_, m ▸ hr⟩
    | copy y z =>
      obtain ⟨q, h1, h2⟩ := hr
      simp only [Rx.names, Rx.sets, Rx.reads, List.mem_cons, List.not_mem_nil, or_false] at m
      rcases m with m | m
      · exact ⟨_, m ▸ h1⟩
      · exact ⟨_, m ▸ h2⟩
    | bin kk y z t =>
      obtain ⟨h1, h2, h3⟩ := hr
      simp only [Rx.names, Rx.sets, Rx.reads, List.mem_cons, List.not_mem_nil, or_false] at m
      rcases m with m | m | m
      · exact ⟨_, m ▸ h1⟩
      · exact ⟨_, m ▸ h2⟩
      · exact ⟨_, m ▸ h3⟩
    | same y z t =>
      obtain ⟨q, h1, h2, h3⟩ := hr
      simp only [Rx.names, Rx.sets, Rx.reads, List.mem_cons, List.not_mem_nil, or_false] at m
      rcases m with m | m | m
      · exact ⟨_, m ▸ h1⟩
      · exact ⟨_, m ▸ h2⟩
      · exact ⟨_, m ▸ h3⟩
    | new y c =>
      simp only [Rx.names, Rx.sets, Rx.reads, List.mem_cons, List.not_mem_nil, or_false] at m
      exact ⟨_, m ▸ hr.1⟩
    | get y z g =>
      obtain ⟨q, h1, h2, h3⟩ := hr
      simp only [Rx.names, Rx.sets, Rx.reads, List.mem_cons, List.not_mem_nil, or_false] at m
      rcases m with m | m
      · exact ⟨_, m ▸ h2⟩
      · exact ⟨_, m ▸ h1⟩
    | put y g z =>
      obtain ⟨q, h1, h2, h3⟩ := hr
      simp only [Rx.names, Rx.sets, Rx.reads, List.mem_cons, List.not_mem_nil, or_false] at m
      rcases m with m | m
      · exact ⟨_, m ▸ h1⟩
      · exact ⟨_, m ▸ h2⟩
    | call y F as =>
      obtain ⟨j, g, h1, h2, h3, h4, h5⟩ := hr
      simp only [Rx.names, Rx.sets, Rx.reads, List.mem_cons] at m
      rcases m with m | m
      · exact ⟨_, m ▸ h5⟩
      · exact args_kind h3 h4 x m
    | see y =>
      obtain ⟨q, h1⟩ := hr
      simp only [Rx.names, Rx.sets, Rx.reads, List.mem_cons, List.not_mem_nil, or_false] at m
      exact ⟨_, m ▸ h1⟩
    | ifz y g =>
      simp only [Rx.names, Rx.sets, Rx.reads, List.mem_cons, List.not_mem_nil, or_false] at m
      exact ⟨_, m ▸ hr⟩
    | jump g =>
      simp only [Rx.names, Rx.sets, Rx.reads, List.not_mem_nil] at m
    | ret y =>
      simp only [Rx.names, Rx.sets, Rx.reads, List.mem_cons, List.not_mem_nil, or_false] at m
      exact ⟨_, m ▸ hr⟩
  intro x m
  obtain ⟨q, hq⟩ := key x m
  exact ⟨_, h.kind hq⟩
/-- a Function with its rows -/
structure FunB (K : PySem.W.Frag) (H : Hp) (p dx pa va ba : Addr) (fs : List (Str × V)) (ps rs : List Addr) (f : FdT) : Prop where
  ob : H p = some (.ins (He.ga K "Function") dx fs)
  f1 : fs.lookup ("params" : Str) = some (.ref pa)
  f2 : fs.lookup ("result" : Str) = some (.str f.res)
  f3 : fs.lookup ("variables" : Str) = some (.ref va)
  f4 : fs.lookup ("body" : Str) = some (.ref ba)
  nohas : fs.lookup ("has_row" : Str) = none ∧ fs.lookup ("called_at" : Str) = none
  d1 : TupP H pa (ps.map V.ref)
  pr : PairsG H ps f.ns
  vd : H va = some (.dK (kvP (f.ns ++ f.ms)))
  tb : TupP H ba (rs.map V.ref)
  kr : KeptRows H rs f.rws
  ot : OthG H fs f.nm f.ms
theorem KeptRows.keep {H H' : Hp} {rs : List Addr} {rws : List Rx} (h : KeptRows H rs rws) (e : KeepTL H H') : KeptRows H' rs rws := ⟨h.len, fun i a r x y => by
  obtain ⟨l, h1, h2⟩ := h.at_ i a r x y
  exact ⟨l, e.1 _ _ h1, fun bs q => by
    have k := h2 bs q
    rw [if_pos rfl] at k ⊢
    exact e.1 _ _ k⟩⟩
theorem KeepTL.butF {H H' : Hp} {p C dx : Addr} {fs : List (Str × V)} (hp : H p = some (.ins C dx fs)) (b : But p H H') : KeepTL H H' :=
  ⟨fun a xs h => b _ _ h (ne_of h hp (by intro z; cases z)), fun a xs h => b _ _ h (ne_of h hp (by intro z; cases z))⟩
theorem FunB.mono {H H' : Hp} {p dx pa va ba : Addr} {fs : List (Str × V)} {ps rs : List Addr} {f : FdT} (h : FunB K H p dx pa va ba fs ps rs f) (e : Same H H') : FunB K H' p dx pa va ba fs ps rs f :=
  ⟨e _ _ h.ob, h.f1, h.f2, h.f3, h.f4, h.nohas, h.d1.mono e, h.pr.mono e, e _ _ h.vd, h.tb.mono e, h.kr.mono e, h.ot.keepN (.of e)⟩
theorem FunB.but {H H' : Hp} {p dx pa va ba b C dy : Addr} {fs gs : List (Str × V)} {ps rs : List Addr} {f : FdT} (h : FunB K H p dx pa va ba fs ps rs f) (hb : H b = some (.ins C dy gs)) (hn : p ≠ b) (e : But b H H') : FunB K H' p dx pa va ba fs ps rs f :=
  ⟨e _ _ h.ob hn, h.f1, h.f2, h.f3, h.f4, h.nohas, e.tupP hb h.d1, e.pairsG hb h.pr, e _ _ h.vd (ne_of h.vd hb (by intro z; cases z)), e.tupP hb h.tb, h.kr.keep (.butF hb e), h.ot.keepN (.but hb e)⟩
theorem FunG.but {H H' : Hp} {p dx pa va b C dy : Addr} {fs gs : List (Str × V)} {ps : List Addr} {ns ms : List (Str × Str)} {res nm : Str} (h : FunG K H p dx pa va fs ps ns ms res nm) (hb : H b = some (.ins C dy gs)) (hn : p ≠ b) (e : But b H H') : FunG K H' p dx pa va fs ps ns ms res nm :=
  ⟨e _ _ h.ob hn, h.f1, h.f2, h.f3, h.nohas, h.few, e.tupP hb h.d1, e.pairsG hb h.pr, e _ _ h.vd (ne_of h.vd hb (by intro z; cases z)), h.ot.keepN (.but hb e)⟩
theorem FunG.head {H : Hp} {p dx pa va : Addr} {fs : List (Str × V)} {ps : List Addr} {ns ms : List (Str × Str)} {res nm : Str} (h : FunG K H p dx pa va fs ps ns ms res nm) (hl : ns.length ≤ 4) : HeadG K H p dx pa fs ps ns res :=
  ⟨h.ob, h.f1, h.f2, h.d1.sq, h.pr.len, by omega, fun i a q e1 e2 => SqT.of (h.pr.at_ i a q e1 e2)⟩
theorem FunB.head {H : Hp} {p dx pa va ba : Addr} {fs : List (Str × V)} {ps rs : List Addr} {f : FdT} (h : FunB K H p dx pa va ba fs ps rs f) (hl : f.ns.length ≤ 4) : HeadG K H p dx pa fs ps f.ns f.res :=
  ⟨h.ob, h.f1, h.f2, h.d1.sq, h.pr.len, by omega, fun i a q e1 e2 => SqT.of (h.pr.at_ i a q e1 e2)⟩
/-- a Source of one class and these functions -/
def SrcX (K : PySem.W.Frag) (H : Hp) (p : Addr) (cl : ClsT) (fds : List FdT) : Prop := ∃ (fps qs : List Addr), ClsK H cl qs ∧ SrcH K H p (csM cl qs) (ksM cl) (usOf fds fps) ∧ fps.length = fds.length ∧
  ∀ (j : Nat) (f : FdT) (a : Addr), fds[j]? = some f → fps[j]? = some a → ∃ (dx pa va ba : Addr) (fs : List (Str × V)) (ps rs : List Addr), FunB K H a dx pa va ba fs ps rs f
theorem SrcX.mono {H H' : Hp} {p : Addr} {cl : ClsT} {fds : List FdT} (h : SrcX K H p cl fds) (e : Same H H') : SrcX K H' p cl fds := by
  obtain ⟨fps, qs, hq, h1, h2, h3⟩ := h
  refine ⟨fps, qs, hq.keepN (.of e), h1.mono e, h2, fun j f a e1 e2 => ?_⟩
  obtain ⟨dx, pa, va, ba, fs, ps, rs, q⟩ := h3 j f a e1 e2
  exact ⟨dx, pa, va, ba, fs, ps, rs, q.mono e⟩

end
end W17
set_option Elab.async false
set_option linter.all false
set_option maxRecDepth 100000
set_option maxHeartbeats 4000000
namespace W17
open PySem PySem.Spec PyProof.Rows L2 RZ
section
variable {P : Program} {w : World} {K : PySem.W.Frag} {mg : Str → Option Value} {base : Heap}

theorem KeepTL.trans {H H1 H2 : Hp} (a : KeepTL H H1) (b : KeepTL H1 H2) : KeepTL H H2 := ⟨fun c xs h => b.1 _ _ (a.1 _ _ h), fun c xs h => b.2 _ _ (a.2 _ _ h)⟩
theorem KeepTL.butL {H H' : Hp} {l : List Addr} (hl : ∀ d ∈ l, ∀ xs, H d ≠ some (.tup xs) ∧ H d ≠ some (.lst xs)) (b : ButL l H H') : KeepTL H H' :=
  ⟨fun a xs h => b _ _ h fun m => (hl a m xs).1 h, fun a xs h => b _ _ h fun m => (hl a m xs).2 h⟩
theorem ClsG.keep {H H' : Hp} {e : Addr} {c : Str × List (Str × Str)} (h : ClsG H e c) (k : KeepTL H H') : ClsG H' e c := by
  obtain ⟨fa, ps, h1, h2, h3⟩ := h
  exact ⟨fa, ps, k.1 _ _ h1, k.2 _ _ h2, h3.keep k⟩
theorem RawRows.keep {H H' : Hp} {rs : List Addr} {rws : List Rx} (h : RawRows H rs rws) (e : KeepTL H H') : RawRows H' rs rws := ⟨h.len, fun i a r x y => by
  obtain ⟨l, q1, q2⟩ := h.at_ i a r x y
  exact ⟨l, e.1 _ _ q1, fun bs z => ⟨e.2 _ _ (q2 bs z).1, (q2 bs z).2⟩⟩⟩
/-- a function as it is handed in, with its rows -/
def EntryR (H : Hp) (e : Addr) (f : FdT) : Prop := ∃ (pa oa ra : Addr) (ps qs rs : List Addr), EntryG H e pa oa ra f.nm f.res ps qs f.ns f.ms (rs.map V.ref) ∧ RawRows H rs f.rws
theorem EntryR.keep {H H' : Hp} {e : Addr} {f : FdT} (h : EntryR H e f) (k : KeepTL H H') : EntryR H' e f := by
  obtain ⟨pa, oa, ra, ps, qs, rs, q, r⟩ := h
  exact ⟨pa, oa, ra, ps, qs, rs, q.keep k, r.keep k⟩
theorem EntryR.entry {H : Hp} {e : Addr} {f : FdT} (h : EntryR H e f) : EntryAt H e f := by
  obtain ⟨pa, oa, ra, ps, qs, rs, q, r⟩ := h
  exact ⟨pa, oa, ra, ps, qs, _, q⟩
/-- classes and functions as they are handed in -/
structure RawSrc (H : Hp) (ca fa : Addr) (cl : ClsT) (fds : List FdT) : Prop where
  cs : ∃ es : List Addr, H ca = some (.lst (es.map V.ref)) ∧ es.length = cl.length ∧ ∀ (i : Nat) e c, es[i]? = some e → cl[i]? = some c → ClsG H e c
  oc : ClsOk cl
  fn : ∃ es : List Addr, H fa = some (.lst (es.map V.ref)) ∧ es.length = fds.length ∧ ∀ (i : Nat) e f, es[i]? = some e → fds[i]? = some f → EntryR H e f
  nn : (fds.map FdT.nm).Nodup
  l1 : 1 ≤ fds.length
  l6 : fds.length ≤ 6
  ok : ∀ f ∈ fds, FdOk cl fds f
theorem RawSrc.keep {H H' : Hp} {ca fa : Addr} {cl : ClsT} {fds : List FdT} (h : RawSrc H ca fa cl fds) (k : KeepTL H H') : RawSrc H' ca fa cl fds := by
  obtain ⟨⟨cs, c1, c2, c3⟩, h1, ⟨es, f1, f2, f3⟩, h5, h6, h7, h8⟩ := h
  exact ⟨⟨cs, k.2 _ _ c1, c2, fun i e c a b => (c3 i e c a b).keep k⟩, h1, ⟨es, k.2 _ _ f1, f2, fun i e f a b => (f3 i e f a b).keep k⟩, h5, h6, h7, h8⟩
def spSrcInitG (K : PySem.W.Frag) : Sp := fun vs H Q _ => ∃ (p dx ca fa : Addr) (cl : ClsT) (fds : List FdT), vs = [.ref p, .ref ca, .ref fa] ∧ H p = some (.ins (He.ga K "Source") dx []) ∧ RawSrc H ca fa cl fds ∧ ∀ H', But p H H' → SrcX K H' p cl fds → Q .non H' 
theorem sc_Source_init : FnScope ["self", "classes", "functions", "k", "entry"] ["self", "classes", "functions"] (defScope s_Source_init) := ⟨rfl, rfl, rfl, by decide +kernel, rfl, by decide +kernel, by decide +kernel⟩
theorem ok_Source_init (T : Ctx w K mg) (H_Source_take_classes : HasM P w K mg base 4 "Source" "_take_classes" ["self", "classes"] (spTakeCM K)) (H_Source_take_heads : HasM P w K mg base 6 "Source" "_take_heads" ["self", "functions"] (spTakeHG K)) (H_Source_take_rows : HasM P w K mg base 7 "Source" "_take_rows" ["self", "k", "function", "rows"] (spTakeRG K)) : HasM P w K mg base 8 "Source" "__init__" ["self", "classes", "functions"] (spSrcInitG K) := by
  obtain ⟨fd, F⟩ := T.D_Source_init
  obtain ⟨fd_Source_take_classes, G_Source_take_classes, b_Source_take_classes⟩ := H_Source_take_classes.ex
  obtain ⟨fd_Source_take_heads, G_Source_take_heads, b_Source_take_heads⟩ := H_Source_take_heads.ex
  obtain ⟨fd_Source_take_rows, G_Source_take_rows, b_Source_take_rows⟩ := H_Source_take_rows.ex
  refine ⟨⟨fd, F.ok sc_Source_init (fun vs H Q E h => ?_) (fun cdv A outer s H vs Q E hr h => ?_), F.bindsN fun _ _ _ _ _ _ us hl => match us, hl with | [_, _, _], _ => rfl⟩⟩
  · obtain ⟨p, dx, ca, fa, cl, fds, rfl, hp, HR, k⟩ := h; rfl
  · obtain ⟨p, dx, ca, fa, cl, fds, rfl, hp, HR, k⟩ := h
    have hr_Source_take_classes : Room 4 _ := hr.mono (by decide)
    have hr_Source_take_heads : Room 6 _ := hr.mono (by decide)
    have hr_Source_take_rows : Room 7 _ := hr.mono (by decide)
    have hu := hu_of hr
    refine ⟨_, PSs.nox (pss_cons (ps_fld (pv 0) pe_dnewK rfl)
      (pss_cons (ps_fld (pv 0) pe_dnewK rfl)
      (pss_cons (ps_fld (pv 0) pe_dnewK rfl)
      (pss_cons (ps_expr (pe_meth (pv 0) T.c_Source T.m_Source_take_classes G_Source_take_classes hr_Source_take_classes b_Source_take_classes .nil pass0 (pa_cons (pv 1) pa_nil)))
      (pss_cons (ps_expr (pe_meth (pv 0) T.c_Source T.m_Source_take_heads G_Source_take_heads hr_Source_take_heads b_Source_take_heads .nil pass0 (pa_cons (pv 2) pa_nil)))
      (pss_one (ps_for PassesOwn.never rfl (pi_enum (by rfl) T.f_enumerate (pa_cons (pv 2) pa_nil)) (pg_tup rfl (pgs_cons (pg_name (i := 3) sc_Source_init.nd rfl (Or.inl rfl)) (pgs_cons (pg_name (i := 4) sc_Source_init.nd rfl (Or.inl rfl)) pgs_nil)))
      (pss_one (ps_expr (pe_meth (pv 0) T.c_Source T.m_Source_take_rows G_Source_take_rows hr_Source_take_rows b_Source_take_rows .nil pass0 (pa_cons (pv 3) (pa_cons (pe_dget hu (pe_fldK (K := K) rfl (pv 0) (by rfl)) (pe_ix ix_tup (pv 4) pe_int (fun _ _ => rfl)) (fun _ _ => rfl)) (pa_cons (pe_ix ix_tup (pv 4) pe_int (fun _ _ => rfl)) pa_nil))))))))))))), ?_⟩
    intro d1 hd1
    have nd1 : d1 ≠ p := (ne_of_none hp hd1).symm
    refine ⟨_, rfl, p, _, dx, _, rfl, Same.new hd1 _ _ hp, T.c_Source, T.n_Source_field_kinds, few pf0, ?_⟩
    have b1 : But p H (upd (upd H d1 (.dK [])) p (.ins (He.ga K "Source") dx (putF "_field_kinds" (.ref d1) []))) := (But.of (Same.new hd1)).trans But.upd
    intro d2 hd2
    have nd2 : d2 ≠ p := fun z => by rw [z, upd_same] at hd2; cases hd2
    have n21 : d2 ≠ d1 := fun z => by rw [z, upd_ne nd1, upd_same] at hd2; cases hd2
    refine ⟨_, rfl, p, _, dx, _, rfl, Same.new hd2 _ _ upd_same, T.c_Source, T.n_Source_fields, few (pl1 pf0), ?_⟩
    have b2 := b1.trans ((But.of (Same.new (o := .dK []) hd2)).trans (But.upd (o := .ins (He.ga K "Source") dx (putF "_fields" (.ref d2) (putF "_field_kinds" (.ref d1) [])))))
    intro d3 hd3
    have nd3 : d3 ≠ p := fun z => by rw [z, upd_same] at hd3; cases hd3
    have n32 : d3 ≠ d2 := fun z => by rw [z, upd_ne nd2, upd_same] at hd3; cases hd3
    have n31 : d3 ≠ d1 := fun z => by rw [z, upd_ne nd1, upd_ne n21.symm, upd_ne nd1, upd_same] at hd3; cases hd3
    refine ⟨_, rfl, p, _, dx, _, rfl, Same.new hd3 _ _ upd_same, T.c_Source, T.n_Source_functions, few (pl1 (pl1 pf0)), ?_⟩
    have b3 := b2.trans ((But.of (Same.new (o := .dK []) hd3)).trans (But.upd (o := .ins (He.ga K "Source") dx (putF "_functions" (.ref d3) (putF "_fields" (.ref d2) (putF "_field_kinds" (.ref d1) []))))))
    generalize hH3 : upd (upd (upd (upd (upd (upd H d1 (.dK [])) p (.ins (He.ga K "Source") dx (putF "_field_kinds" (.ref d1) []))) d2 (.dK [])) p (.ins (He.ga K "Source") dx (putF "_fields" (.ref d2) (putF "_field_kinds" (.ref d1) [])))) d3 (.dK [])) p (.ins (He.ga K "Source") dx (putF "_functions" (.ref d3) (putF "_fields" (.ref d2) (putF "_field_kinds" (.ref d1) [])))) = H3 at b3 ⊢
    have S3 : SrcG K H3 p dx d2 d1 d3 (putF "_functions" (.ref d3) (putF "_fields" (.ref d2) (putF "_field_kinds" (.ref d1) []))) [] [] [] := by
      subst hH3
      refine ⟨upd_same, rfl, rfl, rfl, fun m hm => ?_, ?_, ?_, ?_⟩
      · simp only [List.mem_cons, List.not_mem_nil, or_false] at hm
        rcases hm with rfl | rfl | rfl | rfl | rfl | rfl | rfl | rfl | rfl | rfl <;> rfl
      · rw [upd_ne nd2, upd_ne n32.symm, upd_ne nd2, upd_same]
      · rw [upd_ne nd1, upd_ne n31.symm, upd_ne nd1, upd_ne n21.symm, upd_ne nd1, upd_same]
      · rw [upd_ne nd3, upd_same]
    generalize putF "_functions" (V.ref d3) (putF "_fields" (.ref d2) (putF "_field_kinds" (.ref d1) [])) = fs at S3
    have k3 : KeepTL H H3 := .butF hp b3
    have R3 := HR.keep k3
    clear hH3 b1 b2
    obtain ⟨ces, c1, c2, c3⟩ := R3.cs
    obtain ⟨es, f1, f2, f3⟩ := R3.fn
    refine ⟨_, rfl, p, dx, _, rfl, S3.ob, S3.nm _ (by decide +kernel), _, rfl, ?_⟩
    refine ⟨p, ca, dx, d2, d1, d3, fs, [], cl, ces, rfl, S3, n21, n32, n31, c1, c2, c3, HR.oc, fun H4 qs b4 hqs df4 dk4 => ?_⟩
    have k4 : KeepTL H3 H4 := .butL (fun d m xs => by
      rcases List.mem_cons.mp m with m | m
      · rw [m, S3.d1]
        exact ⟨(by intro z; cases z), (by intro z; cases z)⟩
      · rw [List.mem_singleton.mp m, S3.d2]
        exact ⟨(by intro z; cases z), (by intro z; cases z)⟩) b4
    have nin : ∀ {b : Addr}, b ≠ d2 → b ≠ d1 → b ∉ [d2, d1] := fun h1 h2 m => by
      rcases List.mem_cons.mp m with m | m
      · exact h1 m
      · exact h2 (List.mem_singleton.mp m)
    have S4 : SrcG K H4 p dx d2 d1 d3 fs (csM cl qs) (ksM cl) [] := ⟨b4 _ _ S3.ob (nin nd2.symm nd1.symm), S3.f1, S3.f2, S3.f3, S3.nm, df4, dk4, b4 _ _ S3.d3 (nin n32 n31)⟩
    refine ⟨_, rfl, p, dx, _, rfl, S4.ob, S4.nm _ (by decide +kernel), _, rfl, ?_⟩
    refine ⟨p, dx, d2, d1, d3, fa, fs, _, _, es, fds, rfl, S4, k4.2 _ _ f1, f2, fun i e f a b => ((f3 i e f a b).keep k4).entry, HR.nn, HR.l1, HR.l6, fun H5 fps b5 fl hH hfr hnd d5 => ?_⟩
    have k5 : KeepTL H4 H5 := .butD S4.d3 b5
    have n45 : KeepN H4 H5 := .butL (fun d m u e => by
      rw [List.mem_singleton.mp m, S4.d3] at e
      exact .inl ⟨_, (Option.some.inj e).symm⟩) b5
    have n5 : ∀ {b : Addr}, b ≠ d3 → b ∉ [d3] := fun h m => h (List.mem_singleton.mp m)
    have fin : ∀ a ∈ fps, ∃ (dy pa va : Addr) (gs : List (Str × V)) (ps' : List Addr) (f : FdT), FunG K H5 a dy pa va gs ps' f.ns f.ms f.res f.nm := fun a m => by
      obtain ⟨j, hj, e⟩ := List.getElem_of_mem m
      have e1 : fps[j]? = some a := by rw [List.getElem?_eq_getElem hj, e]
      have hj2 : j < fds.length := by omega
      obtain ⟨dy, pa, va, gs, ps', _, F⟩ := hH j _ a (List.getElem?_eq_getElem hj2) e1
      exact ⟨dy, pa, va, gs, ps', _, F⟩
    have nfp : ∀ {b : Addr} {u : HO}, H5 b = some u → (∀ dz gz, u ≠ .ins (He.ga K "Function") dz gz) → b ∉ fps := fun q n m => by
      obtain ⟨dy, pa, va, gs, ps', f, F⟩ := fin _ m
      rw [F.ob] at q
      exact n _ _ (Option.some.inj q).symm
    have p4 : H4 p = some (.ins (He.ga K "Source") dx fs) := S4.ob
    have npf : p ∉ fps := fun m => by
      have q := hfr p m
      rw [p4] at q
      cases q
    have S5 : SrcG K H5 p dx d2 d1 d3 fs (csM cl qs) (ksM cl) (usOf fds fps) := ⟨b5 _ _ S4.ob (n5 nd3.symm), S4.f1, S4.f2, S4.f3, S4.nm, b5 _ _ S4.d1 (n5 n32.symm), b5 _ _ S4.d2 (n5 n31.symm), d5⟩
    have k35 := k4.trans k5
    have fa5 := k35.2 _ _ f1
    have hlr : (es.map V.ref).length = fds.length := by rw [List.length_map, f2]
    refine ⟨_, rfl, fa, _, rfl, SqL.of fa5, ?_⟩
    refine for_it (walk_enum (K := K) (a := fa) (xs := es.map V.ref)) (fun i σ H1 => ∃ v1 v2 : Option V, σ = [some (.ref p), some (.ref ca), some (.ref fa), v1, v2] ∧ ButL fps H5 H1 ∧ (∀ (j : Nat) f a, fds[j]? = some f → fps[j]? = some a → j < i → ∃ (dy pa va ba : Addr) (gs : List (Str × V)) (ps' rs' : List Addr), FunB K H1 a dy pa va ba gs ps' rs' f) ∧
      (∀ (j : Nat) f a, fds[j]? = some f → fps[j]? = some a → i ≤ j → ∃ (dy pa va : Addr) (gs : List (Str × V)) (ps' : List Addr), FunG K H1 a dy pa va gs ps' f.ns f.ms f.res f.nm)) ⟨none, none, rfl, fun b u q _ => q, fun j f a _ _ h => absurd h (Nat.not_lt_zero j), fun j f a e1 e2 _ => by
        obtain ⟨dy, pa, va, gs, ps', _, F⟩ := hH j f a e1 e2
        exact ⟨dy, pa, va, gs, ps', F⟩⟩ (fun i σ H1 _ ⟨_, _, _, b6, _⟩ => SqL.of (b6 _ _ fa5 (nfp fa5 (by intro _ _ z; cases z)))) ?_ ?_
    · rintro i y σ H1 H2 hi ⟨v1, v2, rfl, b6, hB, hG⟩ ⟨u, a, b, rfl, hu0, rfl, h1, h2⟩
      have h2 : (es.map V.ref)[i]? = some b := h2
      obtain rfl : V.int (i : Nat) = a := Option.some.inj h1
      obtain ⟨e, hc, rfl⟩ := map_get h2
      have hif : i < fds.length := by rw [hlr] at hi; exact hi
      have hf : fds[i]? = some fds[i] := List.getElem?_eq_getElem hif
      have hip : i < fps.length := by omega
      have ha : fps[i]? = some fps[i] := List.getElem?_eq_getElem hip
      have hfm : fds[i] ∈ fds := List.getElem_mem hif
      have k6 : KeepTL H5 H1 := .butL (fun d m xs => by
        obtain ⟨dy, pa, va, gs, ps', f, F⟩ := fin _ m
        rw [F.ob]
        exact ⟨(by intro z; cases z), (by intro z; cases z)⟩) b6
      obtain ⟨pa, oa, ra, pp, qq, rs, E3, RR3⟩ := f3 i e _ hc hf
      have k36 := k35.trans k6
      have E1 := E3.keep k36
      have RR1 := RR3.keep k36
      have s1 : Same H1 (upd H1 u (.tup [.int (i : Nat), .ref e])) := Same.new hu0
      have S1 : SrcG K H1 p dx d2 d1 d3 fs (csM cl qs) (ksM cl) (usOf fds fps) := ⟨b6 _ _ S5.ob npf, S5.f1, S5.f2, S5.f3, S5.nm, b6 _ _ S5.d1 (nfp S5.d1 (by intro _ _ z; cases z)), b6 _ _ S5.d2 (nfp S5.d2 (by intro _ _ z; cases z)), b6 _ _ S5.d3 (nfp S5.d3 (by intro _ _ z; cases z))⟩
      have S2 := S1.mono s1
      have E2 := E1.keep (.of s1)
      have RR2 := RR1.mono s1
      obtain ⟨dy, ta, va, gs, ps', F0⟩ := hG i _ _ hf ha (Nat.le_refl _)
      have F2 := F0.mono s1
      have O := HR.ok _ hfm
      have hLen : rs.length = fds[i].rws.length := RR1.len
      refine ⟨u, _, rfl, SqT.of upd_same, rfl, _, _, rfl, _, _, rfl, rfl, ?_⟩
      refine ⟨_, rfl, p, dx, _, rfl, S2.ob, S2.nm _ (by decide +kernel), _, rfl, _, rfl, p, _, dx, _, _, rfl, S2.ob, T.c_Source, T.n_Source_functions, S2.f3, _, rfl, _, _, _, _, rfl, rfl, SqT.of E2.he, at0, d3, .ref fps[i], rfl, ?_, ?_⟩
      · have q := DGet.k (k := Sum.inr fds[i].nm) S2.d3
        rw [us_at HR.nn hf ha] at q
        exact q
      refine ⟨_, rfl, _, _, _, _, rfl, rfl, SqT.of E2.he, at4, ?_⟩
      have hHead : ∀ (j : Nat) (g : FdT), fds[j]? = some g → ∃ a dx pa fs ps, fps[j]? = some a ∧ HeadG K (upd H1 u (.tup [.int (i : Nat), .ref e])) a dx pa fs ps g.ns g.res := fun j g ej => by
        have hj : j < fps.length := by
          have := (List.getElem?_eq_some_iff.mp ej).1
          omega
        have aj : fps[j]? = some fps[j] := List.getElem?_eq_getElem hj
        have lj := (HR.ok g (List.mem_of_getElem? ej)).l1
        by_cases c : j < i
        · obtain ⟨dz, pz, vz, bz, gz, psz, rsz, Fz⟩ := hB j g _ ej aj c
          exact ⟨_, _, _, _, _, aj, (Fz.mono s1).head lj⟩
        · obtain ⟨dz, pz, vz, gz, psz, Fz⟩ := hG j g _ ej aj (by omega)
          exact ⟨_, _, _, _, _, aj, (Fz.mono s1).head lj⟩
      refine ⟨p, fps[i], dy, va, ra, (i : Nat), gs, _, _, _, _, _, rs, fds[i].rws, rfl, ⟨dx, d2, d1, d3, fs, S2⟩, F2.few, ⟨F2.ob, F2.f3, F2.f2, F2.vd⟩, E2.hra, RR2, fun j c r l e1 e2 e3 => ?_, fun r m => ⟨O.kinds HR.nn HR.ok hHead (O.rows r m), O.names (O.rows r m), O.ok.ok r m⟩, O.ok.last, O.ok.le, fun H7 q qs b7 F7 t7 q7 => ?_⟩
      · obtain ⟨l2, q1, q2⟩ := RR2.at_ j c r e1 e2
        refine O.form HR.nn fl HR.oc.nd hqs.len (O.rows r (List.mem_of_getElem? e2)) fun bs hb => ?_
        have el : l2 = l ∨ r.args = none := by
          cases r with
          | call x F as =>
            left
            rw [q1] at e3
            have := (HO.tup.inj (Option.some.inj e3))
            simp [Rx.parts] at this
            exact this
          | _ => exact .inr rfl
        rcases el with rfl | el
        · exact q2 bs hb
        · rw [el] at hb
          cases hb
      · have ob2 := F2.ob
        refine ⟨_, _, rfl, fun b u q n => ?_, fun j f a e1 e2 hj => ?_, fun j f a e1 e2 hj => ?_⟩
        · exact b7 _ _ (s1 _ _ (b6 _ _ q n)) fun z => n (by rw [z]; exact List.getElem_mem hip)
        · by_cases c : j = i
          · subst c
            rw [hf] at e1
            rw [ha] at e2
            have ef := Option.some.inj e1
            have ea := Option.some.inj e2
            subst ef
            subst ea
            refine ⟨dy, ta, va, q, _, ps', qs, F7.ob, ?_, F7.res, F7.vars, ?_, ?_, b7.tupP ob2 F2.d1, b7.pairsG ob2 F2.pr, F7.vd, t7, q7, ?_⟩
            · rw [lookup_putF, if_neg (by decide +kernel)]
              exact F2.f1
            · rw [lookup_putF, if_pos rfl]
            · rw [lookup_putF, lookup_putF, if_neg (by decide +kernel), if_neg (by decide +kernel)]
              exact F2.nohas
            · obtain ⟨o1, oa', qs', o2, o3⟩ := (F2.ot.keepN (.but ob2 b7))
              exact ⟨by rw [lookup_putF, if_neg (by decide +kernel)]; exact o1, oa', qs', by rw [lookup_putF, if_neg (by decide +kernel)]; exact o2, o3⟩
          · obtain ⟨dz, pz, vz, bz, gz, psz, rsz, Fz⟩ := hB j f a e1 e2 (by omega)
            refine ⟨dz, pz, vz, bz, gz, psz, rsz, (Fz.mono s1).but ob2 (fun z => c ?_) b7⟩
            exact (List.getElem?_inj (List.getElem?_eq_some_iff.mp e2).1 hnd).mp (by rw [e2, z, ha])
        · obtain ⟨dz, pz, vz, gz, psz, Fz⟩ := hG j f a e1 e2 (by omega)
          refine ⟨dz, pz, vz, gz, psz, (Fz.mono s1).but ob2 (fun z => ?_) b7⟩
          have := (List.getElem?_inj (List.getElem?_eq_some_iff.mp e2).1 hnd).mp (show fps[j]? = fps[i]? by rw [e2, z, ha])
          omega
    · rintro σ H1 ⟨v1, v2, rfl, b6, hB, hG⟩
      rw [hlr] at hB
      have S1 : SrcG K H1 p dx d2 d1 d3 fs (csM cl qs) (ksM cl) (usOf fds fps) := ⟨b6 _ _ S5.ob npf, S5.f1, S5.f2, S5.f3, S5.nm, b6 _ _ S5.d1 (nfp S5.d1 (by intro _ _ z; cases z)), b6 _ _ S5.d2 (nfp S5.d2 (by intro _ _ z; cases z)), b6 _ _ S5.d3 (nfp S5.d3 (by intro _ _ z; cases z))⟩
      have n56 : KeepN H5 H1 := .butL (fun d m u e => by
        obtain ⟨dy, pa, va, gs, ps', f, F⟩ := fin _ m
        rw [F.ob] at e
        exact .inr ⟨_, _, _, (Option.some.inj e).symm⟩) b6
      refine k H1 (fun b o q n => ?_) ⟨fps, qs, (hqs.keepN n45).keepN n56, ⟨dx, d2, d1, d3, fs, S1⟩, fl, fun j f a e1 e2 => hB j f a e1 e2 (List.getElem?_eq_some_iff.mp e1).1⟩
      have old : ∀ {d : Addr}, H d = none → b ≠ d := fun hd z => by
        rw [z, hd] at q
        cases q
      have q3 := b3 _ _ q n
      have m1 : b ≠ d1 := old hd1
      have m2 : b ≠ d2 := fun z => by
        rw [upd_ne nd2] at hd2
        by_cases w : d2 = d1
        · exact n21 w
        · rw [upd_ne w] at hd2
          exact old hd2 z
      have m3 : b ≠ d3 := fun z => by
        rw [upd_ne nd3, upd_ne n32, upd_ne nd3, upd_ne n31] at hd3
        exact old hd3 z
      have q4 := b4 _ _ q3 (nin m2 m1)
      have q5 := b5 _ _ q4 (n5 m3)
      exact b6 _ _ q5 fun m => by
        have := hfr b m
        rw [q4] at this
        cases this

end
end W17
set_option Elab.async false
set_option linter.all false
set_option maxRecDepth 100000
set_option maxHeartbeats 4000000
namespace W17
open PySem PySem.Spec PyProof.Rows L2 RZ
section
variable {P : Program} {w : World} {K : PySem.W.Frag} {mg : Str → Option Value} {base : Heap}
theorem none_of {H H' : Hp} {b : Addr} (e : Same H H') (h : H' b = none) : H b = none := by
  cases c : H b with
  | none => rfl
  | some o =>
    rw [e _ _ c] at h
    cases h

theorem call_isiK {X : Cx} {K : PySem.W.Frag} (hk : X.K = K) : CallR X (.builtin "isinstance") (rIsi K) := by
  subst hk
  exact call_isi
theorem call_list_ofK {X : Cx} {K : PySem.W.Frag} (hk : X.K = K) : CallR X (.type "list") (fun xs H Q => ∃ p ys, xs = [.ref p] ∧ (SqL K H p ys ∨ SqT K H p ys) ∧ ∀ l, H l = none → Q (.ref l) (upd H l (.lst ys))) := by
  subst hk
  exact call_list_of
/-! ### what a source tells of itself -/
/-- tuples stay, and the lists of which Z speaks -/
def KeepZ (Z : Addr → Prop) (H H' : Hp) : Prop := (∀ b xs, H b = some (.tup xs) → H' b = some (.tup xs)) ∧ ∀ b xs, Z b → H b = some (.lst xs) → H' b = some (.lst xs)
theorem KeepZ.of {Z : Addr → Prop} {H H' : Hp} (e : Same H H') : KeepZ Z H H' := ⟨fun b xs h => e _ _ h, fun b xs _ h => e _ _ h⟩
theorem KeepZ.but {H H' : Hp} {D : Addr} {xs : List V} (hD : H D = some (.lst xs)) (b : But D H H') : KeepZ (· ≠ D) H H' := ⟨fun c ys h => b _ _ h (ne_of h hD (by intro z; cases z)), fun c ys n h => b _ _ h n⟩
theorem PairsG.keepZ {Z : Addr → Prop} {H H' : Hp} {ps : List Addr} {qs : List (Str × Str)} (h : PairsG H ps qs) (k : KeepZ Z H H') : PairsG H' ps qs := ⟨h.len, fun i p x a b => k.1 _ _ (h.at_ i p x a b)⟩
def RowT (Z : Addr → Prop) (H : Hp) (a : Addr) (r : Rx) : Prop := ∃ l : Addr, H a = some (.tup (.str r.word :: r.parts (.ref l))) ∧ ∀ bs, r.args = some bs → Z l ∧ H l = some (.lst (bs.map V.str))
theorem RowT.to {Z Y : Addr → Prop} {H H' : Hp} {a : Addr} {r : Rx} (h : RowT Z H a r) (f : ∀ b, Z b → Y b) (k : KeepZ Z H H') : RowT Y H' a r := by
  obtain ⟨l, h1, h2⟩ := h
  exact ⟨l, k.1 _ _ h1, fun bs e => ⟨f _ (h2 bs e).1, k.2 _ _ (h2 bs e).1 (h2 bs e).2⟩⟩
structure RowsT (Z : Addr → Prop) (H : Hp) (rs : List Addr) (rws : List Rx) : Prop where
  len : rs.length = rws.length
  at_ : ∀ (i : Nat) a r, rs[i]? = some a → rws[i]? = some r → RowT Z H a r
theorem RowsT.to {Z Y : Addr → Prop} {H H' : Hp} {rs : List Addr} {rws : List Rx} (h : RowsT Z H rs rws) (f : ∀ b, Z b → Y b) (k : KeepZ Z H H') : RowsT Y H' rs rws := ⟨h.len, fun i a r x y => (h.at_ i a r x y).to f k⟩
def EntryT (Z : Addr → Prop) (H : Hp) (e : Addr) (f : FdT) : Prop := ∃ (pa oa ra : Addr) (ps qs rs : List Addr), H e = some (.tup [.str f.nm, .ref pa, .ref oa, .str f.res, .ref ra]) ∧ (Z pa ∧ Z oa ∧ Z ra) ∧ H pa = some (.lst (ps.map V.ref)) ∧ PairsG H ps f.ns ∧ H oa = some (.lst (qs.map V.ref)) ∧ PairsG H qs f.ms ∧ H ra = some (.lst (rs.map V.ref)) ∧ RowsT Z H rs f.rws
theorem EntryT.to {Z Y : Addr → Prop} {H H' : Hp} {e : Addr} {f : FdT} (h : EntryT Z H e f) (g : ∀ b, Z b → Y b) (k : KeepZ Z H H') : EntryT Y H' e f := by
  obtain ⟨pa, oa, ra, ps, qs, rs, h1, ⟨z1, z2, z3⟩, h2, h3, h4, h5, h6, h7⟩ := h
  exact ⟨pa, oa, ra, ps, qs, rs, k.1 _ _ h1, ⟨g _ z1, g _ z2, g _ z3⟩, k.2 _ _ z1 h2, h3.keepZ k, k.2 _ _ z2 h4, h5.keepZ k, k.2 _ _ z3 h6, h7.to g k⟩
def ClsZ (Z : Addr → Prop) (H : Hp) (e : Addr) (c : Str × List (Str × Str)) : Prop := ∃ (la : Addr) (ps : List Addr), H e = some (.tup [.str c.1, .ref la]) ∧ Z la ∧ H la = some (.lst (ps.map V.ref)) ∧ PairsG H ps c.2
theorem ClsZ.to {Z Y : Addr → Prop} {H H' : Hp} {e : Addr} {c : Str × List (Str × Str)} (h : ClsZ Z H e c) (g : ∀ b, Z b → Y b) (k : KeepZ Z H H') : ClsZ Y H' e c := by
  obtain ⟨la, ps, h1, z, h2, h3⟩ := h
  exact ⟨la, ps, k.1 _ _ h1, g _ z, k.2 _ _ z h2, h3.keepZ k⟩
def Tru (_ : Addr) : Prop := True
/-- a list of things, each of which R speaks -/
def LstR (α : Type) (R : Hp → Addr → α → Prop) (H : Hp) (a : Addr) (xs : List α) : Prop := ∃ es : List Addr, H a = some (.lst (es.map V.ref)) ∧ es.length = xs.length ∧ ∀ (i : Nat) e x, es[i]? = some e → xs[i]? = some x → R H e x
abbrev TCls := LstR (Str × List (Str × Str)) (ClsZ Tru)
abbrev TFns := LstR FdT (EntryT Tru)
theorem refs_of {R : Nat → Addr → Prop} : ∀ {xs : List V}, (∀ (i : Nat) v, xs[i]? = some v → ∃ e, v = .ref e ∧ R i e) → ∃ es : List Addr, xs = es.map V.ref ∧ ∀ (i : Nat) e, es[i]? = some e → R i e := by
  intro xs
  induction xs generalizing R with
  | nil => exact fun _ => ⟨[], rfl, fun i e h => by simp at h⟩
  | cons x xs ih =>
    intro h
    obtain ⟨e, rfl, r⟩ := h 0 x rfl
    obtain ⟨es, rfl, q⟩ := ih (R := fun i e => R (i + 1) e) fun i v hv => h (i + 1) v (by simpa using hv)
    refine ⟨e :: es, rfl, fun i u hu => ?_⟩
    cases i with
    | zero =>
      rw [← show e = u from Option.some.inj hu]
      exact r
    | succ i => exact q i u (by simpa using hu)
/-- a comprehension whose elements keep what R says, whatever becomes of the list itself -/
theorem lc_any {J : It} {n : Nat} {G : Hp → Prop} {Y : Nat → Hp → V → Hp → Prop} (w : Walk J n G Y) {gg : TG} {te : TE} {vs : List Nat} {σ : L2.St} {H0 : Hp} {D : Addr} {Qd : Hp → Prop} (hD : H0 D = none) (R : Nat → Hp → V → Prop) (hn : n < 100000)
    (stab : ∀ i H H' v xs, H D = some (.lst xs) → But D H H' → R i H v → R i H' v) (hG : ∀ H, Same H0 H → G H)
    (hs : ∀ i H x H' xs, i < n → Same H0 H → H D = some (.lst xs) → Y i H x H' → ∀ Qe : VK, (∀ v H4, Same H H4 → R i H4 v → Qe v H4) → gg x (wipe σ vs) H' fun σ2 H2 => wipe σ2 vs = wipe σ vs ∧ te σ2 H2 Qe)
    (hd : ∀ (H : Hp) (xs : List V), Same H0 H → xs.length = n → (∀ (i : Nat) v, xs[i]? = some v → R i H v) → H D = some (.lst xs) → Qd H) :
    ∃ W : Nat → Nat → Hp → Prop, (∃ m, W 0 m (upd H0 D (.lst []))) ∧ ∀ i m H, W i m H →
      (J.stop i H ∧ Qd H) ∨ (J.go i H ∧ ∃ Nx : Hp → Prop, (∀ H', Nx H' → ∃ m', m' < m ∧ W (i + 1) m' H') ∧ ∀ x H', J.yld i H x H' → gg x (wipe σ vs) H' fun σ2 H2 => wipe σ2 vs = wipe σ vs ∧ tYes σ2 H2 fun b H3 =>
        if b = true then te σ2 H3 fun y H4 => ∃ acc, H4 D = some (.lst acc) ∧ acc.length < sizeLine ∧ Nx (upd H4 D (.lst (acc ++ [y]))) else Nx H3) := by
  refine lc_it w (fun i H => Same H0 H ∧ ∃ xs : List V, xs.length = i ∧ (∀ (j : Nat) v, xs[j]? = some v → R j H v) ∧ H D = some (.lst xs)) ⟨Same.new hD, [], rfl, fun j v e => by simp at e, upd_same⟩ (fun i H _ p => hG H p.1) (fun i x H H' hi q y => ?_) (fun H q => ?_)
  · obtain ⟨s1, xs, hl, hx, hDD⟩ := q
    have q := hs i H x H' xs hi s1 hDD y (fun y H4 => ∃ acc, H4 D = some (.lst acc) ∧ acc.length < sizeLine ∧ (Same H0 (upd H4 D (.lst (acc ++ [y]))) ∧ ∃ xs : List V, xs.length = i + 1 ∧ (∀ (j : Nat) v, xs[j]? = some v → R j (upd H4 D (.lst (acc ++ [y]))) v) ∧ upd H4 D (.lst (acc ++ [y])) D = some (.lst xs))) (fun v H4 s4 mv => ?_)
    · exact q
    · have h4 := s4 _ _ hDD
      refine ⟨xs, h4, sz_lt (by omega), Same.mut (s1.trans s4) hD, xs ++ [v], by rw [List.length_append, hl]; rfl, fun j u e => stab j H4 _ u xs h4 But.upd ?_, upd_same⟩
      by_cases hj : j < xs.length
      · rw [List.getElem?_append_left hj] at e
        exact stab j H H4 u xs hDD (But.of s4) (hx j u e)
      · rw [List.getElem?_append_right (by omega)] at e
        have h2 := (List.getElem?_eq_some_iff.mp e).1
        simp at h2
        have ej : j = i := by omega
        have e0 : j - xs.length = 0 := by omega
        rw [e0] at e
        rw [← Option.some.inj e, ej]
        exact mv
  · obtain ⟨s1, xs, hl, hx, hDD⟩ := q
    exact hd H xs s1 hl hx hDD
/-- the part of a row as it is told -/
def PartT (H0 : Hp) (D : Addr) (r : Rx) (l : V) (i : Nat) (H : Hp) (v : V) : Prop := ((r.args.isSome && (i == 3)) = false ∧ v = (V.str r.word :: r.parts l).getD i .non) ∨ ((r.args.isSome && (i == 3)) = true ∧ ∃ q, v = .ref q ∧ q ≠ D ∧ H0 q = none ∧ H q = some (.lst (r.namesOf.map V.str)))
def spToldRow : Sp := fun vs H Q _ => ∃ (a : Addr) (r : Rx), vs = [.ref a] ∧ RowAt true H a r ∧ ∀ p H', Same H H' → RowT (fun b => H b = none) H' p r → Q (.ref p) H' 
theorem sc_told_row : FnScope ["row", "part"] ["row"] (defScope s_told_row) := ⟨rfl, rfl, rfl, by decide +kernel, rfl, by decide +kernel, by decide +kernel⟩
theorem ok_told_row (T : Ctx w K mg) : Has P w K mg base 1 "told_row" ["row"] spToldRow := by
  obtain ⟨fd, F⟩ := T.D_told_row
  refine ⟨⟨fd, F.ok sc_told_row (fun vs H Q E h => ?_) (fun cdv A outer s H vs Q E hr h => ?_), F.bindsN fun _ _ _ _ _ _ us hl => match us, hl with | [_], _ => rfl⟩, F.kp, T.g_told_row⟩
  · obtain ⟨a, r, rfl, hR, k⟩ := h; rfl
  · obtain ⟨a, r, rfl, hR, k⟩ := h
    have hu := hu_of hr
    refine ⟨_, PSs.nox (pss_one (ps_ret (pe_callTy call_tuple_of (by rfl) T.f_tuple (by decide +kernel) (pa_cons (pe_lc (own := [("part", 1)]) (g := gName 1) (tt := tYes) rfl sc_told_row.nd (pi_tup (pv 0)) (blkOk_by (N := ["row", "part"]) (sc := defScope s_told_row) (by decide +kernel)) (fun _ _ _ _ _ => (pg_name (i := 1) sc_told_row.nd rfl (Or.inl rfl))) (fun _ _ _ _ _ => pts_nil) (fun _ _ _ _ _ => (pe_ifExp (pt_val (pe_callB (call_isiK (K := K) rfl) (by rfl) T.f_isinstance (by decide +kernel) (pa_cons (pv 1) (pa_cons (pe_bltn (v := .ty "tuple") (u := .type "tuple") rfl T.f_tuple (by decide +kernel) rfl) pa_nil)))) (pe_callTy (call_list_ofK (K := K) rfl) (by rfl) T.f_list (by decide +kernel) (pa_cons (pv 1) pa_nil)) (pv 1)))) pa_nil)))), ?_⟩
    obtain ⟨l, ha, hm⟩ := hR
    refine ⟨_, rfl, a, rfl, ⟨_, SqT.of ha⟩, fun D hD => ?_⟩
    have hlp : (V.str r.word :: r.parts (.ref l)).length ≤ 4 := by cases r <;> simp [Rx.parts]
    refine lc_any (walk_tup (K := K) (a := a) (xs := V.str r.word :: r.parts (.ref l))) hD (fun i H1 v => PartT H D r (.ref l) i H1 v) (by omega) (fun i H1 H2 v xs h1 b h => ?_) (fun H2 s2 => SqT.of (s2 _ _ ha)) (fun i H2 y H3 xs hi s2 hDl hy Qe qe => ?_) (fun H2 xs s2 hl hx h2 => ?_)
    · rcases h with h | ⟨c, q, e, n, n0, h⟩
      · exact .inl h
      · exact .inr ⟨c, q, e, n, n0, b _ _ h n⟩
    · obtain ⟨rfl, hy⟩ := hy
      rcases parts_at hy with ⟨f1, c1⟩ | ⟨bs, hb, rfl, rfl⟩
      · have hy2 := (getD_of hy).symm
        cases f1 with
        | str x => exact ⟨rfl, _, rfl, _, _, _, _, false, rfl, .ty _, .base (.str x), kit_ty (by decide +kernel), false, rfl, iteF ⟨_, rfl, qe _ _ (Same.refl _) (.inl ⟨c1, hy2⟩)⟩⟩
        | int x => exact ⟨rfl, _, rfl, _, _, _, _, false, rfl, .ty _, .base (.int x), kit_ty (by decide +kernel), false, rfl, iteF ⟨_, rfl, qe _ _ (Same.refl _) (.inl ⟨c1, hy2⟩)⟩⟩
      · have q1 := hm bs hb
        rw [if_pos rfl] at q1
        have q2 := s2 _ _ q1
        refine ⟨rfl, _, rfl, _, _, _, _, true, rfl, .ty _, .base (.tup q2), kit_ty (by decide +kernel), true, rfl, iteT ⟨_, rfl, l, bs.map V.str, rfl, .inr (SqT.of q2), fun q hq => qe _ _ (Same.new hq) (.inr ⟨by rw [hb]; rfl, q, rfl, fun z => ?_, none_of s2 hq, ?_⟩)⟩⟩
        · rw [z, hDl] at hq
          cases hq
        · rw [upd_same]
          unfold Rx.namesOf
          rw [hb]
          rfl
    refine ⟨D, xs, rfl, .inl ⟨SqL.of h2, fun q hq => k q _ (s2.trans (Same.new hq)) ?_⟩⟩
    have same : ∀ (i : Nat) v, xs[i]? = some v → (r.args.isSome && (i == 3)) = false → v = (V.str r.word :: r.parts (.ref l)).getD i .non := fun i v e c => by
      rcases hx i v e with ⟨_, h⟩ | ⟨h, _⟩
      · exact h
      · rw [c] at h
        cases h
    cases e : r.args with
    | none =>
      refine ⟨l, ?_, fun bs z => by rw [e] at z; cases z⟩
      rw [upd_same]
      have ex : xs = V.str r.word :: r.parts (.ref l) := by
        apply List.ext_getElem hl
        intro i h1 h3
        have := same i xs[i] (List.getElem?_eq_getElem h1) (by rw [e]; rfl)
        rw [this, List.getD_eq_getElem?_getD, List.getElem?_eq_getElem h3]
        rfl
      rw [ex]
    | some bs =>
      cases r with
      | call x F cs =>
        obtain rfl : cs = bs := Option.some.inj e
        have h4 : xs.length = 4 := hl
        match xs, h4 with
        | [a0, a1, a2, a3], _ =>
          have e0 := same 0 a0 rfl rfl
          have e1 := same 1 a1 rfl rfl
          have e2 := same 2 a2 rfl rfl
          rcases hx 3 a3 rfl with ⟨z, _⟩ | ⟨_, q3, e3, _, n0, h3⟩
          · cases z
          · subst e0 e1 e2 e3
            exact ⟨q3, upd_same, fun bs2 z => by
              obtain rfl := Option.some.inj z
              exact ⟨n0, Same.new hq _ _ h3⟩⟩
      | _ => cases e

end
end W17
set_option Elab.async false
set_option linter.all false
set_option maxRecDepth 100000
set_option maxHeartbeats 4000000
namespace CA
open PySem PySem.Spec PyProof.Rows L2 AutoSeq1
theorem add_any (l : Addr) (ol ob : Obj) (items : Array Value) (n : Nat) (b : Addr) (items2 : Array Value) (n2 : Nat) (cl : ol.cls = .type "list") (dl : ol.data = .seq items n) (cb : ob.cls = .type "list") (db : ob.data = .seq items2 n2) (hc0 : items.size + items2.size ≤ sizeLine) :
    Meets (Builtin.«list.__add__» ⟨[.ref l, .ref b], []⟩) (fun _ R s => s.heap.get? l = some ol ∧ s.heap.get? b = some ob ∧ R (.ok (.ret (Value.ref s.heap.objs.size))) { s with heap := s.heap.push { cls := Value.type "list", data := Data.seq (items ++ items2) }, toks := s.toks }) :=
  .of_wp fun prog w A R s h => by
    obtain ⟨c1, d1, dt1, s1⟩ := ol
    obtain ⟨c2, d2, dt2, s2⟩ := ob
    obtain rfl : c1 = .type "list" := cl
    obtain rfl : c2 = .type "list" := cb
    obtain rfl : dt1 = .seq items n := dl
    obtain rfl : dt2 = .seq items2 n2 := db
    obtain ⟨hp, g, d, tk, os⟩ := s; obtain ⟨hl, hb, h⟩ := h; have f1 := idx_int; have f2 := AutoSeq1.sub_tuple_tuple; have f3 := AutoSeq1.sub_list_list; have f4 := AutoSeq1.sub_tuple_list; have f5 := AutoSeq1.sub_list_tuple; wp_walk using wpAny_loadPart' hl, wpAny_loadPart' hb; exact ⟨_, rfl, h⟩
def rCatL (K : PySem.W.Frag) : R2 := fun x y H Q => ∃ l b xs zs, x = .ref l ∧ y = .ref b ∧ SqL K H l xs ∧ SqL K H b zs ∧ xs.length + zs.length ≤ sizeLine ∧ ∀ p, H p = none → Q (.ref p) (upd H p (.lst (xs ++ zs)))
theorem op_catL {X : Cx} : OpR X (binaryOp .Add) (rCatL X.K) := by
  intro pins s σ H x y v u Q I rx ry h
  obtain ⟨l, b, xs, zs, rfl, rfl, hH, hB, hz, q⟩ := h
  cases rx
  cases ry
  obtain ⟨its, r, ⟨o, n, ho, hc, hd, hs⟩, hl⟩ := I.list hH
  obtain ⟨its2, r2, ⟨o2, n2, ho2, hc2, hd2, hs2⟩, hl2⟩ := I.list hB
  have e1 := r.length
  have e2 := r2.length
  refine concat_meets ⟨_, ho, hc⟩ ⟨_, ho2, hc2⟩ noFill_list_add seq_list_add F.slot_list_add F.entry_list_add (F.args_list_add_2 _ _) (add_any l o o2 its.toArray n b its2.toArray n2 hc hs hc2 hs2 (by rw [List.size_toArray, List.size_toArray]; omega)) ⟨ho, ho2, ?_⟩
  have ea : its.toArray ++ its2.toArray = (its ++ its2).toArray := by simp
  rw [ea]
  exact ⟨.ref _, _, I.lnew (t' := s.toks) (r.append r2) (by rw [List.length_append]; omega), rfl, q _ I.fresh⟩
def ones : Str := ⟨(List.replicate 31 ("1" : Str).cps).foldl (· ++ ·) #[]⟩
/-- "1" * 31 -/
def rOnes : R2 := fun x y H Q => x = .str "1" ∧ y = .int 31 ∧ Q (.str ones) H
theorem op_ones {X : Cx} : OpR X (binaryOp .Mult) rOnes := by
  intro pins s σ H x y v u Q I rx ry h
  obtain ⟨rfl, rfl, q⟩ := h
  obtain ⟨t, rfl⟩ := rx
  obtain ⟨t2, rfl⟩ := ry
  refine PySem.P.mul_str (by decide +kernel) (fun _ _ => by decide +kernel) (fun _ _ => by decide +kernel) ?_
  rw [if_neg (by decide), if_neg (by decide +kernel)]
  exact ⟨by decide +kernel, .str ones, H, I.tok _, ⟨_, rfl⟩, q⟩
end CA
set_option Elab.async false
set_option linter.all false
set_option maxRecDepth 100000
set_option maxHeartbeats 4000000
namespace CA
open PySem PySem.Spec PyProof.Rows L2
def strsOf : List Expr → Option (List Str)
  | [] => some []
  | .Constant (.str x) _ _ :: r => (strsOf r).map (x :: ·)
  | _ => none
def tStrs (ss : List Str) : TA := fun _ H Q => Q (ss.map V.str) H
theorem pa_strs {X : Cx} : ∀ {es : List Expr} {ss : List Str}, strsOf es = some ss → PA X es (tStrs ss)
  | [], ss, h => by
    obtain rfl : ([] : List Str) = ss := Option.some.inj h
    exact (pa_nil : PA X [] tNil)
  | .Constant (.str x) j p :: es, ss, h => by
    obtain ⟨r, h1, rfl⟩ := Option.map_eq_some_iff.mp (show (strsOf es).map (x :: ·) = some ss from h)
    exact (pa_cons pe_str (pa_strs h1) : PA X (.Constant (.str x) j p :: es) (tCons (tC (.str x)) (tStrs r)))
end CA
set_option Elab.async false
set_option linter.all false
set_option maxRecDepth 100000
set_option maxHeartbeats 4000000
namespace W17
open PySem PySem.Spec PyProof.Rows L2 RZ
section
variable {P : Program} {w : World} {K : PySem.W.Frag} {mg : Str → Option Value} {base : Heap}

/-- a source of draws -/
def WellAt (H : Hp) (p : Addr) : Prop := ∃ a b c : Int, H p = some (.lst [.int a, .int b, .int c])
theorem fm {a : Int} {m : Nat} (h : 0 < m) : ∃ k : Nat, k < m ∧ a.fmod (m : Int) = (k : Int) := by
  have h0 : (0 : Int) < (m : Int) := by omega
  have h1 : 0 ≤ a.fmod (m : Int) := Int.fmod_nonneg_of_pos a h0
  have h2 : a.fmod (m : Int) < (m : Int) := Int.fmod_lt_of_pos a h0
  exact ⟨(a.fmod (m : Int)).toNat, by omega, by omega⟩
theorem mb1 (a : Int) : -(2 ^ 64) < a.fmod 2147483647 ∧ a.fmod 2147483647 < 2 ^ 64 := by
  have h1 : 0 ≤ a.fmod 2147483647 := Int.fmod_nonneg_of_pos a (by decide)
  have h2 : a.fmod 2147483647 < 2147483647 := Int.fmod_lt_of_pos a (by decide)
  omega
theorem mb2 (a : Int) : -(2 ^ 64) < a.fmod 2147483587 ∧ a.fmod 2147483587 < 2 ^ 64 := by
  have h1 : 0 ≤ a.fmod 2147483587 := Int.fmod_nonneg_of_pos a (by decide)
  have h2 : a.fmod 2147483587 < 2147483587 := Int.fmod_lt_of_pos a (by decide)
  omega
theorem bb (b : Bool) : -(2 ^ 64) < b2i b ∧ b2i b < 2 ^ 64 := by cases b <;> decide
def spWell : Sp := fun vs H Q _ => ∃ c : Int, vs = [.int c] ∧ ∀ p H', Same H H' → H p = none → WellAt H' p → Q (.ref p) H'
def spDraw : Sp := fun vs H Q _ => ∃ (p : Addr) (m : Nat), vs = [.ref p, .int m] ∧ WellAt H p ∧ 0 < m ∧ m ≤ 1000 ∧ ∀ (k : Nat) (H' : Hp), k < m → But p H H' → WellAt H' p → Q (.int k) H'
def spOne : Sp := fun vs H Q _ => ∃ (p l : Addr) (xs : List V), vs = [.ref p, .ref l] ∧ WellAt H p ∧ H l = some (.lst xs) ∧ l ≠ p ∧ 0 < xs.length ∧ xs.length ≤ 1000 ∧ ∀ (v : V) (H' : Hp), v ∈ xs → But p H H' → WellAt H' p → Q v H' 
theorem sc_L_well : FnScope ["_law_cell"] ["_law_cell"] (defScope s_L_well) := ⟨rfl, rfl, rfl, by decide +kernel, rfl, by decide +kernel, by decide +kernel⟩
theorem ok_L_well (T : Ctx w K mg) : Has P w K mg base 1 "_law_well" ["_law_cell"] spWell := by
  obtain ⟨fd, F⟩ := T.D_L_well
  refine ⟨⟨fd, F.ok sc_L_well (fun vs H Q E h => ?_) (fun cdv A outer s H vs Q E hr h => ?_), F.bindsN fun _ _ _ _ _ _ us hl => match us, hl with | [_], _ => rfl⟩, F.kp, T.g_L_well⟩
  · obtain ⟨c, rfl, k⟩ := h; rfl
  · obtain ⟨c, rfl, k⟩ := h
    have hu := hu_of hr
    refine ⟨_, PSs.nox (pss_one (ps_ret (pe_lst (pa_cons (pe_op op_mul (pv 0) (pe_callTy call_int1 (by rfl) T.f_int (by decide +kernel) (pa_cons (pe_cmpR op_ge (pv 0) (pe_op op_pow pe_int pe_int) (nomark _)) pa_nil))) (pa_cons (pe_op op_modN (pe_callTy call_int1 (by rfl) T.f_int (by decide +kernel) (pa_cons (pv 0) pa_nil)) pe_int) (pa_cons pe_int pa_nil)))))), ?_⟩
    refine ⟨_, rfl, _, rfl, _, _, rfl, rfl, ⟨by decide, by decide, by decide⟩, _, _, rfl, rfl, .inr ⟨_, rfl, _, _, rfl, rfl, .inr (bb _), ?_⟩⟩
    refine ⟨_, rfl, .inl ⟨_, rfl, _, _, rfl, rfl, (by show (2147483629 : Int) ≠ 0; decide), sz_of (by show 3 ≤ 100000; decide), fun l hl => k l _ (Same.new hl) hl ⟨_, _, _, upd_same⟩⟩⟩
theorem sc_L_draw : FnScope ["_law_well_here", "_law_many", "_law_mixed", "_law_figure"] ["_law_well_here", "_law_many"] (defScope s_L_draw) := ⟨rfl, rfl, rfl, by decide +kernel, rfl, by decide +kernel, by decide +kernel⟩
theorem ok_L_draw (T : Ctx w K mg) : Has P w K mg base 1 "_law_draw" ["_law_well_here", "_law_many"] spDraw := by
  obtain ⟨fd, F⟩ := T.D_L_draw
  refine ⟨⟨fd, F.ok sc_L_draw (fun vs H Q E h => ?_) (fun cdv A outer s H vs Q E hr h => ?_), F.bindsN fun _ _ _ _ _ _ us hl => match us, hl with | [_, _], _ => rfl⟩, F.kp, T.g_L_draw⟩
  · obtain ⟨p, m, rfl, hw, hm, hm2, k⟩ := h; rfl
  · obtain ⟨p, m, rfl, hw, hm, hm2, k⟩ := h
    have hu := hu_of hr
    refine ⟨_, PSs.nox (pss_cons (ps_if (pt_cmpR op_gt (pe_ix ix_list (pv 0) pe_int (fun _ _ => rfl)) pe_int (nomark _)) (pss_cons (ps_set (i := 3) sc_L_draw.nd rfl (Or.inl rfl) (pe_op op_modN (pe_callTy call_int1 (by rfl) T.f_int (by decide +kernel) (pa_cons (pe_ix ix_list (pv 0) pe_int (fun _ _ => rfl)) pa_nil)) (pv 1)))
      (pss_cons (ps_asg (pe_op op_fdivN (pe_ix ix_list (pv 0) pe_int (fun _ _ => rfl)) (pv 1)) (pg_sub (pv 0) pe_int set_list))
      (pss_one (ps_ret (pv 3))))) pss_nil)
      (pss_cons (ps_asg (pe_op op_add (pe_ix ix_list (pv 0) pe_int (fun _ _ => rfl)) pe_int) (pg_sub (pv 0) pe_int set_list))
      (pss_cons (ps_set (i := 2) sc_L_draw.nd rfl (Or.inl rfl) (pe_op op_modN (pe_callTy call_int1 (by rfl) T.f_int (by decide +kernel) (pa_cons (pe_op op_mul (pe_op op_add (pe_op op_add (pe_ix ix_list (pv 0) pe_int (fun _ _ => rfl)) (pe_op op_mul pe_int (pe_ix ix_list (pv 0) pe_int (fun _ _ => rfl)))) pe_int) pe_int) pa_nil)) pe_int))
      (pss_cons (ps_set (i := 2) sc_L_draw.nd rfl (Or.inl rfl) (pe_op op_modN (pe_callTy call_int1 (by rfl) T.f_int (by decide +kernel) (pa_cons (pe_op op_mul (pv 2) (pe_op op_add (pe_op op_fdivN (pv 2) pe_int) pe_int)) pa_nil)) pe_int))
      (pss_one (ps_ret (pe_op op_modN (pe_callTy call_int1 (by rfl) T.f_int (by decide +kernel) (pa_cons (pe_op op_fdivN (pe_op op_modN (pe_callTy call_int1 (by rfl) T.f_int (by decide +kernel) (pa_cons (pe_op op_mul (pv 2) (pe_op op_add (pe_op op_fdivN (pv 2) pe_int) pe_int)) pa_nil)) pe_int) pe_int) pa_nil)) (pv 1)))))))), ?_⟩
    obtain ⟨a, b, c, hp⟩ := hw
    have hm0 : (m : Int) ≠ 0 := by omega
    refine ⟨_, rfl, _, _, _, _, rfl, rfl, SqL.of hp, at0, _, _, rfl, rfl, _, rfl, ?_⟩
    by_cases ca : (0 : Int) < a
    · refine ifT (decide_eq_true ca) ?_
      obtain ⟨kk, hk, ek⟩ := fm (a := a) hm
      refine ⟨_, rfl, _, _, _, _, rfl, rfl, SqL.of hp, at0, .inl ⟨_, rfl, _, rfl, _, _, rfl, rfl, hm0, ?_⟩⟩
      refine ⟨_, rfl, _, _, _, _, rfl, rfl, SqL.of hp, at0, _, rfl, _, _, rfl, rfl, ⟨hm0, by omega⟩, _, rfl, p, _, 0, 0, rfl, rfl, hp, rfl, ?_⟩
      refine ⟨_, rfl, ?_⟩
      show Q (.int (a.fmod (m : Int))) _
      rw [ek]
      exact k kk _ hk But.upd ⟨_, _, _, upd_same⟩
    · refine ifF (decide_eq_false ca) ?_
      refine ⟨_, rfl, _, _, _, _, rfl, rfl, SqL.of hp, at2, _, _, rfl, rfl, _, rfl, p, _, 2, 2, rfl, rfl, hp, rfl, ?_⟩
      have hp2 : upd H p (.lst [.int a, .int b, .int (c + 1)]) p = some (.lst [.int a, .int b, .int (c + 1)]) := upd_same
      refine ⟨_, rfl, _, _, _, _, rfl, rfl, SqL.of hp2, at1, _, rfl, _, _, _, _, rfl, rfl, SqL.of hp2, at2, _, _, rfl, rfl, .inl ⟨by decide, by decide⟩, _, _, rfl, rfl, _, _, rfl, rfl, _, _, rfl, rfl, .inr ⟨by decide, by decide⟩, .inl ⟨_, rfl, _, _, rfl, rfl, (by show (2147483647 : Int) ≠ 0; decide), ?_⟩⟩
      refine ⟨_, rfl, _, rfl, _, _, rfl, rfl, ⟨by show (1021 : Int) ≠ 0; decide, by show (1021 : Int).natAbs < 1073741824; decide⟩, _, _, rfl, rfl, _, _, rfl, rfl, .inl (mb1 _), .inl ⟨_, rfl, _, _, rfl, rfl, (by show (2147483587 : Int) ≠ 0; decide), ?_⟩⟩
      refine ⟨_, rfl, _, rfl, _, _, rfl, rfl, ⟨by show (2011 : Int) ≠ 0; decide, by show (2011 : Int).natAbs < 1073741824; decide⟩, _, _, rfl, rfl, _, _, rfl, rfl, .inl (mb2 _), .inl ⟨_, rfl, _, _, rfl, rfl, (by show (2147483563 : Int) ≠ 0; decide), _, _, rfl, rfl, ⟨by show (11 : Int) ≠ 0; decide, by show (11 : Int).natAbs < 1073741824; decide⟩, .inl ⟨_, rfl, _, rfl, _, _, rfl, rfl, hm0, ?_⟩⟩⟩
      have fin : ∀ z : Int, Q (.int (z.fmod (m : Int))) (upd H p (.lst [.int a, .int b, .int (c + 1)])) := fun z => by
        obtain ⟨kk, hk, ek⟩ := fm (a := z) hm
        rw [ek]
        exact k kk _ hk But.upd ⟨_, _, _, upd_same⟩
      exact fin _
theorem sc_L_one : FnScope ["_law_well_here", "_law_some"] ["_law_well_here", "_law_some"] (defScope s_L_one) := ⟨rfl, rfl, rfl, by decide +kernel, rfl, by decide +kernel, by decide +kernel⟩
theorem ok_L_one (T : Ctx w K mg) (H_L_draw : Has P w K mg base 1 "_law_draw" ["_law_well_here", "_law_many"] spDraw) : Has P w K mg base 2 "_law_one" ["_law_well_here", "_law_some"] spOne := by
  obtain ⟨fd, F⟩ := T.D_L_one
  obtain ⟨fd_L_draw, G_L_draw, b_L_draw⟩ := H_L_draw.ex
  refine ⟨⟨fd, F.ok sc_L_one (fun vs H Q E h => ?_) (fun cdv A outer s H vs Q E hr h => ?_), F.bindsN fun _ _ _ _ _ _ us hl => match us, hl with | [_, _], _ => rfl⟩, F.kp, T.g_L_one⟩
  · obtain ⟨p, l, xs, rfl, hw, hl, hne, h0, h1, k⟩ := h; rfl
  · obtain ⟨p, l, xs, rfl, hw, hl, hne, h0, h1, k⟩ := h
    have hr_L_draw : Room 1 _ := hr.mono (by decide)
    have hu := hu_of hr
    refine ⟨_, PSs.nox (pss_one (ps_ret (pe_ix ix_list (pv 1) (pe_call G_L_draw hr_L_draw (by rfl) H_L_draw.gl H_L_draw.kp b_L_draw .nil pass0 (pa_cons (pv 0) (pa_cons (pe_callB call_len_seq (by rfl) T.f_len (by decide +kernel) (pa_cons (pv 1) pa_nil)) pa_nil))) (fun _ _ => rfl)))), ?_⟩
    refine ⟨_, rfl, _, rfl, _, rfl, _, _, rfl, .inl (SqL.of hl), p, xs.length, rfl, hw, h0, h1, fun kk H1 hk b1 w1 => ?_⟩
    have hl1 := b1 _ _ hl hne
    exact ⟨l, xs, kk, _, rfl, rfl, SqL.of hl1, atI_nat (List.getElem?_eq_getElem hk), k _ _ (List.getElem_mem hk) b1 w1⟩

end
end W17
set_option Elab.async false
set_option linter.all false
set_option maxRecDepth 100000
set_option maxHeartbeats 4000000
namespace W17
open PySem PySem.Spec PyProof.Rows L2 RZ
section
variable {P : Program} {w : World} {K : PySem.W.Frag} {mg : Str → Option Value} {base : Heap}
def rLenK (K : PySem.W.Frag) : List V → Hp → VK → Prop := fun vs H Q => ∃ (a : Addr) (xs : List V), vs = [.ref a] ∧ SqL K H a xs ∧ Q (.int xs.length) H
theorem call_lenK {X : Cx} {K : PySem.W.Frag} (hk : X.K = K) : CallR X (.builtin "len") (rLenK K) := by
  subst hk
  intro pins s σ H vs us Q I r h
  obtain ⟨a, xs, e, hs, q⟩ := h
  exact call_len_seq pins s σ H vs us Q I r ⟨a, xs, e, .inl hs, q⟩
theorem WellAt.mono {H H' : Hp} {p : Addr} (h : WellAt H p) (e : Same H H') : WellAt H' p := by
  obtain ⟨a, b, c, q⟩ := h
  exact ⟨a, b, c, e _ _ q⟩
theorem But.new {p q : Addr} {H : Hp} {o : HO} (h : H q = none) : But p H (L2.upd H q o) := But.of (Same.new h)
theorem But.mut {p R : Addr} {H H' : Hp} {o : HO} (b : But p H H') (h : H R = none) : But p H (L2.upd H' R o) := fun c u e n => by
  rw [upd_ne (ne_of_none e h)]
  exact b c u e n
theorem But.then {p : Addr} {H H' H2 : Hp} (b : But p H H') (e : Same H' H2) : But p H H2 := b.trans (But.of e)
theorem WellAt.nn {H : Hp} {p q : Addr} (h : WellAt H p) (hq : H q = none) : q ≠ p := by
  obtain ⟨_, _, _, e⟩ := h
  exact (ne_of_none e hq).symm
theorem WellAt.put {H : Hp} {p q : Addr} {o : HO} (h : WellAt H p) (hq : q ≠ p) : WellAt (upd H q o) p := by
  obtain ⟨a, b, c, e⟩ := h
  exact ⟨a, b, c, by rw [upd_ne hq.symm]; exact e⟩
theorem WellAt.neT {H : Hp} {p a : Addr} {xs : List V} (h : WellAt H p) (ha : H a = some (.tup xs)) : a ≠ p := by
  obtain ⟨_, _, _, q⟩ := h
  exact ne_of ha q (by intro z; cases z)
theorem WellAt.neL {H : Hp} {p a : Addr} {xs : List V} (h : WellAt H p) (ha : H a = some (.lst xs)) (hx : ∀ n, xs.head? ≠ some (.int n)) : a ≠ p := by
  obtain ⟨n, _, _, q⟩ := h
  exact ne_of ha q (by
    intro z
    have e := HO.lst.inj z
    rw [e] at hx
    exact hx n rfl)
theorem head_refs {as : List Addr} : ∀ n, (as.map V.ref).head? ≠ some (.int n) := by
  intro n
  cases as <;> simp
theorem head_strs {as : List Str} : ∀ n, (as.map V.str).head? ≠ some (.int n) := by
  intro n
  cases as <;> simp
theorem WellAt.keepTL {H H' : Hp} {p : Addr} {a : Addr} {as : List Addr} (h : WellAt H p) (b : But p H H') (ha : H a = some (.lst (as.map V.ref))) : H' a = some (.lst (as.map V.ref)) := b _ _ ha (h.neL ha head_refs)
theorem PairsG.but {H H' : Hp} {p : Addr} {ps : List Addr} {qs : List (Str × Str)} (h : PairsG H ps qs) (w : WellAt H p) (b : But p H H') : PairsG H' ps qs := ⟨h.len, fun i a q e1 e2 => b _ _ (h.at_ i a q e1 e2) (w.neT (h.at_ i a q e1 e2))⟩
theorem seqN {k n : Nat} (h : k < n) : seqIndex? (k : Int) n = some k := by
  have q := seqIndex_of (k := (k : Int)) (n := n) (by omega) (by omega)
  rw [q]
  simp
def RowR (H : Hp) (a : Addr) (r : Rx) : Prop := ∃ l, H a = some (.tup (.str r.word :: r.parts (.ref l))) ∧ ArgsAt H l r
theorem RowR.mono {H H' : Hp} {a : Addr} {r : Rx} (h : RowR H a r) (e : Same H H') : RowR H' a r := by
  obtain ⟨l, h1, h2⟩ := h
  exact ⟨l, e _ _ h1, h2.mono e⟩
theorem noArgs {H : Hp} {l : Addr} {r : Rx} (h : r.args = none) : ArgsAt H l r := fun bs e => by rw [h] at e; cases e
theorem RowR.of {H : Hp} {a : Addr} {r : Rx} (ha : r.args = none) (h : H a = some (.tup (.str r.word :: r.parts (.ref 0)))) : RowR H a r := ⟨0, h, noArgs ha⟩
theorem RowR.but {H H' : Hp} {p a : Addr} {r : Rx} (h : RowR H a r) (w : WellAt H p) (b : But p H H') : RowR H' a r := by
  obtain ⟨l, h1, h2⟩ := h
  exact ⟨l, b _ _ h1 (w.neT h1), fun bs e => ⟨b _ _ (h2 bs e).1 (w.neL (h2 bs e).1 head_strs), (h2 bs e).2⟩⟩
def fldC : List (Str × Str) := [("item", "number"), ("next", "object")]
def RowF (H H' : Hp) (a : Addr) (r : Rx) : Prop := ∃ l, H' a = some (.tup (.str r.word :: r.parts (.ref l))) ∧ ArgsAt H' l r ∧ (r.args = none ∨ H l = none)
theorem RowR.f {H H' : Hp} {a : Addr} {r : Rx} (h : RowR H' a r) (e : r.args = none) : RowF H H' a r := by
  obtain ⟨l, h1, h2⟩ := h
  exact ⟨l, h1, h2, .inl e⟩
theorem RowF.of {H H' : Hp} {a : Addr} {r : Rx} (ha : r.args = none) (h : H' a = some (.tup (.str r.word :: r.parts (.ref 0)))) : RowF H H' a r := (RowR.of ha h).f ha
theorem RowF.as {H H' : Hp} {a : Addr} {r : Rx} {xs : List V} (ha : r.args = none) (e : V.str r.word :: r.parts (.ref 0) = xs) (h : H' a = some (.tup xs)) : RowF H H' a r := RowF.of ha (by rw [e]; exact h)
section
variable {x y z c f F : Str} {n : Int} {g : Nat} {l : V} {as : List Str}
theorem w_num : V.str (Rx.num x n).word :: (Rx.num x n).parts l = [.str "number", .str x, .int n] := rfl
theorem w_nil : V.str (Rx.nil x).word :: (Rx.nil x).parts l = [.str "nil", .str x] := rfl
theorem w_copy : V.str (Rx.copy x y).word :: (Rx.copy x y).parts l = [.str "copy", .str x, .str y] := rfl
theorem w_bin0 : V.str (Rx.bin 0 x y z).word :: (Rx.bin 0 x y z).parts l = [.str "add", .str x, .str y, .str z] := rfl
theorem w_bin1 : V.str (Rx.bin 1 x y z).word :: (Rx.bin 1 x y z).parts l = [.str "sub", .str x, .str y, .str z] := rfl
theorem w_bin2 : V.str (Rx.bin 2 x y z).word :: (Rx.bin 2 x y z).parts l = [.str "times", .str x, .str y, .str z] := rfl
theorem w_bin3 : V.str (Rx.bin 3 x y z).word :: (Rx.bin 3 x y z).parts l = [.str "less", .str x, .str y, .str z] := rfl
theorem w_same : V.str (Rx.same x y z).word :: (Rx.same x y z).parts l = [.str "same", .str x, .str y, .str z] := rfl
theorem w_new : V.str (Rx.new x c).word :: (Rx.new x c).parts l = [.str "new", .str x, .str c] := rfl
theorem w_get : V.str (Rx.get x y f).word :: (Rx.get x y f).parts l = [.str "get", .str x, .str y, .str f] := rfl
theorem w_put : V.str (Rx.put x f y).word :: (Rx.put x f y).parts l = [.str "put", .str x, .str f, .str y] := rfl
theorem w_call : V.str (Rx.call x F as).word :: (Rx.call x F as).parts l = [.str "call", .str x, .str F, l] := rfl
theorem w_see : V.str (Rx.see x).word :: (Rx.see x).parts l = [.str "see", .str x] := rfl
theorem w_ifz : V.str (Rx.ifz x g).word :: (Rx.ifz x g).parts l = [.str "if", .str x, .int g] := rfl
end
theorem lc_but {J : It} {n : Nat} {G : Hp → Prop} {Y : Nat → Hp → V → Hp → Prop} (w : Walk J n G Y) {g : TG} {te : TE} {vs : List Nat} {σ : L2.St} {H0 : Hp} {D p : Addr} {Qd : Hp → Prop} (hD : H0 D = none) (w0 : WellAt H0 p) (P : V → Prop) (hn : n < 100000)
    (hG : ∀ H, But p H0 H → WellAt H p → G H)
    (hs : ∀ i H x H', i < n → But p H0 H → WellAt H p → Y i H x H' → ∀ Qe : VK, (∀ v H4, P v → But p H H4 → WellAt H4 p → Qe v H4) → g x (wipe σ vs) H' fun σ2 H2 => wipe σ2 vs = wipe σ vs ∧ te σ2 H2 Qe)
    (hd : ∀ (H : Hp) (xs : List V), But p H0 H → WellAt H p → xs.length = n → (∀ x ∈ xs, P x) → H D = some (.lst xs) → Qd H) :
    ∃ W : Nat → Nat → Hp → Prop, (∃ m, W 0 m (upd H0 D (.lst []))) ∧ ∀ i m H, W i m H →
      (J.stop i H ∧ Qd H) ∨ (J.go i H ∧ ∃ Nx : Hp → Prop, (∀ H', Nx H' → ∃ m', m' < m ∧ W (i + 1) m' H') ∧ ∀ x H', J.yld i H x H' → g x (wipe σ vs) H' fun σ2 H2 => wipe σ2 vs = wipe σ vs ∧ tYes σ2 H2 fun b H3 =>
        if b = true then te σ2 H3 fun y H4 => ∃ acc, H4 D = some (.lst acc) ∧ acc.length < sizeLine ∧ Nx (upd H4 D (.lst (acc ++ [y]))) else Nx H3) := by
  have nDp := w0.nn hD
  refine lc_it w (fun i H => But p H0 H ∧ WellAt H p ∧ ∃ xs : List V, xs.length = i ∧ (∀ x ∈ xs, P x) ∧ H D = some (.lst xs)) ⟨But.new hD, w0.put nDp, [], rfl, fun x m => by simp at m, upd_same⟩ (fun i H _ p => hG H p.1 p.2.1) (fun i x H H' hi q y => ?_) (fun H q => ?_)
  · obtain ⟨b1, w1, xs, hl, hx, hDD⟩ := q
    have q := hs i H x H' hi b1 w1 y (fun y H4 => ∃ acc, H4 D = some (.lst acc) ∧ acc.length < sizeLine ∧ (But p H0 (upd H4 D (.lst (acc ++ [y]))) ∧ WellAt (upd H4 D (.lst (acc ++ [y]))) p ∧ ∃ xs : List V, xs.length = i + 1 ∧ (∀ x ∈ xs, P x) ∧ upd H4 D (.lst (acc ++ [y])) D = some (.lst xs))) (fun v H4 pv b4 w4 => ?_)
    · exact q
    · refine ⟨xs, b4 _ _ hDD nDp, sz_lt (by omega), (b1.trans b4).mut hD, w4.put nDp, xs ++ [v], by rw [List.length_append, hl]; rfl, fun z m => ?_, upd_same⟩
      rcases List.mem_append.mp m with m | m
      · exact hx z m
      · rw [List.mem_singleton.mp m]
        exact pv
  · obtain ⟨b1, w1, xs, hl, hx, hDD⟩ := q
    exact hd H xs b1 w1 hl hx hDD
theorem lc_strs {J : It} {n : Nat} {G : Hp → Prop} {Y : Nat → Hp → V → Hp → Prop} (w : Walk J n G Y) {g : TG} {te : TE} {vs : List Nat} {σ : L2.St} {H0 : Hp} {D p : Addr} {Qd : Hp → Prop} (hD : H0 D = none) (w0 : WellAt H0 p) (P : Nat → Str → Prop) (hn : n < 100000)
    (hG : ∀ H, But p H0 H → WellAt H p → G H)
    (hs : ∀ i H x H', i < n → But p H0 H → WellAt H p → Y i H x H' → ∀ Qe : VK, (∀ y H4, P i y → But p H H4 → WellAt H4 p → Qe (.str y) H4) → g x (wipe σ vs) H' fun σ2 H2 => wipe σ2 vs = wipe σ vs ∧ te σ2 H2 Qe)
    (hd : ∀ (H : Hp) (ys : List Str), But p H0 H → WellAt H p → ys.length = n → (∀ (i : Nat) y, ys[i]? = some y → P i y) → H D = some (.lst (ys.map V.str)) → Qd H) :
    ∃ W : Nat → Nat → Hp → Prop, (∃ m, W 0 m (upd H0 D (.lst []))) ∧ ∀ i m H, W i m H →
      (J.stop i H ∧ Qd H) ∨ (J.go i H ∧ ∃ Nx : Hp → Prop, (∀ H', Nx H' → ∃ m', m' < m ∧ W (i + 1) m' H') ∧ ∀ x H', J.yld i H x H' → g x (wipe σ vs) H' fun σ2 H2 => wipe σ2 vs = wipe σ vs ∧ tYes σ2 H2 fun b H3 =>
        if b = true then te σ2 H3 fun y H4 => ∃ acc, H4 D = some (.lst acc) ∧ acc.length < sizeLine ∧ Nx (upd H4 D (.lst (acc ++ [y]))) else Nx H3) := by
  have nDp := w0.nn hD
  refine lc_it w (fun i H => But p H0 H ∧ WellAt H p ∧ ∃ ys : List Str, ys.length = i ∧ (∀ (j : Nat) y, ys[j]? = some y → P j y) ∧ H D = some (.lst (ys.map V.str))) ⟨But.new hD, w0.put nDp, [], rfl, fun j y e => by simp at e, upd_same⟩ (fun i H _ p => hG H p.1 p.2.1) (fun i x H H' hi q y => ?_) (fun H q => ?_)
  · obtain ⟨b1, w1, xs, hl, hx, hDD⟩ := q
    have q := hs i H x H' hi b1 w1 y (fun y H4 => ∃ acc, H4 D = some (.lst acc) ∧ acc.length < sizeLine ∧ (But p H0 (upd H4 D (.lst (acc ++ [y]))) ∧ WellAt (upd H4 D (.lst (acc ++ [y]))) p ∧ ∃ ys : List Str, ys.length = i + 1 ∧ (∀ (j : Nat) y, ys[j]? = some y → P j y) ∧ upd H4 D (.lst (acc ++ [y])) D = some (.lst (ys.map V.str)))) (fun v H4 pv b4 w4 => ?_)
    · exact q
    · refine ⟨xs.map V.str, b4 _ _ hDD nDp, sz_lt (by rw [List.length_map]; omega), (b1.trans b4).mut hD, w4.put nDp, xs ++ [v], by rw [List.length_append, hl]; rfl, fun j z m => ?_, by rw [upd_same, List.map_append]; rfl⟩
      by_cases c : j < xs.length
      · rw [List.getElem?_append_left c] at m
        exact hx j z m
      · have cj : j = xs.length := by
          have := (List.getElem?_eq_some_iff.mp m).1
          rw [List.length_append, List.length_singleton] at this
          omega
        subst cj
        rw [List.getElem?_append_right (Nat.le_refl _), Nat.sub_self] at m
        rw [← Option.some.inj m, hl]
        exact pv
  · obtain ⟨b1, w1, xs, hl, hx, hDD⟩ := q
    exact hd H xs b1 w1 hl hx hDD
theorem three {α : Type} : ∀ {l : List α}, l.length = 3 → ∃ x y z, l = [x, y, z]
  | [x, y, z], _ => ⟨x, y, z, rfl⟩
theorem two {α : Type} : ∀ {l : List α}, l.length = 2 → ∃ x y, l = [x, y]
  | [x, y], _ => ⟨x, y, rfl⟩
end
end W17
set_option Elab.async false
set_option linter.all false
set_option maxRecDepth 100000
set_option maxHeartbeats 4000000
namespace W17
open PySem PySem.Spec PyProof.Rows L2 RZ CA
section
variable {P : Program} {w : World} {K : PySem.W.Frag} {mg : Str → Option Value} {base : Heap}

/-- the function that is drawn -/
def fF (rws : List Rx) : FdT := ⟨"f", "number", [("a", "number"), ("o", "object")], [("b", "number"), ("c", "number"), ("p", "object")], rws⟩
def clC : ClsT := [("cell", fldC)]
def NumV (x : Str) : Prop := x = "a" ∨ x = "b" ∨ x = "c"
def ObjV (x : Str) : Prop := x = "o" ∨ x = "p"
theorem ko_num {rws : List Rx} {x : Str} (h : NumV x) : KO (fF rws) x "number" := by
  rcases h with rfl | rfl | rfl <;> simp [KO, fF]
theorem ko_obj {rws : List Rx} {x : Str} (h : ObjV x) : KO (fF rws) x "object" := by
  rcases h with rfl | rfl <;> simp [KO, fF]
theorem num_in {v : V} (h : v ∈ ([.str "a", .str "b", .str "c"] : List V)) : ∃ x, v = .str x ∧ NumV x := by
  simp only [List.mem_cons, List.not_mem_nil, or_false] at h
  rcases h with rfl | rfl | rfl
  · exact ⟨_, rfl, .inl rfl⟩
  · exact ⟨_, rfl, .inr (.inl rfl)⟩
  · exact ⟨_, rfl, .inr (.inr rfl)⟩
theorem obj_in {v : V} (h : v ∈ ([.str "o", .str "p"] : List V)) : ∃ x, v = .str x ∧ ObjV x := by
  simp only [List.mem_cons, List.not_mem_nil, or_false] at h
  rcases h with rfl | rfl
  · exact ⟨_, rfl, .inl rfl⟩
  · exact ⟨_, rfl, .inr rfl⟩
def PlainOk (size : Nat) (r : Rx) : Prop := (∀ rws, RowOk clC [fF rws] (fF rws) r) ∧ ∀ g, r.goal = some g → g < size
theorem fld_item : valV (ksM clC) (Sum.inr ("item" : Str) : Key) = some (.str "number") := by decide +kernel
theorem fld_next : valV (ksM clC) (Sum.inr ("next" : Str) : Key) = some (.str "object") := by decide +kernel
def spPlain : Sp := fun vs H Q _ => ∃ (p : Addr) (size : Nat), vs = [.ref p, .int size] ∧ WellAt H p ∧ 0 < size ∧ size ≤ 1000 ∧
  ∀ (a : Addr) (r : Rx) (H' : Hp), But p H H' → WellAt H' p → RowF H H' a r → PlainOk size r → Q (.ref a) H'
theorem sc_L_plain : FnScope ["_law_well_here", "_law_size", "_law_x", "_law_y", "_law_z", "_law_one_here", "_law_other", "_law_way", "_law_some", "_law_turn"] ["_law_well_here", "_law_size"] (defScope s_L_plain) := ⟨rfl, rfl, rfl, by decide +kernel, rfl, by decide +kernel, by decide +kernel⟩
theorem ok_L_plain (T : Ctx w K mg) (H_L_draw : Has P w K mg base 1 "_law_draw" ["_law_well_here", "_law_many"] spDraw) (H_L_one : Has P w K mg base 2 "_law_one" ["_law_well_here", "_law_some"] spOne) : Has P w K mg base 3 "_law_plain" ["_law_well_here", "_law_size"] spPlain := by
  obtain ⟨fd, F⟩ := T.D_L_plain
  obtain ⟨fd_L_draw, G_L_draw, b_L_draw⟩ := H_L_draw.ex
  obtain ⟨fd_L_one, G_L_one, b_L_one⟩ := H_L_one.ex
  refine ⟨⟨fd, F.ok sc_L_plain (fun vs H Q E h => ?_) (fun cdv A outer s H vs Q E hr h => ?_), F.bindsN fun _ _ _ _ _ _ us hl => match us, hl with | [_, _], _ => rfl⟩, F.kp, T.g_L_plain⟩
  · obtain ⟨p, size, rfl, hw, h0, h1, k⟩ := h; rfl
  · obtain ⟨p, size, rfl, hw, h0, h1, k⟩ := h
    have hr_L_draw : Room 1 _ := hr.mono (by decide)
    have hr_L_one : Room 2 _ := hr.mono (by decide)
    have hu := hu_of hr
    refine ⟨_, PSs.nox (pss_cons (ps_asg (pe_lc (own := [("_law_turn", 9)]) (g := gName 9) (tt := tYes) rfl sc_L_plain.nd (pi_range1 (by rfl) T.f_range (pa_cons pe_int pa_nil)) (blkOk_by (N := ["_law_well_here", "_law_size", "_law_x", "_law_y", "_law_z", "_law_one_here", "_law_other", "_law_way", "_law_some", "_law_turn"]) (sc := defScope s_L_plain) (by decide +kernel)) (fun _ _ _ _ _ => (pg_name (i := 9) sc_L_plain.nd rfl (Or.inl rfl))) (fun _ _ _ _ _ => pts_nil) (fun _ _ _ _ _ => (pe_call G_L_one hr_L_one (by rfl) H_L_one.gl H_L_one.kp b_L_one .nil pass0 (pa_cons (pv 0) (pa_cons (pe_lst (pa_cons pe_str (pa_cons pe_str (pa_cons pe_str pa_nil)))) pa_nil))))) (pg_unl rfl (pgs_cons (pg_name (i := 2) sc_L_plain.nd rfl (Or.inl rfl)) (pgs_cons (pg_name (i := 3) sc_L_plain.nd rfl (Or.inl rfl)) (pgs_cons (pg_name (i := 4) sc_L_plain.nd rfl (Or.inl rfl)) pgs_nil)))))
      (pss_cons (ps_asg (pe_lc (own := [("_law_turn", 9)]) (g := gName 9) (tt := tYes) rfl sc_L_plain.nd (pi_range1 (by rfl) T.f_range (pa_cons pe_int pa_nil)) (blkOk_by (N := ["_law_well_here", "_law_size", "_law_x", "_law_y", "_law_z", "_law_one_here", "_law_other", "_law_way", "_law_some", "_law_turn"]) (sc := defScope s_L_plain) (by decide +kernel)) (fun _ _ _ _ _ => (pg_name (i := 9) sc_L_plain.nd rfl (Or.inl rfl))) (fun _ _ _ _ _ => pts_nil) (fun _ _ _ _ _ => (pe_call G_L_one hr_L_one (by rfl) H_L_one.gl H_L_one.kp b_L_one .nil pass0 (pa_cons (pv 0) (pa_cons (pe_lst (pa_cons pe_str (pa_cons pe_str pa_nil))) pa_nil))))) (pg_unl rfl (pgs_cons (pg_name (i := 5) sc_L_plain.nd rfl (Or.inl rfl)) (pgs_cons (pg_name (i := 6) sc_L_plain.nd rfl (Or.inl rfl)) pgs_nil))))
      (pss_cons (ps_set (i := 7) sc_L_plain.nd rfl (Or.inl rfl) (pe_call G_L_draw hr_L_draw (by rfl) H_L_draw.gl H_L_draw.kp b_L_draw .nil pass0 (pa_cons (pv 0) (pa_cons pe_int pa_nil))))
      (pss_cons (ps_if (pt_cmpR op_lt (pv 7) pe_int (nomark _)) (pss_one (ps_ret (pe_ix ix_list (pe_lst (pa_cons (pe_tup (pa_cons pe_str (pa_cons (pv 2) (pa_cons pe_int pa_nil)))) (pa_cons (pe_tup (pa_cons pe_str (pa_cons (pv 2) (pa_cons (pv 3) pa_nil)))) (pa_cons (pe_tup (pa_cons pe_str (pa_cons (pv 2) (pa_cons (pv 3) (pa_cons (pv 4) pa_nil))))) (pa_cons (pe_tup (pa_cons pe_str (pa_cons (pv 2) (pa_cons (pv 3) (pa_cons (pv 4) pa_nil))))) pa_nil))))) (pv 7) (fun _ _ => rfl)))) pss_nil)
      (pss_cons (ps_if (pt_cmpR op_lt (pv 7) pe_int (nomark _)) (pss_one (ps_ret (pe_ix ix_list (pe_lst (pa_cons (pe_tup (pa_cons pe_str (pa_cons (pv 2) (pa_cons (pv 3) (pa_cons (pv 4) pa_nil))))) (pa_cons (pe_tup (pa_cons pe_str (pa_cons (pv 2) (pa_cons (pv 5) (pa_cons (pv 6) pa_nil))))) (pa_cons (pe_tup (pa_cons pe_str (pa_cons (pv 5) pa_nil))) (pa_cons (pe_tup (pa_cons pe_str (pa_cons (pv 5) (pa_cons (pv 6) pa_nil)))) pa_nil))))) (pe_op op_sub (pv 7) pe_int) (fun _ _ => rfl)))) pss_nil)
      (pss_cons (ps_if (pt_cmpR op_lt (pv 7) pe_int (nomark _)) (pss_cons (ps_set (i := 8) sc_L_plain.nd rfl (Or.inl rfl) (pe_lst (pa_cons (pe_tup (pa_cons pe_str (pa_cons (pv 5) (pa_cons pe_str pa_nil)))) (pa_cons (pe_tup (pa_cons pe_str (pa_cons (pv 2) (pa_cons (pv 5) (pa_cons pe_str pa_nil))))) (pa_cons (pe_tup (pa_cons pe_str (pa_cons (pv 5) (pa_cons pe_str (pa_cons (pv 3) pa_nil))))) (pa_cons (pe_tup (pa_cons pe_str (pa_cons (pv 5) (pa_cons (pv 6) (pa_cons pe_str pa_nil))))) pa_nil))))))
      (pss_one (ps_ret (pe_ix ix_list (pv 8) (pe_op op_sub (pv 7) pe_int) (fun _ _ => rfl))))) pss_nil)
      (pss_cons (ps_if (pt_cmpR op_eq (pv 7) pe_int (nomark _)) (pss_one (ps_ret (pe_tup (pa_cons pe_str (pa_cons (pv 5) (pa_cons pe_str (pa_cons (pv 6) pa_nil))))))) pss_nil)
      (pss_cons (ps_if (pt_cmpR op_eq (pv 7) pe_int (nomark _)) (pss_one (ps_ret (pe_tup (pa_cons pe_str (pa_cons (pv 2) (pa_cons pe_str (pa_cons (pe_lst (pa_cons (pv 3) (pa_cons (pv 5) pa_nil))) pa_nil))))))) pss_nil)
      (pss_one (ps_ret (pe_ix ix_list (pe_lst (pa_cons (pe_tup (pa_cons pe_str (pa_cons (pe_call G_L_one hr_L_one (by rfl) H_L_one.gl H_L_one.kp b_L_one .nil pass0 (pa_cons (pv 0) (pa_cons (pe_lst (pa_cons (pv 2) (pa_cons (pv 5) pa_nil))) pa_nil))) pa_nil))) (pa_cons (pe_tup (pa_cons pe_str (pa_cons (pv 2) (pa_cons (pe_call G_L_draw hr_L_draw (by rfl) H_L_draw.gl H_L_draw.kp b_L_draw .nil pass0 (pa_cons (pv 0) (pa_cons (pv 1) pa_nil))) pa_nil)))) pa_nil))) (pe_op op_sub (pv 7) pe_int) (fun _ _ => rfl)))))))))))), ?_⟩
    have hst : L2.start ["_law_well_here", "_law_size", "_law_x", "_law_y", "_law_z", "_law_one_here", "_law_other", "_law_way", "_law_some", "_law_turn"] [V.ref p, V.int size] = [some (.ref p), some (.int size), none, none, none, none, none, none, none, none] := rfl
    rw [hst]
    clear hst
    refine ⟨_, rfl, by decide, by decide, fun D1 hD1 => ?_⟩
    refine lc_strs (walk_range (lo := 0) (n := (3 : Int).toNat)) hD1 hw (fun _ x => NumV x) (by decide) (fun _ _ _ => trivial) (fun j Hy y Hy' hj by_ wy hy Qe qe => ?_) (fun H2 xs b2 w2 hxl hxs hDa => ?_)
    · obtain ⟨rfl, rfl⟩ := hy
      refine ⟨rfl, _, rfl, sz_of (by show 3 ≤ 100000; decide), fun l hl => ⟨p, l, _, rfl, wy.mono (Same.new hl), upd_same, wy.nn hl, by show 0 < 3; decide, by show 3 ≤ 1000; decide, fun v H2 hv b2 w2 => ?_⟩⟩
      obtain ⟨x, rfl, hx⟩ := num_in hv
      exact qe _ _ hx ((But.new hl).trans b2) w2
    obtain ⟨x, y, z, rfl⟩ : ∃ x y z, xs = [x, y, z] := three (show xs.length = 3 from hxl)
    have kx := fun rws => ko_num (rws := rws) (hxs 0 x rfl)
    have ky := fun rws => ko_num (rws := rws) (hxs 1 y rfl)
    have kz := fun rws => ko_num (rws := rws) (hxs 2 z rfl)
    refine ⟨D1, _, rfl, SqL.of hDa, rfl, _, _, rfl, _, _, rfl, _, _, rfl, rfl, ?_⟩
    refine ⟨_, rfl, by decide, by decide, fun D2 hD2 => ?_⟩
    refine lc_strs (walk_range (lo := 0) (n := (2 : Int).toNat)) hD2 w2 (fun _ x => ObjV x) (by decide) (fun _ _ _ => trivial) (fun j Hy y Hy' hj by_ wy hy Qe qe => ?_) (fun H3 os b3 w3 hol hos hDb => ?_)
    · obtain ⟨rfl, rfl⟩ := hy
      refine ⟨rfl, _, rfl, sz_of (by show 2 ≤ 100000; decide), fun l hl => ⟨p, l, _, rfl, wy.mono (Same.new hl), upd_same, wy.nn hl, by show 0 < 2; decide, by show 2 ≤ 1000; decide, fun v H2 hv b2 w2 => ?_⟩⟩
      obtain ⟨x, rfl, hx⟩ := obj_in hv
      exact qe _ _ hx ((But.new hl).trans b2) w2
    obtain ⟨u, v, rfl⟩ : ∃ u v, os = [u, v] := two (show os.length = 2 from hol)
    have ku := fun rws => ko_obj (rws := rws) (hos 0 u rfl)
    have kv := fun rws => ko_obj (rws := rws) (hos 1 v rfl)
    refine ⟨D2, _, rfl, SqL.of hDb, rfl, _, _, rfl, _, _, rfl, rfl, ?_⟩
    refine ⟨_, rfl, p, 16, rfl, w3, by decide, by decide, fun way H4 hway b4 w4 => ?_⟩
    have b14 : But p H H4 := b2.trans (b3.trans b4)
    refine ⟨_, rfl, _, _, rfl, rfl, _, rfl, ?_⟩
    by_cases c1 : way < 4
    · refine ifT (decide_eq_true (by omega)) ?_
      refine ⟨_, rfl, sz_of (by show 3 ≤ 100000; decide), fun t0 ht0 => ?_⟩
      refine ⟨_, rfl, _, rfl, sz_of (by show 3 ≤ 100000; decide), fun t1 ht1 => ?_⟩
      refine ⟨_, rfl, _, rfl, _, rfl, sz_of (by show 4 ≤ 100000; decide), fun t2 ht2 => ?_⟩
      refine ⟨_, rfl, _, rfl, _, rfl, sz_of (by show 4 ≤ 100000; decide), fun t3 ht3 => ?_⟩
      refine ⟨sz_of (by show 4 ≤ 100000; decide), fun l hl => ?_⟩
      have q0 := Same.new (o := .tup [.str "number", .str x, .int 5]) ht0
      have q1 := Same.new (o := .tup [.str "copy", .str x, .str y]) ht1
      have q2 := Same.new (o := .tup [.str "add", .str x, .str y, .str z]) ht2
      have q3 := Same.new (o := .tup [.str "sub", .str x, .str y, .str z]) ht3
      have ql := Same.new (o := .lst [.ref t0, .ref t1, .ref t2, .ref t3]) hl
      have z3 := ql
      have z2 := q3.trans z3
      have z1 := q2.trans z2
      have z0 := q1.trans z1
      have zz := q0.trans z0
      match way, c1 with
      | 0, _ => exact ⟨_, rfl, l, _, _, _, rfl, rfl, SqL.of upd_same, at0, k t0 (.num x 5) _ (b14.then zz) (w4.mono zz) (RowF.as rfl w_num (z0 _ _ upd_same)) ⟨fun rws => ⟨kx _, by decide, by decide⟩, fun g e => (by cases e)⟩⟩
      | 1, _ => exact ⟨_, rfl, l, _, _, _, rfl, rfl, SqL.of upd_same, at1, k t1 (.copy x y) _ (b14.then zz) (w4.mono zz) (RowF.as rfl w_copy (z1 _ _ upd_same)) ⟨fun rws => ⟨_, kx _, ky _⟩, fun g e => (by cases e)⟩⟩
      | 2, _ => exact ⟨_, rfl, l, _, _, _, rfl, rfl, SqL.of upd_same, at2, k t2 (.bin 0 x y z) _ (b14.then zz) (w4.mono zz) (RowF.as rfl w_bin0 (z2 _ _ upd_same)) ⟨fun rws => ⟨kx _, ky _, kz _⟩, fun g e => (by cases e)⟩⟩
      | 3, _ => exact ⟨_, rfl, l, _, _, _, rfl, rfl, SqL.of upd_same, at3, k t3 (.bin 1 x y z) _ (b14.then zz) (w4.mono zz) (RowF.as rfl w_bin1 (z3 _ _ upd_same)) ⟨fun rws => ⟨kx _, ky _, kz _⟩, fun g e => (by cases e)⟩⟩
    refine ifF (decide_eq_false (by omega)) ?_
    refine ⟨_, rfl, _, _, rfl, rfl, _, rfl, ?_⟩
    by_cases c2 : way < 8
    · refine ifT (decide_eq_true (by omega)) ?_
      refine ⟨_, rfl, _, rfl, _, rfl, sz_of (by show 4 ≤ 100000; decide), fun t0 ht0 => ?_⟩
      refine ⟨_, rfl, _, rfl, _, rfl, sz_of (by show 4 ≤ 100000; decide), fun t1 ht1 => ?_⟩
      refine ⟨_, rfl, sz_of (by show 2 ≤ 100000; decide), fun t2 ht2 => ?_⟩
      refine ⟨_, rfl, _, rfl, sz_of (by show 3 ≤ 100000; decide), fun t3 ht3 => ?_⟩
      refine ⟨sz_of (by show 4 ≤ 100000; decide), fun l hl => ?_⟩
      have q0 := Same.new (o := .tup [.str "less", .str x, .str y, .str z]) ht0
      have q1 := Same.new (o := .tup [.str "same", .str x, .str u, .str v]) ht1
      have q2 := Same.new (o := .tup [.str "nil", .str u]) ht2
      have q3 := Same.new (o := .tup [.str "copy", .str u, .str v]) ht3
      have ql := Same.new (o := .lst [.ref t0, .ref t1, .ref t2, .ref t3]) hl
      have z3 := ql
      have z2 := q3.trans z3
      have z1 := q2.trans z2
      have z0 := q1.trans z1
      have zz := q0.trans z0
      obtain ⟨wy, rfl⟩ : ∃ wy, way = wy + 4 := ⟨way - 4, by omega⟩
      have c3 : wy < 4 := by omega
      match wy, c3 with
      | 0, _ => exact ⟨_, rfl, _, _, rfl, rfl, l, _, _, _, rfl, rfl, SqL.of upd_same, at0, k t0 (.bin 3 x y z) _ (b14.then zz) (w4.mono zz) (RowF.as rfl w_bin3 (z0 _ _ upd_same)) ⟨fun rws => ⟨kx _, ky _, kz _⟩, fun g e => (by cases e)⟩⟩
      | 1, _ => exact ⟨_, rfl, _, _, rfl, rfl, l, _, _, _, rfl, rfl, SqL.of upd_same, at1, k t1 (.same x u v) _ (b14.then zz) (w4.mono zz) (RowF.as rfl w_same (z1 _ _ upd_same)) ⟨fun rws => ⟨_, kx _, ku _, kv _⟩, fun g e => (by cases e)⟩⟩
      | 2, _ => exact ⟨_, rfl, _, _, rfl, rfl, l, _, _, _, rfl, rfl, SqL.of upd_same, at2, k t2 (.nil u) _ (b14.then zz) (w4.mono zz) (RowF.as rfl w_nil (z2 _ _ upd_same)) ⟨fun rws => ku _, fun g e => (by cases e)⟩⟩
      | 3, _ => exact ⟨_, rfl, _, _, rfl, rfl, l, _, _, _, rfl, rfl, SqL.of upd_same, at3, k t3 (.copy u v) _ (b14.then zz) (w4.mono zz) (RowF.as rfl w_copy (z3 _ _ upd_same)) ⟨fun rws => ⟨_, ku _, kv _⟩, fun g e => (by cases e)⟩⟩
    refine ifF (decide_eq_false (by omega)) ?_
    refine ⟨_, rfl, _, _, rfl, rfl, _, rfl, ?_⟩
    by_cases c4 : way < 12
    · refine ifT (decide_eq_true (by omega)) ?_
      refine ⟨_, rfl, sz_of (by show 3 ≤ 100000; decide), fun t0 ht0 => ?_⟩
      refine ⟨_, rfl, _, rfl, sz_of (by show 4 ≤ 100000; decide), fun t1 ht1 => ?_⟩
      refine ⟨_, rfl, _, rfl, sz_of (by show 4 ≤ 100000; decide), fun t2 ht2 => ?_⟩
      refine ⟨_, rfl, _, rfl, sz_of (by show 4 ≤ 100000; decide), fun t3 ht3 => ?_⟩
      refine ⟨sz_of (by show 4 ≤ 100000; decide), fun l hl => ?_⟩
      have q0 := Same.new (o := .tup [.str "new", .str u, .str "cell"]) ht0
      have q1 := Same.new (o := .tup [.str "get", .str x, .str u, .str "item"]) ht1
      have q2 := Same.new (o := .tup [.str "put", .str u, .str "item", .str y]) ht2
      have q3 := Same.new (o := .tup [.str "get", .str u, .str v, .str "next"]) ht3
      have ql := Same.new (o := .lst [.ref t0, .ref t1, .ref t2, .ref t3]) hl
      have z3 := ql
      have z2 := q3.trans z3
      have z1 := q2.trans z2
      have z0 := q1.trans z1
      have zz := q0.trans z0
      obtain ⟨wy, rfl⟩ : ∃ wy, way = wy + 8 := ⟨way - 8, by omega⟩
      have c3 : wy < 4 := by omega
      match wy, c3 with
      | 0, _ => exact ⟨_, rfl, _, rfl, _, _, rfl, rfl, l, _, _, _, rfl, rfl, SqL.of upd_same, at0, k t0 (.new u "cell") _ (b14.then zz) (w4.mono zz) (RowF.as rfl w_new (z0 _ _ upd_same)) ⟨fun rws => ⟨ku _, List.mem_cons_self⟩, fun g e => (by cases e)⟩⟩
      | 1, _ => exact ⟨_, rfl, _, rfl, _, _, rfl, rfl, l, _, _, _, rfl, rfl, SqL.of upd_same, at1, k t1 (.get x u "item") _ (b14.then zz) (w4.mono zz) (RowF.as rfl w_get (z1 _ _ upd_same)) ⟨fun rws => ⟨_, ku _, kx _, fld_item⟩, fun g e => (by cases e)⟩⟩
      | 2, _ => exact ⟨_, rfl, _, rfl, _, _, rfl, rfl, l, _, _, _, rfl, rfl, SqL.of upd_same, at2, k t2 (.put u "item" y) _ (b14.then zz) (w4.mono zz) (RowF.as rfl w_put (z2 _ _ upd_same)) ⟨fun rws => ⟨_, ku _, ky _, fld_item⟩, fun g e => (by cases e)⟩⟩
      | 3, _ => exact ⟨_, rfl, _, rfl, _, _, rfl, rfl, l, _, _, _, rfl, rfl, SqL.of upd_same, at3, k t3 (.get u v "next") _ (b14.then zz) (w4.mono zz) (RowF.as rfl w_get (z3 _ _ upd_same)) ⟨fun rws => ⟨_, kv _, ku _, fld_next⟩, fun g e => (by cases e)⟩⟩
    refine ifF (decide_eq_false (by omega)) ?_
    refine ⟨_, rfl, rfl, _, rfl, ?_⟩
    by_cases e12 : way = 12
    · refine ifT (decide_eq_true (by rw [e12]; rfl)) ?_
      refine ⟨_, rfl, _, rfl, sz_of (by show 4 ≤ 100000; decide), fun t ht => ?_⟩
      have q := Same.new (o := .tup [.str "put", .str u, .str "next", .str v]) ht
      exact k t (.put u "next" v) _ (b14.then q) (w4.mono q) (RowF.as rfl w_put upd_same) ⟨fun rws => ⟨_, ku _, kv _, fld_next⟩, fun g e => (by cases e)⟩
    refine ifF (decide_eq_false fun z => e12 (by have := V.int.inj z; omega)) ?_
    refine ⟨_, rfl, rfl, _, rfl, ?_⟩
    by_cases e13 : way = 13
    · refine ifT (decide_eq_true (by rw [e13]; rfl)) ?_
      refine ⟨_, rfl, _, rfl, _, rfl, sz_of (by show 2 ≤ 100000; decide), fun l hl => ⟨sz_of (by show 4 ≤ 100000; decide), fun t ht => ?_⟩⟩
      have q1 := Same.new (o := .lst [.str y, .str u]) hl
      have q2 := Same.new (o := .tup [.str "call", .str x, .str "f", .ref l]) ht
      have q := q1.trans q2
      have nl : H l = none := by
        cases z : H l with
        | none => rfl
        | some o =>
          have np : l ≠ p := (w4.nn hl)
          rw [b14 _ _ z np] at hl
          cases hl
      refine k t (.call x "f" [y, u]) _ (b14.then q) (w4.mono q) ⟨l, (by rw [w_call]; exact upd_same), fun cs ec => ?_, .inr nl⟩ ⟨fun rws => ⟨0, fF rws, rfl, rfl, rfl, fun i s q e1 e2 => ?_, kx _⟩, fun g e => (by cases e)⟩
      · rw [← Option.some.inj ec]
        exact ⟨q2 _ _ upd_same, by show 2 ≤ 1000; decide⟩
      · match i with
        | 0 =>
          rw [← Option.some.inj e1, ← Option.some.inj e2]
          exact ky _
        | 1 =>
          rw [← Option.some.inj e1, ← Option.some.inj e2]
          exact ku _
        | n + 2 => simp at e1
    refine ifF (decide_eq_false fun z => e13 (by have := V.int.inj z; omega)) ?_
    refine ⟨_, rfl, _, rfl, _, rfl, sz_of (by show 2 ≤ 100000; decide), fun lk hlk => ?_⟩
    have q1 := Same.new (o := .lst [.str x, .str u]) hlk
    have w41 := w4.mono q1
    refine ⟨p, lk, _, rfl, w41, upd_same, w4.nn hlk, by show 0 < 2; decide, by show 2 ≤ 1000; decide, fun vv H5 hv b5 w5 => ?_⟩
    obtain ⟨sx, rfl, ksx⟩ : ∃ sx : Str, vv = .str sx ∧ ∃ q, ∀ rws, KO (fF rws) sx q := by
      simp only [List.mem_cons, List.not_mem_nil, or_false] at hv
      rcases hv with rfl | rfl
      · exact ⟨_, rfl, _, kx⟩
      · exact ⟨_, rfl, _, ku⟩
    have b15 : But p H H5 := (b14.then q1).trans b5
    refine ⟨sz_of (by show 2 ≤ 100000; decide), fun t1 ht1 => ?_⟩
    have q2 := Same.new (o := .tup [.str "see", .str sx]) ht1
    have w51 := w5.mono q2
    refine ⟨_, rfl, _, rfl, _, rfl, p, size, rfl, w51, h0, h1, fun gg H6 hg b6 w6 => ?_⟩
    have p1 := b6 _ _ (upd_same (H := H5) (a := t1) (o := .tup [.str "see", .str sx])) (w51.neT upd_same)
    have b16 : But p H H6 := (b15.then q2).trans b6
    refine ⟨sz_of (by show 3 ≤ 100000; decide), fun t2 ht2 => ⟨sz_of (by show 2 ≤ 100000; decide), fun ls hls => ?_⟩⟩
    have q3 := Same.new (o := .tup [.str "if", .str x, .int gg]) ht2
    have q4 := Same.new (o := .lst [.ref t1, .ref t2]) hls
    have q34 := q3.trans q4
    have w61 := w6.mono q34
    have b17 := b16.then q34
    obtain ⟨wy, rfl⟩ : ∃ wy, way = wy + 14 := ⟨way - 14, by omega⟩
    have c3 : wy < 2 := by omega
    obtain ⟨qx, kqx⟩ := ksx
    match wy, c3 with
    | 0, _ => exact ⟨_, rfl, _, _, rfl, rfl, ls, _, _, _, rfl, rfl, SqL.of upd_same, at0, k t1 (.see sx) _ b17 w61 (RowF.as rfl w_see (q34 _ _ p1)) ⟨fun rws => ⟨qx, kqx _⟩, fun g e => (by cases e)⟩⟩
    | 1, _ => exact ⟨_, rfl, _, _, rfl, rfl, ls, _, _, _, rfl, rfl, SqL.of upd_same, at1, k t2 (.ifz x gg) _ b17 w61 (RowF.as rfl w_ifz (q4 _ _ upd_same)) ⟨fun rws => kx _, fun g e => (by rw [← Option.some.inj e]; exact hg)⟩⟩

end
end W17
set_option Elab.async false
set_option linter.all false
set_option maxRecDepth 100000
set_option maxHeartbeats 4000000
namespace W17
open PySem PySem.Spec PyProof.Rows L2 RZ
/-! ### things of any kind -/
def nameB (x : Str) : Bool := decide (0 < x.cps.size) && (decide (x.cps.size ≤ 8) && (x.cps[0]?.any (fun c => decide (c ∈ LETS.cps.toList)) && x.cps.toList.all fun c => decide (c ∈ MRKS.cps.toList)))
theorem nam_of {x : Str} (h : nameB x = true) : Nam x := by
  unfold nameB at h
  simp only [Bool.and_eq_true, decide_eq_true_eq, List.all_eq_true] at h
  obtain ⟨h1, h2, h3, h4⟩ := h
  refine ⟨h1, h2, ?_, fun i c e => h4 c ?_⟩
  · cases e : x.cps[0]? with
    | none => rw [e] at h3; cases h3
    | some c =>
      rw [e] at h3
      exact ⟨c, rfl, of_decide_eq_true h3⟩
  · have := Array.mem_of_getElem? e
    simpa using this
inductive Th where
  | non
  | bl (b : Bool)
  | int (i : Int)
  | str (x : Str)
  | tup (ts : List Th)
  | lst (ts : List Th)
  | dct
mutual
inductive ThAt (H : Hp) : V → Th → Prop
  | non : ThAt H .non .non
  | bl (b : Bool) : ThAt H (.bl b) (.bl b)
  | int (i : Int) : ThAt H (.int i) (.int i)
  | str (x : Str) : x.cps.size ≤ 1000 → ThAt H (.str x) (.str x)
  | tup {a : Addr} {xs : List V} {ts : List Th} : H a = some (.tup xs) → xs.length ≤ 1000 → ThAll H xs ts → ThAt H (.ref a) (.tup ts)
  | lst {a : Addr} {xs : List V} {ts : List Th} : H a = some (.lst xs) → xs.length ≤ 1000 → ThAll H xs ts → ThAt H (.ref a) (.lst ts)
  | dct {a : Addr} : H a = some (.dK []) → ThAt H (.ref a) .dct
inductive ThAll (H : Hp) : List V → List Th → Prop
  | nil : ThAll H [] []
  | cons {v : V} {t : Th} {vs : List V} {ts : List Th} : ThAt H v t → ThAll H vs ts → ThAll H (v :: vs) (t :: ts)
end
mutual
theorem ThAt.mono {H H' : Hp} (s : Same H H') : ∀ {v : V} {t : Th}, ThAt H v t → ThAt H' v t
  | _, _, .non => .non
  | _, _, .bl b => .bl b
  | _, _, .int i => .int i
  | _, _, .str x h => .str x h
  | _, _, .tup h l a => .tup (s _ _ h) l (ThAll.mono s a)
  | _, _, .lst h l a => .lst (s _ _ h) l (ThAll.mono s a)
  | _, _, .dct h => .dct (s _ _ h)
theorem ThAll.mono {H H' : Hp} (s : Same H H') : ∀ {vs : List V} {ts : List Th}, ThAll H vs ts → ThAll H' vs ts
  | _, _, .nil => .nil
  | _, _, .cons h a => .cons (ThAt.mono s h) (ThAll.mono s a)
end
theorem ThAll.len {H : Hp} : ∀ {vs : List V} {ts : List Th}, ThAll H vs ts → vs.length = ts.length
  | _, _, .nil => rfl
  | _, _, .cons _ a => congrArg (· + 1) (ThAll.len a)
theorem ThAll.get {H : Hp} : ∀ {vs : List V} {ts : List Th} (i : Nat) {v : V}, ThAll H vs ts → vs[i]? = some v → ∃ t, ts[i]? = some t ∧ ThAt H v t
  | _, _, 0, _, .cons h _, e => by
    obtain rfl := Option.some.inj e
    exact ⟨_, rfl, h⟩
  | _, _, i + 1, _, .cons _ a, e => ThAll.get i a (by simpa using e)
def Th.ty : Th → String
  | .non => "NoneType"
  | .bl _ => "bool"
  | .int _ => "int"
  | .str _ => "str"
  | .tup _ => "tuple"
  | .lst _ => "list"
  | .dct => "dict"
theorem ThAt.ty {K : PySem.W.Frag} {H : Hp} {v : V} {t : Th} (h : ThAt H v t) : TyX K H v (.type t.ty) := by
  cases h with
  | non => exact .base .non
  | bl b => exact .base (.bl b)
  | int i => exact .base (.int i)
  | str x _ => exact .base (.str x)
  | tup h _ _ => exact .base (.tup h)
  | lst h _ _ => exact .base (.lst h)
  | dct h => exact .base (.dK h)
def Th.isInt : Th → Bool
  | .bl _ => true
  | .int _ => true
  | _ => false
def Th.isBl : Th → Bool
  | .bl _ => true
  | _ => false
def Th.isStr : Th → Bool
  | .str _ => true
  | _ => false
def Th.isTup : Th → Bool
  | .tup _ => true
  | _ => false
def Th.isLst : Th → Bool
  | .lst _ => true
  | _ => false
theorem Th.kInt (t : Th) : kitB t.ty "int" = some t.isInt := by
  cases t with
  | non => exact (by decide +kernel : kitB "NoneType" "int" = some false)
  | bl b => exact (by decide +kernel : kitB "bool" "int" = some true)
  | int i => exact (by decide +kernel : kitB "int" "int" = some true)
  | str x => exact (by decide +kernel : kitB "str" "int" = some false)
  | tup ts => exact (by decide +kernel : kitB "tuple" "int" = some false)
  | lst ts => exact (by decide +kernel : kitB "list" "int" = some false)
  | dct => exact (by decide +kernel : kitB "dict" "int" = some false)
theorem Th.kBl (t : Th) : kitB t.ty "bool" = some t.isBl := by
  cases t with
  | non => exact (by decide +kernel : kitB "NoneType" "bool" = some false)
  | bl b => exact (by decide +kernel : kitB "bool" "bool" = some true)
  | int i => exact (by decide +kernel : kitB "int" "bool" = some false)
  | str x => exact (by decide +kernel : kitB "str" "bool" = some false)
  | tup ts => exact (by decide +kernel : kitB "tuple" "bool" = some false)
  | lst ts => exact (by decide +kernel : kitB "list" "bool" = some false)
  | dct => exact (by decide +kernel : kitB "dict" "bool" = some false)
theorem Th.kStr (t : Th) : kitB t.ty "str" = some t.isStr := by
  cases t with
  | non => exact (by decide +kernel : kitB "NoneType" "str" = some false)
  | bl b => exact (by decide +kernel : kitB "bool" "str" = some false)
  | int i => exact (by decide +kernel : kitB "int" "str" = some false)
  | str x => exact (by decide +kernel : kitB "str" "str" = some true)
  | tup ts => exact (by decide +kernel : kitB "tuple" "str" = some false)
  | lst ts => exact (by decide +kernel : kitB "list" "str" = some false)
  | dct => exact (by decide +kernel : kitB "dict" "str" = some false)
theorem Th.kTup (t : Th) : kitB t.ty "tuple" = some t.isTup := by
  cases t with
  | non => exact (by decide +kernel : kitB "NoneType" "tuple" = some false)
  | bl b => exact (by decide +kernel : kitB "bool" "tuple" = some false)
  | int i => exact (by decide +kernel : kitB "int" "tuple" = some false)
  | str x => exact (by decide +kernel : kitB "str" "tuple" = some false)
  | tup ts => exact (by decide +kernel : kitB "tuple" "tuple" = some true)
  | lst ts => exact (by decide +kernel : kitB "list" "tuple" = some false)
  | dct => exact (by decide +kernel : kitB "dict" "tuple" = some false)
theorem Th.kLst (t : Th) : kitB t.ty "list" = some t.isLst := by
  cases t with
  | non => exact (by decide +kernel : kitB "NoneType" "list" = some false)
  | bl b => exact (by decide +kernel : kitB "bool" "list" = some false)
  | int i => exact (by decide +kernel : kitB "int" "list" = some false)
  | str x => exact (by decide +kernel : kitB "str" "list" = some false)
  | tup ts => exact (by decide +kernel : kitB "tuple" "list" = some false)
  | lst ts => exact (by decide +kernel : kitB "list" "list" = some true)
  | dct => exact (by decide +kernel : kitB "dict" "list" = some false)
/-! ### what is asked of things -/
def intT : Th → Bool
  | .int _ => true
  | _ => false
def intInT (lo hi : Int) : Th → Bool
  | .int i => decide (lo ≤ i) && decide (i ≤ hi)
  | _ => false
def nameT : Th → Bool
  | .str x => nameB x
  | _ => false
def kindT : Th → Bool
  | .str x => decide (x = "number") || decide (x = "object")
  | _ => false
def tupOfT (n : Nat) : Th → Bool
  | .tup ts => decide (ts.length = n)
  | _ => false
def lstOfT (lo hi : Nat) : Th → Bool
  | .lst ts => decide (lo ≤ ts.length) && decide (ts.length ≤ hi)
  | _ => false
def namesT : Th → Bool
  | .lst ts => ts.all nameT
  | _ => false
def wordT : Th → Bool
  | .tup (.str _ :: _) => true
  | _ => false
def pairT : Th → Bool
  | .tup [n, k] => nameT n && kindT k
  | _ => false
def fstT : Th → Th
  | .tup (n :: _) => n
  | _ => .non
/-- pairs of a name and a kind, all names unlike those that were met -/
def freshT : List Str → List Th → Bool
  | _, [] => true
  | met, t :: ts => pairT t && (match fstT t with
    | .str x => decide (x ∉ met) && freshT (met ++ [x]) ts
    | _ => false)
def namedT (most : Nat) : Th → Bool
  | .lst ts => decide (ts.length ≤ most) && freshT [] ts
  | _ => false
end W17
set_option Elab.async false
set_option linter.all false
set_option maxRecDepth 100000
set_option maxHeartbeats 4000000
namespace W17
open PySem PySem.Spec PyProof.Rows L2 RZ CA
section
variable {P : Program} {w : World} {K : PySem.W.Frag} {mg : Str → Option Value} {base : Heap}

/-- a row as it is handed in, the list of its arguments none of those at L -/
def RowX (L : List Addr) (H : Hp) (a : Addr) (r : Rx) : Prop := ∃ l, H a = some (.tup (.str r.word :: r.parts (.ref l))) ∧ ArgsAt H l r ∧ (r.args = none ∨ l ∉ L)
theorem RowX.mono {L : List Addr} {H H' : Hp} {a : Addr} {r : Rx} (h : RowX L H a r) (e : Same H H') : RowX L H' a r := by
  obtain ⟨l, h1, h2, h3⟩ := h
  exact ⟨l, e _ _ h1, h2.mono e, h3⟩
theorem RowX.but {L : List Addr} {H H' : Hp} {p a : Addr} {r : Rx} (h : RowX L H a r) (w : WellAt H p) (b : But p H H') : RowX L H' a r := by
  obtain ⟨l, h1, h2, h3⟩ := h
  exact ⟨l, b _ _ h1 (w.neT h1), fun bs e => ⟨b _ _ (h2 bs e).1 (w.neL (h2 bs e).1 head_strs), (h2 bs e).2⟩, h3⟩
theorem RowX.put {L : List Addr} {H : Hp} {a d : Addr} {r : Rx} {xs ys : List V} (h : RowX L H a r) (hd : H d = some (.lst xs)) (m : d ∈ L) : RowX L (L2.upd H d (.lst ys)) a r := by
  obtain ⟨l, h1, h2, h3⟩ := h
  refine ⟨l, by rw [upd_ne (ne_of h1 hd (by intro z; cases z))]; exact h1, fun bs e => ⟨?_, (h2 bs e).2⟩, h3⟩
  rcases h3 with h3 | h3
  · rw [h3] at e
    cases e
  · rw [upd_ne (fun z => h3 (by rw [z]; exact m))]
    exact (h2 bs e).1
theorem RowX.less {L M : List Addr} {H : Hp} {a : Addr} {r : Rx} (h : RowX L H a r) (m : ∀ x ∈ M, x ∈ L) : RowX M H a r := by
  obtain ⟨l, h1, h2, h3⟩ := h
  exact ⟨l, h1, h2, h3.imp id fun z y => z (m _ y)⟩
theorem RowF.x {L : List Addr} {H H' : Hp} {a : Addr} {r : Rx} (h : RowF H H' a r) (hL : ∀ d ∈ L, ∃ o, H d = some o) : RowX L H' a r := by
  obtain ⟨l, h1, h2, h3⟩ := h
  refine ⟨l, h1, h2, h3.imp id fun z m => ?_⟩
  obtain ⟨o, e⟩ := hL l m
  rw [z] at e
  cases e
/-- rows drawn one by one -/
theorem lc_rowsD {J : It} {n : Nat} {G : Hp → Prop} {Y : Nat → Hp → V → Hp → Prop} (w : Walk J n G Y) {g : TG} {te : TE} {vs : List Nat} {σ : L2.St} {H0 : Hp} {D p : Addr} {Qd : Hp → Prop} (hD : H0 D = none) (w0 : WellAt H0 p) (P : Rx → Prop) (hn : n < 100000)
    (hG : ∀ H, But p H0 H → WellAt H p → G H)
    (hs : ∀ i H x H', i < n → But p H0 H → WellAt H p → Y i H x H' → ∀ Qe : VK, (∀ a r H4, But p H H4 → WellAt H4 p → RowF H H4 a r → P r → Qe (.ref a) H4) → g x (wipe σ vs) H' fun σ2 H2 => wipe σ2 vs = wipe σ vs ∧ te σ2 H2 Qe)
    (hd : ∀ (H : Hp) (as : List Addr) (rws : List Rx), But p H0 H → WellAt H p → as.length = n → rws.length = n → (∀ (j : Nat) a r, as[j]? = some a → rws[j]? = some r → RowX [D] H a r) → (∀ r ∈ rws, P r) → H D = some (.lst (as.map V.ref)) → Qd H) :
    ∃ W : Nat → Nat → Hp → Prop, (∃ m, W 0 m (upd H0 D (.lst []))) ∧ ∀ i m H, W i m H →
      (J.stop i H ∧ Qd H) ∨ (J.go i H ∧ ∃ Nx : Hp → Prop, (∀ H', Nx H' → ∃ m', m' < m ∧ W (i + 1) m' H') ∧ ∀ x H', J.yld i H x H' → g x (wipe σ vs) H' fun σ2 H2 => wipe σ2 vs = wipe σ vs ∧ tYes σ2 H2 fun b H3 =>
        if b = true then te σ2 H3 fun y H4 => ∃ acc, H4 D = some (.lst acc) ∧ acc.length < sizeLine ∧ Nx (upd H4 D (.lst (acc ++ [y]))) else Nx H3) := by
  have nDp := w0.nn hD
  refine lc_it w (fun i H => But p H0 H ∧ WellAt H p ∧ ∃ (as : List Addr) (rws : List Rx), as.length = i ∧ rws.length = i ∧ (∀ (j : Nat) a r, as[j]? = some a → rws[j]? = some r → RowX [D] H a r) ∧ (∀ r ∈ rws, P r) ∧ H D = some (.lst (as.map V.ref))) ⟨But.new hD, w0.put nDp, [], [], rfl, rfl, fun j a r e => by simp at e, (fun r m => by cases m), upd_same⟩ (fun i H _ p => hG H p.1 p.2.1) (fun i x H H' hi q y => ?_) (fun H q => ?_)
  · obtain ⟨b1, w1, as, rws, hl, hl2, hx, hP, hDD⟩ := q
    have q := hs i H x H' hi b1 w1 y (fun y H4 => ∃ acc, H4 D = some (.lst acc) ∧ acc.length < sizeLine ∧ (But p H0 (upd H4 D (.lst (acc ++ [y]))) ∧ WellAt (upd H4 D (.lst (acc ++ [y]))) p ∧ ∃ (as : List Addr) (rws : List Rx), as.length = i + 1 ∧ rws.length = i + 1 ∧ (∀ (j : Nat) a r, as[j]? = some a → rws[j]? = some r → RowX [D] (upd H4 D (.lst (acc ++ [y]))) a r) ∧ (∀ r ∈ rws, P r) ∧ upd H4 D (.lst (acc ++ [y])) D = some (.lst (as.map V.ref)))) (fun a r H4 b4 w4 hr pr => ?_)
    · exact q
    · have hDD4 := b4 _ _ hDD nDp
      refine ⟨as.map V.ref, hDD4, sz_lt (by rw [List.length_map]; omega), (b1.trans b4).mut hD, w4.put nDp, as ++ [a], rws ++ [r], by rw [List.length_append, hl]; rfl, by rw [List.length_append, hl2]; rfl, fun j c s m1 m2 => ?_, fun s m => ?_, by rw [upd_same, List.map_append]; rfl⟩
      · by_cases c : j < as.length
        · rw [List.getElem?_append_left c] at m1
          rw [List.getElem?_append_left (by omega)] at m2
          exact ((hx j _ s m1 m2).but w1 b4).put hDD4 List.mem_cons_self
        · have cj : j = as.length := by
            have := (List.getElem?_eq_some_iff.mp m1).1
            rw [List.length_append, List.length_singleton] at this
            omega
          subst cj
          rw [List.getElem?_append_right (Nat.le_refl _), Nat.sub_self] at m1
          rw [List.getElem?_append_right (by omega), show as.length - rws.length = 0 by omega] at m2
          rw [← Option.some.inj m1, ← Option.some.inj m2]
          refine RowX.put (hr.x fun d md => ?_) hDD4 List.mem_cons_self
          exact ⟨_, by rw [List.mem_singleton.mp md]; exact hDD⟩
      · rcases List.mem_append.mp m with m | m
        · exact hP s m
        · rw [List.mem_singleton.mp m]
          exact pr
  · obtain ⟨b1, w1, as, rws, hl, hl2, hx, hP, hDD⟩ := q
    exact hd H as rws b1 w1 hl hl2 hx hP hDD
def spClasses : Sp := fun vs H Q _ => vs = [] ∧ ∀ (ca e la : Addr) (ps : List Addr) (H' : Hp), Same H H' → H' ca = some (.lst [.ref e]) → H' e = some (.tup [.str "cell", .ref la]) → H' la = some (.lst (ps.map V.ref)) → PairsG H' ps fldC → Q (.ref ca) H'
theorem nam_f : Nam "f" := nam_of (by decide +kernel)
theorem nam_all {rws : List Rx} : ∀ q ∈ (fF rws).ns ++ (fF rws).ms, Nam q.1 ∧ IsKind q.2 := by
  intro q m
  simp only [fF, List.mem_append, List.mem_cons, List.not_mem_nil, or_false] at m
  rcases m with (rfl | rfl) | rfl | rfl | rfl
  · exact ⟨nam_of (by decide +kernel), .inl rfl⟩
  · exact ⟨nam_of (by decide +kernel), .inr rfl⟩
  · exact ⟨nam_of (by decide +kernel), .inl rfl⟩
  · exact ⟨nam_of (by decide +kernel), .inl rfl⟩
  · exact ⟨nam_of (by decide +kernel), .inr rfl⟩
theorem nd_f {rws : List Rx} : (((fF rws).ns ++ (fF rws).ms).map Prod.fst).Nodup := (by decide +kernel : (["a", "o", "b", "c", "p"] : List Str).Nodup)
theorem l1_f {rws : List Rx} : (fF rws).ns.length ≤ 4 := (by decide : 2 ≤ 4)
theorem l2_f {rws : List Rx} : (fF rws).ms.length ≤ 8 := (by decide : 3 ≤ 8)
def spFunL : Sp := fun vs H Q _ => ∃ (p : Addr) (most : Nat), vs = [.ref p, .str "f", .int most] ∧ WellAt H p ∧ 0 < most ∧ most ≤ 40 ∧
  ∀ (e : Addr) (rws : List Rx) (H' : Hp), But p H H' → WellAt H' p → EntryR H' e (fF rws) → FdOk clC [fF rws] (fF rws) → 1 ≤ rws.length → rws.length ≤ most → Q (.ref e) H'
theorem sc_L_classes : FnScope [] [] (defScope s_L_classes) := ⟨rfl, rfl, rfl, by decide +kernel, rfl, by decide +kernel, by decide +kernel⟩
theorem ok_L_classes (T : Ctx w K mg) : Has P w K mg base 1 "_law_classes" [] spClasses := by
  obtain ⟨fd, F⟩ := T.D_L_classes
  refine ⟨⟨fd, F.ok sc_L_classes (fun vs H Q E h => ?_) (fun cdv A outer s H vs Q E hr h => ?_), F.bindsN fun _ _ _ _ _ _ us hl => match us, hl with | [], _ => rfl⟩, F.kp, T.g_L_classes⟩
  · obtain ⟨rfl, k⟩ := h; rfl
  · obtain ⟨rfl, k⟩ := h
    have hu := hu_of hr
    refine ⟨_, PSs.nox (pss_one (ps_ret (pe_lst (pa_cons (pe_tup (pa_cons pe_str (pa_cons (pe_lst (pa_cons (pe_tup (pa_cons pe_str (pa_cons pe_str pa_nil))) (pa_cons (pe_tup (pa_cons pe_str (pa_cons pe_str pa_nil))) pa_nil))) pa_nil))) pa_nil)))), ?_⟩
    refine ⟨sz_of (by show 2 ≤ 100000; decide), fun t1 h1 => ⟨sz_of (by show 2 ≤ 100000; decide), fun t2 h2 => ⟨sz_of (by show 2 ≤ 100000; decide), fun la h3 => ⟨sz_of (by show 2 ≤ 100000; decide), fun e h4 => ⟨sz_of (by show 1 ≤ 100000; decide), fun ca h5 => ?_⟩⟩⟩⟩⟩
    have s1 := Same.new (o := .tup [.str "item", .str "number"]) h1
    have s2 := Same.new (o := .tup [.str "next", .str "object"]) h2
    have s3 := Same.new (o := .lst [.ref t1, .ref t2]) h3
    have s4 := Same.new (o := .tup [.str "cell", .ref la]) h4
    have s5 := Same.new (o := .lst [.ref e]) h5
    have z2 := s3.trans (s4.trans s5)
    have z1 := s2.trans z2
    refine k ca e la [t1, t2] _ (s1.trans z1) upd_same (s5 _ _ upd_same) ((s4.trans s5) _ _ upd_same) ⟨rfl, fun i a q e1 e2 => ?_⟩
    match i, e1, e2 with
    | 0, e1, e2 =>
      rw [← Option.some.inj e1, ← Option.some.inj e2]
      exact z1 _ _ upd_same
    | 1, e1, e2 =>
      rw [← Option.some.inj e1, ← Option.some.inj e2]
      exact z2 _ _ upd_same

theorem sc_L_function : FnScope ["_law_well_here", "_law_title", "_law_most", "_law_size", "_law_rows", "_law_others", "_law_turn"] ["_law_well_here", "_law_title", "_law_most"] (defScope s_L_function) := ⟨rfl, rfl, rfl, by decide +kernel, rfl, by decide +kernel, by decide +kernel⟩
theorem ok_L_function (T : Ctx w K mg) (H_L_draw : Has P w K mg base 1 "_law_draw" ["_law_well_here", "_law_many"] spDraw) (H_L_one : Has P w K mg base 2 "_law_one" ["_law_well_here", "_law_some"] spOne) (H_L_plain : Has P w K mg base 3 "_law_plain" ["_law_well_here", "_law_size"] spPlain) : Has P w K mg base 4 "_law_function" ["_law_well_here", "_law_title", "_law_most"] spFunL := by
  obtain ⟨fd, F⟩ := T.D_L_function
  obtain ⟨fd_L_draw, G_L_draw, b_L_draw⟩ := H_L_draw.ex
  obtain ⟨fd_L_one, G_L_one, b_L_one⟩ := H_L_one.ex
  obtain ⟨fd_L_plain, G_L_plain, b_L_plain⟩ := H_L_plain.ex
  refine ⟨⟨fd, F.ok sc_L_function (fun vs H Q E h => ?_) (fun cdv A outer s H vs Q E hr h => ?_), F.bindsN fun _ _ _ _ _ _ us hl => match us, hl with | [_, _, _], _ => rfl⟩, F.kp, T.g_L_function⟩
  · obtain ⟨p, most, rfl, hw, h0, h1, k⟩ := h; rfl
  · obtain ⟨p, most, rfl, hw, h0, h1, k⟩ := h
    have hr_L_draw : Room 1 _ := hr.mono (by decide)
    have hr_L_one : Room 2 _ := hr.mono (by decide)
    have hr_L_plain : Room 3 _ := hr.mono (by decide)
    have hu := hu_of hr
    refine ⟨_, PSs.nox (pss_cons (ps_set (i := 3) sc_L_function.nd rfl (Or.inr rfl) (pe_op op_add pe_int (pe_call G_L_draw hr_L_draw (by rfl) H_L_draw.gl H_L_draw.kp b_L_draw .nil pass0 (pa_cons (pv 0) (pa_cons (pv 2) pa_nil)))))
      (pss_cons (ps_setLc (i := 4) (own := [("_law_turn", 6)]) (g := gName 6) (tt := tYes) rfl sc_L_function.nd rfl rfl (sw_true rfl rfl rfl (by decide +kernel)) (pi_range1 (by rfl) T.f_range (pa_cons (pe_op op_sub (pv 3) pe_int) pa_nil)) (blkOk_by (N := ["_law_well_here", "_law_title", "_law_most", "_law_size", "_law_rows", "_law_others", "_law_turn"]) (sc := defScope s_L_function) (by decide +kernel)) (fun _ _ _ _ _ => (pg_name (i := 6) sc_L_function.nd rfl (Or.inl rfl))) (fun _ _ _ _ _ => pts_nil) (fun _ _ _ _ _ => (pe_call G_L_plain hr_L_plain (by rfl) H_L_plain.gl H_L_plain.kp b_L_plain .nil pass0 (pa_cons (pv 0) (pa_cons (pv 3) pa_nil)))))
      (pss_cons (ps_expr (pe_bm PySem.F.plainAttrs_list PySem.F.slot_list_append PySem.F.type_list_append mt_append (pv 4) (pa_cons (pe_call G_L_one hr_L_one (by rfl) H_L_one.gl H_L_one.kp b_L_one .nil pass0 (pa_cons (pv 0) (pa_cons (pe_lst (pa_cons (pe_tup (pa_cons pe_str (pa_cons pe_str pa_nil))) (pa_cons (pe_tup (pa_cons pe_str (pa_cons pe_str pa_nil))) (pa_cons (pe_tup (pa_cons pe_str (pa_cons (pe_call G_L_draw hr_L_draw (by rfl) H_L_draw.gl H_L_draw.kp b_L_draw .nil pass0 (pa_cons (pv 0) (pa_cons (pv 3) pa_nil))) pa_nil))) pa_nil)))) pa_nil))) pa_nil)))
      (pss_cons (ps_set (i := 5) sc_L_function.nd rfl (Or.inl rfl) (pe_lst (pa_cons (pe_tup (pa_cons pe_str (pa_cons pe_str pa_nil))) (pa_cons (pe_tup (pa_cons pe_str (pa_cons pe_str pa_nil))) (pa_cons (pe_tup (pa_cons pe_str (pa_cons pe_str pa_nil))) pa_nil)))))
      (pss_one (ps_ret (pe_tup (pa_cons (pv 1) (pa_cons (pe_lst (pa_cons (pe_tup (pa_cons pe_str (pa_cons pe_str pa_nil))) (pa_cons (pe_tup (pa_cons pe_str (pa_cons pe_str pa_nil))) pa_nil))) (pa_cons (pv 5) (pa_cons pe_str (pa_cons (pv 4) pa_nil)))))))))))), ?_⟩
    have hst : L2.start ["_law_well_here", "_law_title", "_law_most", "_law_size", "_law_rows", "_law_others", "_law_turn"] [V.ref p, V.str "f", V.int most] = [some (.ref p), some (.str "f"), some (.int most), none, none, none, none] := rfl
    rw [hst]
    clear hst
    refine ⟨_, rfl, _, rfl, p, most, rfl, hw, h0, by omega, fun mm H1 hmm b1 w1 => ⟨_, _, rfl, rfl, ?_⟩⟩
    have esz : ((1 : Int) + (mm : Int)) = ((mm + 1 : Nat) : Int) := by omega
    change gName 3 (V.int (1 + (mm : Int))) _ _ _
    rw [esz]
    refine ⟨_, rfl, _, _, rfl, rfl, ((mm + 1 : Nat) : Int) - 1, rfl, by omega, by omega, fun D hD => ?_⟩
    have en : (((mm + 1 : Nat) : Int) - 1).toNat = mm := by omega
    rw [en]
    refine lc_rowsD (walk_range (lo := 0) (n := mm)) hD w1 (PlainOk (mm + 1)) (by omega) (fun _ _ _ => trivial) (fun j Hy y Hy' hj by_ wy hy Qe qe => ?_) (fun H2 as rws b2 w2 hal hrl hrx hrp hDD => ?_)
    · obtain ⟨rfl, rfl⟩ := hy
      exact ⟨rfl, _, rfl, _, rfl, p, mm + 1, rfl, wy, by omega, by omega, fun a r H4 b4 w4 fr ok => qe a r H4 b4 w4 fr ok⟩
    have nDp : D ≠ p := w1.nn hD
    refine ⟨_, rfl, .inl ⟨rfl, _, SqL.of hDD⟩, _, rfl, sz_of (by show 2 ≤ 100000; decide), fun t0 ht0 => ⟨sz_of (by show 2 ≤ 100000; decide), fun t1 ht1 => ?_⟩⟩
    have s0 := Same.new (o := .tup [.str "return", .str "a"]) ht0
    have s1 := Same.new (o := .tup [.str "return", .str "c"]) ht1
    have p0 := s1 _ _ (upd_same (H := H2) (a := t0) (o := .tup [.str "return", .str "a"]))
    have p1 := upd_same (H := upd H2 t0 (.tup [.str "return", .str "a"])) (a := t1) (o := .tup [.str "return", .str "c"])
    have w2' := w2.mono (s0.trans s1)
    refine ⟨_, rfl, _, rfl, p, mm + 1, rfl, w2', by omega, by omega, fun gg H3 hg b3 w3 => ⟨sz_of (by show 2 ≤ 100000; decide), fun t2 ht2 => ⟨sz_of (by show 3 ≤ 100000; decide), fun l hl => ?_⟩⟩⟩
    have s2 := Same.new (o := .tup [.str "jump", .int gg]) ht2
    have s3 := Same.new (o := .lst [.ref t0, .ref t1, .ref t2]) hl
    have s23 := s2.trans s3
    have q0 := s23 _ _ (b3 _ _ p0 (w2'.neT p0))
    have q1 := s23 _ _ (b3 _ _ p1 (w2'.neT p1))
    have q2 := s3 _ _ (upd_same (H := H3) (a := t2) (o := .tup [.str "jump", .int gg]))
    have w3' := w3.mono s23
    have nlp : l ≠ p := (w3.mono s2).nn hl
    refine ⟨p, l, _, rfl, w3', upd_same, nlp, by show 0 < 3; decide, by show 3 ≤ 1000; decide, fun vv H4 hv b4 w4 => ?_⟩
    have hD4 : H4 D = some (.lst (as.map V.ref)) := b4 _ _ (s23 _ _ (b3 _ _ (s1 _ _ (s0 _ _ hDD)) nDp)) nDp
    have bb24 : But p H2 H4 := ((But.of (s0.trans s1)).trans b3).trans ((But.of s23).trans b4)
    obtain ⟨ar, rl, rfl, harg, hrl4, hok, hword⟩ : ∃ (ar : Addr) (rl : Rx), vv = .ref ar ∧ rl.args = none ∧ (∀ l', H4 ar = some (.tup (.str rl.word :: rl.parts l'))) ∧ PlainOk (mm + 1) rl ∧ (rl.word = ("jump" : Str) ∨ rl.word = ("return" : Str)) := by
      simp only [List.mem_cons, List.not_mem_nil, or_false] at hv
      rcases hv with rfl | rfl | rfl
      · exact ⟨t0, .ret "a", rfl, rfl, fun _ => b4 _ _ q0 (w3'.neT q0), ⟨fun rws => ko_num (.inl rfl), fun g e => (by cases e)⟩, .inr rfl⟩
      · exact ⟨t1, .ret "c", rfl, rfl, fun _ => b4 _ _ q1 (w3'.neT q1), ⟨fun rws => ko_num (.inr (.inr rfl)), fun g e => (by cases e)⟩, .inr rfl⟩
      · exact ⟨t2, .jump gg, rfl, rfl, fun _ => b4 _ _ q2 (w3'.neT q2), ⟨fun rws => trivial, fun g e => (by rw [← Option.some.inj e]; exact hg)⟩, .inl rfl⟩
    have hrows : ∀ (j : Nat) a r, (as ++ [ar])[j]? = some a → (rws ++ [rl])[j]? = some r → RowX [D] H4 a r := fun j a r e3 e4 => by
      by_cases c : j < as.length
      · rw [List.getElem?_append_left c] at e3
        rw [List.getElem?_append_left (by omega)] at e4
        exact (hrx j a r e3 e4).but w2 bb24
      · have cj : j = as.length := by
          have := (List.getElem?_eq_some_iff.mp e3).1
          rw [List.length_append, List.length_singleton] at this
          omega
        subst cj
        rw [List.getElem?_append_right (Nat.le_refl _), Nat.sub_self] at e3
        rw [List.getElem?_append_right (by omega), show as.length - rws.length = 0 by omega] at e4
        rw [← Option.some.inj e3, ← Option.some.inj e4]
        exact ⟨0, hrl4 _, noArgs harg, .inl harg⟩
    refine ⟨D, _, _, rfl, rfl, hD4, sz_lt (by rw [List.length_map]; omega), ?_⟩
    have hrows5 : ∀ (j : Nat) a r, (as ++ [ar])[j]? = some a → (rws ++ [rl])[j]? = some r → RowX [D] (upd H4 D (.lst (as.map V.ref ++ [.ref ar]))) a r := fun j a r e3 e4 => (hrows j a r e3 e4).put hD4 List.mem_cons_self
    have hD5 : upd H4 D (.lst (as.map V.ref ++ [.ref ar])) D = some (.lst ((as ++ [ar]).map V.ref)) := by rw [upd_same, List.map_append]; rfl
    have w5 : WellAt (upd H4 D (.lst (as.map V.ref ++ [.ref ar]))) p := w4.put nDp
    have b5 : But p H (upd H4 D (.lst (as.map V.ref ++ [.ref ar]))) := fun c o q n => by
      have q1 := b1 _ _ q n
      have nD2 : c ≠ D := fun z => by
        rw [z, hD] at q1
        cases q1
      rw [upd_ne nD2]
      exact bb24 _ _ (b2 _ _ q1 n) n
    generalize upd H4 D (.lst (as.map V.ref ++ [.ref ar])) = H5 at hrows5 hD5 w5 b5
    refine ⟨sz_of (by show 2 ≤ 100000; decide), fun u0 h0 => ⟨sz_of (by show 2 ≤ 100000; decide), fun u1 h1 => ⟨sz_of (by show 2 ≤ 100000; decide), fun u2 h2 => ⟨sz_of (by show 3 ≤ 100000; decide), fun lo hlo => ?_⟩⟩⟩⟩
    refine ⟨_, rfl, sz_of (by show 2 ≤ 100000; decide), fun m0 g0 => ⟨sz_of (by show 2 ≤ 100000; decide), fun m1 g1 => ⟨sz_of (by show 2 ≤ 100000; decide), fun lp hlp => ⟨_, rfl, _, rfl, sz_of (by show 5 ≤ 100000; decide), fun e he => ?_⟩⟩⟩⟩
    have r0 := Same.new (o := .tup [.str "b", .str "number"]) h0
    have r1 := Same.new (o := .tup [.str "c", .str "number"]) h1
    have r2 := Same.new (o := .tup [.str "p", .str "object"]) h2
    have r3 := Same.new (o := .lst [.ref u0, .ref u1, .ref u2]) hlo
    have r4 := Same.new (o := .tup [.str "a", .str "number"]) g0
    have r5 := Same.new (o := .tup [.str "o", .str "object"]) g1
    have r6 := Same.new (o := .lst [.ref m0, .ref m1]) hlp
    have r7 := Same.new (o := .tup [.str "f", .ref lp, .ref lo, .str "number", .ref D]) he
    have y6 := r6.trans r7
    have y5 := r5.trans y6
    have y4 := r4.trans y5
    have y3 := r3.trans y4
    have y2 := r2.trans y3
    have y1 := r1.trans y2
    have y0 := r0.trans y1
    have hlen : (rws ++ [rl]).length = mm + 1 := by rw [List.length_append, hrl]; rfl
    have hlen2 : (as ++ [ar]).length = mm + 1 := by rw [List.length_append, hal]; rfl
    have hall : ∀ r ∈ rws ++ [rl], PlainOk (mm + 1) r := fun r m => by
      rcases List.mem_append.mp m with m | m
      · exact hrp r m
      · rw [List.mem_singleton.mp m]
        exact hok
    refine k e (rws ++ [rl]) _ (b5.then y0) (w5.mono y0) ⟨lp, lo, D, [m0, m1], [u0, u1, u2], as ++ [ar], ⟨upd_same, nam_f, .inl rfl, r7 _ _ upd_same, ⟨rfl, fun i a q e1 e2 => ?_⟩, y4 _ _ upd_same, ⟨rfl, fun i a q e1 e2 => ?_⟩, nam_all, nd_f, l1_f, l2_f, y0 _ _ hD5, by rw [List.length_map]; omega, by rw [List.length_map]; omega⟩, ⟨by rw [hlen2]; exact hlen.symm, fun i a r e1 e2 => ?_⟩⟩
      ⟨nam_f, .inl rfl, nam_all, nd_f, l1_f, l2_f, fun r m => (hall r m).1 _, ⟨fun r m g e => by show g < (rws ++ [rl]).length; rw [hlen]; exact (hall r m).2 g e, ⟨rws, rl, rfl, hword⟩, by show (rws ++ [rl]).length ≤ 40; omega⟩⟩ (by omega) (by omega)
    · match i, e1, e2 with
      | 0, e1, e2 =>
        rw [← Option.some.inj e1, ← Option.some.inj e2]
        exact y5 _ _ upd_same
      | 1, e1, e2 =>
        rw [← Option.some.inj e1, ← Option.some.inj e2]
        exact y6 _ _ upd_same
    · match i, e1, e2 with
      | 0, e1, e2 =>
        rw [← Option.some.inj e1, ← Option.some.inj e2]
        exact y1 _ _ upd_same
      | 1, e1, e2 =>
        rw [← Option.some.inj e1, ← Option.some.inj e2]
        exact y2 _ _ upd_same
      | 2, e1, e2 =>
        rw [← Option.some.inj e1, ← Option.some.inj e2]
        exact y3 _ _ upd_same
    · obtain ⟨l', z1, z2, _⟩ := (hrows5 i a r e1 e2).mono y0
      exact ⟨l', z1, z2⟩

end
end W17
set_option Elab.async false
set_option linter.all false
set_option maxRecDepth 100000
set_option maxHeartbeats 4000000
/-! a lambda with defaults, handed to a def -/
namespace LamY
open PySem PySem.Spec PyProof.Rows L2 LamX
/-- the lambda's object, its defaults at dV -/
abbrev lmFd (qual : Str) (params : Arguments) (body : Expr) (scope : Scope) (cl : List (Str × Addr)) (dV pm cdv ct : Value) : FuncData :=
  { PySem.W.kla_fn "<lambda>" qual params body scope cl pm cdv ct with defaults := dV }
abbrev lmO (qual : Str) (params : Arguments) (body : Expr) (scope : Scope) (cl : List (Str × Addr)) (dV pm cdv ct : Value) : Obj :=
  { cls := .type "function", data := .func (lmFd qual params body scope cl dV pm cdv ct) }
section
variable {M : Model} {A : Around} {E : Value → Shared → Prop} {s : Shared}
/-- makeTail, whatever the code object: C tells what is known of it -/
theorem lm_tail {qual : Str} {params : Arguments} {body : Expr} {scope : Scope} {env : Env} {dV : Value} {pos : Pos} {fl : Nat} {clos : List (Str × Addr)} {mg : Str → Option Value} {C : Value → Heap → Prop} {Q : Value → Shared → Prop}
    (hcl : closureFor scope env = pure clos) (hge : env.globals = mainGlobals)
    (hfc : ∀ (h1 : Heap) (Q1 : Value → Shared → Prop), (∀ b o, s.heap.get? b = some o → h1.get? b = some o) → s.heap.objs.size ≤ h1.objs.size → (∀ cv h2 tk, C cv h2 → Q1 cv { s with heap := h2, toks := tk }) →
      wpAny M A (functionCode env pos fl "<lambda>" qual params scope (.expr body)) Q1 E { s with heap := h1 })
    (hC : ∀ cv h2, C cv h2 → h2.Ns mainGlobals mg ∧ ∃ (bm : Addr) (ob : Obj), mg "__builtins__" = some (.ref bm) ∧ bm ≠ builtinsNs ∧ h2.get? bm = some ob ∧ ob.cls = .type "module" ∧ ob.dict = some builtinsNs ∧ ob.data = .plain)
    (h : ∀ cv ctv h2 tk, C cv h2 → Q (.ref h2.objs.size) { s with heap := h2.push (lmO qual params body scope clos dV ((mg "__name__").getD .none) cv ctv), toks := tk }) :
    wpAny M A (makeTail "<lambda>" qual params (.expr body) scope env dV .none none pos fl) Q E s := by
  have fin : ∀ (ctv : Value) (h1 : Heap), (∀ b o, s.heap.get? b = some o → h1.get? b = some o) → s.heap.objs.size ≤ h1.objs.size →
      wpAny M A (functionCode env pos fl "<lambda>" qual params scope (.expr body)) (fun cv s2 => wpAny M A (builtinsFor mainGlobals env.builtins) (fun bu s3 => wpAny M A (nsGet mainGlobals "__name__") (fun nm s4 =>
        Q (.ref s4.heap.objs.size) { s4 with heap := s4.heap.push { cls := .type "function", data := .func { lmFd qual params body scope clos dV (nm.getD .none) cv ctv with builtins := bu } } }) E s3) E s2) E { s with heap := h1 } := fun ctv h1 k1 k2 => by
    refine hfc h1 _ k1 k2 fun cv h2 tk c => ?_
    obtain ⟨g, bm, ob, b1, b2, b3, b4, b5, b6⟩ := hC cv h2 c
    refine wpAny_builtinsFor g b1 b2 b3 b4 b5 b6 (wpAny_nsGet g ?_)
    exact h cv ctv h2 tk c
  unfold makeTail
  rw [hcl, hge]
  refine wpAny_bind (wpAny_pure ?_)
  match clos with
  | [] =>
    simp only [List.isEmpty_nil, if_true]
    refine wpAny_bind (wpAny_pure (wpAny_bind (wpAny_mono (fin .none s.heap (fun _ _ e => e) (Nat.le_refl _)) (fun cv s2 q => wpAny_bind (wpAny_mono q (fun bu s3 q => wpAny_bind (wpAny_mono q (fun nm s4 q => wpAny_bind (wpAny_pure (wpAny_newObj_type q (by size_fits)))) fun _ _ z => z)) fun _ _ z => z)) fun _ _ z => z)))
  | p :: r =>
    simp only [List.isEmpty_cons, Bool.false_eq_true, if_false]
    refine wpAny_bind (wpAny_newTextTuple (wpAny_bind (wpAny_mono (fin (.ref s.heap.objs.size) _ (fun b o e => Heap.get?_push_of_some _ e) (by rw [Heap.size_push]; exact Nat.le_add_right _ _)) (fun cv s2 q => wpAny_bind (wpAny_mono q (fun bu s3 q => wpAny_bind (wpAny_mono q (fun nm s4 q => wpAny_bind (wpAny_pure (wpAny_newObj_type q (by size_fits)))) fun _ _ z => z)) fun _ _ z => z)) fun _ _ z => z)))
end
section
variable {X : Cx} {pins : List (Addr × Obj)} {σ : L2.St} {H HZ : Hp} {s s1 : Shared}
/-- a lambda whose one default is a whole number is made: its code object is new, or found in the table -/
theorem lm_make {T : List (Addr × Str)} {c P : Addr} {params : Arguments} {body : Expr} {scope : Scope} {pos zp : Pos} {z : Int} {j : Nat} {E : Value → Shared → Prop} {Q : Value → Shared → Prop} (hE : E = X.xe) (I : Inv X pins σ H s) (TB : TabB X.base X.mg c P) (hcode : X.env.code = .ref c)
    (hm : (P, X.env.qual ++ "<lambda>") ∈ T) (hu : ∀ p ∈ T, p.1 = P → p.2 = X.env.qual ++ "<lambda>") (hT : Tabs T H) (hdef : defaultsOf params X.env = ([eval (.Constant (.int z) j zp) X.env], [])) (hko : params.kwonlyargs = [])
    (hfree : ∀ y ∈ scope.names, y.2 = .free → ∃ c, X.env.cells.lookup y.1 = some c)
    (h : ∀ (f c' t0 : Addr) (tk : Tok) (pm ctv : Value) (H1 : Hp) (s' : Shared), Inv X pins σ H1 s' → ExtN H H1 → Tabs T H1 →
      s'.heap.get? f = some (lmO (X.env.qual ++ "<lambda>") params body scope (cloFrom X.env.cells scope.names []) (.ref t0) pm (.ref c') ctv) → H1 f = none → f ∉ frs X.stack →
      (∃ o, s'.heap.get? t0 = some o ∧ o.data = .seq #[.int z tk]) → H1 t0 = none → t0 ∉ frs X.stack → H1 c' = some (CodeO c' (X.env.qual ++ "<lambda>")) → Q (.ref f) s') :
    wpAny (model X.prog X.w) X.A (eval (.Lambda params body scope pos) X.env) Q E s := by
  subst hE
  rw [arm_eval_Lambda, hdef]
  show wpAny _ _ (do let dv ← evalAll [eval (.Constant (.int z) j zp) X.env]; let kdv ← holding dv (evalAllOpt []); makeFunction "<lambda>" (X.env.qual ++ "<lambda>") params (.expr body) scope X.env dv kdv [] pos pos.line) Q X.xe s
  refine wpAny_bind ?_
  show wpAny _ _ (do let v ← eval (.Constant (.int z) j zp) X.env; return v :: (← holding [v] (evalAll []))) _ _ s
  refine wpAny_bind (thn ((pe_int (X := X) (i := z) (j := j) (pos := zp)).run pins s σ H (fun v H1 => v = .int z ∧ H1 = H) I ⟨rfl, rfl⟩) fun u s1 ⟨v, H1, I1, r1, q1⟩ => ?_)
  obtain ⟨ev, eH⟩ := q1
  subst ev
  subst eH
  obtain ⟨tk, rfl⟩ := r1
  refine wpAny_bind (wpAny_holding (wpAny_pure (wpAny_pure (wpAny_bind (wpAny_holding (wpAny_pure ?_))))))
  rw [makeFunction_eq]
  simp only [hko, List.zip_nil_left, List.filterMap_nil, List.isEmpty_nil, List.isEmpty_cons, Bool.false_eq_true, if_true, if_false, pure_bind]
  refine wpAny_bind (wpAny_newTextTuple ?_)
  obtain ⟨ps, hP, ht, ha⟩ := hT _ hm
  have I2 : Inv X pins σ H1 { s1 with heap := s1.heap.push { cls := .type "tuple", data := .seq [Value.int z tk].toArray } } := I1.kept (t' := s1.toks) fun b o e => Heap.get?_push_of_some _ e
  have gt0 : (s1.heap.push { cls := .type "tuple", data := .seq [Value.int z tk].toArray }).get? s1.heap.objs.size = some { cls := .type "tuple", data := .seq [Value.int z tk].toArray } := Heap.get?_push_size _ rfl
  have n0 : H1 s1.heap.objs.size = none := I1.hok.fresh (Nat.le_refl _)
  generalize et : s1.heap.objs.size = t0 at gt0 n0 ⊢
  have nof : ∀ f, s1.heap.objs.size ≤ f → f ∉ frs X.stack := fun f hf z => by
    rcases List.mem_cons.mp (I1.stkSub _ z) with e | e
    · have h1 := I1.lt
      rw [← e] at h1
      exact Nat.lt_irrefl _ (Nat.lt_of_lt_of_le h1 hf)
    · exact I1.nofs hf e
  have nf0 : t0 ∉ frs X.stack := nof t0 (Nat.le_of_eq et)
  have sz2 : (s1.heap.push { cls := .type "tuple", data := .seq [Value.int z tk].toArray }).objs.size = s1.heap.objs.size + 1 := Heap.size_push ..
  generalize s1.heap.push { cls := .type "tuple", data := .seq [Value.int z tk].toArray } = g2 at I2 gt0 sz2 ⊢
  have nof2 : ∀ f, g2.objs.size ≤ f → f ∉ frs X.stack := fun f hf => nof f (by omega)
  have bP := TB.bm.keeps I2.bk
  have hP2 : g2.get? P = some { cls := .none, data := .fields ps } := I2.hok P _ hP
  have nPt : P ≠ t0 := ne_of_none hP n0
  have hcC := TB.code.keeps I2.bk
  obtain ⟨bm, ob, b1, b2, b3, b4, b5, b6, b7, b8⟩ := bP
  have hg0 : g2.Ns mainGlobals X.mg := I2.mod.glob.keeps I2.bk
  have clo := closure_ok (scope := scope) hfree
  cases hc : codeAmong pos ps.toList with
  | none =>
    refine lm_tail (mg := X.mg) (C := fun cv h2 => ∃ c', cv = .ref c' ∧ Heap.ExtBut P g2 h2 ∧ g2.objs.size ≤ c' ∧ c' < h2.objs.size ∧ h2.CodeRec (.ref c') (X.env.qual ++ "<lambda>") ∧ h2.get? P = some (PySem.W.tabObj (ps ++ #[rawInt pos.line, rawInt pos.col, .ref c']))) clo I2.ok.glob
      (fun h1 Q1 k1 k2 q => ?_) (fun cv h2 ⟨c', _, x, _⟩ => ⟨hg0.extBut x TB.gP, bm, ob, b1, b2, x _ _ b4 b5, b6, b7, b8⟩) fun cv ctv h2 tk2 ⟨c', ecv, x, l1, l2, rec_, tab⟩ => ?_
    · refine wpAny_functionCodeX hcode ((hcC.keeps k1).code (k1 _ _ hP2) ht) ((hcC.keeps k1).tab (k1 _ _ hP2)) hc fun c' h2 tk2 x l1 l2 _ rec_ tab _ => q _ _ _ ⟨c', rfl, fun b o n e => x b o n (k1 _ _ e), Nat.le_trans k2 l1, l2, rec_, tab.2⟩
    · subst ecv
      obtain ⟨c2, oc, vs, t, e2, hoc, hd, hv⟩ := rec_
      cases e2
      have nC : H1 c' = none := I2.hok.fresh l1
      have I3 := inv_table (t' := tk2) (more := #[rawInt pos.line, rawInt pos.col, .ref c']) (h' := h2.push (lmO (X.env.qual ++ "<lambda>") params body scope (cloFrom X.env.cells scope.names []) (.ref t0) ((X.mg "__name__").getD .none) (.ref c') ctv)) I2 hP
        (fun b o hb e => Heap.get?_push_of_some _ (x b o hb e)) (Heap.get?_push_of_some _ tab) l1 ⟨oc, vs, t, Heap.get?_push_of_some _ hoc, hd, hv⟩
      have hE : ExtN H1 (upd (upd H1 P (.tbl (ps ++ #[rawInt pos.line, rawInt pos.col, .ref c']))) c' (CodeO c' (X.env.qual ++ "<lambda>"))) := fun b o e n => by
        rw [upd_ne (ne_of_none e nC), upd_ne (fun z => n ps (by rw [z, hP] at e; exact (Option.some.inj e).symm))]
        exact e
      have l3 : g2.objs.size ≤ h2.objs.size := Nat.le_trans l1 (Nat.le_of_lt l2)
      have hold : ∀ b, b ≠ P → b ≠ c' → H1 b = none → upd (upd H1 P (.tbl (ps ++ #[rawInt pos.line, rawInt pos.col, .ref c']))) c' (CodeO c' (X.env.qual ++ "<lambda>")) b = none := fun b n1 n2 n => by
        rw [upd_ne n2, upd_ne n1]
        exact n
      have ltP : P < g2.objs.size := Heap.lt_size hP2
      have lt0 : t0 < g2.objs.size := Heap.lt_size gt0
      refine h h2.objs.size c' t0 tk _ ctv _ _ I3 hE (fun p hp => ?_) (Heap.get?_push_size _ rfl) (hold _ (Nat.ne_of_gt (Nat.lt_of_lt_of_le ltP l3)) (Nat.ne_of_gt l2) (I2.hok.fresh l3)) (nof2 _ l3) ⟨_, Heap.get?_push_of_some _ (x _ _ nPt.symm gt0), rfl⟩ (hold _ nPt.symm (Nat.ne_of_lt (Nat.lt_of_lt_of_le lt0 l1)) n0) nf0 upd_same
      by_cases hb : p.1 = P
      · rw [hu p hp hb, hb]
        have eL : (ps ++ #[rawInt pos.line, rawInt pos.col, Value.ref c']).toList = ps.toList ++ [rawInt pos.line, rawInt pos.col, .ref c'] := by simp
        refine ⟨_, by rw [upd_ne (ne_of_none hP nC), upd_same], by rw [eL]; exact PySem.TriplesOk_snoc _ _ _ _ ht, fun p' cv hcv => ?_⟩
        rw [eL] at hcv
        rcases among_app _ ht hcv with z | z
        · obtain ⟨c0, e1, e2⟩ := ha p' cv z
          exact ⟨c0, e1, hE _ _ e2 codeO_ne⟩
        · exact ⟨c', z, upd_same⟩
      · obtain ⟨qs, a1, a2, a3⟩ := hT p hp
        refine ⟨qs, by rw [upd_ne (ne_of_none a1 nC), upd_ne hb]; exact a1, a2, fun p' cv hcv => ?_⟩
        obtain ⟨c0, e1, e2⟩ := a3 p' cv hcv
        exact ⟨c0, e1, hE _ _ e2 codeO_ne⟩
  | some cv0 =>
    obtain ⟨c', e, hco⟩ := ha pos cv0 hc
    subst e
    refine lm_tail (mg := X.mg) (C := fun cv h2 => cv = .ref c' ∧ g2.objs.size ≤ h2.objs.size ∧ ∀ b o, g2.get? b = some o → h2.get? b = some o) clo I2.ok.glob
      (fun h1 Q1 k1 k2 q => ?_) (fun cv h2 ⟨_, _, k⟩ => ⟨hg0.keeps k, bm, ob, b1, b2, k _ _ b5, b6, b7, b8⟩) fun cv ctv h2 tk2 ⟨ecv, l3, k⟩ => ?_
    · exact wpAny_functionCode_hit hcode ((hcC.keeps k1).code (k1 _ _ hP2) ht) hc (q _ _ _ ⟨rfl, k2, k1⟩)
    · subst ecv
      have I3 : Inv X pins σ H1 { s1 with heap := h2.push (lmO (X.env.qual ++ "<lambda>") params body scope (cloFrom X.env.cells scope.names []) (.ref t0) ((X.mg "__name__").getD .none) (.ref c') ctv), toks := tk2 } := I2.kept (t' := tk2) fun b o e => Heap.get?_push_of_some _ (k b o e)
      exact h h2.objs.size c' t0 tk _ ctv H1 _ I3 (ExtN.refl H1) hT (Heap.get?_push_size _ rfl) (I2.hok.fresh l3) (nof2 _ l3) ⟨_, Heap.get?_push_of_some _ (k _ _ gt0), rfl⟩ n0 nf0 hco
end
/-! ### its names: parameters bs, captured ones, globals -/
structure LamP (N : List Str) (sc scope : Scope) (bs : List Str) : Prop where
  kind : scope.kind = .function
  co : scope.isCoroutine = false
  gen : scope.isGenerator = false
  cel : ∀ y ∈ scope.names, y.2 ≠ .cell
  own : ∀ y ∈ scope.names, y.2 = .local → y.1 ∉ N
  par : ∀ y ∈ bs, scope.names.lookup y = some .local
  free : ∀ y ∈ scope.names, y.2 = .free → sc.names.lookup y.1 = some .cell ∨ sc.names.lookup y.1 = some .free
def lamPB (N : List Str) (sc scope : Scope) (bs : List Str) : Bool :=
  decide (scope.kind = .function) && (!scope.isCoroutine && (!scope.isGenerator && ((scope.names.all fun y => !decide (y.2 = .cell) && ((!decide (y.2 = .local) || !N.contains y.1) && (!decide (y.2 = .free) || (decide (sc.names.lookup y.1 = some .cell) || decide (sc.names.lookup y.1 = some .free))))) && bs.all fun y => decide (scope.names.lookup y = some .local))))
theorem lamP_by {N : List Str} {sc scope : Scope} {bs : List Str} (h : lamPB N sc scope bs = true) : LamP N sc scope bs := by
  unfold lamPB at h
  simp only [Bool.and_eq_true, Bool.or_eq_true, Bool.not_eq_true', decide_eq_true_eq, decide_eq_false_iff_not, List.all_eq_true] at h
  obtain ⟨h1, h2, h3, h4, h5⟩ := h
  refine ⟨h1, h2, h3, fun y m => (h4 y m).1, fun y m e z => ?_, h5, fun y m e => ?_⟩
  · rcases (h4 y m).2.1 with q | q
    · exact q e
    · rw [List.contains_iff_mem.mpr z] at q
      cases q
  · rcases (h4 y m).2.2 with q | q
    · exact absurd e q
    · exact q
theorem LamP.has {X : Cx} {scope : Scope} {bs : List Str} (L : LamP X.N X.env.scope scope bs) (ok : X.Ok) : ∀ y ∈ scope.names, y.2 = .free → ∃ c, X.env.cells.lookup y.1 = some c := fun y m e => ok.has _ (by
  rcases L.free y m e with q | q
  · exact .inl q
  · exact .inr q)
section
variable {X : Cx} {pins : List (Addr × Obj)} {σ : L2.St} {H HZ : Hp} {s s1 : Shared}
theorem lm_start {A : Around} {outer : List Env} {E : XK} {scope : Scope} {f c' : Addr} {h1 : Heap} {tk : Nat} {bd : List (Str × Value)} (I : Inv X pins σ H s) (L : LamP X.N X.env.scope scope (bd.map (·.1))) (e0 : Env0 X.prog X.w X.K X.mg X.base A outer s1 HZ) (hd : A.handled = none)
    (un : Un (frs X.stack) [] H HZ s.heap s1.heap) (hns : h1.Ns s1.heap.objs.size fun y => bd.reverse.lookup y) (kp : ∀ b o, s1.heap.get? b = some o → h1.get? b = some o) :
    Inv (lamCx X A outer s1 HZ E scope f c') [] σ HZ { s1 with heap := h1, toks := tk } := by
  have hf := L.has I.ok
  have fwd : ∀ {y c}, (cloFrom X.env.cells scope.names []).lookup y = some c → X.env.cells.lookup y = some c := fun {y c} e => by
    rcases cloFrom_mem (PySem.mem_of_lookup e) with m | ⟨m, ec⟩
    · cases m
    · obtain ⟨c1, hc⟩ := hf _ m rfl
      replace hc : X.env.cells.lookup y = some c1 := hc
      have : c = c1 := by
        rw [ec, hc] <;> rfl
      rw [this]
      exact hc
  have bwd : ∀ {y}, scope.names.lookup y = some .free → ∃ c, (cloFrom X.env.cells scope.names []).lookup y = some c := fun {y} hl =>
    mem_lookup (cloFrom_has (cells := X.env.cells) (acc := []) (show (y, NameKind.free) ∈ scope.names from PySem.mem_of_lookup hl))
  have celK : ∀ {c : Addr} {v : Option Value}, H c = none → s.heap.IsCell c v → h1.IsCell c v := fun {c v} n ⟨o, ho, q⟩ => by
    obtain ⟨sl, z⟩ := un.any ho n (by simp)
    exact ⟨_, kp _ _ z, q⟩
  have nex : ∀ b : Addr, b ∉ (lamCx X A outer s1 HZ E scope f c').ex := fun b m => by
    cases (show b ∈ ([] : List Addr) from m)
  refine ⟨⟨e0.mod, L.kind, rfl, rfl, Nat.le_refl _, fun y d c e1 e2 => I.ok.inj y d c (fwd e1) (fwd e2), fun y hy => ?_, fun y c z _ => (by cases (show false = true from z)), fun _ => hd, Around.frames_deeper e0.frames, .inr ⟨rfl, rfl⟩, fun b m => absurd m (nex b), e0.bs, e0.bsz, fun b _ _ => nex b,
      fun b m => absurd m (nex b), e0.funs, e0.frf⟩,
    rfl, e0.bare, Un.kept kp, ⟨_, hns, fun i y v e1 e2 e3 => ?_⟩, fun y c e => ?_, e0.hok.fresh (Nat.le_refl _), fun y c e => ?_, fun q m => (by cases (show q ∈ ([] : List (Addr × Obj)) ++ [] from m)), e0.hok.kept kp, I.len⟩
  · rcases (show scope.names.lookup y = some .cell ∨ scope.names.lookup y = some .free from hy) with q | q
    · exact absurd rfl (L.cel _ (PySem.mem_of_lookup q))
    · exact bwd q
  · rcases (show Vis scope y from e3) with q | q | q
    · exact absurd (List.mem_of_getElem? e1) (L.own _ (PySem.mem_of_lookup q) rfl)
    · exact absurd rfl (L.cel _ (PySem.mem_of_lookup q))
    · obtain ⟨m, _, hl⟩ := I.loc
      have fr := L.free _ (PySem.mem_of_lookup q) rfl
      obtain ⟨w', r, z⟩ := hl i y v e1 e2 (by
        rcases fr with k | k
        · exact .inr (.inl k)
        · exact .inr (.inr k))
      obtain ⟨c2, h2⟩ := bwd q
      refine ⟨w', r, .inr ⟨.inr q, c2, h2, ?_⟩⟩
      have c1 := fwd h2
      rcases z with ⟨k, _⟩ | ⟨_, c3, e4, k⟩
      · replace k : X.env.scope.names.lookup y = some .local := k
        rcases fr with k2 | k2
        · rw [k] at k2
          cases k2
        · rw [k] at k2
          cases k2
      · rw [c1] at e4
        cases e4
        exact celK (I.freeC y _ c1) k
  · obtain ⟨w', z⟩ := I.cell y c (fwd e)
    exact ⟨w', celK (I.freeC y c (fwd e)) z⟩
  · obtain ⟨v, o, ho, hd2⟩ := I.cell y c (fwd e)
    exact un.free c o ho (I.freeC y c (fwd e)) (by simp)
/-- a(), in the def that got the lambda: its context, entered at s; what comes out of it is taken where the def stands -/
theorem lm_act {CXg : CXT} {Eg : XK} {Ng : List Str} {qg : Str} {sg : Scope} {g f c' : Addr} {dV cdg pm ctv : Value} {params : Arguments} {body : Expr} {scope : Scope} {k i : Nat} {a : Str} {bd : List (Str × Value)} {pn : List (Addr × Obj)} {xe : Value → Shared → Prop} {W : WX} {tb : XK → TE} {p1 p2 : Pos}
    (I : Inv X pins σ H s) (L : LamP X.N X.env.scope scope (bd.map (·.1))) (hf : s.heap.get? f = some (lmO (X.env.qual ++ "<lambda>") params body scope (cloFrom X.env.cells scope.names []) dV pm (.ref c') ctv)) (hfn : H f = none) (hfr : f ∉ frs X.stack)
    (hb : ∀ s1 : Shared, (∀ b o, s.heap.get? b = some o → H b = none → b ∉ frs X.stack → s1.heap.get? b = some o) → BindsTo s1 (lmFd (X.env.qual ++ "<lambda>") params body scope (cloFrom X.env.cells scope.names []) dV pm (.ref c') ctv) ⟨[], []⟩ bd)
    (tk : Takes ((cxOf CXg X.prog X.w X.K X.mg X.base Ng qg sg g cdg X.A X.stack s H Eg).tr pn xe) W) (hr : Room (k + 1) (X.A.deeper (envOfC qg sg s.heap.objs.size g cdg)))
    (hbody : ∀ (A : Around) (outer : List Env) (s : Shared) (H : Hp) (E : XK), Room k (A.deeper (lamEnv X scope s.heap.objs.size f c')) → PE (lamCx X A outer s H E scope f c') body (tb E))
    (hN : Ng[i]? = some a) (hv : Vis sg a) (hd : (a == ("__debug__" : Str)) = false := by decide) (hcd : (a == ("__classdict__" : Str)) = false := by decide) :
    PE ((cxOf CXg X.prog X.w X.K X.mg X.base Ng qg sg g cdg X.A X.stack s H Eg).tr pn xe) (.Call (.Name a p1) [] [] p2)
      (fun σZ HZ Q => ∃ E : XK, (∀ cls d H', E cls d H' → W cls d σZ H') ∧ σZ[i]? = some (some (.ref f)) ∧ HZ c' = some (CodeO c' (X.env.qual ++ "<lambda>")) ∧ tb E σ HZ Q) := by
  refine ⟨fun pinsZ sZ σZ HZ Q IZ h => ?_⟩
  obtain ⟨E, hW, hs, hc, hq0⟩ := h
  refine wpAny_Call_Name_kw (thn ((pe_var (pos := p1) (i := i) hN hv hd hcd).run pinsZ sZ σZ HZ (fun v H1 => v = .ref f ∧ H1 = HZ) IZ ⟨.ref f, hs, rfl, rfl⟩) fun u s1 ⟨v, H1, I1, r1, ev, eH⟩ => ?_)
  subst ev
  rw [eH] at I1
  obtain rfl : u = Value.ref f := r1
  have noex : ∀ b : Addr, b ∉ ([] : List Addr) := fun b m => by cases m
  have ofn := I1.base.keep f _ hf hfn hfr (noex f)
  refine PySem.W.callWith_F0 ⟨_, _, _, _, ofn⟩ ?_
  have un : Un (frs X.stack) [] H HZ s.heap s1.heap := I1.base
  obtain ⟨⟨oc, vs, t, hoc, hdc, hvc⟩, _, _⟩ := I1.hok c' _ hc
  have run : codeAny (model X.prog X.w) (X.A.deeper (envOfC qg sg s.heap.objs.size g cdg)) (.call (.ref f) ⟨[], []⟩) (CR (L2.CX X.prog X.w) (envOfC qg sg s.heap.objs.size g cdg :: X.stack) X.prog X.w HZ s1 Q E) s1 := by
    refine PySem.W.kla_callFunE hr.depth ofn rfl L.co L.gen rfl ⟨c', oc, vs, t, rfl, hoc, hdc, hvc⟩ ?_
    refine hb s1 (fun b o e n nf => I1.base.keep b o e n nf (noex b)) _ _ _ _ ?_
    have hbl2 : ∀ y ∈ bd, scope.names.lookup y.1 = some .local := fun y m => L.par _ (List.mem_map.mpr ⟨y, m, rfl⟩)
    refine wpAny_newFunctionEnv (fun y m => L.cel y m) hbl2 (fun h1 hns hsb => ⟨I1.nolimit.fresh _ hsb, ?_⟩) L.kind
    show codeAny _ _ (.expr body (lamEnv X scope s1.heap.objs.size f c')) _ _
    have kp : ∀ b o, s1.heap.get? b = some o → h1.get? b = some o := fun b o e => hsb.extBut b o (Nat.ne_of_lt (Heap.lt_size e)) (Heap.get?_push_of_some _ e)
    have J : Inv (lamCx X (X.A.deeper (envOfC qg sg s.heap.objs.size g cdg)) (envOfC qg sg s.heap.objs.size g cdg :: X.stack) s1 HZ E scope f c') [] σ HZ { s1 with heap := h1, toks := s1.toks + bd.length } :=
      lm_start I L I1.env0 hr.hd un hns kp
    refine PySem.W.kla_codeExpr (wpAny_mono ((hbody _ _ s1 HZ E (hr.deeper _)).run [] _ _ HZ Q J hq0) (fun v s' hq => ?_) fun e s' hq => hq)
    obtain ⟨w', H', J', rv, q⟩ := hq
    exact ⟨w', H', J'.os, J'.bare, J'.base, J'.hok, rv, q⟩
  have hx : ∀ e s', L2.CX X.prog X.w ((cxOf CXg X.prog X.w X.K X.mg X.base Ng qg sg g cdg X.A X.stack s H Eg).tr pn xe).stack HZ s1 E e s' → ((cxOf CXg X.prog X.w X.K X.mg X.base Ng qg sg g cdg X.A X.stack s H Eg).tr pn xe).xe e s' := fun e s' c => tk e s' (XE.of_call I1 (fun cls d H' q => hW cls d H' q) c)
  refine wpAny_call (codeAny_mono run fun r s' hq => ?_)
  match r, hq with
  | .error e, hq => exact hx e s' hq
  | .ok .next, hq => exact hq.elim
  | .ok .brk, hq => exact hq.elim
  | .ok .cont, hq => exact hq.elim
  | .ok (.ret u), hq => exact I1.after hq
end
/-- a def that calls what it got, by the name a; TT: what it makes of the lambda's reading -/
def GivesS (X : Cx) (Ng : List Str) (x : Str) (sg : Scope) (g : Addr) (cdg : Value) (bg : List Stmt) (a : Str) (q : Str) (TT : (XK → Hp → VK → Prop) → Hp → VK → Prop) : Prop :=
  ∀ (f c' : Addr) (s : Shared) (H : Hp) (Q : VK) (tl : XK → Hp → VK → Prop),
    (∀ (W : WX) (pn : List (Addr × Obj)) (xe : Value → Shared → Prop) (p1 p2 : Pos), Takes ((cxOf C8.CX0 X.prog X.w X.K X.mg X.base Ng x sg g cdg X.A X.stack s H C8.E0).tr pn xe) W →
      PE ((cxOf C8.CX0 X.prog X.w X.K X.mg X.base Ng x sg g cdg X.A X.stack s H C8.E0).tr pn xe) (.Call (.Name a p1) [] [] p2) (fun σZ HZ Q => ∃ E : XK, (∀ cls d H', E cls d H' → W cls d σZ H') ∧ σZ[0]? = some (some (.ref f)) ∧ HZ c' = some (CodeO c' q) ∧ tl E HZ Q)) →
    H c' = some (CodeO c' q) → TT tl H Q →
    ∃ t, PSs (cxOf C8.CX0 X.prog X.w X.K X.mg X.base Ng x sg g cdg X.A X.stack s H C8.E0).nox bg t ∧ t { nx := fun _ H' => Q .non H', rt := Q } (L2.start Ng [.ref f]) H
section
variable {X : Cx}
theorem lm_run {T : List (Addr × Str)} {TT : (XK → Hp → VK → Prop) → Hp → VK → Prop} {x a : Str} {g : Addr} {k : Nat} {pg : Arguments} {bg : List Stmt} {sg : Scope} {dV kV doc pm cdv ct oc : Value} {an od : Option Addr} {osl : Array (Option Value)} {Ng : List Str}
    {params : Arguments} {body : Expr} {scope : Scope} {t : XK → TE} {p lpos pos : Pos} (hg : Gl X x) (hm : X.mg x = some (.ref g)) (hk : PySem.W.keepIn X.K (.ref g) = true)
    (lk : X.K.lookup g = some ⟨oc, od, .func (PySem.W.fnOf x x pg bg sg dV kV doc pm an cdv ct), osl⟩) (hcg : PySem.W.codeIn X.K cdv x = true) (hb : L2.Binds X.K (PySem.W.fnOf x x pg bg sg dV kV doc pm an cdv ct) [a] []) (Sg : FnScope Ng [a] sg) (hNg : Ng[0]? = some a) (hva : Vis sg a)
    (hG : GivesS X Ng x sg g cdv bg a (X.env.qual ++ "<lambda>") TT) (hr : Room (k + 2) X.A)
    (mk : ∀ (pins : List (Addr × Obj)) (s : Shared) (σ : L2.St) (H : Hp) (Q : Value → Shared → Prop), Inv X pins σ H s → Tabs T H →
      (∀ (f c' : Addr) (dV pm ctv : Value) (bd : List (Str × Value)) (H1 : Hp) (s' : Shared), Inv X pins σ H1 s' → ExtN H H1 → Tabs T H1 → LamP X.N X.env.scope scope (bd.map (·.1)) →
        s'.heap.get? f = some (lmO (X.env.qual ++ "<lambda>") params body scope (cloFrom X.env.cells scope.names []) dV pm (.ref c') ctv) → H1 f = none → f ∉ frs X.stack →
        (∀ s1 : Shared, (∀ b o, s'.heap.get? b = some o → H1 b = none → b ∉ frs X.stack → s1.heap.get? b = some o) → BindsTo s1 (lmFd (X.env.qual ++ "<lambda>") params body scope (cloFrom X.env.cells scope.names []) dV pm (.ref c') ctv) ⟨[], []⟩ bd) →
        H1 c' = some (CodeO c' (X.env.qual ++ "<lambda>")) → Q (.ref f) s') →
      wpAny (model X.prog X.w) X.A (eval (.Lambda params body scope lpos) X.env) Q X.xe s)
    (hbody : ∀ (A : Around) (outer : List Env) (s : Shared) (H : Hp) (E : XK) (f c' : Addr), Room k (A.deeper (lamEnv X scope s.heap.objs.size f c')) → PE (lamCx X A outer s H E scope f c') body (t E))
    (hdb : (x == ("__debug__" : Str)) = false) (hd : (a == ("__debug__" : Str)) = false) (hcd : (a == ("__classdict__" : Str)) = false) :
    PE X (.Call (.Name x p) [.Lambda params body scope lpos] [] pos) (tLam T TT t) := by
  refine ⟨fun pins s σ H Q I h => ?_⟩
  obtain ⟨hT, h⟩ := h
  refine wpAny_Call_Name_kw (ld_glob I hg hm ?_ hdb)
  refine PySem.W.callWith_K (h₀ := X.base) I.ok.mod.kin hk ?_ (by rfl) (by rfl)
  show wpAny _ _ (spliced ((false, eval (.Lambda params body scope lpos) X.env) :: backTo pos (starEach [] X.env))) _ _ s
  refine Calls.spliced_cons (mk pins s σ H _ I hT fun f c' dV' pm' ctv bd H1 s' I1 eN T1 L hf hfn hfr hbd hco => ?_)
  refine Calls.spliced_nil ⟨I1.kIn, ?_⟩
  have run : codeAny (model X.prog X.w) X.A (.call (.ref g) ⟨[.ref f], []⟩) (CR C8.CX0 X.stack X.prog X.w H1 s' Q C8.E0) s' := by
    refine run_ofS (N := Ng) (ps := [a]) (us := [.ref f]) (vs := [.ref f]) lk hcg Sg hr I1.env0 (hb s' [.ref f] I1.kIn rfl) (.cons rfl .nil) rfl fun hr2 => ?_
    obtain ⟨t2, ht2, hq2⟩ := hG f c' s' H1 Q (fun E H' Q' => t E σ H' Q') (fun W pn xe p1 p2 tk => lm_act (i := 0) I1 L hf hfn hfr hbd tk hr2 (fun A outer s H E hr3 => hbody A outer s H E f c' hr3) hNg hva hd hcd) hco (h H1 eN T1)
    exact ⟨t2, ht2.nox, hq2⟩
  refine wpAny_call (codeAny_mono run fun r s2 hq => ?_)
  match r, hq with
  | .error e, hq => exact (show False from hq).elim
  | .ok .next, hq => exact hq.elim
  | .ok .brk, hq => exact hq.elim
  | .ok .cont, hq => exact hq.elim
  | .ok (.ret u), hq => exact I1.after hq
/-- x(lambda b = z: body) -/
theorem lm_call1 {T : List (Addr × Str)} {TT : (XK → Hp → VK → Prop) → Hp → VK → Prop} {x a : Str} {g c P : Addr} {k : Nat} {pg : Arguments} {bg : List Stmt} {sg : Scope} {dV kV doc pm cdv ct oc : Value} {an od : Option Addr} {osl : Array (Option Value)} {Ng : List Str} {b : Str} {z : Int} {j : Nat} {zp : Pos}
    {params : Arguments} {body : Expr} {scope : Scope} {t : XK → TE} {p lpos pos : Pos} (hg : Gl X x) (hm : X.mg x = some (.ref g)) (hk : PySem.W.keepIn X.K (.ref g) = true)
    (lk : X.K.lookup g = some ⟨oc, od, .func (PySem.W.fnOf x x pg bg sg dV kV doc pm an cdv ct), osl⟩) (hcg : PySem.W.codeIn X.K cdv x = true) (hb : L2.Binds X.K (PySem.W.fnOf x x pg bg sg dV kV doc pm an cdv ct) [a] []) (Sg : FnScope Ng [a] sg) (hNg : Ng[0]? = some a) (hva : Vis sg a)
    (hG : GivesS X Ng x sg g cdv bg a (X.env.qual ++ "<lambda>") TT)
    (TB : TabB X.base X.mg c P) (hcode : X.env.code = .ref c) (hmT : (P, X.env.qual ++ "<lambda>") ∈ T) (hu : ∀ p ∈ T, p.1 = P → p.2 = X.env.qual ++ "<lambda>") (hr : Room (k + 2) X.A) (L : LamP X.N X.env.scope scope [b]) (hdef : defaultsOf params X.env = ([eval (.Constant (.int z) j zp) X.env], [])) (hko : params.kwonlyargs = [])
    (hbind : ∀ (q : Str) (cl : List (Str × Addr)) (t0 : Addr) (pm cv ctv : Value) (tk0 : Tok), ∃ kk : Option (Array Value) → Sem (List (Str × Value)), bindArgs (lmFd q params body scope cl (.ref t0) pm cv ctv) ⟨[], []⟩ = seqItems? (.ref t0) >>= kk ∧ kk (some #[.int z tk0]) = pure [(b, .int z tk0)])
    (hbody : ∀ (A : Around) (outer : List Env) (s : Shared) (H : Hp) (E : XK) (f c' : Addr), Room k (A.deeper (lamEnv X scope s.heap.objs.size f c')) → PE (lamCx X A outer s H E scope f c') body (t E))
    (hdb : (x == ("__debug__" : Str)) = false := by decide) (hd : (a == ("__debug__" : Str)) = false := by decide) (hcd : (a == ("__classdict__" : Str)) = false := by decide) :
    PE X (.Call (.Name x p) [.Lambda params body scope lpos] [] pos) (tLam T TT t) :=
  lm_run hg hm hk lk hcg hb Sg hNg hva hG hr (fun pins s σ H Q I hT q => lm_make (z := z) (j := j) (zp := zp) rfl I TB hcode hmT hu hT hdef hko (L.has I.ok) fun f c' t0 tk0 pm' ctv H1 s' I1 eN T1 hf hfn hfr ht htn htr hco =>
    q f c' _ pm' ctv [(b, .int z tk0)] H1 s' I1 eN T1 L hf hfn hfr (fun s1 kp M A Q1 E1 hq => by
      obtain ⟨ot, hot, dt⟩ := ht
      obtain ⟨kk, e1, e2⟩ := hbind (X.env.qual ++ "<lambda>") (cloFrom X.env.cells scope.names []) t0 pm' (.ref c') ctv tk0
      rw [e1]
      refine wpAny_bind (wpAny_seqItems (kp _ _ hot htn htr) dt ?_)
      rw [e2]
      exact wpAny_pure hq) hco) hbody hdb hd hcd
/-- x(lambda: body) -/
theorem lm_call0 {T : List (Addr × Str)} {TT : (XK → Hp → VK → Prop) → Hp → VK → Prop} {x a : Str} {g c P : Addr} {k : Nat} {pg : Arguments} {bg : List Stmt} {sg : Scope} {dV kV doc pm cdv ct oc : Value} {an od : Option Addr} {osl : Array (Option Value)} {Ng : List Str}
    {params : Arguments} {body : Expr} {scope : Scope} {t : XK → TE} {p lpos pos : Pos} (hg : Gl X x) (hm : X.mg x = some (.ref g)) (hk : PySem.W.keepIn X.K (.ref g) = true)
    (lk : X.K.lookup g = some ⟨oc, od, .func (PySem.W.fnOf x x pg bg sg dV kV doc pm an cdv ct), osl⟩) (hcg : PySem.W.codeIn X.K cdv x = true) (hb : L2.Binds X.K (PySem.W.fnOf x x pg bg sg dV kV doc pm an cdv ct) [a] []) (Sg : FnScope Ng [a] sg) (hNg : Ng[0]? = some a) (hva : Vis sg a)
    (hG : GivesS X Ng x sg g cdv bg a (X.env.qual ++ "<lambda>") TT)
    (TB : TabB X.base X.mg c P) (hcode : X.env.code = .ref c) (hmT : (P, X.env.qual ++ "<lambda>") ∈ T) (hu : ∀ p ∈ T, p.1 = P → p.2 = X.env.qual ++ "<lambda>") (hr : Room (k + 2) X.A) (L : LamP X.N X.env.scope scope []) (hdef : defaultsOf params X.env = ([], []))
    (hbind : ∀ (q : Str) (cl : List (Str × Addr)) (pm cv ctv : Value), bindArgs (lmFd q params body scope cl .none pm cv ctv) ⟨[], []⟩ = pure [])
    (hbody : ∀ (A : Around) (outer : List Env) (s : Shared) (H : Hp) (E : XK) (f c' : Addr), Room k (A.deeper (lamEnv X scope s.heap.objs.size f c')) → PE (lamCx X A outer s H E scope f c') body (t E))
    (hdb : (x == ("__debug__" : Str)) = false := by decide) (hd : (a == ("__debug__" : Str)) = false := by decide) (hcd : (a == ("__classdict__" : Str)) = false := by decide) :
    PE X (.Call (.Name x p) [.Lambda params body scope lpos] [] pos) (tLam T TT t) :=
  lm_run hg hm hk lk hcg hb Sg hNg hva hG hr (fun pins s σ H Q I hT q => lam_make2 I TB hcode hmT hu hT hdef (L.has I.ok) fun f c' pm' ctv H1 s' I1 eN T1 hf hfn hfr hco =>
    q f c' .none pm' ctv [] H1 s' I1 eN T1 L hf hfn hfr (fun s1 _ => BindsTo.of_eq (hbind _ _ _ _ _)) hco) hbody hdb hd hcd
end
end LamY
set_option Elab.async false
set_option linter.all false
set_option maxRecDepth 100000
set_option maxHeartbeats 4000000
/-! lambdas that are kept in lists: made, known from then on, called in a comprehension -/
namespace LamZ
open PySem PySem.Spec PyProof.Rows L2 LamX LamY
/-- a function object that is known -/
def FnO (f : Addr) (o : Obj) : HO := .ext fun h => h.get? f = some o
theorem fnO_ne {f : Addr} {o : Obj} (ps : Array Value) : FnO f o ≠ .tbl ps := fun z => by
  unfold FnO at z
  cases z
theorem fnO_ok {P : Program} {w : World} {H : Hp} {h : Heap} {f : Addr} {o : Obj} (e : h.get? f = some o) : ObjOk P w H h f (FnO f o) := ⟨e, ⟨o, e⟩, fun h1 h2 a k => k _ a⟩
section
variable {X : Cx} {pins : List (Addr × Obj)} {σ : L2.St} {H HZ : Hp} {s s1 : Shared}
/-- the lambda's object: its code object is new, or found in the table -/
theorem lf_code {T : List (Addr × Str)} {c P : Addr} {params : Arguments} {body : Expr} {scope : Scope} {pos : Pos} {dV : Value} {Q : Value → Shared → Prop} (I : Inv X pins σ H s) (TB : TabB X.base X.mg c P) (hcode : X.env.code = .ref c)
    (hm : (P, X.env.qual ++ "<lambda>") ∈ T) (hu : ∀ p ∈ T, p.1 = P → p.2 = X.env.qual ++ "<lambda>") (hT : Tabs T H) (hfree : ∀ y ∈ scope.names, y.2 = .free → ∃ c, X.env.cells.lookup y.1 = some c)
    (h : ∀ (f c' : Addr) (pm ctv : Value) (H1 : Hp) (s' : Shared), Inv X pins σ H1 s' → ExtN H H1 → Tabs T H1 →
      H1 f = some (FnO f (lmO (X.env.qual ++ "<lambda>") params body scope (cloFrom X.env.cells scope.names []) dV pm (.ref c') ctv)) → H1 c' = some (CodeO c' (X.env.qual ++ "<lambda>")) → Q (.ref f) s') :
    wpAny (model X.prog X.w) X.A (makeTail "<lambda>" (X.env.qual ++ "<lambda>") params (.expr body) scope X.env dV .none none pos pos.line) Q X.xe s := by
  obtain ⟨ps, hP, ht, ha⟩ := hT _ hm
  have bP := TB.bm.keeps I.bk
  have hP2 : s.heap.get? P = some { cls := .none, data := .fields ps } := I.hok P _ hP
  have hcC := TB.code.keeps I.bk
  obtain ⟨bm, ob, b1, b2, b3, b4, b5, b6, b7, b8⟩ := bP
  have hg0 : s.heap.Ns mainGlobals X.mg := I.mod.glob.keeps I.bk
  have clo := closure_ok (scope := scope) hfree
  cases hc : codeAmong pos ps.toList with
  | none =>
    refine lm_tail (mg := X.mg) (C := fun cv h2 => ∃ c', cv = .ref c' ∧ Heap.ExtBut P s.heap h2 ∧ s.heap.objs.size ≤ c' ∧ c' < h2.objs.size ∧ h2.CodeRec (.ref c') (X.env.qual ++ "<lambda>") ∧ h2.get? P = some (PySem.W.tabObj (ps ++ #[rawInt pos.line, rawInt pos.col, .ref c']))) clo I.ok.glob
      (fun h1 Q1 k1 k2 q => ?_) (fun cv h2 ⟨c', _, x, _⟩ => ⟨hg0.extBut x TB.gP, bm, ob, b1, b2, x _ _ b4 b5, b6, b7, b8⟩) fun cv ctv h2 tk2 ⟨c', ecv, x, l1, l2, rec_, tab⟩ => ?_
    · refine wpAny_functionCodeX hcode ((hcC.keeps k1).code (k1 _ _ hP2) ht) ((hcC.keeps k1).tab (k1 _ _ hP2)) hc fun c' h2 tk2 x l1 l2 _ rec_ tab _ => q _ _ _ ⟨c', rfl, fun b o n e => x b o n (k1 _ _ e), Nat.le_trans k2 l1, l2, rec_, tab.2⟩
    · subst ecv
      obtain ⟨c2, oc, vs, t, e2, hoc, hd, hv⟩ := rec_
      cases e2
      have nC : H c' = none := I.hok.fresh l1
      have I3 := inv_table (t' := tk2) (more := #[rawInt pos.line, rawInt pos.col, .ref c']) (h' := h2) I hP x tab l1 ⟨oc, vs, t, hoc, hd, hv⟩
      have nF := I3.hok.fresh (Nat.le_refl h2.objs.size)
      have I4 := I3.laid (t' := tk2) (a := h2.objs.size) (o := FnO h2.objs.size (lmO (X.env.qual ++ "<lambda>") params body scope (cloFrom X.env.cells scope.names []) dV ((X.mg "__name__").getD .none) (.ref c') ctv)) (h' := h2.push (lmO (X.env.qual ++ "<lambda>") params body scope (cloFrom X.env.cells scope.names []) dV ((X.mg "__name__").getD .none) (.ref c') ctv))
        (fun b u e => Heap.get?_push_of_some _ e) (Nat.le_refl _) (fnO_ok (Heap.get?_push_size _ rfl))
      have hE0 : ExtN H (upd (upd H P (.tbl (ps ++ #[rawInt pos.line, rawInt pos.col, .ref c']))) c' (CodeO c' (X.env.qual ++ "<lambda>"))) := fun b o e n => by
        rw [upd_ne (ne_of_none e nC), upd_ne (fun z => n ps (by rw [z, hP] at e; exact (Option.some.inj e).symm))]
        exact e
      have T3 : Tabs T (upd (upd H P (.tbl (ps ++ #[rawInt pos.line, rawInt pos.col, .ref c']))) c' (CodeO c' (X.env.qual ++ "<lambda>"))) := fun p hp => by
        by_cases hb : p.1 = P
        · rw [hu p hp hb, hb]
          have eL : (ps ++ #[rawInt pos.line, rawInt pos.col, Value.ref c']).toList = ps.toList ++ [rawInt pos.line, rawInt pos.col, .ref c'] := by simp
          refine ⟨_, by rw [upd_ne (ne_of_none hP nC), upd_same], by rw [eL]; exact PySem.TriplesOk_snoc _ _ _ _ ht, fun p' cv hcv => ?_⟩
          rw [eL] at hcv
          rcases among_app _ ht hcv with z | z
          · obtain ⟨c0, e1, e2⟩ := ha p' cv z
            exact ⟨c0, e1, hE0 _ _ e2 codeO_ne⟩
          · exact ⟨c', z, upd_same⟩
        · obtain ⟨qs, a1, a2, a3⟩ := hT p hp
          refine ⟨qs, by rw [upd_ne (ne_of_none a1 nC), upd_ne hb]; exact a1, a2, fun p' cv hcv => ?_⟩
          obtain ⟨c0, e1, e2⟩ := a3 p' cv hcv
          exact ⟨c0, e1, hE0 _ _ e2 codeO_ne⟩
      have hcd : upd (upd H P (.tbl (ps ++ #[rawInt pos.line, rawInt pos.col, .ref c']))) c' (CodeO c' (X.env.qual ++ "<lambda>")) c' = some (CodeO c' (X.env.qual ++ "<lambda>")) := upd_same
      generalize upd (upd H P (.tbl (ps ++ #[rawInt pos.line, rawInt pos.col, .ref c']))) c' (CodeO c' (X.env.qual ++ "<lambda>")) = HC at I3 I4 nF hE0 T3 hcd
      have up : ∀ b o, HC b = some o → upd HC h2.objs.size (FnO h2.objs.size (lmO (X.env.qual ++ "<lambda>") params body scope (cloFrom X.env.cells scope.names []) dV ((X.mg "__name__").getD .none) (.ref c') ctv)) b = some o := fun b o e => by
        rw [upd_ne (ne_of_none e nF)]
        exact e
      exact h h2.objs.size c' _ ctv _ _ I4 (fun b o e n => up _ _ (hE0 b o e n)) (T3.ext up) upd_same (up _ _ hcd)
  | some cv0 =>
    obtain ⟨c', e, hco⟩ := ha pos cv0 hc
    subst e
    refine lm_tail (mg := X.mg) (C := fun cv h2 => cv = .ref c' ∧ s.heap.objs.size ≤ h2.objs.size ∧ ∀ b o, s.heap.get? b = some o → h2.get? b = some o) clo I.ok.glob
      (fun h1 Q1 k1 k2 q => ?_) (fun cv h2 ⟨_, _, k⟩ => ⟨hg0.keeps k, bm, ob, b1, b2, k _ _ b5, b6, b7, b8⟩) fun cv ctv h2 tk2 ⟨ecv, l3, k⟩ => ?_
    · exact wpAny_functionCode_hit hcode ((hcC.keeps k1).code (k1 _ _ hP2) ht) hc (q _ _ _ ⟨rfl, k2, k1⟩)
    · subst ecv
      have I3 : Inv X pins σ H { s with heap := h2, toks := tk2 } := I.kept (t' := tk2) k
      have nF := I3.hok.fresh (Nat.le_refl h2.objs.size)
      have I4 := I3.laid (t' := tk2) (a := h2.objs.size) (o := FnO h2.objs.size (lmO (X.env.qual ++ "<lambda>") params body scope (cloFrom X.env.cells scope.names []) dV ((X.mg "__name__").getD .none) (.ref c') ctv)) (h' := h2.push (lmO (X.env.qual ++ "<lambda>") params body scope (cloFrom X.env.cells scope.names []) dV ((X.mg "__name__").getD .none) (.ref c') ctv))
        (fun b u e => Heap.get?_push_of_some _ e) (Nat.le_refl _) (fnO_ok (Heap.get?_push_size _ rfl))
      have up : ∀ b o, H b = some o → upd H h2.objs.size (FnO h2.objs.size (lmO (X.env.qual ++ "<lambda>") params body scope (cloFrom X.env.cells scope.names []) dV ((X.mg "__name__").getD .none) (.ref c') ctv)) b = some o := fun b o e => by
        rw [upd_ne (ne_of_none e nF)]
        exact e
      exact h h2.objs.size c' _ ctv _ _ I4 (.of up) (hT.ext up) upd_same (up _ _ hco)
/-- what is known of a lambda that stands somewhere; z: the number that its one parameter b has -/
def LamAt (X : Cx) (params : Arguments) (body : Expr) (scope : Scope) (bz : Option (Str × Int)) (H : Hp) (f : Addr) : Prop :=
  ∃ (c' : Addr) (dV pm ctv : Value), H f = some (FnO f (lmO (X.env.qual ++ "<lambda>") params body scope (cloFrom X.env.cells scope.names []) dV pm (.ref c') ctv)) ∧ H c' = some (CodeO c' (X.env.qual ++ "<lambda>")) ∧
    match bz with
    | none => dV = .none
    | some b => ∃ t0, dV = .ref t0 ∧ H t0 = some (.tup [.int b.2])
theorem LamAt.ext {params : Arguments} {body : Expr} {scope : Scope} {bz : Option (Str × Int)} {H H' : Hp} {f : Addr} (h : LamAt X params body scope bz H f) (e : ExtN H H') : LamAt X params body scope bz H' f := by
  obtain ⟨c', dV, pm, ctv, h1, h2, h3⟩ := h
  refine ⟨c', dV, pm, ctv, e _ _ h1 fnO_ne, e _ _ h2 codeO_ne, ?_⟩
  cases bz with
  | none => exact h3
  | some b =>
    obtain ⟨t0, e1, e2⟩ := h3
    exact ⟨t0, e1, e _ _ e2 (by intro ps z; cases z)⟩
def tLamV (X : Cx) (T : List (Addr × Str)) (params : Arguments) (body : Expr) (scope : Scope) (bz : Option (Str × Int)) : TE := fun _ H Q => Tabs T H ∧ ∀ (f : Addr) (H1 : Hp), ExtN H H1 → Tabs T H1 → LamAt X params body scope bz H1 f → Q (.ref f) H1
/-- lambda: body -/
theorem pe_lam0 {T : List (Addr × Str)} {c P : Addr} {params : Arguments} {body : Expr} {scope : Scope} {pos : Pos} {bs : List Str} (TB : TabB X.base X.mg c P) (hcode : X.env.code = .ref c)
    (hm : (P, X.env.qual ++ "<lambda>") ∈ T) (hu : ∀ p ∈ T, p.1 = P → p.2 = X.env.qual ++ "<lambda>") (L : LamP X.N X.env.scope scope bs) (hdef : defaultsOf params X.env = ([], [])) :
    PE X (.Lambda params body scope pos) (tLamV X T params body scope none) := by
  refine ⟨fun pins s σ H Q I ⟨hT, k⟩ => ?_⟩
  refine PySem.W.kla_eval hdef ?_
  rw [makeFunction_eq]
  simp only [List.zip_nil_right, List.filterMap_nil, List.isEmpty_nil, if_true, pure_bind]
  refine lf_code I TB hcode hm hu hT (L.has I.ok) fun f c' pm ctv H1 s' I1 eN T1 hf hco => ?_
  exact ⟨.ref f, H1, I1, rfl, k f H1 eN T1 ⟨c', _, pm, ctv, hf, hco, rfl⟩⟩
/-- lambda b = z: body -/
theorem pe_lam1 {T : List (Addr × Str)} {c P : Addr} {params : Arguments} {body : Expr} {scope : Scope} {pos zp : Pos} {z : Int} {j : Nat} {b : Str} (TB : TabB X.base X.mg c P) (hcode : X.env.code = .ref c)
    (hm : (P, X.env.qual ++ "<lambda>") ∈ T) (hu : ∀ p ∈ T, p.1 = P → p.2 = X.env.qual ++ "<lambda>") (L : LamP X.N X.env.scope scope [b]) (hdef : defaultsOf params X.env = ([eval (.Constant (.int z) j zp) X.env], [])) (hko : params.kwonlyargs = []) :
    PE X (.Lambda params body scope pos) (tLamV X T params body scope (some (b, z))) := by
  refine ⟨fun pins s σ H Q I ⟨hT, k⟩ => ?_⟩
  rw [arm_eval_Lambda, hdef]
  show wpAny _ _ (do let dv ← evalAll [eval (.Constant (.int z) j zp) X.env]; let kdv ← holding dv (evalAllOpt []); makeFunction "<lambda>" (X.env.qual ++ "<lambda>") params (.expr body) scope X.env dv kdv [] pos pos.line) _ X.xe s
  refine wpAny_bind ?_
  show wpAny _ _ (do let v ← eval (.Constant (.int z) j zp) X.env; return v :: (← holding [v] (evalAll []))) _ _ s
  refine wpAny_bind (thn ((pe_int (X := X) (i := z) (j := j) (pos := zp)).run pins s σ H (fun v H1 => v = .int z ∧ H1 = H) I ⟨rfl, rfl⟩) fun u s1 ⟨v, H1, I1, r1, q1⟩ => ?_)
  obtain ⟨ev, eH⟩ := q1
  subst ev
  subst eH
  obtain ⟨tk, rfl⟩ := r1
  refine wpAny_bind (wpAny_holding (wpAny_pure (wpAny_pure (wpAny_bind (wpAny_holding (wpAny_pure ?_))))))
  rw [makeFunction_eq]
  simp only [hko, List.zip_nil_left, List.filterMap_nil, List.isEmpty_nil, List.isEmpty_cons, Bool.false_eq_true, if_true, if_false, pure_bind]
  refine wpAny_bind (wpAny_newTextTuple ?_)
  have nT := I1.hok.fresh (Nat.le_refl s1.heap.objs.size)
  have I2 := I1.laid (t' := s1.toks) (a := s1.heap.objs.size) (o := .tup [.int z]) (h' := s1.heap.push { cls := .type "tuple", data := .seq [Value.int z tk].toArray })
    (fun b u e => Heap.get?_push_of_some _ e) (Nat.le_refl _) ⟨(show (1 : Nat) ≤ sizeLine by decide), [Value.int z tk], .cons ⟨tk, rfl⟩ .nil, _, Heap.get?_push_size _ rfl, rfl, _, rfl⟩
  have up : ∀ b o, H1 b = some o → upd H1 s1.heap.objs.size (.tup [.int z]) b = some o := fun b o e => by
    rw [upd_ne (ne_of_none e nT)]
    exact e
  refine lf_code I2 TB hcode hm hu (hT.ext up) (L.has I.ok) fun f c' pm ctv H2 s' I3 eN T1 hf hco => ?_
  exact ⟨.ref f, H2, I3, rfl, k f H2 (fun b o e n => eN _ _ (up _ _ e) n) T1 ⟨c', _, pm, ctv, hf, hco, _, rfl, eN _ _ upd_same (by intro ps z; cases z)⟩⟩
/-! ### its frame, entered from anywhere below -/
theorem lz_start {A : Around} {outer : List Env} {E : XK} {scope : Scope} {f c' : Addr} {h1 : Heap} {tk : Nat} {bd : List (Str × Value)} {ex : List Addr} (I : Inv X pins σ H s) (L : LamP X.N X.env.scope scope (bd.map (·.1))) (e0 : Env0 X.prog X.w X.K X.mg X.base A outer s1 HZ) (hd : A.handled = none)
    (un : Un (frs X.stack) ex H HZ s.heap s1.heap) (hex : ∀ y c, X.env.cells.lookup y = some c → c ∉ ex) (hns : h1.Ns s1.heap.objs.size fun y => bd.reverse.lookup y) (kp : ∀ b o, s1.heap.get? b = some o → h1.get? b = some o) :
    Inv (lamCx X A outer s1 HZ E scope f c') [] σ HZ { s1 with heap := h1, toks := tk } := by
  have cl : ∀ {y c}, (cloFrom X.env.cells scope.names []).lookup y = some c → X.env.cells.lookup y = some c := fun {y c} e => by
    rcases cloFrom_mem (PySem.mem_of_lookup e) with m | ⟨m, ec⟩
    · cases m
    · obtain ⟨c1, hc⟩ := L.has I.ok _ m rfl
      have hc2 : X.env.cells.lookup y = some c1 := hc
      rw [hc2] at ec
      rw [hc2, ec]
      rfl
  have fr : ∀ {y}, scope.names.lookup y = some .free → ∃ c, (cloFrom X.env.cells scope.names []).lookup y = some c := fun {y} hl =>
    mem_lookup (cloFrom_has (cells := X.env.cells) (acc := []) (show (y, NameKind.free) ∈ scope.names from PySem.mem_of_lookup hl))
  have val : ∀ {y : Str} {c : Addr} {v : Option Value}, X.env.cells.lookup y = some c → s.heap.IsCell c v → h1.IsCell c v := fun {y c v} e ⟨o, ho, q⟩ => by
    obtain ⟨sl, z⟩ := un.any ho (I.freeC y c e) (hex y c e)
    exact ⟨_, kp _ _ z, q⟩
  have nex : ∀ b : Addr, b ∉ (lamCx X A outer s1 HZ E scope f c').ex := fun b m => by
    cases (show b ∈ ([] : List Addr) from m)
  have nl : ∀ {y : Str}, scope.names.lookup y = some .cell → False := fun q => L.cel _ (PySem.mem_of_lookup q) rfl
  refine ⟨⟨e0.mod, L.kind, rfl, rfl, Nat.le_refl _, fun y d c e1 e2 => I.ok.inj y d c (cl e1) (cl e2), fun y hy => ?_, fun y c z _ => (by cases (show false = true from z)), fun _ => hd, Around.frames_deeper e0.frames, .inr ⟨rfl, rfl⟩, fun b m => absurd m (nex b), e0.bs, e0.bsz, fun b _ _ => nex b,
      fun b m => absurd m (nex b), e0.funs, e0.frf⟩,
    rfl, e0.bare, Un.kept kp, ⟨_, hns, fun i y v e1 e2 e3 => ?_⟩, fun y c e => ?_, e0.hok.fresh (Nat.le_refl _), fun y c e => ?_, fun q m => (by cases (show q ∈ ([] : List (Addr × Obj)) ++ [] from m)), e0.hok.kept kp, I.len⟩
  · rcases (show scope.names.lookup y = some .cell ∨ scope.names.lookup y = some .free from hy) with q | q
    · exact (nl q).elim
    · exact fr q
  · rcases (show Vis scope y from e3) with q | q | q
    · exact absurd (List.mem_of_getElem? e1) (L.own _ (PySem.mem_of_lookup q) rfl)
    · exact (nl q).elim
    · obtain ⟨m, _, hl⟩ := I.loc
      have out := L.free _ (PySem.mem_of_lookup q) rfl
      obtain ⟨w', r, z⟩ := hl i y v e1 e2 (.inr out)
      obtain ⟨c2, h2⟩ := fr q
      refine ⟨w', r, .inr ⟨.inr q, c2, h2, ?_⟩⟩
      rcases z with ⟨k, _⟩ | ⟨_, c3, e4, k⟩
      · have k2 : X.env.scope.names.lookup y = some .local := k
        rcases out with o | o
        · cases k2.symm.trans (show X.env.scope.names.lookup y = some .cell from o)
        · cases k2.symm.trans (show X.env.scope.names.lookup y = some .free from o)
      · have e5 := cl h2
        cases e5.symm.trans e4
        exact val e5 k
  · obtain ⟨w', z⟩ := I.cell y c (cl e)
    exact ⟨w', val (cl e) z⟩
  · obtain ⟨v, o, ho, _⟩ := I.cell y c (cl e)
    exact un.free c o ho (I.freeC y c (cl e)) (hex y c (cl e))
/-- what its one parameter is bound to -/
def bdOf (bz : Option (Str × Int)) (tk : Tok) : List (Str × Value) := match bz with
  | none => []
  | some b => [(b.1, .int b.2 tk)]
def bsOf (bz : Option (Str × Int)) : List Str := match bz with
  | none => []
  | some b => [b.1]
theorem bdOf_map (bz : Option (Str × Int)) (tk : Tok) : (bdOf bz tk).map (·.1) = bsOf bz := by cases bz <;> rfl
/-- how its arguments are bound: none, or the default -/
def LamB (params : Arguments) (body : Expr) (scope : Scope) (bz : Option (Str × Int)) : Prop := match bz with
  | none => ∀ (q : Str) (cl : List (Str × Addr)) (pm cv ctv : Value), bindArgs (lmFd q params body scope cl .none pm cv ctv) ⟨[], []⟩ = pure []
  | some b => ∀ (q : Str) (cl : List (Str × Addr)) (t0 : Addr) (pm cv ctv : Value) (tk0 : Tok), ∃ kk : Option (Array Value) → Sem (List (Str × Value)), bindArgs (lmFd q params body scope cl (.ref t0) pm cv ctv) ⟨[], []⟩ = seqItems? (.ref t0) >>= kk ∧ kk (some #[.int b.2 tk0]) = pure [(b.1, .int b.2 tk0)]
/-- a(), in the def that got it: that def's context, entered at s, H -/
theorem lz_act {CXg : CXT} {Eg : XK} {Ng : List Str} {qg : Str} {sg : Scope} {g : Addr} {cdg : Value} {params : Arguments} {body : Expr} {scope : Scope} {bz : Option (Str × Int)} {ex : List Addr} {s0 : Shared} {H0 : Hp} {k i : Nat} {a : Str} {pn : List (Addr × Obj)} {xe : Value → Shared → Prop} {W : WX} {tb : XK → TE} {p1 p2 : Pos}
    (I : Inv X pins σ H0 s0) (L : LamP X.N X.env.scope scope (bsOf bz)) (B : LamB params body scope bz) (un0 : Un (frs X.stack) ex H0 H s0.heap s.heap) (hex : ∀ y c, X.env.cells.lookup y = some c → c ∉ ex)
    (tk : Takes ((cxOf CXg X.prog X.w X.K X.mg X.base Ng qg sg g cdg X.A X.stack s H Eg).tr pn xe) W) (hr : Room (k + 1) (X.A.deeper (envOfC qg sg s.heap.objs.size g cdg)))
    (hbody : ∀ (A : Around) (outer : List Env) (s : Shared) (H : Hp) (E : XK) (f c' : Addr), Room k (A.deeper (lamEnv X scope s.heap.objs.size f c')) → PE (lamCx X A outer s H E scope f c') body (tb E))
    (hN : Ng[i]? = some a) (hv : Vis sg a) (hd : (a == ("__debug__" : Str)) = false) (hcd : (a == ("__classdict__" : Str)) = false) :
    PE ((cxOf CXg X.prog X.w X.K X.mg X.base Ng qg sg g cdg X.A X.stack s H Eg).tr pn xe) (.Call (.Name a p1) [] [] p2)
      (fun σZ HZ Q => ∃ (E : XK) (f : Addr), (∀ cls d H', E cls d H' → W cls d σZ H') ∧ σZ[i]? = some (some (.ref f)) ∧ LamAt X params body scope bz HZ f ∧ tb E σ HZ Q) := by
  refine ⟨fun pinsZ sZ σZ HZ Q IZ h => ?_⟩
  obtain ⟨E, f, hW, hs, ⟨c', dV, pm, ctv, hf, hc, hdv⟩, hq0⟩ := h
  refine wpAny_Call_Name_kw (thn ((pe_var (pos := p1) (i := i) hN hv hd hcd).run pinsZ sZ σZ HZ (fun v H1 => v = .ref f ∧ H1 = HZ) IZ ⟨.ref f, hs, rfl, rfl⟩) fun u s1 ⟨v, H1, I1, r1, ev, eH⟩ => ?_)
  subst ev
  rw [eH] at I1
  obtain rfl : u = Value.ref f := r1
  have ofn : s1.heap.get? f = some (lmO (X.env.qual ++ "<lambda>") params body scope (cloFrom X.env.cells scope.names []) dV pm (.ref c') ctv) := (I1.hok f _ hf).1
  refine PySem.W.callWith_F0 ⟨_, _, _, _, ofn⟩ ?_
  have un : Un (frs X.stack) ex H0 HZ s0.heap s1.heap := un0.trans (Un.mono (show Un (frs X.stack) [] H HZ s.heap s1.heap from I1.base) (fun _ m => m) fun _ m => (by cases m))
  obtain ⟨⟨oc, vs, t, hoc, hdc, hvc⟩, _, _⟩ := I1.hok c' _ hc
  have bnd : ∃ tk0 : Tok, BindsTo s1 (lmFd (X.env.qual ++ "<lambda>") params body scope (cloFrom X.env.cells scope.names []) dV pm (.ref c') ctv) ⟨[], []⟩ (bdOf bz tk0) := by
    cases bz with
    | none =>
      have e : dV = .none := hdv
      subst e
      exact ⟨default, BindsTo.of_eq (B _ _ _ _ _)⟩
    | some b =>
      obtain ⟨t0, e, ht⟩ := hdv
      subst e
      obtain ⟨_, its, ri, ot, hot, _, n, dt⟩ := I1.hok t0 _ ht
      cases ri with
      | cons r rest =>
        cases rest
        obtain ⟨tk0, e2⟩ := r
        subst e2
        refine ⟨tk0, fun M A Q1 E1 hq => ?_⟩
        obtain ⟨kk, e1, e2⟩ := B (X.env.qual ++ "<lambda>") (cloFrom X.env.cells scope.names []) t0 pm (.ref c') ctv tk0
        rw [e1]
        refine wpAny_bind (wpAny_seqItems hot dt ?_)
        rw [e2]
        exact wpAny_pure hq
  obtain ⟨tk0, hb⟩ := bnd
  have L2' : LamP X.N X.env.scope scope ((bdOf bz tk0).map (·.1)) := by
    rw [bdOf_map]
    exact L
  have run : codeAny (model X.prog X.w) (X.A.deeper (envOfC qg sg s.heap.objs.size g cdg)) (.call (.ref f) ⟨[], []⟩) (CR (L2.CX X.prog X.w) (envOfC qg sg s.heap.objs.size g cdg :: X.stack) X.prog X.w HZ s1 Q E) s1 := by
    refine PySem.W.kla_callFunE hr.depth ofn rfl L.co L.gen rfl ⟨c', oc, vs, t, rfl, hoc, hdc, hvc⟩ ?_
    refine hb _ _ _ _ ?_
    have hbl2 : ∀ y ∈ bdOf bz tk0, scope.names.lookup y.1 = some .local := fun y m => L2'.par _ (List.mem_map.mpr ⟨y, m, rfl⟩)
    refine wpAny_newFunctionEnv (fun y m => L.cel y m) hbl2 (fun h1 hns hsb => ⟨I1.nolimit.fresh _ hsb, ?_⟩) L.kind
    show codeAny _ _ (.expr body (lamEnv X scope s1.heap.objs.size f c')) _ _
    have kp : ∀ b o, s1.heap.get? b = some o → h1.get? b = some o := fun b o e => hsb.extBut b o (Nat.ne_of_lt (Heap.lt_size e)) (Heap.get?_push_of_some _ e)
    have J : Inv (lamCx X (X.A.deeper (envOfC qg sg s.heap.objs.size g cdg)) (envOfC qg sg s.heap.objs.size g cdg :: X.stack) s1 HZ E scope f c') [] σ HZ { s1 with heap := h1, toks := s1.toks + (bdOf bz tk0).length } :=
      lz_start I L2' I1.env0 hr.hd un hex hns kp
    refine PySem.W.kla_codeExpr (wpAny_mono ((hbody _ _ s1 HZ E f c' (hr.deeper _)).run [] _ _ HZ Q J hq0) (fun v s' hq => ?_) fun e s' hq => hq)
    obtain ⟨w', H', J', rv, q⟩ := hq
    exact ⟨w', H', J'.os, J'.bare, J'.base, J'.hok, rv, q⟩
  have hx : ∀ e s', L2.CX X.prog X.w ((cxOf CXg X.prog X.w X.K X.mg X.base Ng qg sg g cdg X.A X.stack s H Eg).tr pn xe).stack HZ s1 E e s' → ((cxOf CXg X.prog X.w X.K X.mg X.base Ng qg sg g cdg X.A X.stack s H Eg).tr pn xe).xe e s' := fun e s' c => tk e s' (XE.of_call I1 (fun cls d H' q => hW cls d H' q) c)
  refine wpAny_call (codeAny_mono run fun r s' hq => ?_)
  match r, hq with
  | .error e, hq => exact hx e s' hq
  | .ok .next, hq => exact hq.elim
  | .ok .brk, hq => exact hq.elim
  | .ok .cont, hq => exact hq.elim
  | .ok (.ret u), hq => exact I1.after hq
/-- a def that calls what it got, by the name a; LA: what is known of it -/
def GivesZ (X : Cx) (Ng : List Str) (x : Str) (sg : Scope) (g : Addr) (cdg : Value) (bg : List Stmt) (a : Str) (TT : (XK → Hp → VK → Prop) → Hp → VK → Prop) : Prop :=
  ∀ (f : Addr) (LA : Hp → Addr → Prop) (s : Shared) (H : Hp) (Q : VK) (tl : XK → Hp → VK → Prop),
    (∀ (W : WX) (pn : List (Addr × Obj)) (xe : Value → Shared → Prop) (p1 p2 : Pos), Takes ((cxOf C8.CX0 X.prog X.w X.K X.mg X.base Ng x sg g cdg X.A X.stack s H C8.E0).tr pn xe) W →
      PE ((cxOf C8.CX0 X.prog X.w X.K X.mg X.base Ng x sg g cdg X.A X.stack s H C8.E0).tr pn xe) (.Call (.Name a p1) [] [] p2) (fun σZ HZ Q => ∃ (E : XK) (f : Addr), (∀ cls d H', E cls d H' → W cls d σZ H') ∧ σZ[0]? = some (some (.ref f)) ∧ LA HZ f ∧ tl E HZ Q)) →
    LA H f → TT tl H Q →
    ∃ t, PSs (cxOf C8.CX0 X.prog X.w X.K X.mg X.base Ng x sg g cdg X.A X.stack s H C8.E0).nox bg t ∧ t { nx := fun _ H' => Q .non H', rt := Q } (L2.start Ng [.ref f]) H
/-- what a call of such a def with a lambda asks; σ: what the lambda's names are -/
def tZ (X : Cx) (TT : (XK → Hp → VK → Prop) → Hp → VK → Prop) (params : Arguments) (body : Expr) (scope : Scope) (bz : Option (Str × Int)) (i : Nat) (t : XK → TE) (σ : L2.St) : TE := fun σ2 H Q =>
  ∃ f : Addr, σ2[i]? = some (some (.ref f)) ∧ LamAt X params body scope bz H f ∧ TT (fun E H' Q' => t E σ H' Q') H Q
end
section
variable {X : Cx}
/-- x(v) in a comprehension's block, v a lambda that was made in the def around it -/
theorem lz_call {pins0 : List (Addr × Obj)} {s0 : Shared} {σ0 : L2.St} {H0 : Hp} {bsc : Scope} {env : Env} {fp : List Addr} {TT : (XK → Hp → VK → Prop) → Hp → VK → Prop} {x a v : Str} {g : Addr} {k i : Nat} {pg : Arguments} {bg : List Stmt} {sg : Scope} {dV kV doc pm cdv ct oc : Value} {an od : Option Addr} {osl : Array (Option Value)} {Ng : List Str}
    {params : Arguments} {body : Expr} {scope : Scope} {bz : Option (Str × Int)} {t : XK → TE} {p pv_ pos : Pos} (I0 : Inv X pins0 σ0 H0 s0) (hfp : ∀ b ∈ fp, ∀ y c, X.env.cells.lookup y = some c → c ≠ b)
    (hg : Gl (X.blk s0 H0 bsc env fp) x) (hm : X.mg x = some (.ref g)) (hk : PySem.W.keepIn X.K (.ref g) = true)
    (lk : X.K.lookup g = some ⟨oc, od, .func (PySem.W.fnOf x x pg bg sg dV kV doc pm an cdv ct), osl⟩) (hcg : PySem.W.codeIn X.K cdv x = true) (hb : L2.Binds X.K (PySem.W.fnOf x x pg bg sg dV kV doc pm an cdv ct) [a] []) (Sg : FnScope Ng [a] sg) (hNg : Ng[0]? = some a) (hva : Vis sg a)
    (hG : GivesZ X Ng x sg g cdv bg a TT) (hr : Room (k + 2) X.A) (L : LamP X.N X.env.scope scope (bsOf bz)) (B : LamB params body scope bz)
    (hbody : ∀ (A : Around) (outer : List Env) (s : Shared) (H : Hp) (E : XK) (f c' : Addr), Room k (A.deeper (lamEnv X scope s.heap.objs.size f c')) → PE (lamCx X A outer s H E scope f c') body (t E))
    (hN : X.N[i]? = some v) (hv : Vis env.scope v) (hd1 : (v == ("__debug__" : Str)) = false := by decide) (hcd1 : (v == ("__classdict__" : Str)) = false := by decide)
    (hdb : (x == ("__debug__" : Str)) = false := by decide) (hd : (a == ("__debug__" : Str)) = false := by decide) (hcd : (a == ("__classdict__" : Str)) = false := by decide) :
    PE (X.blk s0 H0 bsc env fp) (.Call (.Name x p) [.Name v pv_] [] pos) (tZ X TT params body scope bz i t σ0) := by
  refine ⟨fun pins s σ H Q I h => ?_⟩
  obtain ⟨f, hσ, hf, h⟩ := h
  refine wpAny_Call_Name_kw (ld_glob I hg hm ?_ hdb)
  refine PySem.W.callWith_K (h₀ := X.base) I.ok.mod.kin hk ?_ (by rfl) (by rfl)
  show wpAny _ _ (spliced ((false, eval (.Name v pv_) env) :: backTo pos (starEach [] env))) _ _ s
  refine Calls.spliced_cons (thn ((pe_var (X := X.blk s0 H0 bsc env fp) (pos := pv_) (i := i) hN hv hd1 hcd1).run pins s σ H (fun v H1 => v = .ref f ∧ H1 = H) I ⟨.ref f, hσ, rfl, rfl⟩) fun u s1 ⟨w, H1, I1, r1, ew, eH⟩ => ?_)
  subst ew
  rw [eH] at I1
  obtain rfl : u = Value.ref f := r1
  refine Calls.spliced_nil ⟨I1.kIn, ?_⟩
  have un0 : Un (frs X.stack) fp H0 H s0.heap s1.heap := I1.base
  have run : codeAny (model X.prog X.w) X.A (.call (.ref g) ⟨[.ref f], []⟩) (CR C8.CX0 X.stack X.prog X.w H s1 Q C8.E0) s1 := by
    refine run_ofS (N := Ng) (ps := [a]) (us := [.ref f]) (vs := [.ref f]) lk hcg Sg hr I1.env0 (hb s1 [.ref f] I1.kIn rfl) (.cons rfl .nil) rfl fun hr2 => ?_
    obtain ⟨t2, ht2, hq2⟩ := hG f (LamAt X params body scope bz) s1 H Q (fun E H' Q' => t E σ0 H' Q') (fun W pn xe p1 p2 tk => lz_act (i := 0) I0 L B un0 (fun y c e m => hfp c m y c e rfl) tk hr2 hbody hNg hva hd hcd) hf h
    exact ⟨t2, ht2.nox, hq2⟩
  refine wpAny_call (codeAny_mono run fun r s2 hq => ?_)
  match r, hq with
  | .error e, hq => exact (show False from hq).elim
  | .ok .next, hq => exact hq.elim
  | .ok .brk, hq => exact hq.elim
  | .ok .cont, hq => exact hq.elim
  | .ok (.ret u), hq => exact I1.after hq
/-- one of two readings -/
def tOrE (t1 t2 : TE) : TE := fun σ H Q => t1 σ H Q ∨ t2 σ H Q
theorem pe_orE {e : Expr} {t1 t2 : TE} (h1 : PE X e t1) (h2 : PE X e t2) : PE X e (tOrE t1 t2) := ⟨fun pins s σ H Q I h => h.elim (fun q => h1.run pins s σ H Q I q) fun q => h2.run pins s σ H Q I q⟩
/-- [elt for target in iter if ..], elt read by what the def around it knows where the comprehension begins -/
theorem pe_lcZ {elt tg iter : Expr} {ifs : List Expr} {scope : Scope} {own : List (Str × Nat)} {pos : Pos} {wi : TI} {g : TG} {tt : TT} {te : L2.St → TE} (hc : X.calm = true) (hN : X.N.Nodup) (hi : PI X tg iter wi) (ok : BlkOk X.N X.env.scope scope own)
    (hg : ∀ (s : Shared) (H : Hp) (C : Addr) (cl : List (Str × Addr)) (fp : List Addr), PG (X.blk s H scope (compEnvC scope cl C X.env) fp) tg g) (ht : ∀ (s : Shared) (H : Hp) (C : Addr) (cl : List (Str × Addr)) (fp : List Addr), PTs (X.blk s H scope (compEnvC scope cl C X.env) fp) ifs tt)
    (he : ∀ (pins : List (Addr × Obj)) (s : Shared) (σ : L2.St) (H : Hp), Inv X pins σ H s → ∀ (C : Addr) (cl : List (Str × Addr)) (fp : List Addr), (∀ b ∈ fp, ∀ y c, X.env.cells.lookup y = some c → c ≠ b) → PE (X.blk s H scope (compEnvC scope cl C X.env) fp) elt (te σ))
    (hs : ∀ x, foldedSetIterable iter X.env x = pure x := by intro _; rfl) :
    PE X (.ListComp elt [⟨tg, iter, ifs, 0⟩] scope pos) (fun σ H Q => tLc wi g tt (te σ) (own.map (·.2)) σ H Q) := by
  refine ⟨fun pins s σ H Q I h => ?_⟩
  rw [eval_ListComp]
  have hfree : ∀ y ∈ scope.names, y.2 = .free → ∃ c, X.env.cells.lookup y.1 = some c := fun y m e => I.ok.has _ (ok.free y m e)
  refine wpAny_comprehension_free (use := none) rfl hs (closure_ok hfree) ok.kind (fun y m e => by rw [ok.uniq y m, e]) (thn (hi.run pins s σ H _ I h) fun xv s1 hx => thn hx fun itv s2 h2 => ?_)
  obtain ⟨it, fp, tn, J, H2, ei, I2, T, st2, f2, q⟩ := h2
  subst ei
  refine wpAny_newObj_type (newEnv_comp ?_) (by show 0 ≤ sizeLine; decide)
  obtain ⟨D, hD⟩ : ∃ D, s2.heap.objs.size = D := ⟨_, rfl⟩
  obtain ⟨W, ⟨m0, w0⟩, turn⟩ := q D (I2.hok.fresh (Nat.le_of_eq hD))
  -- s3: the new list stands
  obtain ⟨s3, e3⟩ : ∃ s3 : Shared, s3 = { s2 with heap := s2.heap.push { cls := .type "list", data := .seq ([] : List Value).toArray } } := ⟨_, rfl⟩
  have h3 : s3.heap = s2.heap.push { cls := .type "list", data := .seq ([] : List Value).toArray } := congrArg Shared.heap e3
  have k3 : ∀ b o, s2.heap.get? b = some o → s3.heap.get? b = some o := fun b o e => by
    rw [h3]
    exact Heap.get?_push_of_some _ e
  have n3 : s3.heap.objs.size = s2.heap.objs.size + 1 := by rw [h3, Heap.size_push]
  have I3 : Inv X pins σ (upd H2 D (.lst [])) s3 := by
    rw [e3]
    refine I2.laid (t' := s2.toks) (fun b o e => Heap.get?_push_of_some _ e) (Nat.le_of_eq hD) ⟨Nat.zero_le _, [], 0, .nil, ?_⟩
    rw [← hD]
    exact Heap.get?_push_size _ rfl
  have fsz : ∀ b ∈ fp, b < s2.heap.objs.size := fun b m => by
    obtain ⟨o, e, _⟩ := T.obj _ _ st2 b m
    exact Heap.lt_size e
  have st3 : tn 0 s3.heap := T.keep _ _ _ st2 fun b _ o e => k3 b o e
  have f3 : ∀ b ∈ fp, FpOk X pins (upd H2 D (.lst [])) b ∧ b < s3.heap.objs.size := fun b m =>
    ⟨⟨by rw [upd_ne (by rw [← hD]; exact Nat.ne_of_lt (fsz b m))]; exact (f2 b m).1, (f2 b m).2⟩, by rw [n3]; exact Nat.lt_succ_of_lt (fsz b m)⟩
  have f4 : ∀ b ∈ fp, ∀ y c, X.env.cells.lookup y = some c → c ≠ b := fun b m => (f2 b m).2.2.2.2.1
  rw [hD, ← e3]
  clear e3 n3 k3 fsz f2 st2 I2 h hD h3
  generalize upd H2 D (.lst []) = H3 at *
  have I4 := block_start I3 ok hN f3
  have pg := hg s3 H3 s3.heap.objs.size (cellsFrom (s3.heap.objs.size + 1) scope.names (cloFrom X.env.cells scope.names [])) fp
  have pt := ht s3 H3 s3.heap.objs.size (cellsFrom (s3.heap.objs.size + 1) scope.names (cloFrom X.env.cells scope.names [])) fp
  have pe := he pins s3 σ H3 I3 s3.heap.objs.size (cellsFrom (s3.heap.objs.size + 1) scope.names (cloFrom X.env.cells scope.names [])) fp f4
  have post : ∀ s' H', Inv X pins σ H' s' → Q (.ref D) H' → (∃ m, s'.heap.Ns s3.heap.objs.size m) → FpOk X pins H' s3.heap.objs.size → compPost (model X.prog X.w) X.A X.xe none (EP X pins σ Q) (.ref D) s3.heap.objs.size (.ok .next) s' := fun s' H' I' z ⟨m, hn⟩ ⟨a0, a1, a2, a3, a4, a5⟩ =>
    ⟨m, hn, fun h'' sb => ⟨.ref D, H', I'.turned (t' := s'.toks) (fun b o hb e => (sb.2 b hb).trans e) a0 a1 a3 a4 a5, rfl, z⟩⟩
  show codeAny _ _ (.compStart (.ListComp elt [⟨tg, iter, ifs, 0⟩] scope pos) 0 (.ref it) (.ref D) (compEnvC scope (cellsFrom (s3.heap.objs.size + 1) scope.names (cloFrom X.env.cells scope.names [])) s3.heap.objs.size X.env)) (compPost (model X.prog X.w) X.A X.xe none (EP X pins σ Q) (.ref D) s3.heap.objs.size) { s3 with heap := pushCells (s3.heap.push { cls := .type "dict", data := .dict #[] }) scope.names }
  obtain ⟨ce, ece⟩ : ∃ ce, compEnvC scope (cellsFrom (s3.heap.objs.size + 1) scope.names (cloFrom X.env.cells scope.names [])) s3.heap.objs.size X.env = ce := ⟨_, rfl⟩
  have cL : ce.locals = s3.heap.objs.size := by
    rw [← ece]
    rfl
  rw [ece] at I4 pg pt pe ⊢
  obtain ⟨s4, e4⟩ : ∃ s4 : Shared, ({ s3 with heap := pushCells (s3.heap.push { cls := .type "dict", data := .dict #[] }) scope.names } : Shared) = s4 := ⟨_, rfl⟩
  rw [e4] at I4 ⊢
  have st4 : tn 0 s4.heap := T.keep _ _ _ st3 fun b _ o e => by
    rw [← e4]
    exact pushCells_keeps _ _ _ _ (Heap.get?_push_of_some _ e)
  have fpo : ∀ {σ' : L2.St} {H' : Hp} {s' : Shared}, Inv (X.blk s3 H3 scope ce fp) [] σ' H' s' → (∀ b ∈ fp, H' b = none) → ∀ b ∈ fp, FpOk (X.blk s3 H3 scope ce fp) [] H' b := fun {σ' H' s'} J' z b m =>
    ⟨z b m, (J'.ok.exf b m).1, J'.ok.exfs b m, .inl m, fun x c e => (J'.ok.exf b m).2 x c e, fun p hp => by cases (show p ∈ ([] : List (Addr × Obj)) from hp)⟩
  have walk : codeAny (model X.prog X.w) X.A (.compLoop (.ListComp elt [⟨tg, iter, ifs, 0⟩] scope pos) 0 (.ref it) (.ref D) ce) (compPost (model X.prog X.w) X.A X.xe none (EP X pins σ Q) (.ref D) s3.heap.objs.size) s4 := by
    refine compLoop_any (fun n s' => ∃ i H', Inv (X.blk s3 H3 scope ce fp) [] (wipe σ (own.map (·.2))) H' s' ∧ tn i s'.heap ∧ (∀ b ∈ fp, H' b = none) ∧ W i n H') ?_ m0 ⟨0, H3, I4, st4, fun b m => (f3 b m).1.1, w0⟩
    rintro n s5 ⟨i, H5, I5, st5, z5, w5⟩
    rcases turn i n H5 w5 with ⟨stop, qq⟩ | ⟨go, Nx, hNx, stp⟩
    · refine thnF (T.done (X.blk s3 H3 scope ce fp) rfl rfl rfl hc i [] s5 _ H5 (fun _ _ => False) I5 (fpo I5 z5) st5 stop) fun r s6 ⟨er, I6⟩ => ?_
      subst er
      have I7 : Inv X pins σ H5 s6 := I3.call' (ch := fp) I6.os I6.base I6.hok I6.bare fun b m => ⟨(f3 b m).1.2.2.2.1, (f3 b m).1.2.1, f4 b m, (f3 b m).1.2.2.2.2.2⟩
      have fz : H5 ce.locals = none := I6.free
      obtain ⟨m, hn, _⟩ := I6.loc
      have hn2 : s6.heap.Ns ce.locals m := hn
      rw [cL] at fz hn2
      exact post s6 H5 I7 qq ⟨m, hn2⟩ (I3.fpOk (Nat.le_refl _) fz)
    · refine thnF (T.item (X.blk s3 H3 scope ce fp) rfl rfl rfl hc i [] s5 _ H5 (fun _ _ => False) I5 (fpo I5 z5) st5 go) fun r s6 ⟨u, er, h6⟩ => ?_
      subst er
      refine thnF h6 fun _ s7 ⟨x, H7, I7, r7, y7, st7, z7⟩ => ?_
      have I7' := I7.pinned (fpo I7 z7) (T.obj _ _ st7)
      refine thnF (pg.run _ s7 _ H7 x u _ I7' r7 (stp x H7 y7)) fun _ s8 ⟨σ8, H8, I8, hw8, q8⟩ => ?_
      refine thnF (pt.run _ s8 σ8 H8 _ I8 q8) fun b s9 ⟨H9, I9, q9⟩ => ?_
      have nxt : ∀ {s' : Shared} {H' : Hp}, Inv (X.blk s3 H3 scope ce fp) ([] ++ pinsAt fp s7.heap) σ8 H' s' → Nx H' → ∃ m, m < n ∧ ∃ i H', Inv (X.blk s3 H3 scope ce fp) [] (wipe σ (own.map (·.2))) H' s' ∧ tn i s'.heap ∧ (∀ b ∈ fp, H' b = none) ∧ W i m H' := fun {s' H'} J' nx => by
        obtain ⟨m', hm, w'⟩ := hNx H' nx
        have pinned : ∀ b ∈ fp, ∀ o, s7.heap.get? b = some o → s'.heap.get? b = some o ∧ H' b = none := fun b m o e =>
          have z := J'.pin (b, o) (List.mem_append_right _ (List.mem_append_right _ (mem_pinsAt m e)))
          ⟨z.1, z.2.1⟩
        refine ⟨m', hm, i + 1, H', (J'.unpinned (pins := [])).weak (by rw [← hw8, wipe_length]) (fun j v e => ?_), T.keep _ _ _ st7 fun b m o e => (pinned b m o e).1, fun b m => ?_, w'⟩
        · exact (wipe_some (hw8 ▸ e)).1
        · obtain ⟨o, e, _⟩ := T.obj _ _ st7 b m
          exact (pinned b m o e).2
      cases b with
      | false =>
        simp only [Bool.false_eq_true, if_false] at q9 ⊢
        exact nxt I9 q9
      | true =>
        simp only [if_true] at q9 ⊢
        exact thnF (pe.run _ s9 σ8 H9 _ I9 q9) fun z s10 ⟨yv, H10, I10, r10, acc, hD10, hz10, nx⟩ => app_ok (X := X.blk s3 H3 scope ce fp) I10 hD10 hz10 r10 fun s11 I11 => nxt I11 nx
  exact codeAny_compStart_list walk (T.self X.A 0 _ _ _ st4 walk)
/-- x(lambda: body) -/
theorem lz_callL {T : List (Addr × Str)} {c P : Addr} {TT : (XK → Hp → VK → Prop) → Hp → VK → Prop} {x a : Str} {g : Addr} {k : Nat} {pg : Arguments} {bg : List Stmt} {sg : Scope} {dV kV doc pm cdv ct oc : Value} {an od : Option Addr} {osl : Array (Option Value)} {Ng : List Str}
    {params : Arguments} {body : Expr} {scope : Scope} {t : XK → TE} {p lpos pos : Pos} (TB : TabB X.base X.mg c P) (hcode : X.env.code = .ref c) (hmT : (P, X.env.qual ++ "<lambda>") ∈ T) (hu : ∀ p ∈ T, p.1 = P → p.2 = X.env.qual ++ "<lambda>") (hdef : defaultsOf params X.env = ([], []))
    (hg : Gl X x) (hm : X.mg x = some (.ref g)) (hk : PySem.W.keepIn X.K (.ref g) = true)
    (lk : X.K.lookup g = some ⟨oc, od, .func (PySem.W.fnOf x x pg bg sg dV kV doc pm an cdv ct), osl⟩) (hcg : PySem.W.codeIn X.K cdv x = true) (hb : L2.Binds X.K (PySem.W.fnOf x x pg bg sg dV kV doc pm an cdv ct) [a] []) (Sg : FnScope Ng [a] sg) (hNg : Ng[0]? = some a) (hva : Vis sg a)
    (hG : GivesZ X Ng x sg g cdv bg a TT) (hr : Room (k + 2) X.A) (L : LamP X.N X.env.scope scope (bsOf none)) (B : LamB params body scope none)
    (hbody : ∀ (A : Around) (outer : List Env) (s : Shared) (H : Hp) (E : XK) (f c' : Addr), Room k (A.deeper (lamEnv X scope s.heap.objs.size f c')) → PE (lamCx X A outer s H E scope f c') body (t E))
    (hdb : (x == ("__debug__" : Str)) = false := by decide) (hd : (a == ("__debug__" : Str)) = false := by decide) (hcd : (a == ("__classdict__" : Str)) = false := by decide) :
    PE X (.Call (.Name x p) [.Lambda params body scope lpos] [] pos) (fun σ H Q => tLamV X T params body scope none σ H fun v H1 => ∃ f : Addr, v = .ref f ∧ TT (fun E H' Q' => t E σ H' Q') H1 Q) := by
  refine ⟨fun pins s σ H Q I h => ?_⟩
  obtain ⟨hT, h⟩ := h
  refine wpAny_Call_Name_kw (ld_glob I hg hm ?_ hdb)
  refine PySem.W.callWith_K (h₀ := X.base) I.ok.mod.kin hk ?_ (by rfl) (by rfl)
  show wpAny _ _ (spliced ((false, eval (.Lambda params body scope lpos) X.env) :: backTo pos (starEach [] X.env))) _ _ s
  refine Calls.spliced_cons (thn ((pe_lam0 (T := T) TB hcode hmT hu L hdef).run pins s σ H (fun v H1 => ∃ f : Addr, v = .ref f ∧ LamAt X params body scope none H1 f ∧ TT (fun E H' Q' => t E σ H' Q') H1 Q) I ⟨hT, fun f H1 eN T1 la => ?_⟩) fun u s1 ⟨w, H1, I1, r1, f, ew, la, h1⟩ => ?_)
  · obtain ⟨f', ef, z⟩ := h f H1 eN T1 la
    cases ef
    exact ⟨f, rfl, la, z⟩
  subst ew
  obtain rfl : u = Value.ref f := r1
  refine Calls.spliced_nil ⟨I1.kIn, ?_⟩
  have run : codeAny (model X.prog X.w) X.A (.call (.ref g) ⟨[.ref f], []⟩) (CR C8.CX0 X.stack X.prog X.w H1 s1 Q C8.E0) s1 := by
    refine run_ofS (N := Ng) (ps := [a]) (us := [.ref f]) (vs := [.ref f]) lk hcg Sg hr I1.env0 (hb s1 [.ref f] I1.kIn rfl) (.cons rfl .nil) rfl fun hr2 => ?_
    obtain ⟨t2, ht2, hq2⟩ := hG f (LamAt X params body scope none) s1 H1 Q (fun E H' Q' => t E σ H' Q') (fun W pn xe p1 p2 tk => lz_act (i := 0) (ex := []) I1 L B Un.refl (fun y c e m => by cases m) tk hr2 hbody hNg hva hd hcd) la h1
    exact ⟨t2, ht2.nox, hq2⟩
  refine wpAny_call (codeAny_mono run fun r s2 hq => ?_)
  match r, hq with
  | .error e, hq => exact (show False from hq).elim
  | .ok .next, hq => exact hq.elim
  | .ok .brk, hq => exact hq.elim
  | .ok .cont, hq => exact hq.elim
  | .ok (.ret u), hq => exact I1.after hq
end
end LamZ
set_option Elab.async false
set_option linter.all false
set_option maxRecDepth 100000
set_option maxHeartbeats 4000000
namespace TR
open PySem PySem.Spec PyProof.Rows L2
/-- an error that a frame has in hand, noted and on the ground; sI is the state without it -/
structure Hand (X : Cx) (pins : List (Addr × Obj)) (B : Heap) (sI : Shared) (a : Addr) (cls : Value) (d : Option Addr) (σ : L2.St) (H : Hp) (s : Shared) : Prop where
  inv : Inv X pins σ H sI
  gr : ∀ b o, sI.heap.get? b = some o → b ∉ frs X.stack → B.get? b = some o
  up : sI.heap.UpToSlots s.heap
  fl : HandSPX.FlyingZ B X.stack a (Zc cls d) s.heap
  na : H a = none
  os : s.os = sI.os
  ag : AllBare s.gens
section
variable {X : Cx} {pins : List (Addr × Obj)} {B : Heap} {sI s : Shared} {a : Addr} {cls c : Value} {d : Option Addr} {σ : L2.St} {H : Hp} {x n : Str} {np : Pos}
theorem Hand.here (h : Hand X pins B sI a cls d σ H s) : Inv X pins σ H s := Inv.landed h.inv h.gr h.fl.1 h.up h.os h.ag
theorem Hand.off (h : Hand X pins B sI a cls d σ H s) : a ∉ frs X.stack := fun m => by
  obtain ⟨oe, vs, e1, _, e2⟩ := HandSPX.FlyingZ.there h.fl
  obtain ⟨_, o, e3, nf⟩ := Heap.FunFrames.mem h.fl.2.2.1 m
  exact nf vs (by rw [Option.some.inj (e3.symm.trans e1)]; exact e2)
theorem Hand.suite (h : Hand X pins B sI a cls d σ H s) (hs : X.stack = X.env :: X.outer) (hf : X.env.frame = some X.env.locals) :
    ∃ oe : Obj, Zc cls d oe ∧ (∃ vs, oe.data = .fields vs) ∧ s.heap.get? a = some oe ∧ Inv (X.suite a ((a, oe) :: (X.pn ++ pins))) [] σ H s := by
  obtain ⟨oe, vs, e1, z, e2⟩ := HandSPX.FlyingZ.there h.fl
  have off := h.off
  rw [hs] at off
  refine ⟨oe, z, ⟨vs, e2⟩, e1, Inv.suite h.here e1 e2 h.na (fun w => off ?_) (fun m => off ?_)⟩
  · rw [w]
    exact List.mem_filterMap.mpr ⟨X.env, List.mem_cons_self, hf⟩
  · obtain ⟨e, m1, m2⟩ := List.mem_filterMap.mp m
    exact List.mem_filterMap.mpr ⟨e, List.mem_cons_of_mem _ m1, m2⟩
/-- the test of a clause -/
theorem Hand.test (h : Hand X pins B sI a cls d σ H s) (hs : X.stack = X.env :: X.outer) (hf : X.env.frame = some X.env.locals) (hc : Names X x c) {b : Bool} (hb : PySem.W.exmOne X.K cls c = some b) {pos : Pos} {R : Result → Shared → Prop}
    (q : R (.ok (if b then .brk else .next)) s) : codeAny (model X.prog X.w) (X.A.mark (some (.ref a))) (.handlers (.ref a) [.ExceptHandler (some (.Name x np)) none [] pos] X.env) R s := by
  obtain ⟨oe, z, _, e1, S⟩ := h.suite hs hf
  have ty : PySem.W.Looks (model X.prog X.w) s.heap (typeOf (.ref a)) cls := fun _ _ _ _ k r => wpAny_typeOf_ref (k _ _ e1) (by rw [z.1]; exact r)
  have hit := PySem.W.exm_one (M := model X.prog X.w) S.kIn ty hb
  refine codeAny_handlers_test ?_
  obtain ⟨g, nd, m | ⟨m, v, nn⟩⟩ := hc
  · exact ld_glob S g m (hit.here q) nd
  · exact ld_blt S g m v (hit.here q) nn nd
theorem Hand.again (h : Hand X pins B sI a cls d σ H s) {A : Around} {E : Value → Shared → Prop} {Q : Unit → Shared → Prop} (k : ∀ s', Hand X pins B sI a cls d σ H s' → Q () s') : wpAny (model X.prog X.w) A (setFlight (.ref a) none) Q E s :=
  HandSPX.lands_againZ h.fl fun h' f u => k _ ⟨h.inv, h.gr, h.up.trans u, f, h.na, h.os, h.ag⟩
/-- no clause takes it -/
theorem Hand.pass (h : Hand X pins B sI a cls d σ H s) (hs : X.stack = X.env :: X.outer) (hf : X.env.frame = some X.env.locals) {W : WX} (tk : Takes X W) (w : W cls d σ H) {Q : Flow → Shared → Prop} : wpAny (model X.prog X.w) X.A (handleBy (.ref a) X.env []) Q X.xe s := by
  have last : wpAny (model X.prog X.w) X.A (setFlight (.ref a) X.env.frame) (fun _ s4 => wpAny (model X.prog X.w) X.A (throw (.ref a) : Sem Flow) Q X.xe s4) X.xe s := by
    rw [hf]
    refine HandSPX.setFlight_upZ h.fl fun h' hh u => wpAny_throw (tk _ _ ⟨a, B, sI, pins, σ, H, cls, d, rfl, h.inv, h.gr, h.up.trans u, .inr (.inr hh), h.na, h.os, h.ag, w⟩)
  obtain ⟨_, _, _, oe, vs, t, ot, ts, e1, _, e2, e3, _⟩ := h.fl
  refine wpAny_handleBy_nil ?_
  unfold PySem.passOn
  refine wpAny_bind (wpAny_field e1 e2 e3 ?_)
  have ne : ¬ ((Value.ref t == Value.none) = true) := by simp
  rw [if_neg ne]
  first
    | exact wpAny_bind (wpAny_pure (wpAny_bind last))
    | exact wpAny_bind last
end
/-- a clause: the class, the slot of its name (if it has one), and what its suite says -/
structure Clause where
  cls : Value
  slot : Option Nat
  ts : Addr → Value → Option Addr → TS
def Clause.ends (q : Clause) (D : Ends) : Ends := match q.slot with
  | none => D
  | some i => { nx := fun σ H => D.nx (σ.set i none) H, rt := D.rt, bk := fun σ H => D.bk (σ.set i none) H, ct := fun σ H => D.ct (σ.set i none) H }
def Clause.at_ (q : Clause) (a : Addr) (σ : L2.St) : L2.St := match q.slot with
  | none => σ
  | some i => σ.set i (some (.ref a))
/-- what the clauses wish of an error of the body -/
def wish (K : PySem.W.Frag) (W : WX) (D : Ends) : List Clause → WX
  | [] => W
  | q :: r => fun cls d σ H => ∃ b, PySem.W.exmOne K cls q.cls = some b ∧ (b = true → ∀ a, H a = none → q.ts a cls d (q.ends D) (q.at_ a σ) H) ∧ (b = false → wish K W D r cls d σ H)
/-- the clauses of a try, one by one -/
inductive Cls (X : Cx) : List ExceptHandler → List Clause → Prop
  | nil : Cls X [] []
  | bare {x : Str} {q : Clause} {b₀ : Stmt} {suite : List Stmt} {np p : Pos} {hds : List ExceptHandler} {l : List Clause} (hn : Names X x q.cls) (e : q.slot = none)
      (hsu : ∀ (a : Addr) (oe : Obj) (cls : Value) (d : Option Addr) (pn : List (Addr × Obj)), Zc cls d oe → (∃ vs, oe.data = .fields vs) → PSs (X.suite a ((a, oe) :: pn)) (b₀ :: suite) (q.ts a cls d))
      (r : Cls X hds l) : Cls X (.ExceptHandler (some (.Name x np)) none (b₀ :: suite) p :: hds) (q :: l)
  | as {x n : Str} {i : Nat} {q : Clause} {b₀ : Stmt} {suite : List Stmt} {np p : Pos} {hds : List ExceptHandler} {l : List Clause} (hn : Names X x q.cls) (e : q.slot = some i) (hi : X.N[i]? = some n) (hk : X.env.kindOf n = some .local)
      (hsu : ∀ (a : Addr) (oe : Obj) (cls : Value) (d : Option Addr) (pn : List (Addr × Obj)), Zc cls d oe → (∃ vs, oe.data = .fields vs) → PSs (X.suite a ((a, oe) :: pn)) (b₀ :: suite) (q.ts a cls d))
      (r : Cls X hds l) : Cls X (.ExceptHandler (some (.Name x np)) (some n) (b₀ :: suite) p :: hds) (q :: l)
section
variable {X : Cx} {pins : List (Addr × Obj)} {B : Heap} {sI s : Shared} {a : Addr} {cls : Value} {d : Option Addr} {σ : L2.St} {H : Hp} {D : Ends} {W : WX}
/-- what ran in a suite with a name: the name goes -/
theorem ended_as {oe : Obj} {i : Nat} {n : Str} {pos : Pos} {f : Flow} {E : Value → Shared → Prop} {e : Ends} (ok : X.Ok) (hN : X.N.Nodup) (hi : X.N[i]? = some n) (hk : X.env.kindOf n = some .local)
    (he : e = { nx := fun σ H => D.nx (σ.set i none) H, rt := D.rt, bk := fun σ H => D.bk (σ.set i none) H, ct := fun σ H => D.ct (σ.set i none) H })
    (h : SP (X.suite a ((a, oe) :: (X.pn ++ pins))) [] e f s) : wpAny (model X.prog X.w) X.A (do bindName X.env n .none; unbindBehindTheSuite X.env n pos) (fun _ s' => SP X pins D f s') E s := by
  subst he
  cases f with
  | ret u =>
    obtain ⟨v, σ1, H1, I1, r, q⟩ := h
    exact gone_ok (Inv.unsuite I1 ok) hN hi hk fun _ J => ⟨v, _, H1, J, r, q⟩
  | next =>
    obtain ⟨σ1, H1, I1, q⟩ := h
    exact gone_ok (Inv.unsuite I1 ok) hN hi hk fun _ J => ⟨_, H1, J, q⟩
  | brk =>
    obtain ⟨σ1, H1, I1, q⟩ := h
    exact gone_ok (Inv.unsuite I1 ok) hN hi hk fun _ J => ⟨_, H1, J, q⟩
  | cont =>
    obtain ⟨σ1, H1, I1, q⟩ := h
    exact gone_ok (Inv.unsuite I1 ok) hN hi hk fun _ J => ⟨_, H1, J, q⟩
theorem ended_bare {oe : Obj} {f : Flow} (ok : X.Ok) (h : SP (X.suite a ((a, oe) :: (X.pn ++ pins))) [] D f s) : SP X pins D f s := by
  cases f with
  | ret u =>
    obtain ⟨v, σ1, H1, I1, q⟩ := h
    exact ⟨v, σ1, H1, Inv.unsuite I1 ok, q⟩
  | next =>
    obtain ⟨σ1, H1, I1, q⟩ := h
    exact ⟨σ1, H1, Inv.unsuite I1 ok, q⟩
  | brk =>
    obtain ⟨σ1, H1, I1, q⟩ := h
    exact ⟨σ1, H1, Inv.unsuite I1 ok, q⟩
  | cont =>
    obtain ⟨σ1, H1, I1, q⟩ := h
    exact ⟨σ1, H1, Inv.unsuite I1 ok, q⟩
/-- an error in hand goes through the clauses -/
theorem Hand.through {hds : List ExceptHandler} {l : List Clause} (k : Cls X hds l) (hs : X.stack = X.env :: X.outer) (hf : X.env.frame = some X.env.locals) (hN : X.N.Nodup) (tk : Takes X W) (h : Hand X pins B sI a cls d σ H s) (w : wish X.K W D l cls d σ H) :
    wpAny (model X.prog X.w) X.A (handleBy (.ref a) X.env hds) (SP X pins D) X.xe s := by
  have ok := h.inv.ok
  induction k generalizing s with
  | nil => exact h.pass hs hf tk w
  | @bare x q b₀ suite np p hds l hn e hsu r ih =>
    obtain ⟨b, hb, yes, no⟩ := w
    refine wpAny_handleBy_cons (h.test hs hf hn hb ?_) (fun z => by cases z)
    cases b with
    | false => exact ih h (no rfl)
    | true =>
      refine codeAny_handlers_suite (h.again fun s1 h1 => ?_)
      obtain ⟨oe, z, vs, _, S⟩ := h1.suite hs hf
      have go := yes rfl a h.na
      unfold Clause.ends Clause.at_ at go
      rw [e] at go
      exact wpAny_mono ((hsu a oe cls d _ z vs).run [] _ _ _ _ S go) (fun f s2 q2 => ended_bare ok q2) (fun _ _ z => z.elim)
  | @as x n i q b₀ suite np p hds l hn e hi hk hsu r ih =>
    obtain ⟨b, hb, yes, no⟩ := w
    refine wpAny_handleBy_cons (h.test hs hf hn hb ?_) (fun z => by cases z)
    cases b with
    | false => exact ih h (no rfl)
    | true =>
      refine codeAny_handlers_suite_as (h.again fun s1 h1 => ?_)
      obtain ⟨oe, z, vs, _, S⟩ := h1.suite hs hf
      have go := yes rfl a h.na
      unfold Clause.ends Clause.at_ at go
      rw [e] at go
      refine store_ok (X := X.suite a (((a, oe) : Addr × Obj) :: (X.pn ++ pins))) (v := V.ref a) S hN hi (.inl hk) rfl (fun s2 S2 => ?_) (.inr hk)
      exact wpAny_mono ((hsu a oe cls d _ z vs).run [] _ _ _ _ S2 go) (fun f s3 q3 => ended_as ok hN hi hk rfl q3) (fun _ _ z => z.elim)
/-- an error of the body comes into the frame's hand -/
theorem caught {xe : Value → Shared → Prop} {u : Value} {W' : WX} {E : Value → Shared → Prop} {Q : Unit → Shared → Prop} (ok : X.Ok) (hs : X.stack = X.env :: X.outer) (hf : X.env.frame = some X.env.locals) (x : XE (X.tr (X.pn ++ pins) xe) W' u s)
    (k : ∀ a B sI cls d σ H s', u = .ref a → Hand X pins B sI a cls d σ H s' → W' cls d σ H → Q () s') :
    wpAny (model X.prog X.w) X.A (noteFrame u X.env) (fun _ s2 => wpAny (model X.prog X.w) X.A (setFlight u none) Q E s2) E s := by
  obtain ⟨a, B, sI, ps, σ, H, cls, d, rfl, I, gr, up, sky, na, os, ag, w⟩ := x
  have J : Inv X pins σ H sI := Inv.ofTry I ok
  have fr : X.A.frames = some (X.env :: X.outer) := by rw [ok.frames, hs]
  have sk : Sky B (X.env :: X.outer) a (Zc cls d) X.env.locals s.heap := by rw [← hs]; exact sky
  refine Sky.land Zc.steady fr hf sk fun h' f u => k a B sI cls d σ H _ rfl ⟨J, gr, up.trans u, ?_, na, os, ag⟩ w
  rw [hs]
  exact f
end
/-- try with any clauses -/
theorem ps_try {X : Cx} {body : List Stmt} {h₀ : ExceptHandler} {hds : List ExceptHandler} {l : List Clause} {pos : Pos} {tb : WX → TS} {W : WX} (hs : X.stack = X.env :: X.outer) (hf : X.env.frame = some X.env.locals) (hN : X.N.Nodup) (tk : Takes X W)
    (hb : ∀ (W' : WX) (pn : List (Addr × Obj)) (xe : Value → Shared → Prop), Takes (X.tr pn xe) W' → PassesOwn (model X.prog X.w) X.A X.env xe → PSs (X.tr pn xe) body (tb W'))
    (k : Cls X (h₀ :: hds) l) : PS X (.Try body (h₀ :: hds) [] [] pos) (fun D σ H => tb (wish X.K W D l) D σ H) := by
  refine ⟨fun pins s σ H D I h => wpAny_Try_except ?_⟩
  have ok := I.ok
  have run := hb (wish X.K W D l) (X.pn ++ pins) _ (fun u s1 x => caught (E := X.xe) (Q := fun _ s3 => wpAny (model X.prog X.w) X.A (handleBy u X.env (h₀ :: hds)) (SP X pins D) X.xe s3) ok hs hf x fun a B sI cls d σ H s' e g w => by rw [e]; exact Hand.through k hs hf hN tk g w) PassesOwn.looking
  refine wpAny_mono (run.run [] s σ H D (I.toTry _) h) (fun f s1 q => ?_) (fun _ _ z => z)
  cases f with
  | ret u =>
    obtain ⟨v, σ1, H1, J, q⟩ := q
    exact ⟨v, σ1, H1, Inv.ofTry J ok, q⟩
  | next =>
    obtain ⟨σ1, H1, J, q⟩ := q
    exact wpAny_execs_nil ⟨σ1, H1, Inv.ofTry J ok, q⟩
  | brk =>
    obtain ⟨σ1, H1, J, q⟩ := q
    exact ⟨σ1, H1, Inv.ofTry J ok, q⟩
  | cont =>
    obtain ⟨σ1, H1, J, q⟩ := q
    exact ⟨σ1, H1, Inv.ofTry J ok, q⟩
end TR
set_option Elab.async false
set_option linter.all false
set_option maxRecDepth 100000
set_option maxHeartbeats 4000000
namespace AE
open PySem PySem.Spec PyProof.Rows PySem.W PySem.Calls PySem.HandSPX
open Builtin Builtin.ObjectAttr
section
variable {prog : Program} {w : World} {A : Around} {E : Value → Shared → Prop} {R : Result → Shared → Prop} {hp : Heap} {g : Array GenState} {d : Drawn} {t : Nat} {os : OsState}
/-- a further field of such an error: its dict is there -/
theorem ae_osa2 {K : Frag} {name : Str} {tk : Tok} {v : Value} {x C dx : Addr} {fv : Array Value} {m0 : Str → Option Value} {nl : List Str} (T : AeC K C) (X : K.In hp)
    (hx : hp.get? x = some { cls := .ref C, dict := some dx, data := .fields fv }) (hns : hp.Ns1 dx m0) (hw : Within m0 nl) (hz : nl.length ≤ 1000) (ha : findIn K (.ref C) name = some none)
    (k : ∀ (G : Heap) (tk' : Nat), (∀ b o, b ≠ dx → hp.get? b = some o → G.get? b = some o) → G.Ns1 dx (fun z => if z = name then some v else m0 z) → R (.ok (.ret .none)) ⟨G, g, d, tk', os⟩) :
    codeAny (model prog w) A (.call (.builtin "object.__setattr__") ⟨[.ref x, .str name tk, v], []⟩) R ⟨hp, g, d, t, os⟩ := by
  obtain ⟨oD, _, _, hoD, _, _⟩ := hns.count hw
  have I : InstAt hp x { cls := .ref C, dict := some dx, data := .fields fv } C (some oD) := ⟨hx, rfl, rfl, hoD⟩
  obtain ⟨cd, hcd, hh⟩ := any_some T.hd
  have Lc : Looks (model prog w) hp (classData C) cd := looks_clsIn X hcd
  refine osa_openX F.store_ArithmeticError X I T.ov (r := none) (by unfold takerIn; rw [ha]; rfl) fun b => ?_
  show wpAny _ _ (storeInOwnDict (.ref x) (.ref C) (.str name tk) name v b) _ _ _
  obtain ⟨nm, bs, mro, ns, qn, hd, sn, sb, ab, col, del⟩ := cd
  have hh : hd = true := hh
  subst hh
  unfold storeInOwnDict ownDictForStores
  repeat first
    | with_reducible refine PySem.OEX.store_in_old hns hw hz ?_
    | with_reducible refine wpAny_loadPart_at hx ?_
    | with_reducible refine Lc.at ?_
    | wp_step
  intro G t2 hG hs
  exact k G t2 (fun b o nb q => (hs.2 b nb).trans q) hG
end
end AE
namespace AE
open PySem PySem.Spec PyProof.Rows L2
section
variable {X : Cx} {pins : List (Addr × Obj)} {σ : L2.St} {H : Hp} {s : Shared} {a C dx : Addr} {f : Str} {y : V} {u : Value} {Q : Unit → Shared → Prop} {E : Value → Shared → Prop} {A : Around} {fs : List (Str × V)}
theorem ae_more (T : AeC X.K C) (I : Inv X pins σ H s) (e : H a = some (exo a C (some dx))) (ed : H dx = some (exd dx fs)) (hl : fs.length ≤ 900) (hno : PySem.W.findIn X.K (.ref C) f = some none) (ry : RelV y u)
    (k : ∀ s', Inv X pins σ (upd H dx (exd dx ((f, y) :: fs))) s' → Q () s') : wpAny (model X.prog X.w) A (setAttr (.ref a) f u) Q E s := by
  obtain ⟨t1, ho⟩ := exo_at I.hok e
  obtain ⟨mA, hns, rel⟩ := exd_at I.hok ed
  have hw := within_of rel
  obtain ⟨hp, g, d, t, os⟩ := s
  obtain ⟨oD, _, _, hoD, _, _⟩ := hns.count hw
  refine PySem.W.set_plain I.kIn (od := some oD) ⟨ho, rfl, rfl, hoD⟩ T.sa (ae_osa2 T I.kIn ho hns hw (by rw [List.length_map]; omega) hno fun G t2 keep hn => ?_)
  have there : ∃ o, G.get? dx = some o := by
    obtain ⟨o, _, _, z, _⟩ := hn
    exact ⟨o, z⟩
  refine k _ (I.write (t' := t2) (x := dx) (e := dx) (o := exd dx ((f, y) :: fs)) ?_ (.inl rfl) keep there (exd_ok hn (relO_put ry rel)))
  rw [ed]
  exact True.intro
end
/-- self.f = e, a further field of an error that is made -/
def tAst2 (K : PySem.W.Frag) (f : Str) (to te : TE) : TS := fun D σ H => te σ H fun y H1 => to σ H1 fun x H2 => ∃ (a C dx : Addr) (fs : List (Str × V)), x = .ref a ∧ AeC K C ∧ PySem.W.findIn K (.ref C) f = some none ∧ H2 a = some (exo a C (some dx)) ∧ H2 dx = some (exd dx fs) ∧ fs.length ≤ 900 ∧
  D.nx σ (upd H2 dx (exd dx ((f, y) :: fs)))
theorem ps_ast2 {X : Cx} {o e : Expr} {to te : TE} {f : Str} {p pos : Pos} (ho : PE X o to) (he : PE X e te) (hs : swapsWith e (some (.Attribute o f p)) pos.line X.env = pure false := by rfl) : PS X (.Assign [.Attribute o f p] e pos) (tAst2 X.K f to te) := by
  refine ⟨fun pins s σ H D I h => plainObj_wpAny_Assign_Attribute (thn (he.run pins s σ H _ I h) fun v s1 ⟨y, H1, I1, r1, q1⟩ => thn (ho.run pins s1 σ H1 _ I1 q1) fun u s2 q2 => ?_) hs⟩
  obtain ⟨x, H2, I2, r2, a, C, dx, fs, rfl, T, hno, ea, ed, hl, q⟩ := q2
  obtain rfl : u = Value.ref a := r2
  exact ae_more T I2 ea ed hl hno r1 fun s' J => ⟨σ, _, J, q⟩
end AE
/-! isinstance of a caught error that has its dict -/
namespace AE
open PySem PySem.Spec PySem.Calls PyProof.Rows PySem.W
section
variable {prog : Program} {w : World} {A : Around} {E : Value → Shared → Prop} {s : Shared} {K : Frag} {x D : Addr} {ox od : Obj}
theorem cls_of (C : L2.ExcC K D) (X : K.In s.heap) (I : InstAt s.heap x ox D (some od)) {Q : Option Value → Shared → Prop} (h : Q (some (.ref D)) { s with toks := s.toks + 1 }) : wpAny (model prog w) A (getAttr? (.ref x) "__class__") Q E s := by
  have fo : findObj K D (some od) "__class__" = some (.bind (.builtin "getset_descriptor.__get__") (.builtin "object.__class__")) := by
    obtain ⟨cd, hc, _⟩ := any_some C.hd
    exact findObj_data (by rw [hc]; rfl) C.ha C.hn C.ht
  obtain ⟨hp, g, d, t, os⟩ := s
  have ty := I.type (M := model prog w)
  have l1 := looks_findIn (M := model prog w) X C.hg
  have l2 := looks_findIn (M := model prog w) X C.hk
  have l3 := looks_find (M := model prog w) X I fo
  have sub : Looks (model prog w) hp (isInstance (.ref x) (.type "BaseException")) true := ty.andThen (looks_subIn X C.hs)
  have n0 : (false && onTheHeap (Value.builtin "BaseException.__getattribute__")) = false := rfl
  have n2 : (Value.builtin "BaseException.__getattribute__" == Value.builtin "object.__getattribute__") = false := by decide +kernel
  have n1 : ¬ (onTheHeap (Value.ref D) && Value.builtin "BaseException.__getattribute__" == Value.builtin "object.__getattribute__") = true := by
    rw [n2]
    exact Bool.false_ne_true
  unfold getAttr? getAttrBy? getAttrBy
  refine wpAny_bind (wpAny_mkText (wpAny_bind (wpAny_attempt (wpAny_holding (wpAny_bind (ty.at (wpAny_bind (l1.at ?_))))))))
  show wpAny _ _ (if (onTheHeap (Value.ref D) && Value.builtin "BaseException.__getattribute__" == Value.builtin "object.__getattribute__") = true then _ else _) _ _ _
  rw [if_neg n1]
  unfold getAttrByItsOwn hookBefore
  refine wpAny_bind ?_
  have on : onTheHeap (Value.ref D) = true := rfl
  rw [if_pos on]
  refine l2.at (wpAny_bind (wpAny_attempt (wpAny_holding ?_)))
  unfold callGetattribute
  rw [n0, if_neg Bool.false_ne_true]
  unfold boundAndCalled
  rw [PySem.F.excAttr_ValueError.ga.bind (.ref x)]
  refine wpAny_bind (wpAny_pure ?_)
  show wpAny _ _ (call (.builtin "BaseException.__getattribute__") [.ref x, .str "__class__" t]) _ _ _
  refine wpAny_call (codeAny_call_builtin PySem.F.excAttr_ValueError.ga.plain PySem.F.entry_bexc_ga (@check_slot (model prog w) _ _ ⟨hp, g, d, t + 1, os⟩ "BaseException.__getattribute__" "BaseException" "__getattribute__" (.ref x) [.str "__class__" t] [] _ (by decide +kernel) (by decide +kernel) sub (PySem.F.args_bexc_ga (.ref x) (.str "__class__" t)) ?_))
  unfold Builtin.«object.__getattribute__»
  refine wpAny_bind (wpAny_of_eq (a := ((Value.ref x : Value), [Value.str "__class__" t])) (by first | rfl | (simp only [slotArgs]; rfl)) (wpAny_bind (wpAny_pure (wpAny_bind (ty.at (wpAny_bind (l3.at ?_)))))))
  show wpAny _ _ (holding [Value.builtin "object.__class__"] (call (.builtin "getset_descriptor.__get__") [.builtin "object.__class__", .ref x, .ref D]) >>= ret) _ _ _
  refine wpAny_bind (wpAny_holding (wpAny_call (class_get (s := ⟨hp, g, d, t + 1, os⟩) (ox := ox) (od := some od) X I C.hm (wpAny_pure ?_))))
  show wpAny _ _ (handedOut (.ref D)) _ _ _
  rw [handedOut_of (v := .ref D) rfl]
  first
    | exact wpAny_pure (wpAny_pure h)
    | exact wpAny_pure h
    | exact wpAny_pure (wpAny_bind (wpAny_pure (wpAny_pure h)))
theorem kit_of (C : L2.ExcC K D) : KitX K (.ref x) (.ref D) (fun h => InstAt h x ox D (some od)) where
  ty := fun _ _ _ I => I.type
  it := fun _ _ X _ => by
    obtain ⟨cd, hc, _⟩ := any_some C.hd
    unfold clsIn at hc
    split at hc
    · rename_i ho
      intro A' Q' E' s' k q
      unfold isType loadHead
      exact wpAny_bind (wpAny_loadPart (k _ _ (X _ _ ho)) (wpAny_pure q))
    · cases hc
  ne := fun h tp dd its n sl X htp => by
    obtain ⟨cd, hc, _⟩ := any_some C.hd
    refine Bool.eq_false_iff.mpr fun q => ?_
    have e : D = tp := Value.ref.inj (beq_iff_eq.mp q)
    subst e
    unfold clsIn at hc
    split at hc
    · rename_i ho
      exact nomatch (X _ _ ho).symm.trans htp
    · cases hc
  ca := fun X I k => cls_of C X I k
end
end AE
namespace AE
open PySem PySem.Spec PyProof.Rows L2
/-- isinstance(e, c) in a suite that holds the error e with its dict -/
theorem call_isD {X : Cx} {a D dd : Addr} {oe : Obj} {pn : List (Addr × Obj)} {fs : List (Str × V)} (C : ExcC X.K D) (hz : Zc (.ref D) (some dd) oe) (hf : ∃ vs, oe.data = .fields vs) :
    CallR (X.suite a ((a, oe) :: pn)) (.builtin "isinstance") (fun xs H Q => H dd = some (.xd fs) ∧ rIsE X.K D a xs H Q) := by
  intro pins s σ H xs us Q I r h
  obtain ⟨hd, c, cv, b, rfl, hcv, e, q⟩ := h
  have ha := I.hok dd _ hd
  obtain ⟨mA, hns, hr⟩ := ha
  obtain ⟨od, ho, _⟩ := lookIn_ns hns
  match us, r with
  | [_, _], .cons rx (.cons rt .nil) =>
    cases rx
    have ec := hcv _ rt
    subst ec
    obtain ⟨hget, _⟩ := I.pin (a, oe) (List.mem_append_left _ List.mem_cons_self)
    obtain ⟨vs, hv⟩ := hf
    have J : PySem.W.InstAt s.heap a oe D (some od) := ⟨hget, hz.1, by unfold PySem.W.notCls; rw [hv] <;> rfl, by rw [hz.2]; exact ho⟩
    exact PySem.W.kia_one (kit_of C) I.kIn J e (fun z => nomatch z) fun tk => ⟨.bl b, H, I.kept (t' := tk) fun _ _ z => z, rfl, q⟩
end AE
set_option Elab.async false
set_option linter.all false
set_option maxRecDepth 100000
set_option maxHeartbeats 4000000
namespace W17
open PySem PySem.Spec PyProof.Rows L2
section
variable {P : Program} {w : World} {K : PySem.W.Frag} {mg : Str → Option Value} {base : Heap}
/-- what stands behind the top of an error of the program -/
structure ErrOk (K : PySem.W.Frag) (C : Addr) (fs : List Str) : Prop where
  ae : AE.AeC K C
  xf : XfC K C
  no : ∀ f ∈ fs, PySem.W.findIn K (.ref C) f = some none
  init : PySem.W.findIn K (.ref C) "__init__" = some (some (.ref (He.ma K C "__init__")))
  ty : PySem.W.typeIn K (.ref (He.ma K C "__init__")) = some (.type "function")
  at_ : PySem.W.findIn K (.ref C) "__class__" = some (some (.builtin "object.__class__"))
  mro : PySem.W.mroIn K C (.type "object") = some true
theorem errB_ok {C : Addr} {fs : List Str} (h : errB K C fs = true) : ErrOk K C fs := by
  obtain ⟨e1, e⟩ := He.ba h
  obtain ⟨e2, e⟩ := He.ba e
  obtain ⟨e3, e⟩ := He.ba e
  obtain ⟨e4, e⟩ := He.ba e
  obtain ⟨e5, e⟩ := He.ba e
  obtain ⟨e6, e7⟩ := He.ba e
  exact ⟨AE.aeB_ok e1, xfB_ok e2, fun f m => of_decide_eq_true (List.all_eq_true.mp e3 f m), of_decide_eq_true e4, of_decide_eq_true e5, He.eqO_ok e6, of_decide_eq_true e7⟩
theorem Ctx.tail (T : Ctx w K mg) : (isaB K (He.ga K "Source") && (errsB K && (marksB K && (eqB K && notB K)))) = true := (He.ba (He.ba (He.ba (He.ba T.more).2).2).2).2
theorem Ctx.errs (T : Ctx w K mg) : errsB K = true := (He.ba (He.ba T.tail).2).1
theorem Ctx.marks (T : Ctx w K mg) : marksB K = true := (He.ba (He.ba (He.ba T.tail).2).2).1
theorem Ctx.eqs (T : Ctx w K mg) : eqB K = true := (He.ba (He.ba (He.ba (He.ba T.tail).2).2).2).1
theorem Ctx.nots (T : Ctx w K mg) : notB K = true := (He.ba (He.ba (He.ba (He.ba T.tail).2).2).2).2
theorem Ctx.errS (T : Ctx w K mg) : ErrOk K (He.ga K "InvalidSource") ["part", "at"] := errB_ok (He.ba T.errs).1
theorem Ctx.errA (T : Ctx w K mg) : ErrOk K (He.ga K "InvalidArgument") ["part"] := errB_ok (He.ba (He.ba T.errs).2).1
theorem Ctx.errN (T : Ctx w K mg) : ErrOk K (He.ga K "InvalidNumber") ["number"] := errB_ok (He.ba (He.ba T.errs).2).2
theorem Ctx.exc (T : Ctx w K mg) {C : Addr} {fs : List Str} (O : ErrOk K C fs) : ExcC K C := by
  obtain ⟨_, e⟩ := He.ba (show (He.eqO (PySem.W.findIn K (.ref (He.ga K "Source")) "__class__") (some (some (.builtin "object.__class__"))) && (He.eqO (PySem.W.specialIn K (.builtin "object.__class__") "__get__") (some (some (.builtin "getset_descriptor.__get__"))) && (decide (PySem.W.takesIn K (.builtin "object.__class__") = some true) && (decide (PySem.W.mroIn K (He.ga K "Source") (.type "object") = some true) && decide (PySem.W.kitOne K (.ref (He.ga K "Source")) (.ref (He.ga K "Source")) = some true))))) = true from (He.ba T.tail).1)
  obtain ⟨e2, e⟩ := He.ba e
  obtain ⟨e3, _⟩ := He.ba e
  exact ⟨O.xf.ga, O.xf.gg, O.xf.exC, O.xf.hdC, O.at_, He.eqO_ok e2, of_decide_eq_true e3, O.mro⟩
def spArgInit (K : PySem.W.Frag) : Sp := fun vs H Q _ => ∃ (a C : Addr) (y : V), vs = [.ref a, y] ∧ ErrOk K C ["part"] ∧ H a = some (exo a C none) ∧ ∀ dx, H dx = none → dx ≠ a → Q .non (upd (upd H dx (exd dx [("part", y)])) a (exo a C (some dx)))
theorem sc_arg_init : FnScope ["self", "part"] ["self", "part"] (defScope s_InvalidArgument_init) := ⟨rfl, rfl, rfl, by decide +kernel, rfl, by decide +kernel, by decide +kernel⟩
theorem ok_arg_init (T : Ctx w K mg) : HasM P w K mg base 1 "InvalidArgument" "__init__" ["self", "part"] (spArgInit K) := by
  obtain ⟨fd, F⟩ := T.D_InvalidArgument_init
  refine ⟨⟨fd, F.ok sc_arg_init (fun vs H Q E h => ?_) (fun cdv A outer s H vs Q E hr h => ?_), F.bindsN fun _ _ _ _ _ _ us hl => match us, hl with | [_, _], _ => rfl⟩⟩
  · obtain ⟨a, C, y, rfl, _⟩ := h
    rfl
  · obtain ⟨a, C, y, rfl, O, ha, k⟩ := h
    refine ⟨_, PSs.nox (pss_one (AE.ps_ast (pv 0) (pv 1))), ?_⟩
    exact ⟨_, rfl, _, rfl, a, C, rfl, O.ae, O.no _ (by simp), ha, fun dx n ne => k dx n ne⟩

def spNumInit (K : PySem.W.Frag) : Sp := fun vs H Q _ => ∃ (a C : Addr) (y : V), vs = [.ref a, y] ∧ ErrOk K C ["number"] ∧ H a = some (exo a C none) ∧ ∀ dx, H dx = none → dx ≠ a → Q .non (upd (upd H dx (exd dx [("number", y)])) a (exo a C (some dx)))
theorem sc_num_init : FnScope ["self", "number"] ["self", "number"] (defScope s_InvalidNumber_init) := ⟨rfl, rfl, rfl, by decide +kernel, rfl, by decide +kernel, by decide +kernel⟩
theorem ok_num_init (T : Ctx w K mg) : HasM P w K mg base 1 "InvalidNumber" "__init__" ["self", "number"] (spNumInit K) := by
  obtain ⟨fd, F⟩ := T.D_InvalidNumber_init
  refine ⟨⟨fd, F.ok sc_num_init (fun vs H Q E h => ?_) (fun cdv A outer s H vs Q E hr h => ?_), F.bindsN fun _ _ _ _ _ _ us hl => match us, hl with | [_, _], _ => rfl⟩⟩
  · obtain ⟨a, C, y, rfl, _⟩ := h
    rfl
  · obtain ⟨a, C, y, rfl, O, ha, k⟩ := h
    refine ⟨_, PSs.nox (pss_one (AE.ps_ast (pv 0) (pv 1))), ?_⟩
    exact ⟨_, rfl, _, rfl, a, C, rfl, O.ae, O.no _ (by simp), ha, fun dx n ne => k dx n ne⟩
def spSrcErr (K : PySem.W.Frag) : Sp := fun vs H Q _ => ∃ (a C : Addr) (y z : V), vs = [.ref a, y, z] ∧ ErrOk K C ["part", "at"] ∧ H a = some (exo a C none) ∧ ∀ dx, H dx = none → dx ≠ a → Q .non (upd (upd (upd H dx (exd dx [("part", y)])) a (exo a C (some dx))) dx (exd dx [("at", z), ("part", y)]))
theorem sc_src_err : FnScope ["self", "part", "at"] ["self", "part", "at"] (defScope s_InvalidSource_init) := ⟨rfl, rfl, rfl, by decide +kernel, rfl, by decide +kernel, by decide +kernel⟩
theorem ok_src_err (T : Ctx w K mg) : HasM P w K mg base 1 "InvalidSource" "__init__" ["self", "part", "at"] (spSrcErr K) := by
  obtain ⟨fd, F⟩ := T.D_InvalidSource_init
  refine ⟨⟨fd, F.ok sc_src_err (fun vs H Q E h => ?_) (fun cdv A outer s H vs Q E hr h => ?_), F.bindsN fun _ _ _ _ _ _ us hl => match us, hl with | [_, _, _], _ => rfl⟩⟩
  · obtain ⟨a, C, y, z, rfl, _⟩ := h
    rfl
  · obtain ⟨a, C, y, z, rfl, O, ha, k⟩ := h
    refine ⟨_, PSs.nox (pss_cons (AE.ps_ast (pv 0) (pv 1)) (pss_one (AE.ps_ast2 (pv 0) (pv 2)))), ?_⟩
    refine ⟨_, rfl, _, rfl, a, C, rfl, O.ae, O.no _ (by simp), ha, fun dx n ne => ?_⟩
    exact ⟨_, rfl, _, rfl, a, C, dx, _, rfl, O.ae, O.no _ (by simp), upd_same, by rw [upd_ne ne, upd_same], by show 1 ≤ 900; decide, k dx n ne⟩
theorem arg_made {C a : Addr} {y : V} {H1 : Hp} {Q : XK} (hn : H1 a = none) (O : ErrOk K C ["part"]) (k : ∀ d, H1 d = none → Q (.ref C) (some d) (upd H1 d (.xd [("part", y)]))) :
    spArgInit K [.ref a, y] (upd H1 a (exo a C none)) (fun v H2 => v = .non ∧ ∃ (d : Addr) (fs : List (Str × V)), H2 a = some (exo a C (some d)) ∧ H2 d = some (exd d fs) ∧ H1 d = none ∧ Q (.ref C) (some d) (upd (del H2 a) d (.xd fs))) (fun _ _ _ => False) := by
  refine ⟨a, C, y, rfl, O, upd_same, fun d n ne => ⟨rfl, d, _, upd_same, by rw [upd_ne ne, upd_same], by rw [upd_ne ne] at n; exact n, ?_⟩⟩
  have n1 : H1 d = none := by rw [upd_ne ne] at n; exact n
  have e : upd (del (upd (upd (upd H1 a (exo a C none)) d (exd d [("part", y)])) a (exo a C (some d))) a) d (.xd [("part", y)]) = upd H1 d (.xd [("part", y)]) := by
    funext b
    by_cases c : b = d
    · rw [c, upd_same, upd_same]
    · rw [upd_ne c, upd_ne c]
      by_cases c2 : b = a
      · rw [c2, del_same, hn]
      · rw [del_ne c2, upd_ne c2, upd_ne c, upd_ne c2]
  rw [e]
  exact k d n1

theorem num_made {C a : Addr} {y : V} {H1 : Hp} {Q : XK} (hn : H1 a = none) (O : ErrOk K C ["number"]) (k : ∀ d, H1 d = none → Q (.ref C) (some d) (upd H1 d (.xd [("number", y)]))) :
    spNumInit K [.ref a, y] (upd H1 a (exo a C none)) (fun v H2 => v = .non ∧ ∃ (d : Addr) (fs : List (Str × V)), H2 a = some (exo a C (some d)) ∧ H2 d = some (exd d fs) ∧ H1 d = none ∧ Q (.ref C) (some d) (upd (del H2 a) d (.xd fs))) (fun _ _ _ => False) := by
  refine ⟨a, C, y, rfl, O, upd_same, fun d n ne => ⟨rfl, d, _, upd_same, by rw [upd_ne ne, upd_same], by rw [upd_ne ne] at n; exact n, ?_⟩⟩
  have n1 : H1 d = none := by rw [upd_ne ne] at n; exact n
  have e : upd (del (upd (upd (upd H1 a (exo a C none)) d (exd d [("number", y)])) a (exo a C (some d))) a) d (.xd [("number", y)]) = upd H1 d (.xd [("number", y)]) := by
    funext b
    by_cases c : b = d
    · rw [c, upd_same, upd_same]
    · rw [upd_ne c, upd_ne c]
      by_cases c2 : b = a
      · rw [c2, del_same, hn]
      · rw [del_ne c2, upd_ne c2, upd_ne c, upd_ne c2]
  rw [e]
  exact k d n1
theorem src_made {C a : Addr} {y z : V} {H1 : Hp} {Q : XK} (hn : H1 a = none) (O : ErrOk K C ["part", "at"]) (k : ∀ d, H1 d = none → Q (.ref C) (some d) (upd H1 d (.xd [("at", z), ("part", y)]))) :
    spSrcErr K [.ref a, y, z] (upd H1 a (exo a C none)) (fun v H2 => v = .non ∧ ∃ (d : Addr) (fs : List (Str × V)), H2 a = some (exo a C (some d)) ∧ H2 d = some (exd d fs) ∧ H1 d = none ∧ Q (.ref C) (some d) (upd (del H2 a) d (.xd fs))) (fun _ _ _ => False) := by
  refine ⟨a, C, y, z, rfl, O, upd_same, fun d n ne => ⟨rfl, d, _, by rw [upd_ne ne.symm, upd_same], upd_same, by rw [upd_ne ne] at n; exact n, ?_⟩⟩
  have n1 : H1 d = none := by rw [upd_ne ne] at n; exact n
  have e : upd (del (upd (upd (upd (upd H1 a (exo a C none)) d (exd d [("part", y)])) a (exo a C (some d))) d (exd d [("at", z), ("part", y)])) a) d (.xd [("at", z), ("part", y)]) = upd H1 d (.xd [("at", z), ("part", y)]) := by
    funext b
    by_cases c : b = d
    · rw [c, upd_same, upd_same]
    · rw [upd_ne c, upd_ne c]
      by_cases c2 : b = a
      · rw [c2, del_same, hn]
      · rw [del_ne c2, upd_ne c, upd_ne c2, upd_ne c, upd_ne c2]
  rw [e]
  exact k d n1
/-- raise C(e, ..) of an error of the program -/
theorem ps_raiseE {X : Cx} {x : Str} {C : Addr} {fs ps : List Str} {sp : Sp} {e : Expr} {es : List Expr} {ta : TA} {W : WX} {p pos pos2 : Pos} {k : Nat} {fd : FuncData} (hc : X.calm = true) (tk : Takes X W) (O : ErrOk X.K C fs)
    (F : FnOk X.prog X.w X.K X.mg X.base CX0 k (He.ma X.K C "__init__") fd ps sp) (b : Binds X.K fd ps []) (hr : Room (k + 1) X.A) (hg : Gl X x)
    (hm : X.mg x = some (.ref C)) (ha : PA X (e :: es) ta) (hd : (x == ("__debug__" : Str)) = false := by decide) (h1 : starEach (e :: es) X.env = (false, eval e X.env) :: starEach es X.env := by rfl) (h2 : (backTo pos (starEach es X.env)).any (·.1) = false := by rfl) :
    PS X (.Raise (some (.Call (.Name x p) (e :: es) [] pos)) none pos2) (fun _ σ H => tMkO C sp [] ta σ H fun cls d H' => W cls d σ H') :=
  ps_raise hc tk (AE.pmk_ae O.ae O.init O.ty F hr b pass0 hg hm ha hd h1 h2)
/-- a def that keeps its promise and may raise -/
structure HasX (P : Program) (w : World) (K : PySem.W.Frag) (mg : Str → Option Value) (base : Heap) (k : Nat) (x : Str) (ps : List Str) (sp : Sp) : Prop where
  ex : ∃ fd, FnOk P w K mg base (L2.CX P w) k (He.ga K x) fd ps sp ∧ Binds K fd ps []
  kp : PySem.W.keepIn K (.ref (He.ga K x)) = true
  gl : mg x = some (.ref (He.ga K x))
structure HasMX (P : Program) (w : World) (K : PySem.W.Frag) (mg : Str → Option Value) (base : Heap) (k : Nat) (C m : Str) (ps : List Str) (sp : Sp) : Prop where
  ex : ∃ fd, FnOk P w K mg base (L2.CX P w) k (He.ma K (He.ga K C) m) fd ps sp ∧ Binds K fd ps []
/-- what is wished of InvalidText(i), of InvalidSource(part, at) -/
def ArgE (K : PySem.W.Frag) (H : Hp) (v : V) (E : XK) : Prop := ∀ d, H d = none → E (.ref (He.ga K "InvalidArgument")) (some d) (upd H d (.xd [("part", v)]))
def NumE (K : PySem.W.Frag) (H : Hp) (v : V) (E : XK) : Prop := ∀ d, H d = none → E (.ref (He.ga K "InvalidNumber")) (some d) (upd H d (.xd [("number", v)]))
def SrcE (K : PySem.W.Frag) (H : Hp) (y z : V) (E : XK) : Prop := ∀ d, H d = none → E (.ref (He.ga K "InvalidSource")) (some d) (upd H d (.xd [("at", z), ("part", y)]))
end
end W17
set_option Elab.async false
set_option linter.all false
set_option maxRecDepth 100000
set_option maxHeartbeats 4000000
namespace W17
open PySem PySem.Spec PyProof.Rows L2 RZ
section
variable {P : Program} {w : World} {K : PySem.W.Frag} {mg : Str → Option Value} {base : Heap}
/-- a test of things of any kind -/
def spT (f : Th → Bool) : Sp := fun vs H Q _ => ∃ (v : V) (t : Th), vs = [v] ∧ ThAt H v t ∧ ∀ H', Same H H' → Q (.bl (f t)) H'
def spIntInT : Sp := fun vs H Q _ => ∃ (v : V) (t : Th) (lo hi : Int), vs = [v, .int lo, .int hi] ∧ ThAt H v t ∧ ∀ H', Same H H' → Q (.bl (intInT lo hi t)) H'
def spTupOfT : Sp := fun vs H Q _ => ∃ (v : V) (t : Th) (n : Nat), vs = [v, .int n] ∧ ThAt H v t ∧ ∀ H', Same H H' → Q (.bl (tupOfT n t)) H'
def spListOfT : Sp := fun vs H Q _ => ∃ (v : V) (t : Th) (lo hi : Nat), vs = [v, .int lo, .int hi] ∧ ThAt H v t ∧ ∀ H', Same H H' → Q (.bl (lstOfT lo hi t)) H'
theorem range_all {a : Array Nat} {g : Nat → Bool} : ((List.range a.size).map fun i => g (a.getD i 0)).all id = a.toList.all g := by
  have e : (List.range a.size).map (fun i => a.getD i 0) = a.toList := by
    apply List.ext_getElem
    · simp
    · intro i h1 h2
      simp
      simp at h1
      rw [Array.getElem?_eq_getElem h1]
      rfl
  rw [← e, List.all_map, List.all_map]
  rfl
theorem int_dec {m n : Nat} : decide (V.int (m : Int) = V.int (n : Int)) = decide (m = n) := by
  by_cases c : m = n
  · rw [c, decide_eq_true rfl, decide_eq_true rfl]
  · rw [decide_eq_false c, decide_eq_false fun z => c (by have := V.int.inj z; omega)]
theorem nat_dec {m n : Nat} : decide ((m : Int) ≤ (n : Int)) = decide (m ≤ n) := by
  by_cases c : m ≤ n
  · rw [decide_eq_true c, decide_eq_true (by omega)]
  · rw [decide_eq_false c, decide_eq_false (by omega)]
def writtenT : Th → Bool := intInT (-1000000000) 1000000000

theorem okT_is_integer (T : Ctx w K mg) : Has P w K mg base 1 "is_integer" ["thing"] (spT intT) := by
  obtain ⟨fd, F⟩ := T.D_is_integer
  refine ⟨⟨fd, F.ok sc_is_integer (fun vs H Q E h => ?_) (fun cdv A outer s H vs Q E hr h => ?_), F.bindsN fun _ _ _ _ _ _ us hl => match us, hl with | [_], _ => rfl⟩, F.kp, T.g_is_integer⟩
  · obtain ⟨v, t, rfl, h, k⟩ := h; rfl
  · obtain ⟨v, t, rfl, h, k⟩ := h
    have hu := hu_of hr
    refine ⟨_, PSs.nox (pss_one (ps_ret (pe_and (pe_callB call_isi (by rfl) T.f_isinstance (by decide +kernel) (pa_cons (pv 0) (pa_cons (pe_bltn (v := .ty "int") (u := .type "int") rfl T.f_int (by decide +kernel) rfl) pa_nil))) (pe_one (pe_not (pe_callB call_isi (by rfl) T.f_isinstance (by decide +kernel) (pa_cons (pv 0) (pa_cons (pe_bltn (v := .ty "bool") (u := .type "bool") rfl T.f_bool (by decide +kernel) rfl) pa_nil)))))))), ?_⟩
    have k := k H (Same.refl _)
    refine ⟨_, rfl, _, _, _, _, t.isInt, rfl, .ty _, h.ty, kit_ty t.kInt, t.isInt, rfl, ?_⟩
    cases t with
    | int i =>
      refine iteT ?_
      exact ⟨_, rfl, _, _, _, _, false, rfl, .ty _, h.ty, kit_ty (Th.kBl _), false, rfl, k⟩
    | bl b =>
      refine iteT ?_
      exact ⟨_, rfl, _, _, _, _, true, rfl, .ty _, h.ty, kit_ty (Th.kBl _), true, rfl, k⟩
    | _ => exact iteF k
theorem okT_is_integer_in (T : Ctx w K mg) (H_is_integer : Has P w K mg base 1 "is_integer" ["thing"] (spT intT)) : Has P w K mg base 2 "is_integer_in" ["thing", "least", "most"] spIntInT := by
  obtain ⟨fd, F⟩ := T.D_is_integer_in
  obtain ⟨fd_is_integer, G_is_integer, b_is_integer⟩ := H_is_integer.ex
  refine ⟨⟨fd, F.ok sc_is_integer_in (fun vs H Q E h => ?_) (fun cdv A outer s H vs Q E hr h => ?_), F.bindsN fun _ _ _ _ _ _ us hl => match us, hl with | [_, _, _], _ => rfl⟩, F.kp, T.g_is_integer_in⟩
  · obtain ⟨v, t, lo, hi, rfl, h, k⟩ := h; rfl
  · obtain ⟨v, t, lo, hi, rfl, h, k⟩ := h
    have hr_is_integer : Room 1 _ := hr.mono (by decide)
    have hu := hu_of hr
    refine ⟨_, PSs.nox (pss_one (ps_ret (pe_and (pe_call G_is_integer hr_is_integer (by rfl) H_is_integer.gl H_is_integer.kp b_is_integer .nil pass0 (pa_cons (pv 0) pa_nil)) (pe_one (pe_chain op_le op_le (pv 1) (pv 0) (pv 2)))))), ?_⟩
    refine ⟨_, rfl, v, t, rfl, h, fun H1 s1 => ?_⟩
    have k := k H1 s1
    refine ⟨_, rfl, ?_⟩
    cases t with
    | int i =>
      cases h
      refine iteT ?_
      refine ⟨_, rfl, _, rfl, _, _, rfl, rfl, _, rfl, ?_⟩
      have k : Q (.bl (decide (lo ≤ i) && decide (i ≤ hi))) H1 := k
      by_cases c : lo ≤ i
      · rw [decide_eq_true c] at k
        exact ifT (decide_eq_true c) ⟨_, rfl, _, _, rfl, rfl, k⟩
      · rw [decide_eq_false c] at k
        exact ifF (decide_eq_false c) k
    | _ => exact iteF k
theorem okT_is_written_number (T : Ctx w K mg) (H_is_integer_in : Has P w K mg base 2 "is_integer_in" ["thing", "least", "most"] spIntInT) : Has P w K mg base 3 "is_written_number" ["thing"] (spT writtenT) := by
  obtain ⟨fd, F⟩ := T.D_is_written_number
  obtain ⟨fd_is_integer_in, G_is_integer_in, b_is_integer_in⟩ := H_is_integer_in.ex
  refine ⟨⟨fd, F.ok sc_is_written_number (fun vs H Q E h => ?_) (fun cdv A outer s H vs Q E hr h => ?_), F.bindsN fun _ _ _ _ _ _ us hl => match us, hl with | [_], _ => rfl⟩, F.kp, T.g_is_written_number⟩
  · obtain ⟨v, t, rfl, h, k⟩ := h; rfl
  · obtain ⟨v, t, rfl, h, k⟩ := h
    have hr_is_integer_in : Room 2 _ := hr.mono (by decide)
    have hu := hu_of hr
    obtain ⟨tk, e_GREATEST_WRITTEN⟩ := T.i_GREATEST_WRITTEN
    refine ⟨_, PSs.nox (pss_one (ps_ret (pe_call G_is_integer_in hr_is_integer_in (by rfl) H_is_integer_in.gl H_is_integer_in.kp b_is_integer_in .nil pass0 (pa_cons (pv 0) (pa_cons (pe_un un_neg (pe_glob (v := .int 1000000000) rfl e_GREATEST_WRITTEN ⟨_, rfl⟩)) (pa_cons (pe_glob (v := .int 1000000000) rfl e_GREATEST_WRITTEN ⟨_, rfl⟩) pa_nil)))))), ?_⟩
    exact ⟨_, rfl, _, rfl, v, t, _, _, rfl, h, k⟩
theorem okT_is_name (T : Ctx w K mg) : Has P w K mg base 1 "is_name" ["thing"] (spT nameT) := by
  obtain ⟨fd, F⟩ := T.D_is_name
  refine ⟨⟨fd, F.ok sc_is_name (fun vs H Q E h => ?_) (fun cdv A outer s H vs Q E hr h => ?_), F.bindsN fun _ _ _ _ _ _ us hl => match us, hl with | [_], _ => rfl⟩, F.kp, T.g_is_name⟩
  · obtain ⟨v, t, rfl, h, k⟩ := h; rfl
  · obtain ⟨v, t, rfl, h, k⟩ := h
    have hu := hu_of hr
    obtain ⟨tl, e_LETTERS⟩ := T.s_LETTERS
    obtain ⟨tm, e_MARKS⟩ := T.s_MARKS
    refine ⟨_, PSs.nox (pss_cons (ps_if (PW.pt (pw_or (pt_not (pt_val (pe_callB call_isi (by rfl) T.f_isinstance (by decide +kernel) (pa_cons (pv 0) (pa_cons (pe_bltn (v := .ty "str") (u := .type "str") rfl T.f_str (by decide +kernel) rfl) pa_nil))))) (pw_or1 (pt_not (pt_chain op_le op_le pe_int (pe_callB call_len_str (by rfl) T.f_len (by decide +kernel) (pa_cons (pv 0) pa_nil)) pe_int))))) (pss_one (ps_ret pe_bl)) pss_nil)
      (pss_one (ps_ret (pe_and (pe_cmpR op_in_sign (pe_item_str (pv 0) pe_int (fun _ _ => rfl)) (pe_glob (v := .str "abcdefghijklmnopqrstuvwxyz") rfl e_LETTERS ⟨_, rfl⟩) rfl) (pe_one (pe_callB (cr_all rfl) (by rfl) T.f_all (by decide +kernel) (pa_cons (pe_lc (own := [("mark", 1)]) (g := gName 1) (tt := tYes) rfl sc_is_name.nd (pi_str (pv 0)) (blkOk_by (N := ["thing", "mark"]) (sc := defScope s_is_name) (by decide +kernel)) (fun _ _ _ _ _ => (pg_name (i := 1) sc_is_name.nd rfl (Or.inl rfl))) (fun _ _ _ _ _ => pts_nil) (fun _ _ _ _ _ => (pe_cmpR op_in_sign (pv 1) (pe_glob (v := .str "abcdefghijklmnopqrstuvwxyz0123456789") rfl e_MARKS ⟨_, rfl⟩) rfl))) pa_nil))))))), ?_⟩
    refine ⟨_, rfl, _, _, _, _, t.isStr, rfl, .ty _, h.ty, kit_ty t.kStr, t.isStr, rfl, ?_⟩
    have k0 := k H (Same.refl _)
    cases t with
    | str x =>
      cases h with
      | str _ hx =>
        refine iteF ?_
        have k1 : ∀ H', Same H H' → Q (.bl (nameB x)) H' := k
        unfold nameB at k1
        refine ⟨_, rfl, _, rfl, sz_of (Nat.le_trans (show x.cps.size ≤ 1000 from hx) (by decide)), _, _, rfl, rfl, _, rfl, ?_⟩
        by_cases c1 : 0 < x.cps.size
        · rw [decide_eq_true c1] at k1
          refine ifT (decide_eq_true (show (1 : Int) ≤ ((x.cps.size : Nat) : Int) by omega)) ⟨_, _, rfl, rfl, _, rfl, ?_⟩
          by_cases c2 : x.cps.size ≤ 8
          · rw [decide_eq_true c2] at k1
            refine ifF (show (!decide (((x.cps.size : Nat) : Int) ≤ 8)) = false by rw [decide_eq_true (show ((x.cps.size : Nat) : Int) ≤ 8 by omega)]; rfl) ?_
            have hc0 : x.cps[0]? = some x.cps[0] := Array.getElem?_eq_getElem c1
            rw [hc0] at k1
            have k1 : ∀ H', Same H H' → Q (.bl (true && (true && (decide (x.cps[0] ∈ LETS.cps.toList) && x.cps.toList.all fun c => decide (c ∈ MRKS.cps.toList))))) H' := k1
            refine ⟨_, rfl, _, _, x.cps[0], rfl, rfl, by decide, by decide, Int.ofNat_lt.mpr c1, hc0, _, _, rfl, rfl, _, rfl, ?_⟩
            by_cases c3 : x.cps[0] ∈ LETS.cps.toList
            · refine ifT (decide_eq_true c3) ?_
              have k2 : ∀ H', Same H H' → Q (.bl (x.cps.toList.all fun c => decide (c ∈ MRKS.cps.toList))) H' := fun H' s => by
                have := k1 H' s
                rw [decide_eq_true c3] at this
                exact this
              refine ⟨_, rfl, _, rfl, fun D hD => ?_⟩
              refine lc_pure walk_str hD (fun i => .bl (decide (x.cps.getD i 0 ∈ MRKS.cps.toList))) (by omega) (fun _ _ => trivial) (fun i H1 y H2 hi s1 hy Qe qe => ?_) (fun H1 s1 h1 => ?_)
              · obtain ⟨rfl, c, hc, rfl⟩ := hy
                have e : x.cps.getD i 0 = c := by
                  rw [Array.getD_eq_getD_getElem?, hc]
                  rfl
                rw [e] at qe
                exact ⟨rfl, _, rfl, _, _, rfl, rfl, qe _ (Same.refl _)⟩
              · refine ⟨_, (List.range x.cps.size).map (fun i => decide (x.cps.getD i 0 ∈ MRKS.cps.toList)), rfl, SqL.of (by rw [h1, List.map_map]; rfl), ?_⟩
                have e : ((List.range x.cps.size).map fun i => decide (x.cps.getD i 0 ∈ MRKS.cps.toList)).all id = x.cps.toList.all fun c => decide (c ∈ MRKS.cps.toList) := range_all (g := fun c => decide (c ∈ MRKS.cps.toList))
                rw [e]
                exact k2 _ s1
            · refine ifF (decide_eq_false c3) ?_
              have k2 := k1 H (Same.refl _)
              rw [decide_eq_false c3] at k2
              exact k2
          · rw [decide_eq_false c2] at k1
            refine ifT (show (!decide (((x.cps.size : Nat) : Int) ≤ 8)) = true by rw [decide_eq_false (show ¬ ((x.cps.size : Nat) : Int) ≤ 8 by omega)]; rfl) ?_
            exact k1 H (Same.refl _)
        · rw [decide_eq_false c1] at k1
          refine ifF (decide_eq_false (show ¬ (1 : Int) ≤ ((x.cps.size : Nat) : Int) by omega)) ?_
          exact ⟨_, rfl, ifT rfl (k1 H (Same.refl _))⟩
    | _ => exact iteT k0
theorem okT_is_kind (T : Ctx w K mg) : Has P w K mg base 1 "is_kind" ["thing"] (spT kindT) := by
  obtain ⟨fd, F⟩ := T.D_is_kind
  refine ⟨⟨fd, F.ok sc_is_kind (fun vs H Q E h => ?_) (fun cdv A outer s H vs Q E hr h => ?_), F.bindsN fun _ _ _ _ _ _ us hl => match us, hl with | [_], _ => rfl⟩, F.kp, T.g_is_kind⟩
  · obtain ⟨v, t, rfl, h, k⟩ := h; rfl
  · obtain ⟨v, t, rfl, h, k⟩ := h
    have hu := hu_of hr
    refine ⟨_, PSs.nox (pss_one (ps_ret (pe_and (pe_callB call_isi (by rfl) T.f_isinstance (by decide +kernel) (pa_cons (pv 0) (pa_cons (pe_bltn (v := .ty "str") (u := .type "str") rfl T.f_str (by decide +kernel) rfl) pa_nil))) (pe_one (pe_cmpR op_in_seq (pv 0) (pe_glob (v := .ref (He.ga K "KINDS")) rfl T.g_KINDS rfl) rfl))))), ?_⟩
    refine ⟨_, rfl, _, _, _, _, t.isStr, rfl, .ty _, h.ty, kit_ty t.kStr, t.isStr, rfl, ?_⟩
    have k0 := k H (Same.refl _)
    cases t with
    | str x =>
      cases h
      refine iteT ?_
      refine ⟨_, rfl, _, _, rfl, .inr (T.kinds H), rfl, rfl, ?_⟩
      have e : inV (.str x) (v_KINDS.map (He.Dv.v K)) = (decide (x = "number") || decide (x = "object")) := by
        show ((("number" : Str) == x) || ((("object" : Str) == x) || false)) = _
        rw [Bool.or_false]
        have ee : ∀ y : Str, (y == x) = decide (x = y) := fun y => by
          by_cases c : x = y
          · rw [c, beq_self_eq_true, decide_eq_true rfl]
          · rw [decide_eq_false c]
            exact beq_eq_false_iff_ne.mpr fun z => c z.symm
        rw [ee, ee]
      show Q (.bl (inV (.str x) (v_KINDS.map (He.Dv.v K)))) H
      rw [e]
      exact k0
    | _ => exact iteF k0
theorem okT_is_tuple_of (T : Ctx w K mg) : Has P w K mg base 1 "is_tuple_of" ["thing", "many"] spTupOfT := by
  obtain ⟨fd, F⟩ := T.D_is_tuple_of
  refine ⟨⟨fd, F.ok sc_is_tuple_of (fun vs H Q E h => ?_) (fun cdv A outer s H vs Q E hr h => ?_), F.bindsN fun _ _ _ _ _ _ us hl => match us, hl with | [_, _], _ => rfl⟩, F.kp, T.g_is_tuple_of⟩
  · obtain ⟨v, t, n, rfl, h, k⟩ := h; rfl
  · obtain ⟨v, t, n, rfl, h, k⟩ := h
    have hu := hu_of hr
    refine ⟨_, PSs.nox (pss_one (ps_ret (pe_and (pe_callB call_isi (by rfl) T.f_isinstance (by decide +kernel) (pa_cons (pv 0) (pa_cons (pe_bltn (v := .ty "tuple") (u := .type "tuple") rfl T.f_tuple (by decide +kernel) rfl) pa_nil))) (pe_one (pe_cmpR op_eq (pe_callB call_len_seq (by rfl) T.f_len (by decide +kernel) (pa_cons (pv 0) pa_nil)) (pv 1) (nomark _)))))), ?_⟩
    refine ⟨_, rfl, _, _, _, _, t.isTup, rfl, .ty _, h.ty, kit_ty t.kTup, t.isTup, rfl, ?_⟩
    have k0 := k H (Same.refl _)
    cases t with
    | tup ts =>
      cases h with
      | tup ha hl al =>
        refine iteT ?_
        refine ⟨_, rfl, _, _, rfl, .inr (SqT.of ha), _, rfl, rfl, ?_⟩
        rw [al.len, int_dec]
        exact k0
    | _ => exact iteF k0
theorem okT_is_list_of (T : Ctx w K mg) : Has P w K mg base 1 "is_list_of" ["thing", "least", "most"] spListOfT := by
  obtain ⟨fd, F⟩ := T.D_is_list_of
  refine ⟨⟨fd, F.ok sc_is_list_of (fun vs H Q E h => ?_) (fun cdv A outer s H vs Q E hr h => ?_), F.bindsN fun _ _ _ _ _ _ us hl => match us, hl with | [_, _, _], _ => rfl⟩, F.kp, T.g_is_list_of⟩
  · obtain ⟨v, t, lo, hi, rfl, h, k⟩ := h; rfl
  · obtain ⟨v, t, lo, hi, rfl, h, k⟩ := h
    have hu := hu_of hr
    refine ⟨_, PSs.nox (pss_one (ps_ret (pe_and (pe_callB call_isi (by rfl) T.f_isinstance (by decide +kernel) (pa_cons (pv 0) (pa_cons (pe_bltn (v := .ty "list") (u := .type "list") rfl T.f_list (by decide +kernel) rfl) pa_nil))) (pe_one (pe_chain op_le op_le (pv 1) (pe_callB call_len_seq (by rfl) T.f_len (by decide +kernel) (pa_cons (pv 0) pa_nil)) (pv 2)))))), ?_⟩
    refine ⟨_, rfl, _, _, _, _, t.isLst, rfl, .ty _, h.ty, kit_ty t.kLst, t.isLst, rfl, ?_⟩
    have k0 := k H (Same.refl _)
    cases t with
    | lst ts =>
      cases h with
      | lst ha hl al =>
        refine iteT ?_
        have e := al.len
        have k0 : Q (.bl (decide (lo ≤ ts.length) && decide (ts.length ≤ hi))) H := k0
        refine ⟨_, rfl, _, rfl, _, _, rfl, .inl (SqL.of ha), _, _, rfl, rfl, _, rfl, ?_⟩
        by_cases c : lo ≤ ts.length
        · rw [decide_eq_true c] at k0
          refine ifT (decide_eq_true (by omega)) ⟨_, rfl, _, _, rfl, rfl, ?_⟩
          show Q (.bl (decide (((_ : Nat) : Int) ≤ (hi : Int)))) H
          rw [e, nat_dec]
          exact k0
        · rw [decide_eq_false c] at k0
          exact ifF (decide_eq_false (by omega)) k0
    | _ => exact iteF k0
theorem okT_is_word_tuple (T : Ctx w K mg) : Has P w K mg base 1 "is_word_tuple" ["thing"] (spT wordT) := by
  obtain ⟨fd, F⟩ := T.D_is_word_tuple
  refine ⟨⟨fd, F.ok sc_is_word_tuple (fun vs H Q E h => ?_) (fun cdv A outer s H vs Q E hr h => ?_), F.bindsN fun _ _ _ _ _ _ us hl => match us, hl with | [_], _ => rfl⟩, F.kp, T.g_is_word_tuple⟩
  · obtain ⟨v, t, rfl, h, k⟩ := h; rfl
  · obtain ⟨v, t, rfl, h, k⟩ := h
    have hu := hu_of hr
    refine ⟨_, PSs.nox (pss_one (ps_ret (pe_and (pe_callB call_isi (by rfl) T.f_isinstance (by decide +kernel) (pa_cons (pv 0) (pa_cons (pe_bltn (v := .ty "tuple") (u := .type "tuple") rfl T.f_tuple (by decide +kernel) rfl) pa_nil))) (pe_and (pe_cmpR op_gt (pe_callB call_len_seq (by rfl) T.f_len (by decide +kernel) (pa_cons (pv 0) pa_nil)) pe_int (nomark _)) (pe_one (pe_callB call_isi (by rfl) T.f_isinstance (by decide +kernel) (pa_cons (pe_ix ix_tup (pv 0) pe_int (fun _ _ => rfl)) (pa_cons (pe_bltn (v := .ty "str") (u := .type "str") rfl T.f_str (by decide +kernel) rfl) pa_nil)))))))), ?_⟩
    refine ⟨_, rfl, _, _, _, _, t.isTup, rfl, .ty _, h.ty, kit_ty t.kTup, t.isTup, rfl, ?_⟩
    have k0 := k H (Same.refl _)
    cases t with
    | tup ts =>
      cases h with
      | tup ha hl al =>
        refine iteT ?_
        cases al with
        | nil => exact ⟨_, rfl, _, _, rfl, .inr (SqT.of ha), _, _, rfl, rfl, _, rfl, ifF (decide_eq_false (by decide)) k0⟩
        | @cons v' t' vs' ts' h' al' =>
          refine ⟨_, rfl, _, _, rfl, .inr (SqT.of ha), _, _, rfl, rfl, _, rfl, ifT (decide_eq_true (by rw [List.length_cons]; omega)) ?_⟩
          refine ⟨_, rfl, _, _, _, _, rfl, rfl, SqT.of ha, at0, _, _, _, _, t'.isStr, rfl, .ty _, h'.ty, kit_ty t'.kStr, ?_⟩
          cases t' <;> exact k0
    | _ => exact iteF k0
end
end W17
set_option Elab.async false
set_option linter.all false
set_option maxRecDepth 100000
set_option maxHeartbeats 4000000
namespace W17
open PySem PySem.Spec PyProof.Rows L2 RZ
section
variable {P : Program} {w : World} {K : PySem.W.Frag} {mg : Str → Option Value} {base : Heap}
/-! ### what wanting refuses -/
theorem Ctx.notSrc (T : Ctx w K mg) (t : Th) : PySem.W.kitOne K (.type t.ty) (.ref (He.ga K "Source")) = some false := by
  have h := List.all_eq_true.mp (show ((["NoneType", "int", "bool", "str", "list", "tuple", "dict"] : List String).all fun t => decide (PySem.W.kitOne K (.type t) (.ref (He.ga K "Source")) = some false)) = true from T.nots)
  refine of_decide_eq_true (h t.ty ?_)
  cases t <;> simp [Th.ty]
/-- a row that is asked for, of any kind -/
def spHasRowT (K : PySem.W.Frag) : Sp := fun vs H Q _ => ∃ (p dx pa va ba : Addr) (fs : List (Str × V)) (ps rs : List Addr) (f : FdT) (v : V) (t : Th), vs = [.ref p, v] ∧ FunB K H p dx pa va ba fs ps rs f ∧ ThAt H v t ∧ f.rws.length ≤ 40 ∧ ∀ H', Same H H' → Q (.bl (intInT 0 ((f.rws.length : Int) - 1) t)) H'
theorem scT_has_row : FnScope ["self", "thing"] ["self", "thing"] (defScope s_Function_has_row) := ⟨rfl, rfl, rfl, by decide +kernel, rfl, by decide +kernel, by decide +kernel⟩
theorem okT_has_row (T : Ctx w K mg) (H_is_integer_in : Has P w K mg base 2 "is_integer_in" ["thing", "least", "most"] spIntInT) : HasM P w K mg base 3 "Function" "has_row" ["self", "thing"] (spHasRowT K) := by
  obtain ⟨fd, F⟩ := T.D_Function_has_row
  obtain ⟨fd_is_integer_in, G_is_integer_in, b_is_integer_in⟩ := H_is_integer_in.ex
  refine ⟨⟨fd, F.ok scT_has_row (fun vs H Q E h => ?_) (fun cdv A outer s H vs Q E hr h => ?_), F.bindsN fun _ _ _ _ _ _ us hl => match us, hl with | [_, _], _ => rfl⟩⟩
  · obtain ⟨p, dx, pa, va, ba, fs, ps, rs, f, v, t, rfl, B, ht, h40, k⟩ := h; rfl
  · obtain ⟨p, dx, pa, va, ba, fs, ps, rs, f, v, t, rfl, B, ht, h40, k⟩ := h
    have hr_is_integer_in : Room 2 _ := hr.mono (by decide)
    have hu := hu_of hr
    refine ⟨_, PSs.nox (pss_one (ps_ret (pe_call G_is_integer_in hr_is_integer_in (by rfl) H_is_integer_in.gl H_is_integer_in.kp b_is_integer_in .nil pass0 (pa_cons (pv 1) (pa_cons pe_int (pa_cons (pe_op op_sub (pe_callB call_len_seq (by rfl) T.f_len (by decide +kernel) (pa_cons (pe_fldK (K := K) rfl (pv 0) (by rfl)) pa_nil)) pe_int) pa_nil)))))), ?_⟩
    have hl : rs.length = f.rws.length := B.kr.len
    refine ⟨_, rfl, _, rfl, p, _, dx, fs, _, rfl, B.ob, T.c_Function, T.n_Function_body, B.f4, _, _, rfl, .inr B.tb.sq, _, _, rfl, rfl, v, t, 0, _, rfl, ht, fun H1 s1 => ?_⟩
    rw [List.length_map, hl]
    exact k H1 s1
/-- the function of a name, of any kind: there, or none -/
def spFunAtT (K : PySem.W.Frag) : Sp := fun vs H Q _ => ∃ (p : Addr) (cs ks us : List (Key × V)) (v : V) (t : Th), vs = [.ref p, v] ∧ SrcH K H p cs ks us ∧ ThAt H v t ∧ Q (match t with
  | .str x => (valV us (Sum.inr x : Key)).getD .non
  | _ => .non) H
theorem scT_function_at : FnScope ["self", "name"] ["self", "name"] (defScope s_Source_function_at) := ⟨rfl, rfl, rfl, by decide +kernel, rfl, by decide +kernel, by decide +kernel⟩
theorem okT_function_at (T : Ctx w K mg) : HasM P w K mg base 1 "Source" "function_at" ["self", "name"] (spFunAtT K) := by
  obtain ⟨fd, F⟩ := T.D_Source_function_at
  refine ⟨⟨fd, F.ok scT_function_at (fun vs H Q E h => ?_) (fun cdv A outer s H vs Q E hr h => ?_), F.bindsN fun _ _ _ _ _ _ us hl => match us, hl with | [_, _], _ => rfl⟩⟩
  · obtain ⟨p, cs, ks, us, v, t, rfl, S0, ht, k⟩ := h; rfl
  · obtain ⟨p, cs, ks, us, v, t, rfl, S0, ht, k⟩ := h
    have hu := hu_of hr
    refine ⟨_, PSs.nox (pss_one (ps_ret (pe_ifExp (pt_val (pe_callB call_isi (by rfl) T.f_isinstance (by decide +kernel) (pa_cons (pv 1) (pa_cons (pe_bltn (v := .ty "str") (u := .type "str") rfl T.f_str (by decide +kernel) rfl) pa_nil)))) (pe_dget1 hu (pe_fldK (K := K) rfl (pv 0) (by rfl)) (pv 1) ⟨rfl, rfl, rfl, rfl⟩) pe_non))), ?_⟩
    obtain ⟨dx, df, dk, du, fs, S⟩ := S0
    refine ⟨_, rfl, _, _, _, _, t.isStr, rfl, .ty _, ht.ty, kit_ty t.kStr, t.isStr, rfl, ?_⟩
    cases t with
    | str x =>
      cases ht
      refine iteT ?_
      refine ⟨_, rfl, p, _, dx, fs, _, rfl, S.ob, T.c_Source, T.n_Source_functions, S.f3, du, rfl, .inl ⟨_, .inl S.d3⟩, _, rfl, _, DGet.k (k := Sum.inr x) S.d3, ?_⟩
      exact k
    | _ => exact iteF k
/-- what is refused: the source, the name, the row -/
def RefW (K : PySem.W.Frag) (H : Hp) (sv nv rv : V) (E : XK) : Prop :=
  (∃ t, ThAt H sv t ∧ ∀ H', Same H H' → SrcE K H' (.str "source") .non E) ∨
  (∃ (p : Addr) (cl : ClsT) (f : FdT) (t : Th), sv = .ref p ∧ SrcX K H p cl [f] ∧ ThAt H nv t ∧ (∀ x, t = .str x → x ≠ f.nm) ∧ ∀ H', Same H H' → ArgE K H' (.str "name") E) ∨
  (∃ (p : Addr) (cl : ClsT) (f : FdT) (t : Th), sv = .ref p ∧ nv = .str f.nm ∧ f.nm.cps.size ≤ 1000 ∧ SrcX K H p cl [f] ∧ ThAt H rv t ∧ f.rws.length ≤ 40 ∧ intInT 0 ((f.rws.length : Int) - 1) t = false ∧ ∀ H', Same H H' → NumE K H' rv E)
def spWithR (K : PySem.W.Frag) : Sp := fun vs H Q E => ∃ sv nv rv : V, vs = [sv, nv, rv] ∧ (RefW K H sv nv rv E ∨
  ∃ (p : Addr) (cl : ClsT) (f : FdT) (i : Int), sv = .ref p ∧ nv = .str f.nm ∧ rv = .int i ∧ f.nm.cps.size ≤ 1000 ∧ SrcX K H p cl [f] ∧ f.rws.length ≤ 40 ∧ 0 ≤ i ∧ i ≤ (f.rws.length : Int) - 1 ∧
    ∀ (a dx pa va ba : Addr) (fs : List (Str × V)) (ps rs : List Addr) (H' : Hp), Same H H' → FunB K H' a dx pa va ba fs ps rs f → Q (.ref a) H')
theorem scT_function_with : FnScope ["source", "name", "row", "function"] ["source", "name", "row"] (defScope s_function_with) := ⟨rfl, rfl, rfl, by decide +kernel, rfl, by decide +kernel, by decide +kernel⟩
theorem us_one {f : FdT} {fps : List Addr} (hl : fps.length = 1) {x : Str} : ∃ a, fps = [a] ∧ (valV (usOf [f] fps) (Sum.inr x : Key)).getD .non = if x = f.nm then V.ref a else .non := by
  match fps, hl with
  | [a], _ =>
    refine ⟨a, rfl, ?_⟩
    by_cases c : x = f.nm
    · rw [if_pos c, c, us_at (i := 0) (f := f) (x := a) (by simp) rfl rfl]
      rfl
    · rw [if_neg c, valV_new (fun q m => ?_)]
      · rfl
      · rw [show usOf [f] [a] = [(Sum.inr f.nm, V.ref a)] from rfl, List.mem_singleton] at m
        rw [m]
        intro z
        exact c (Sum.inr.inj z).symm
theorem okT_function_with (T : Ctx w K mg) (H_err : HasM P w K mg base 1 "InvalidSource" "__init__" ["self", "part", "at"] (spSrcErr K)) (H_arg : HasM P w K mg base 1 "InvalidArgument" "__init__" ["self", "part"] (spArgInit K)) (H_num : HasM P w K mg base 1 "InvalidNumber" "__init__" ["self", "number"] (spNumInit K)) (H_Source_function_at : HasM P w K mg base 1 "Source" "function_at" ["self", "name"] (spFunAtT K)) (H_Function_has_row : HasM P w K mg base 3 "Function" "has_row" ["self", "thing"] (spHasRowT K)) : HasX P w K mg base 5 "_function_with" ["source", "name", "row"] (spWithR K) := by
  obtain ⟨fd, F⟩ := T.D_function_with
  obtain ⟨fd_err, G_err, b_err⟩ := H_err.ex
  obtain ⟨fd_arg, G_arg, b_arg⟩ := H_arg.ex
  obtain ⟨fd_num, G_num, b_num⟩ := H_num.ex
  obtain ⟨fd_Source_function_at, G_Source_function_at, b_Source_function_at⟩ := H_Source_function_at.ex
  obtain ⟨fd_Function_has_row, G_Function_has_row, b_Function_has_row⟩ := H_Function_has_row.ex
  refine ⟨⟨fd, F.ok scT_function_with (fun vs H Q E h => ?_) (fun cdv A outer s H vs Q E hr h => ?_), F.bindsN fun _ _ _ _ _ _ us hl => match us, hl with | [_, _, _], _ => rfl⟩, F.kp, T.g_function_with⟩
  · obtain ⟨sv, nv, rv, rfl, _⟩ := h; rfl
  · obtain ⟨sv, nv, rv, rfl, h⟩ := h
    have hr2 : Room 2 _ := hr.mono (by decide)
    have hr_Source_function_at : Room 1 _ := hr.mono (by decide)
    have hr_Function_has_row : Room 3 _ := hr.mono (by decide)
    have hu := hu_of hr
    refine ⟨_, pss_cons (ps_if (pt_not (pt_val (pe_callB call_isi (by rfl) T.f_isinstance (by decide +kernel) (pa_cons (pv 0) (pa_cons (pe_glob (v := .ref (He.ga K "Source")) rfl T.g_Source rfl) pa_nil))))) (pss_one (ps_raiseE (x := "InvalidSource") rfl (takes_of rfl rfl rfl rfl) T.errS G_err b_err hr2 rfl T.g_InvalidSource (by exact (pa_cons pe_str (pa_cons pe_non pa_nil))))) pss_nil)
      (pss_cons (ps_set (i := 3) scT_function_with.nd rfl (Or.inl rfl) (pe_meth (pv 0) T.c_Source T.m_Source_function_at G_Source_function_at hr_Source_function_at b_Source_function_at .nil pass0 (pa_cons (pv 1) pa_nil)))
      (pss_cons (ps_if (pt_cmpR op_isN (pv 3) pe_non (nomark _)) (pss_one (ps_raiseE (x := "InvalidArgument") rfl (takes_of rfl rfl rfl rfl) T.errA G_arg b_arg hr2 rfl T.g_InvalidArgument (by exact (pa_cons pe_str pa_nil)))) pss_nil)
      (pss_cons (ps_if (pt_not (pt_val (pe_meth (pv 3) T.c_Function T.m_Function_has_row G_Function_has_row hr_Function_has_row b_Function_has_row .nil pass0 (pa_cons (pv 2) pa_nil)))) (pss_one (ps_raiseE (x := "InvalidNumber") rfl (takes_of rfl rfl rfl rfl) T.errN G_num b_num hr2 rfl T.g_InvalidNumber (by exact (pa_cons (pv 2) pa_nil)))) pss_nil)
      (pss_one (ps_ret (pv 3)))))), ?_⟩
    have src : ∀ {p : Addr} {cl : ClsT} {f : FdT}, SrcX K H p cl [f] → ∃ (dx : Addr) (fs : List (Str × V)) (a : Addr) (qs : List Addr), H p = some (.ins (He.ga K "Source") dx fs) ∧ fs.lookup ("function_at" : Str) = none ∧ SrcH K H p (csM cl qs) (ksM cl) (usOf [f] [a]) ∧ ∃ (dz pz vz bz : Addr) (gz : List (Str × V)) (psz rsz : List Addr), FunB K H a dz pz vz bz gz psz rsz f := fun {p cl f} S => by
      obtain ⟨fps, qs, qC, S0, fl, hB⟩ := S
      obtain ⟨dx, df, dk, du, fs, S1⟩ := id S0
      match fps, fl with
      | [a], _ =>
        obtain ⟨dz, pz, vz, bz, gz, psz, rsz, B⟩ := hB 0 f a rfl rfl
        exact ⟨dx, fs, a, qs, S1.ob, S1.nm _ (by decide +kernel), S0, dz, pz, vz, bz, gz, psz, rsz, B⟩
    rcases h with (⟨t, ht, k⟩ | ⟨p, cl, f, t, rfl, S, ht, hx, k⟩ | ⟨p, cl, f, t, rfl, rfl, hsz, S, ht, h40, hi, k⟩) | ⟨p, cl, f, i, rfl, rfl, rfl, hsz, S, h40, i0, i1, k⟩
    · refine ⟨_, rfl, _, _, _, _, false, rfl, .own _, ht.ty, T.notSrc t, false, rfl, iteT ?_⟩
      exact ⟨by show 2 ≤ 1000; decide, fun a hn => src_made hn T.errS fun d n => k H (Same.refl _) d n⟩
    · obtain ⟨dx, fs, a, qs, ob, nm, S0, dz, pz, vz, bz, gz, psz, rsz, B⟩ := src S
      obtain ⟨i1, i2⟩ := T.isSource ob
      refine ⟨_, rfl, _, _, _, _, true, rfl, .own _, i1, i2, true, rfl, iteF ?_⟩
      refine ⟨_, rfl, p, dx, fs, rfl, ob, nm, _, rfl, p, _, _, _, _, t, rfl, S0, ht, ?_⟩
      have en : (match t with | .str x => (valV (usOf [f] [a]) (Sum.inr x : Key)).getD .non | _ => V.non) = .non := by
        cases t with
        | str x =>
          obtain ⟨b, eb, e⟩ := us_one (f := f) (fps := [a]) rfl (x := x)
          rw [if_neg (hx x rfl)] at e
          exact e
        | _ => rfl
      rw [en]
      refine ⟨_, rfl, rfl, _, rfl, ifT rfl ?_⟩
      exact ⟨by show 1 ≤ 1000; decide, fun a hn => arg_made hn T.errA fun d n => k H (Same.refl _) d n⟩
    · obtain ⟨dx, fs, a, qs, ob, nm, S0, dz, pz, vz, bz, gz, psz, rsz, B⟩ := src S
      obtain ⟨i1, i2⟩ := T.isSource ob
      refine ⟨_, rfl, _, _, _, _, true, rfl, .own _, i1, i2, true, rfl, iteF ?_⟩
      refine ⟨_, rfl, p, dx, fs, rfl, ob, nm, _, rfl, p, _, _, _, _, .str f.nm, rfl, S0, .str _ hsz, ?_⟩
      obtain ⟨b, eb, e⟩ := us_one (f := f) (fps := [a]) rfl (x := f.nm)
      rw [if_pos rfl] at e
      cases eb
      have en : (match Th.str f.nm with | .str x => (valV (usOf [f] [a]) (Sum.inr x : Key)).getD .non | _ => V.non) = .ref a := e
      rw [en]
      refine ⟨_, rfl, rfl, _, rfl, ifF rfl ?_⟩
      refine ⟨_, rfl, a, dz, gz, rfl, B.ob, B.nohas.1, _, rfl, a, dz, pz, vz, bz, gz, psz, rsz, f, rv, t, rfl, B, ht, h40, fun H1 s1 => ?_⟩
      rw [hi]
      refine ⟨_, rfl, iteT ⟨_, rfl, by show 1 ≤ 1000; decide, fun a hn => num_made hn T.errN fun d n => k H1 s1 d n⟩⟩
    · obtain ⟨dx, fs, a, qs, ob, nm, S0, dz, pz, vz, bz, gz, psz, rsz, B⟩ := src S
      obtain ⟨i2, i3⟩ := T.isSource ob
      refine ⟨_, rfl, _, _, _, _, true, rfl, .own _, i2, i3, true, rfl, iteF ?_⟩
      refine ⟨_, rfl, p, dx, fs, rfl, ob, nm, _, rfl, p, _, _, _, _, .str f.nm, rfl, S0, .str _ hsz, ?_⟩
      obtain ⟨b, eb, e⟩ := us_one (f := f) (fps := [a]) rfl (x := f.nm)
      rw [if_pos rfl] at e
      cases eb
      have en : (match Th.str f.nm with | .str x => (valV (usOf [f] [a]) (Sum.inr x : Key)).getD .non | _ => V.non) = .ref a := e
      rw [en]
      refine ⟨_, rfl, rfl, _, rfl, ifF rfl ?_⟩
      refine ⟨_, rfl, a, dz, gz, rfl, B.ob, B.nohas.1, _, rfl, a, dz, pz, vz, bz, gz, psz, rsz, f, .int i, .int i, rfl, B, .int i, h40, fun H1 s1 => ?_⟩
      have ei : intInT 0 ((f.rws.length : Int) - 1) (.int i) = true := by
        show (decide (0 ≤ i) && decide (i ≤ (f.rws.length : Int) - 1)) = true
        rw [decide_eq_true i0, decide_eq_true i1]
        rfl
      rw [ei]
      exact ⟨_, rfl, iteF ⟨_, rfl, k a _ _ _ _ _ _ _ H1 s1 (B.mono s1)⟩⟩
end
end W17
set_option Elab.async false
set_option linter.all false
set_option maxRecDepth 100000
set_option maxHeartbeats 4000000
namespace W17
open PySem PySem.Spec PyProof.Rows L2 RZ
section
variable {P : Program} {w : World} {K : PySem.W.Frag} {mg : Str → Option Value} {base : Heap}
def spNo : Sp := fun _ _ _ _ => False
theorem scN_wanted_in : FnScope ["function", "row", "names", "name"] ["function", "row"] (defScope s_wanted_in) := ⟨rfl, rfl, rfl, by decide +kernel, rfl, by decide +kernel, by decide +kernel⟩
theorem okN_wanted_in (T : Ctx w K mg) : Has P w K mg base 4 "_wanted_in" ["function", "row"] spNo := by
  obtain ⟨fd, F⟩ := T.D_wanted_in
  exact ⟨⟨fd, F.ok scN_wanted_in (fun vs H Q E h => h.elim) (fun cdv A outer s H vs Q E hr h => h.elim), F.bindsN fun _ _ _ _ _ _ us hl => match us, hl with | [_, _], _ => rfl⟩, F.kp, T.g_wanted_in⟩
def spAsk (K : PySem.W.Frag) : Sp := fun vs H Q E => ∃ sv nv rv : V, vs = [sv, nv, rv] ∧ RefW K H sv nv rv E
def spAskV (K : PySem.W.Frag) : Sp := fun vs H Q E => ∃ sv nv rv xv : V, vs = [sv, nv, rv, xv] ∧ (RefW K H sv nv rv E ∨
  ∃ (p : Addr) (cl : ClsT) (f : FdT) (i : Int) (t : Th), sv = .ref p ∧ nv = .str f.nm ∧ rv = .int i ∧ f.nm.cps.size ≤ 1000 ∧ SrcX K H p cl [f] ∧ f.rws.length ≤ 40 ∧ 0 ≤ i ∧ i ≤ (f.rws.length : Int) - 1 ∧
    ThAt H xv t ∧ (∀ x, t = .str x → x ∉ (f.ns ++ f.ms).map Prod.fst) ∧ ∀ H', Same H H' → ArgE K H' (.str "variable") E)
theorem scT_wanted : FnScope ["source", "name", "row"] ["source", "name", "row"] (defScope s_wanted) := ⟨rfl, rfl, rfl, by decide +kernel, rfl, by decide +kernel, by decide +kernel⟩
theorem okT_wanted (T : Ctx w K mg) (H_with : HasX P w K mg base 5 "_function_with" ["source", "name", "row"] (spWithR K)) (H_in : Has P w K mg base 4 "_wanted_in" ["function", "row"] spNo) : HasX P w K mg base 6 "wanted" ["source", "name", "row"] (spAsk K) := by
  obtain ⟨fd, F⟩ := T.D_wanted
  obtain ⟨fd_with, G_with, b_with⟩ := H_with.ex
  obtain ⟨fd_in, G_in, b_in⟩ := H_in.ex
  refine ⟨⟨fd, F.ok scT_wanted (fun vs H Q E h => ?_) (fun cdv A outer s H vs Q E hr h => ?_), F.bindsN fun _ _ _ _ _ _ us hl => match us, hl with | [_, _, _], _ => rfl⟩, F.kp, T.g_wanted⟩
  · obtain ⟨sv, nv, rv, rfl, _⟩ := h; rfl
  · obtain ⟨sv, nv, rv, rfl, h⟩ := h
    have hr_in : Room 4 _ := hr.mono (by decide)
    refine ⟨_, pss_one (ps_ret (pe_call G_in hr_in (by rfl) H_in.gl H_in.kp b_in .nil pass0 (pa_cons (pe_call G_with hr (by rfl) H_with.gl H_with.kp b_with .nil (passes_call (takes_of rfl rfl rfl rfl) (fun _ _ _ _ h => h)) (pa_cons (pv 0) (pa_cons (pv 1) (pa_cons (pv 2) pa_nil)))) (pa_cons (pv 2) pa_nil)))), ?_⟩
    exact ⟨_, rfl, _, rfl, _, rfl, sv, nv, rv, rfl, .inl h⟩
theorem scT_wanted_at_call : FnScope ["source", "name", "row", "function", "result", "variable"] ["source", "name", "row"] (defScope s_wanted_at_call) := ⟨rfl, rfl, rfl, by decide +kernel, rfl, by decide +kernel, by decide +kernel⟩
theorem okT_wanted_at_call (T : Ctx w K mg) (H_with : HasX P w K mg base 5 "_function_with" ["source", "name", "row"] (spWithR K)) : HasX P w K mg base 6 "wanted_at_call" ["source", "name", "row"] (spAsk K) := by
  obtain ⟨fd, F⟩ := T.D_wanted_at_call
  obtain ⟨fd_with, G_with, b_with⟩ := H_with.ex
  refine ⟨⟨fd, F.ok scT_wanted_at_call (fun vs H Q E h => ?_) (fun cdv A outer s H vs Q E hr h => ?_), F.bindsN fun _ _ _ _ _ _ us hl => match us, hl with | [_, _, _], _ => rfl⟩, F.kp, T.g_wanted_at_call⟩
  · obtain ⟨sv, nv, rv, rfl, _⟩ := h; rfl
  · obtain ⟨sv, nv, rv, rfl, h⟩ := h
    refine ⟨_, pss_cons (ps_set (i := 3) scT_wanted_at_call.nd rfl (Or.inl rfl) (pe_call G_with hr (by rfl) H_with.gl H_with.kp b_with .nil (passes_call (takes_of rfl rfl rfl rfl) (fun _ _ _ _ h => h)) (pa_cons (pv 0) (pa_cons (pv 1) (pa_cons (pv 2) pa_nil))))) pss_never, ?_⟩
    exact ⟨_, rfl, _, rfl, _, rfl, sv, nv, rv, rfl, .inl h⟩
theorem scT_wanting : FnScope ["source", "name", "row", "variable", "function"] ["source", "name", "row", "variable"] (defScope s_wanting) := ⟨rfl, rfl, rfl, by decide +kernel, rfl, by decide +kernel, by decide +kernel⟩
theorem kvP_none {ps : List (Str × Str)} {x : Str} (h : x ∉ ps.map Prod.fst) : valV (kvP ps) (Sum.inr x : Key) = none := valV_new fun q m z => by
  unfold kvP at m
  obtain ⟨r, mr, e⟩ := List.mem_map.mp m
  rw [← e] at z
  exact h (List.mem_map.mpr ⟨r, mr, Sum.inr.inj z⟩)
theorem okT_wanting (T : Ctx w K mg) (H_arg : HasM P w K mg base 1 "InvalidArgument" "__init__" ["self", "part"] (spArgInit K)) (H_with : HasX P w K mg base 5 "_function_with" ["source", "name", "row"] (spWithR K)) : HasX P w K mg base 6 "wanting" ["source", "name", "row", "variable"] (spAskV K) := by
  obtain ⟨fd, F⟩ := T.D_wanting
  obtain ⟨fd_with, G_with, b_with⟩ := H_with.ex
  obtain ⟨fd_arg, G_arg, b_arg⟩ := H_arg.ex
  refine ⟨⟨fd, F.ok scT_wanting (fun vs H Q E h => ?_) (fun cdv A outer s H vs Q E hr h => ?_), F.bindsN fun _ _ _ _ _ _ us hl => match us, hl with | [_, _, _, _], _ => rfl⟩, F.kp, T.g_wanting⟩
  · obtain ⟨sv, nv, rv, xv, rfl, _⟩ := h; rfl
  · obtain ⟨sv, nv, rv, xv, rfl, h⟩ := h
    have hr2 : Room 2 _ := hr.mono (by decide)
    have hu := hu_of hr
    refine ⟨_, pss_cons (ps_set (i := 4) scT_wanting.nd rfl (Or.inl rfl) (pe_call G_with hr (by rfl) H_with.gl H_with.kp b_with .nil (passes_call (takes_of rfl rfl rfl rfl) (fun _ _ _ _ h => h)) (pa_cons (pv 0) (pa_cons (pv 1) (pa_cons (pv 2) pa_nil)))))
      (pss_cons (ps_if (PW.pt (pw_or (pt_not (pt_val (pe_callB call_isi (by rfl) T.f_isinstance (by decide +kernel) (pa_cons (pv 3) (pa_cons (pe_bltn (v := .ty "str") (u := .type "str") rfl T.f_str (by decide +kernel) rfl) pa_nil))))) (pw_or1 (pt_cmp (pc_dnotin hu (pv 3) (pe_fldK (K := K) rfl (pv 4) (by rfl))))))) (pss_one (ps_raiseE (x := "InvalidArgument") rfl (takes_of rfl rfl rfl rfl) T.errA G_arg b_arg hr2 rfl T.g_InvalidArgument (by exact (pa_cons pe_str pa_nil)))) pss_nil)
      pss_never), ?_⟩
    rcases h with h | ⟨p, cl, f, i, t, rfl, rfl, rfl, hsz, S, h40, i0, i1, ht, hx, k⟩
    · exact ⟨_, rfl, _, rfl, _, rfl, sv, nv, rv, rfl, .inl h⟩
    · refine ⟨_, rfl, _, rfl, _, rfl, _, _, _, rfl, .inr ⟨p, cl, f, i, rfl, rfl, rfl, hsz, S, h40, i0, i1, fun a dx pa va ba fs ps rs H1 s1 B => ?_⟩⟩
      have ht1 := ht.mono s1
      have fin : (fun cls d H' => E cls d H') = E := rfl
      refine ⟨_, rfl, _, _, _, _, t.isStr, rfl, .ty _, ht1.ty, kit_ty t.kStr, t.isStr, rfl, ?_⟩
      have rs : ∀ a', H1 a' = none → spArgInit K [.ref a', .str "variable"] (upd H1 a' (exo a' (He.ga K "InvalidArgument") none)) (fun v H2 => v = .non ∧ ∃ (d : Addr) (fs : List (Str × V)), H2 a' = some (exo a' (He.ga K "InvalidArgument") (some d)) ∧ H2 d = some (exd d fs) ∧ H1 d = none ∧ E (.ref (He.ga K "InvalidArgument")) (some d) (upd (del H2 a') d (.xd fs))) (fun _ _ _ => False) := fun a' hn => arg_made hn T.errA fun d n => k H1 s1 d n
      cases t with
      | str x =>
        cases ht1
        have ex : valV (kvP (f.ns ++ f.ms)) (Sum.inr x : Key) = none := kvP_none (hx x rfl)
        refine iteF ?_
        refine ⟨_, rfl, _, rfl, a, _, dx, fs, _, rfl, B.ob, T.c_Function, T.n_Function_variables, B.f3, va, _, rfl, DGet.k (k := Sum.inr x) B.vd, ?_⟩
        rw [ex]
        exact ⟨_, rfl, iteT ⟨by show 1 ≤ 1000; decide, rs⟩⟩
      | _ => exact iteT (iteT ⟨by show 1 ≤ 1000; decide, rs⟩)
end
end W17
set_option Elab.async false
set_option linter.all false
set_option maxRecDepth 100000
set_option maxHeartbeats 4000000
namespace GD
open PySem PySem.Spec PyProof.Rows L2
/-- repr of data, where no guard stands around -/
def rReprD (K : PySem.W.Frag) : List V → Hp → VK → Prop := fun xs H Q => ∃ (x : V) (d : PyData), xs = [x] ∧ Dp K H x d ∧ d.showable = true ∧ d.hasDict = false ∧ d.shown.length ≤ sizeLine ∧ d.depth ≤ 64 ∧ (∀ i : Int, x = .int i → i.natAbs.log2 < 1920) ∧ Q (.str d.shown) H
theorem call_reprD {X : Cx} (hgd : X.A.guards = some []) (hu : X.A.units + 100 < cLine) : CallR X (.builtin "repr") (rReprD X.K) := by
  intro pins s σ H xs us Q I r h
  obtain ⟨x, d, rfl, hd, hs, hn, hz, hdp, hi, q⟩ := h
  obtain ⟨u, rfl, ru⟩ := vals1 r
  cases hd with
  | non =>
    cases ru
    exact PySem.P.repr_of_none ⟨.str _, H, I.tok _, ⟨_, rfl⟩, q⟩
  | bl b =>
    cases ru
    have e : (PyData.bool b).shown = (if b then "True" else "False" : Str) := by cases b <;> rfl
    rw [e] at q
    exact PySem.P.repr_of_bool ⟨.str _, H, I.tok _, ⟨_, rfl⟩, q⟩
  | int i =>
    obtain ⟨t, rfl⟩ := ru
    exact PySem.P.repr_of_int (hi i rfl) ⟨.str _, H, I.tok _, ⟨_, rfl⟩, q⟩
  | str z =>
    obtain ⟨t, rfl⟩ := ru
    exact PySem.P.repr_of_str ⟨.str _, H, I.tok _, ⟨_, rfl⟩, q⟩ hz
  | lst h1 h2 =>
    obtain ⟨as, rd⟩ := Dp.reads I _ _ _ (.lst h1 h2) ru
    cases ru
    exact repr_of_reads' rd hs (PyData.noDict_hsm hn) hgd (by omega) (fun _ _ e => e) (fun h' u tk hk => ⟨.str _, H, I.kept (t' := tk) hk, ⟨_, rfl⟩, q⟩) hz
  | tup h1 h2 =>
    obtain ⟨as, rd⟩ := Dp.reads I _ _ _ (.tup h1 h2) ru
    cases ru
    exact repr_of_reads' rd hs (PyData.noDict_hsm hn) hgd (by omega) (fun _ _ e => e) (fun h' u tk hk => ⟨.str _, H, I.kept (t' := tk) hk, ⟨_, rfl⟩, q⟩) hz
end GD
set_option Elab.async false
set_option linter.all false
set_option maxRecDepth 100000
set_option maxHeartbeats 4000000
namespace W17
open PySem PySem.Spec PyProof.Rows L2 RZ
/-! ### repr of things of any kind -/
mutual
def thD : Th → PyData
  | .non => .none
  | .bl b => .bool b
  | .int i => .int i
  | .str x => .str x
  | .tup ts => .tuple (thDs ts)
  | .lst ts => .list (thDs ts)
  | .dct => .dict []
def thDs : List Th → List PyData
  | [] => []
  | t :: ts => thD t :: thDs ts
end
mutual
def noD : Th → Bool
  | .tup ts => noDs ts
  | .lst ts => noDs ts
  | .dct => false
  | _ => true
def noDs : List Th → Bool
  | [] => true
  | t :: ts => noD t && noDs ts
end
mutual
theorem ThAt.dp {K : PySem.W.Frag} {H : Hp} : ∀ {v : V} {t : Th}, ThAt H v t → noD t = true → Dp K H v (thD t)
  | _, _, .non, _ => .non
  | _, _, .bl b, _ => .bl b
  | _, _, .int i, _ => .int i
  | _, _, .str x _, _ => .str x
  | _, _, .tup h _ a, n => .tup (SqT.of h) (ThAll.dp a n)
  | _, _, .lst h _ a, n => .lst (SqL.of h) (ThAll.dp a n)
theorem ThAll.dp {K : PySem.W.Frag} {H : Hp} : ∀ {vs : List V} {ts : List Th}, ThAll H vs ts → noDs ts = true → DpAll K H vs (thDs ts)
  | _, _, .nil, _ => .nil
  | _, _, .cons h a, n => .cons (ThAt.dp h (Bool.and_eq_true_iff.mp n).1) (ThAll.dp a (Bool.and_eq_true_iff.mp n).2)
end
def isD : Th → Bool
  | .dct => true
  | _ => false
def okI : Th → Bool
  | .int i => decide (i.natAbs.log2 < 1920)
  | _ => true
def okR (t : Th) : Bool := isD t || (okI t && (noD t && ((thD t).showable && (decide ((thD t).hasDict = false) && (decide ((thD t).shown.length ≤ 1000) && decide ((thD t).depth ≤ 64))))))
def rReprT : List V → Hp → VK → Prop := fun xs H Q => ∃ (x : V) (t : Th), xs = [x] ∧ ThAt H x t ∧ okR t = true ∧ Q (.str (thD t).shown) H
theorem call_reprT {X : Cx} (hgd : X.A.guards = some []) (hu : X.A.units + 100 < cLine) : CallR X (.builtin "repr") rReprT := by
  intro pins s σ H xs us Q I r h
  obtain ⟨x, t, rfl, ht, ok, q⟩ := h
  by_cases c : t = .dct
  · subst c
    obtain ⟨u, rfl, ru⟩ := vals1 r
    cases ht with
    | dct ha =>
      cases ru
      obtain ⟨_, nsys, vs, kv, o, es, ep, h1, h2, h3, _, hp, _⟩ := I.hok _ _ ha
      cases kv
      have e0 : es.toList = [] := by
        cases e : es.toList with
        | nil => rfl
        | cons a l =>
          rw [e] at hp
          cases hp
      have rd : Reads s.heap (.ref _) (.dict []) _ := Reads.dict (kvs := []) h1 h2.1 h3 (by rw [e0]; exact .nil) (by rw [e0]; exact .nil)
      refine repr_of_reads' rd rfl (fun _ m => ?_) hgd (by rw [show (PyData.dict []).depth = 1 from rfl]; omega) (fun _ _ e => e) (fun h' u tk hk => ⟨.str _, H, I.kept (t' := tk) hk, ⟨_, rfl⟩, q⟩) (by decide)
      have m2 := List.mem_singleton.mp m
      rw [← m2] at nsys
      exact absurd nsys (by decide)
  · have key : noD t = true ∧ (thD t).showable = true ∧ (thD t).hasDict = false ∧ (thD t).shown.length ≤ 1000 ∧ (thD t).depth ≤ 64 ∧ ∀ i, t = .int i → i.natAbs.log2 < 1920 := by
      have nd : isD t = false := by
        cases t with
        | dct => exact absurd rfl c
        | _ => rfl
      unfold okR at ok
      rw [nd, Bool.false_or] at ok
      simp only [Bool.and_eq_true, decide_eq_true_eq] at ok
      obtain ⟨a0, a1, a2, a3, a4, a5⟩ := ok
      exact ⟨a1, a2, a3, a4, a5, fun j e => by rw [e] at a0; exact of_decide_eq_true a0⟩
    obtain ⟨a1, a2, a3, a4, a5, a6⟩ := key
    refine GD.call_reprD hgd hu pins s σ H [x] us Q I r ⟨x, thD t, rfl, ht.dp a1, a2, a3, Nat.le_trans a4 (by decide), a5, fun i e => a6 i ?_, q⟩
    subst e
    cases ht
    rfl
end W17
set_option Elab.async false
set_option linter.all false
set_option maxRecDepth 100000
set_option maxHeartbeats 4000000
namespace W17
open PySem PySem.Spec PyProof.Rows L2 RZ
section
variable {P : Program} {w : World} {K : PySem.W.Frag} {mg : Str → Option Value} {base : Heap}
/-! ### _law_said: what it makes of what it calls -/
theorem takesNone {X : Cx} : Takes X (fun _ _ _ _ => False) := fun _ _ ⟨_, _, _, _, _, _, _, _, _, _, _, _, _, _, _, _, z⟩ => z.elim
/-- an error that comes out of the call: what is returned for it -/
def SaidE (K : PySem.W.Frag) (Q : VK) : XK := fun cls d H' => ∃ dd, d = some dd ∧
  ((cls = .ref (He.ga K "InvalidSource") ∧ ∃ y z : V, H' dd = some (.xd [("at", z), ("part", y)]) ∧ ∀ (q : Addr) (H2 : Hp), Same H' H2 → H2 q = some (.tup [.str "source", y, z]) → Q (.ref q) H2) ∨
    (cls = .ref (He.ga K "InvalidArgument") ∧ ∃ y : V, H' dd = some (.xd [("part", y)]) ∧ ∀ (q : Addr) (H2 : Hp), Same H' H2 → H2 q = some (.tup [.str "argument", y]) → Q (.ref q) H2) ∨
    (cls = .ref (He.ga K "InvalidNumber") ∧ ∃ (v : V) (t : Th), H' dd = some (.xd [("number", v)]) ∧ ThAt H' v t ∧ okR t = true ∧ ∀ (q : Addr) (H2 : Hp), Same H' H2 → H2 q = some (.tup [.str "number", .str (thD t).shown]) → Q (.ref q) H2))
def TTs (K : PySem.W.Frag) : (XK → Hp → VK → Prop) → Hp → VK → Prop := fun tl H Q => tl (SaidE K Q) H fun _ H' => Q .non H'
theorem sc_L_said : FnScope ["_law_ask", "e"] ["_law_ask"] (defScope s_L_said) := ⟨rfl, rfl, rfl, by decide +kernel, rfl, by decide +kernel, by decide +kernel⟩
theorem said_giv {X : Cx} (T : Ctx X.w X.K X.mg) {g : Addr} {cdg : Value} (gd : X.A.guards = some []) (hu : X.A.units + 200 < cLine) : LamZ.GivesZ X ["_law_ask", "e"] "_law_said" (defScope s_L_said) g cdg (defBody s_L_said) "_law_ask" (TTs X.K) := by
  intro f LA s H Q tl act hc h
  have OS := T.errS
  have OA := T.errA
  have ON := T.errN
  have body : ∀ (W : WX) (pn : List (Addr × Obj)) (xe : Value → Shared → Prop), Takes ((cxOf C8.CX0 X.prog X.w X.K X.mg X.base ["_law_ask", "e"] "_law_said" (defScope s_L_said) g cdg X.A X.stack s H C8.E0).tr pn xe) W → ∀ p1 p2 p3, PSs ((cxOf C8.CX0 X.prog X.w X.K X.mg X.base ["_law_ask", "e"] "_law_said" (defScope s_L_said) g cdg X.A X.stack s H C8.E0).tr pn xe) [.Expr (.Call (.Name "_law_ask" p1) [] [] p2) p3]
      (fun D σ H => ∃ (Ech : XK) (f : Addr), (∀ cls d H', Ech cls d H' → W cls d σ H') ∧ σ[0]? = some (some (.ref f)) ∧ LA H f ∧ tl Ech H (fun _ H1 => D.nx σ H1)) := fun W pn xe tk p1 p2 p3 =>
    pss_one (ps_expr (act W pn xe p1 p2 tk))
  refine ⟨_, (pss_cons (TR.ps_try (W := fun _ _ _ _ => False) rfl rfl sc_L_said.nd takesNone
      (fun W' pn xe tk _ => body W' pn xe tk _ _ _)
      (TR.Cls.as (q := ⟨.ref (He.ga X.K "InvalidSource"), some 1, _⟩) ⟨rfl, rfl, .inl T.g_InvalidSource⟩ rfl rfl rfl (fun a oe cls d pn hz hf => by
            exact (pss_one (ps_ret (pe_tup (pa_cons pe_str (pa_cons (pe_xf (X := (cxOf C8.CX0 X.prog X.w X.K X.mg X.base ["_law_ask", "e"] "_law_said" (defScope s_L_said) g cdg X.A X.stack s H C8.E0).nox) OS.xf (OS.no "part" (by simp)) hz hf (pv 1)) (pa_cons (pe_xf (X := (cxOf C8.CX0 X.prog X.w X.K X.mg X.base ["_law_ask", "e"] "_law_said" (defScope s_L_said) g cdg X.A X.stack s H C8.E0).nox) OS.xf (OS.no "at" (by simp)) hz hf (pv 1)) pa_nil)))))))
        (TR.Cls.as (q := ⟨.ref (He.ga X.K "InvalidArgument"), some 1, _⟩) ⟨rfl, rfl, .inl T.g_InvalidArgument⟩ rfl rfl rfl (fun a oe cls d pn hz hf => by
            exact (pss_one (ps_ret (pe_tup (pa_cons pe_str (pa_cons (pe_xf (X := (cxOf C8.CX0 X.prog X.w X.K X.mg X.base ["_law_ask", "e"] "_law_said" (defScope s_L_said) g cdg X.A X.stack s H C8.E0).nox) OA.xf (OA.no "part" (by simp)) hz hf (pv 1)) pa_nil))))))
          (TR.Cls.as (q := ⟨.ref (He.ga X.K "InvalidNumber"), some 1, _⟩) ⟨rfl, rfl, .inl T.g_InvalidNumber⟩ rfl rfl rfl (fun a oe cls d pn hz hf => by
              exact (pss_one (ps_ret (pe_tup (pa_cons pe_str (pa_cons (pe_callB (X := ((cxOf C8.CX0 X.prog X.w X.K X.mg X.base ["_law_ask", "e"] "_law_said" (defScope s_L_said) g cdg X.A X.stack s H C8.E0).nox.suite a ((a, oe) :: pn))) (call_reprT (X := ((cxOf C8.CX0 X.prog X.w X.K X.mg X.base ["_law_ask", "e"] "_law_said" (defScope s_L_said) g cdg X.A X.stack s H C8.E0).nox.suite a ((a, oe) :: pn))) (by exact gd) (by show X.A.units + 3 + 100 < cLine; omega)) (by rfl) T.f_repr (by decide +kernel) (pa_cons (pe_xf (X := (cxOf C8.CX0 X.prog X.w X.K X.mg X.base ["_law_ask", "e"] "_law_said" (defScope s_L_said) g cdg X.A X.stack s H C8.E0).nox) ON.xf (ON.no "number" (by simp)) hz hf (pv 1)) pa_nil)) pa_nil))))))
            (TR.Cls.bare (q := ⟨.ref (He.ga X.K "CodeError"), none, _⟩) ⟨rfl, rfl, .inl T.g_CodeError⟩ rfl (fun a oe cls d pn hz hf => by exact (pss_one (ps_ret pe_str))) TR.Cls.nil)))))
      (pss_one (ps_ret pe_non))), ?_⟩
  refine ⟨SaidE X.K Q, f, ?_, rfl, hc, ?_⟩
  · rintro cls d H' ⟨dd, rfl, ⟨rfl, y, z, hd, k⟩ | ⟨rfl, y, hd, k⟩ | ⟨rfl, v, t, hd, ht, ok, k⟩⟩
    · refine ⟨true, T.x_InvalidSource_InvalidSource, fun _ a ha => ?_, fun z => by cases z⟩
      exact ⟨_, rfl, rfl, rfl, dd, _, _, rfl, hd, rfl, _, rfl, rfl, rfl, dd, _, _, rfl, hd, rfl, sz_of (by show 3 ≤ 100000; decide), fun p hp => k p _ (Same.new hp) upd_same⟩
    · refine ⟨false, T.x_InvalidArgument_InvalidSource, (fun z => by cases z), fun _ => ⟨true, T.x_InvalidArgument_InvalidArgument, fun _ a ha => ?_, fun z => by cases z⟩⟩
      exact ⟨_, rfl, rfl, rfl, dd, _, _, rfl, hd, rfl, sz_of (by show 2 ≤ 100000; decide), fun p hp => k p _ (Same.new hp) upd_same⟩
    · refine ⟨false, T.x_InvalidNumber_InvalidSource, (fun z => by cases z), fun _ => ⟨false, T.x_InvalidNumber_InvalidArgument, (fun z => by cases z), fun _ => ⟨true, T.x_InvalidNumber_InvalidNumber, fun _ a ha => ?_, fun z => by cases z⟩⟩⟩
      exact ⟨_, rfl, rfl, rfl, dd, _, _, rfl, hd, rfl, v, t, rfl, ht, ok, sz_of (by show 2 ≤ 100000; decide), fun p hp => k p _ (Same.new hp) upd_same⟩
  · exact h
end
end W17
set_option Elab.async false
set_option linter.all false
set_option maxRecDepth 100000
set_option maxHeartbeats 4000000
namespace W17
open PySem PySem.Spec PyProof.Rows L2 RZ LamX LamZ
/-! ### the values of many kinds -/
def oddV (a1 a2 d1 t1 t2 : Addr) : List V := [.non, .bl true, .bl false, .str "g", .str "", .ref a1, .ref a2, .ref d1, .ref t1, .ref t2, .int (-1), .int (10 ^ 30), .int 40]
def oddT : List Th := [.non, .bl true, .bl false, .str "g", .str "", .lst [], .lst [.str "f"], .dct, .tup [], .tup [.str "f"], .int (-1), .int (10 ^ 30), .int 40]
structure OddsAt (H : Hp) (l a1 a2 d1 t1 t2 : Addr) : Prop where
  l : H l = some (.lst (oddV a1 a2 d1 t1 t2))
  a1 : H a1 = some (.lst [])
  a2 : H a2 = some (.lst [.str "f"])
  d1 : H d1 = some (.dK [])
  t1 : H t1 = some (.tup [])
  t2 : H t2 = some (.tup [.str "f"])
section
variable {H H' : Hp} {l a1 a2 d1 t1 t2 p : Addr}
theorem OddsAt.to (h : OddsAt H l a1 a2 d1 t1 t2) (k : ∀ b u, H b = some u → b ≠ p → (∀ ps, u ≠ .tbl ps) → H' b = some u) (w : WellAt H p) : OddsAt H' l a1 a2 d1 t1 t2 := by
  obtain ⟨x, y, z, hp⟩ := w
  have np : ∀ {d : Addr} {u : HO}, H d = some u → u ≠ .lst [.int x, .int y, .int z] → d ≠ p := fun e n m => by
    rw [m, hp] at e
    exact n (Option.some.inj e).symm
  exact ⟨k _ _ h.l (np h.l (by unfold oddV; intro m; injection m with m; injection m with m1 m2; cases m1)) (by intro ps m; cases m), k _ _ h.a1 (np h.a1 (by intro m; cases m)) (by intro ps m; cases m), k _ _ h.a2 (np h.a2 (by intro m; cases m)) (by intro ps m; cases m),
    k _ _ h.d1 (np h.d1 (by intro m; cases m)) (by intro ps m; cases m), k _ _ h.t1 (np h.t1 (by intro m; cases m)) (by intro ps m; cases m), k _ _ h.t2 (np h.t2 (by intro m; cases m)) (by intro ps m; cases m)⟩
theorem OddsAt.ext (h : OddsAt H l a1 a2 d1 t1 t2) (e : ExtN H H') : OddsAt H' l a1 a2 d1 t1 t2 :=
  ⟨e _ _ h.l (by intro ps m; cases m), e _ _ h.a1 (by intro ps m; cases m), e _ _ h.a2 (by intro ps m; cases m), e _ _ h.d1 (by intro ps m; cases m), e _ _ h.t1 (by intro ps m; cases m), e _ _ h.t2 (by intro ps m; cases m)⟩
theorem OddsAt.same (h : OddsAt H l a1 a2 d1 t1 t2) (s : Same H H') : OddsAt H' l a1 a2 d1 t1 t2 := h.ext fun b o e _ => s b o e
theorem OddsAt.but (h : OddsAt H l a1 a2 d1 t1 t2) (w : WellAt H p) (b : But p H H') : OddsAt H' l a1 a2 d1 t1 t2 := h.to (fun c u e n _ => b c u e n) w
theorem OddsAt.all (h : OddsAt H l a1 a2 d1 t1 t2) : ThAll H (oddV a1 a2 d1 t1 t2) oddT :=
  .cons .non (.cons (.bl _) (.cons (.bl _) (.cons (.str _ (by decide)) (.cons (.str _ (by decide)) (.cons (.lst h.a1 (by decide) .nil) (.cons (.lst h.a2 (by show 1 ≤ 1000; decide) (.cons (.str _ (by decide)) .nil)) (.cons (.dct h.d1) (.cons (.tup h.t1 (by decide) .nil) (.cons (.tup h.t2 (by show 1 ≤ 1000; decide) (.cons (.str _ (by decide)) .nil)) (.cons (.int _) (.cons (.int _) (.cons (.int _) .nil))))))))))))
theorem OddsAt.ix (h : OddsAt H l a1 a2 d1 t1 t2) {j : Nat} {v : V} {t : Th} (e1 : (oddV a1 a2 d1 t1 t2)[j]? = some v) (e2 : oddT[j]? = some t) : ThAt H v t := by
  obtain ⟨t2', q1, q2⟩ := ThAll.get j h.all e1
  rw [Option.some.inj (e2.symm.trans q1)]
  exact q2
theorem OddsAt.one (h : OddsAt H l a1 a2 d1 t1 t2) {v : V} (m : v ∈ oddV a1 a2 d1 t1 t2) : ∃ t ∈ oddT, ThAt H v t := by
  obtain ⟨i, hi, e⟩ := List.getElem_of_mem m
  obtain ⟨t, e1, e2⟩ := ThAll.get i h.all (by rw [List.getElem?_eq_getElem hi, e])
  exact ⟨t, List.mem_of_getElem? e1, e2⟩
end
theorem odd_repr : ∀ t ∈ oddT, okR t = true := fun t m => List.all_eq_true.mp (by decide +kernel : oddT.all okR = true) t m
def noStr (xs : List Str) : Th → Bool
  | .str x => decide (x ∉ xs)
  | _ => true
theorem odd_name : ∀ t ∈ oddT, ∀ x, t = .str x → x ≠ ("f" : Str) := fun t m x e => by
  have h := List.all_eq_true.mp (by decide +kernel : oddT.all (noStr ["f"]) = true) t m
  rw [e] at h
  exact fun z => (of_decide_eq_true h) (by rw [z]; exact List.mem_cons_self)
theorem odd_var {rws : List Rx} : ∀ t ∈ oddT, ∀ x, t = .str x → x ∉ ((fF rws).ns ++ (fF rws).ms).map Prod.fst := fun t m x e => by
  have h := List.all_eq_true.mp (by decide +kernel : oddT.all (noStr ["a", "o", "b", "c", "p"]) = true) t m
  rw [e] at h
  exact of_decide_eq_true h
theorem odd_row {n : Nat} (hn : n ≤ 9) : ∀ t ∈ oddT, intInT 0 ((n : Int) - 1) t = false := fun t m => by
  unfold oddT at m
  simp only [List.mem_cons, List.not_mem_nil, or_false] at m
  rcases m with rfl | rfl | rfl | rfl | rfl | rfl | rfl | rfl | rfl | rfl | rfl | rfl | rfl
  all_goals first
    | rfl
    | skip
  · show (decide ((0 : Int) ≤ 10 ^ 30) && decide ((10 ^ 30 : Int) ≤ (n : Int) - 1)) = false
    rw [decide_eq_false (p := (10 ^ 30 : Int) ≤ (n : Int) - 1) (by omega), Bool.and_false]
  · show (decide ((0 : Int) ≤ 40) && decide ((40 : Int) ≤ (n : Int) - 1)) = false
    rw [decide_eq_false (p := (40 : Int) ≤ (n : Int) - 1) (by omega), Bool.and_false]
/-! ### what is answered, three times -/
def ans3 (d : PyData) : PyData := .list [d, d, d]
theorem eqv_self {d : PyData} (h : SeqAt.shaped d = true) : PyData.eqv d d = true := SeqAt.eqv_refl d (SeqAt.canLay_of_shaped h)
def ansSrc : PyData := .tuple [.str "source", .str "source", .none]
def ansArg (x : Str) : PyData := .tuple [.str "argument", .str x]
def ansNum (t : Th) : PyData := .tuple [.str "number", .str (thD t).shown]
theorem sh_src : SeqAt.shaped (ans3 ansSrc) = true := by decide +kernel
theorem sh_arg : SeqAt.shaped (ans3 (ansArg "name")) = true := by decide +kernel
theorem sh_var : SeqAt.shaped (ansArg "variable") = true := by decide +kernel
theorem sh_num : ∀ t ∈ oddT, SeqAt.shaped (ans3 (ansNum t)) = true := fun t m => List.all_eq_true.mp (by decide +kernel : oddT.all (fun t => SeqAt.shaped (ans3 (ansNum t))) = true) t m
end W17
set_option Elab.async false
set_option linter.all false
set_option maxRecDepth 100000
set_option maxHeartbeats 4000000
namespace W17
open PySem PySem.Spec PyProof.Rows L2 RZ LamX LamZ
section
variable {P : Program} {w : World} {K : PySem.W.Frag} {mg : Str → Option Value} {base : Heap} {H H' : Hp}
/-! ### what stays: all but lists and tables -/
def KeepA (H H' : Hp) : Prop := ∀ b u, H b = some u → (∀ xs, u ≠ .lst xs) → (∀ ps, u ≠ .tbl ps) → H' b = some u
theorem KeepA.ext (e : ExtN H H') : KeepA H H' := fun b u h _ n => e b u h n
theorem KeepA.but {p : Addr} (w : WellAt H p) (b : But p H H') : KeepA H H' := fun c u h n _ => b c u h fun z => by
  obtain ⟨x, y, z2, hp⟩ := w
  rw [z, hp] at h
  exact n _ (Option.some.inj h).symm
theorem TupP.keepA {a : Addr} {xs : List V} (h : TupP H a xs) (k : KeepA H H') : TupP H' a xs := by
  obtain ⟨o, e, q⟩ := h
  exact ⟨o, k _ _ e (by intro ps z; cases z) (by intro ps z; cases z), q⟩
theorem PairsG.keepA {ps : List Addr} {qs : List (Str × Str)} (h : PairsG H ps qs) (k : KeepA H H') : PairsG H' ps qs := ⟨h.len, fun i p x a b => k _ _ (h.at_ i p x a b) (by intro ps z; cases z) (by intro ps z; cases z)⟩
theorem OthG.keepA {fs : List (Str × V)} {nm : Str} {ms : List (Str × Str)} (h : OthG H fs nm ms) (k : KeepA H H') : OthG H' fs nm ms := by
  obtain ⟨h1, oa, qs, h2, h3, h4⟩ := h
  exact ⟨h1, oa, qs, h2, h3.keepA k, h4.keepA k⟩
theorem KeptRows.keepA {rs : List Addr} {rws : List Rx} (h : KeptRows H rs rws) (k : KeepA H H') : KeptRows H' rs rws := ⟨h.len, fun i a r x y => by
  obtain ⟨l, h1, h2⟩ := h.at_ i a r x y
  exact ⟨l, k _ _ h1 (by intro ps z; cases z) (by intro ps z; cases z), fun bs q => by
    have z := h2 bs q
    rw [if_pos rfl] at z ⊢
    exact k _ _ z (by intro ps z; cases z) (by intro ps z; cases z)⟩⟩
theorem FunB.keepA {p dx pa va ba : Addr} {fs : List (Str × V)} {ps rs : List Addr} {f : FdT} (h : FunB K H p dx pa va ba fs ps rs f) (e : KeepA H H') : FunB K H' p dx pa va ba fs ps rs f :=
  ⟨e _ _ h.ob (by intro ps z; cases z) (by intro ps z; cases z), h.f1, h.f2, h.f3, h.f4, h.nohas, h.d1.keepA e, h.pr.keepA e, e _ _ h.vd (by intro ps z; cases z) (by intro ps z; cases z), h.tb.keepA e, h.kr.keepA e, h.ot.keepA e⟩
theorem SrcX.keepA {p : Addr} {cl : ClsT} {fds : List FdT} (h : SrcX K H p cl fds) (e : KeepA H H') : SrcX K H' p cl fds := by
  obtain ⟨fps, qs, hq, ⟨dx, df, dk, du, fs, S⟩, h2, h3⟩ := h
  refine ⟨fps, qs, ⟨hq.len, fun i c x a b => ?_⟩, ⟨dx, df, dk, du, fs, e _ _ S.ob (by intro ps z; cases z) (by intro ps z; cases z), S.f1, S.f2, S.f3, S.nm, e _ _ S.d1 (by intro ps z; cases z) (by intro ps z; cases z), e _ _ S.d2 (by intro ps z; cases z) (by intro ps z; cases z), e _ _ S.d3 (by intro ps z; cases z) (by intro ps z; cases z)⟩, h2, fun j f a e1 e2 => ?_⟩
  · obtain ⟨ps, h1, h2⟩ := hq.at_ i c x a b
    exact ⟨ps, h1.keepA e, h2.keepA e⟩
  · obtain ⟨dx, pa, va, ba, fs, ps, rs, q⟩ := h3 j f a e1 e2
    exact ⟨dx, pa, va, ba, fs, ps, rs, q.keepA e⟩
theorem WellAt.ext {p : Addr} (h : WellAt H p) (e : ExtN H H') : WellAt H' p := by
  obtain ⟨a, b, c, h⟩ := h
  exact ⟨a, b, c, e _ _ h (by intro ps z; cases z)⟩
theorem Tabs.same {T : List (Addr × Str)} (t : Tabs T H) (s : Same H H') : Tabs T H' := t.ext fun b o e => s b o e
theorem Tabs.but {T : List (Addr × Str)} {p : Addr} (t : Tabs T H) (w : WellAt H p) (s : But p H H') : Tabs T H' := fun q hq => by
  obtain ⟨a, b, c, hp⟩ := w
  have np : ∀ {d : Addr} {u : HO}, H d = some u → (∀ xs, u ≠ .lst xs) → d ≠ p := fun e n z => by
    rw [z, hp] at e
    exact n _ (Option.some.inj e).symm
  obtain ⟨ps, h1, h2, h3⟩ := t q hq
  refine ⟨ps, s _ _ h1 (np h1 (by intro xs z; cases z)), h2, fun pos cv hc => ?_⟩
  obtain ⟨c2, e1, e2⟩ := h3 pos cv hc
  exact ⟨c2, e1, s _ _ e2 (np e2 (by intro xs z; cases z))⟩
theorem same_ext (s : Same H H') : ExtN H H' := .of fun b o e => s b o e
/-- what the turns of the inner loop keep; L: the list of the cells -/
structure CoreL (K : PySem.W.Frag) (T : List (Addr × Str)) (L lo a1 a2 d1 t1 t2 p pr : Addr) (cs : List V) (rws : List Rx) (H : Hp) : Prop where
  t : Tabs T H
  c : H L = some (.lst cs)
  o : OddsAt H lo a1 a2 d1 t1 t2
  w : WellAt H p
  n : L ≠ p
  s : SrcX K H pr clC [fF rws]
section
variable {T : List (Addr × Str)} {L lo a1 a2 d1 t1 t2 p pr : Addr} {cs : List V} {rws : List Rx}
theorem CoreL.ext (C : CoreL K T L lo a1 a2 d1 t1 t2 p pr cs rws H) (e : ExtN H H') (t : Tabs T H') : CoreL K T L lo a1 a2 d1 t1 t2 p pr cs rws H' :=
  ⟨t, e _ _ C.c (by intro ps z; cases z), C.o.ext e, C.w.ext e, C.n, C.s.keepA (.ext e)⟩
theorem CoreL.same (C : CoreL K T L lo a1 a2 d1 t1 t2 p pr cs rws H) (s : Same H H') : CoreL K T L lo a1 a2 d1 t1 t2 p pr cs rws H' := C.ext (same_ext s) (Tabs.same C.t s)
theorem CoreL.but (C : CoreL K T L lo a1 a2 d1 t1 t2 p pr cs rws H) (w : WellAt H' p) (b : But p H H') : CoreL K T L lo a1 a2 d1 t1 t2 p pr cs rws H' :=
  ⟨Tabs.but C.t C.w b, b _ _ C.c C.n, C.o.but C.w b, w, C.n, C.s.keepA (.but C.w b)⟩
end
theorem sql_mono {a : Addr} {xs : List V} (h : SqL K H a xs) (s : Same H H') : SqL K H' a xs := by
  rcases h with (h | ⟨o, h⟩) | h
  · exact .inl (.inl (s _ _ h))
  · exact .inl (.inr ⟨o, s _ _ h⟩)
  · exact .inr h
/-! ### three answers that are alike -/
def rowsD (d : PyData) (H : Hp) (v : V) : Prop := ∃ q, v = .ref q ∧ ∃ xs, H q = some (.tup xs) ∧ Dp K H v d
theorem three_dp {H : Hp} {D : Addr} {xs : List V} {d : PyData} (h : H D = some (.lst xs)) (hl : xs.length = 3) (hx : ∀ (i : Nat) v, xs[i]? = some v → Dp K H v d) : Dp K H (.ref D) (ans3 d) := by
  obtain ⟨x, y, z, rfl⟩ := three hl
  exact .lst (SqL.of h) (.cons (hx 0 x rfl) (.cons (hx 1 y rfl) (.cons (hx 2 z rfl) .nil)))
theorem three_rep {H : Hp} {pp tt : Addr} {d : PyData} (h : H pp = some (.lst (List.replicate (3 : Int).toNat [V.ref tt]).flatten)) (hd : Dp K H (.ref tt) d) : Dp K H (.ref pp) (ans3 d) :=
  .lst (xs := [.ref tt, .ref tt, .ref tt]) (SqL.of h) (.cons hd (.cons hd (.cons hd .nil)))
theorem dp_src {H : Hp} {q : Addr} (h : H q = some (.tup [.str "source", .str "source", .non])) : Dp K H (.ref q) ansSrc := .tup (SqT.of h) (.cons (.str _) (.cons (.str _) (.cons .non .nil)))
theorem dp_arg {H : Hp} {q : Addr} {x : Str} (h : H q = some (.tup [.str "argument", .str x])) : Dp K H (.ref q) (ansArg x) := .tup (SqT.of h) (.cons (.str _) (.cons (.str _) .nil))
theorem dp_num {H : Hp} {q : Addr} {t : Th} (h : H q = some (.tup [.str "number", .str (thD t).shown])) : Dp K H (.ref q) (ansNum t) := .tup (SqT.of h) (.cons (.str _) (.cons (.str _) .nil))
theorem said_src {H : Hp} {Q : VK} {y z : V} (k : ∀ (q : Addr) (H2 : Hp), Same H H2 → H2 q = some (.tup [.str "source", y, z]) → Q (.ref q) H2) : ∀ H', Same H H' → SrcE K H' y z (SaidE K Q) := fun H' s d hd =>
  ⟨d, rfl, .inl ⟨rfl, y, z, upd_same, fun q H2 s2 hq => k q H2 (s.trans ((Same.new hd).trans s2)) hq⟩⟩
theorem said_arg {H : Hp} {Q : VK} {y : V} (k : ∀ (q : Addr) (H2 : Hp), Same H H2 → H2 q = some (.tup [.str "argument", y]) → Q (.ref q) H2) : ∀ H', Same H H' → ArgE K H' y (SaidE K Q) := fun H' s d hd =>
  ⟨d, rfl, .inr (.inl ⟨rfl, y, upd_same, fun q H2 s2 hq => k q H2 (s.trans ((Same.new hd).trans s2)) hq⟩)⟩
theorem said_num {H : Hp} {Q : VK} {v : V} {t : Th} (ht : ThAt H v t) (ok : okR t = true) (k : ∀ (q : Addr) (H2 : Hp), Same H H2 → H2 q = some (.tup [.str "number", .str (thD t).shown]) → Q (.ref q) H2) : ∀ H', Same H H' → NumE K H' v (SaidE K Q) := fun H' s d hd =>
  ⟨d, rfl, .inr (.inr ⟨rfl, v, t, upd_same, ht.mono (s.trans (Same.new hd)), ok, fun q H2 s2 hq => k q H2 (s.trans ((Same.new hd).trans s2)) hq⟩)⟩
theorem stab_tup {ys : List V} {D : Addr} {H H' : Hp} {v : V} {xs : List V} (hD : H D = some (.lst xs)) (b : But D H H') (h : ∃ q, v = .ref q ∧ H q = some (.tup ys)) : ∃ q, v = .ref q ∧ H' q = some (.tup ys) := by
  obtain ⟨q, e, hq⟩ := h
  exact ⟨q, e, b _ _ hq (ne_of hq hD (by intro z; cases z))⟩
theorem clsOk_C : ClsOk clC := by
  refine ⟨by decide +kernel, fun c m => ?_, by decide, fun i c hi q m => ?_⟩
  · rw [show clC = [(("cell" : Str), fldC)] from rfl, List.mem_singleton] at m
    subst m
    refine ⟨nam_of (by decide +kernel), fun q m => ?_, by decide +kernel, by decide⟩
    have m : q ∈ ([("item", "number"), ("next", "object")] : List (Str × Str)) := m
    simp only [List.mem_cons, List.not_mem_nil, or_false] at m
    rcases m with rfl | rfl
    · exact ⟨nam_of (by decide +kernel), .inl rfl⟩
    · exact ⟨nam_of (by decide +kernel), .inr rfl⟩
  · match i, hi with
    | 0, hi => exact .inl rfl
    | n + 1, hi => simp [clC] at hi
theorem cell_int {ns : List Int} {i : Nat} {y : V} (h : (cutV (ns.map V.int) none (some (2 : Int)) ++ [V.int 0])[i]? = some y) : ∃ c, y = .int c := by
  have m := List.mem_of_getElem? h
  rcases List.mem_append.mp m with m | m
  · unfold cutV at m
    obtain ⟨c, _, rfl⟩ := List.mem_map.mp (List.mem_of_mem_drop (List.mem_of_mem_take m))
    exact ⟨c, rfl⟩
  · exact ⟨0, List.mem_singleton.mp m⟩
theorem KeepA.lst {H : Hp} {la : Addr} {xs ys : List V} (h : H la = some (.lst xs)) : KeepA H (upd H la (.lst ys)) := fun b u e n _ => by
  rw [upd_ne (fun z => n xs (by rw [z, h] at e; exact (Option.some.inj e).symm))]
  exact e
theorem lamAt_keepA {X : Cx} {params : Arguments} {body : Expr} {scope : Scope} {bz : Option (Str × Int)} {H H' : Hp} {f : Addr} (h : LamAt X params body scope bz H f) (e : KeepA H H') : LamAt X params body scope bz H' f := by
  obtain ⟨c', dV, pm, ctv, h1, h2, h3⟩ := h
  refine ⟨c', dV, pm, ctv, e _ _ h1 (by intro ps z; unfold FnO at z; cases z) fnO_ne, e _ _ h2 (by intro ps z; unfold CodeO at z; cases z) codeO_ne, ?_⟩
  cases bz with
  | none => exact h3
  | some b =>
    obtain ⟨t0, e1, e2⟩ := h3
    exact ⟨t0, e1, e _ _ e2 (by intro ps z; cases z) (by intro ps z; cases z)⟩
theorem Tabs.lst {T : List (Addr × Str)} {H : Hp} {la : Addr} {xs ys : List V} (t : Tabs T H) (h : H la = some (.lst xs)) : Tabs T (upd H la (.lst ys)) := fun q hq => by
  obtain ⟨ps, h1, h2, h3⟩ := t q hq
  have np : ∀ {d : Addr} {u : HO}, H d = some u → u ≠ .lst xs → d ≠ la := fun e n z => by
    rw [z, h] at e
    exact n (Option.some.inj e).symm
  refine ⟨ps, by rw [upd_ne (np h1 (by intro z; cases z))]; exact h1, h2, fun pos cv hc => ?_⟩
  obtain ⟨c2, e1, e2⟩ := h3 pos cv hc
  exact ⟨c2, e1, by rw [upd_ne (np e2 (by intro z; unfold CodeO at z; cases z))]; exact e2⟩
theorem ext_lst {H H2 : Hp} {la : Addr} {xs ys : List V} (n : H la = none) (e : ExtN (upd H la (.lst xs)) H2) : ExtN H (upd H2 la (.lst ys)) := fun b o h m => by
  rw [upd_ne (ne_of_none h n)]
  exact e _ _ (Same.new n _ _ h) m
end
end W17
set_option Elab.async false
set_option linter.all false
set_option maxRecDepth 100000
set_option maxHeartbeats 4000000
namespace GD
open PySem PySem.Spec PyProof.Rows L2
/-- a def that keeps its promise where no guard stands around -/
structure OkG (P : Program) (w : World) (K : PySem.W.Frag) (mg : Str → Option Value) (base : Heap) (k : Nat) (f : Addr) (fd : FuncData) (ps : List Str) (sp : Sp) : Prop where
  len : ∀ vs H Q E, sp vs H Q E → vs.length = ps.length
  run : ∀ (A : Around) (outer : List Env) (s : Shared) (H : Hp) (args : Args) (us : List Value) (vs : List V) (Q : VK) (E : XK),
    Room k A → A.guards = some [] → Env0 P w K mg base A outer s H → BindsTo s fd args (ps.zip us) → Vals vs us → sp vs H Q E → codeAny (model P w) A (.call (.ref f) args) (CR CX0 outer P w H s Q E) s
section
variable {P : Program} {w : World} {K : PySem.W.Frag} {mg : Str → Option Value} {base : Heap} {k : Nat} {f : Addr} {fd : FuncData} {ps : List Str} {sp : Sp}
theorem OkG.of (F : FnOk P w K mg base CX0 k f fd ps sp) : OkG P w K mg base k f fd ps sp :=
  ⟨F.len, fun A outer s H args us vs Q E hr _ => F.run A outer s H args us vs Q E hr⟩
end
section
variable {P : Program} {w : World} {K : PySem.W.Frag} {mg : Str → Option Value} {base : Heap} {x qual : Str} {params : Arguments} {body : List Stmt} {scope : Scope} {dvs : List V} {kws : List (Str × V)} {f : Addr} {fd : FuncData}
/-- .. by its body's walk -/
theorem okG {N ps : List Str} {k : Nat} {sp : Sp} (F : FunD K x qual params body scope dvs kws f fd) (S : FnScope N ps scope) (len : ∀ vs H Q E, sp vs H Q E → vs.length = ps.length)
    (walk : ∀ (cdv : Value) (A : Around) (outer : List Env) (s : Shared) (H : Hp) (vs : List V) (Q : VK) (E : XK), A.guards = some [] → Room k (A.deeper (envOfC qual scope s.heap.objs.size f cdv)) → sp vs H Q E →
      ∃ t, PSs (cxOf CX0 P w K mg base N qual scope f cdv A outer s H E) body t ∧ t { nx := fun _ H' => Q .non H', rt := Q } (start N vs) H) : OkG P w K mg base (k + 1) f fd ps sp := by
  obtain ⟨oc, od, dV, kV, doc, pm, an, cdv, ct, osl, rfl, lk, hcd, _, _⟩ := F.ex
  refine ⟨len, fun A outer s H args us vs Q E hr gd en bd rv h => ?_⟩
  have inK : K.In s.heap := en.mod.kin.keeps fun b o z => (en.bs b o z).1
  have nolim : s.heap.NoLimit := en.mod.nolimit.keeps fun b o z => (en.bs b o z).1
  have kinds : ∀ y ∈ ps.zip us, scope.names.lookup y.1 = some .local ∨ (scope.names.lookup y.1 = some .cell ∧ ((cellsFrom (s.heap.objs.size + 1) scope.names []).lookup y.1).isSome = true) := by
    rintro ⟨n, v⟩ m
    rcases S.par n (List.of_mem_zip m).1 with c | c
    · exact .inl c
    · exact .inr ⟨c, PySem.W.cellsFrom_some _ _ _ (.inl c)⟩
  refine codeAny_call_function hr.depth (inK _ _ lk) rfl S.co S.gen rfl (PySem.W.codeRec_of inK hcd) (bd _ _ _ _ (wpAny_newFunctionEnv_cells S.kind kinds fun env ee s1 fresh => ?_))
  subst ee
  refine ⟨nolim.keeps fresh.toInCall.keep, codeAny_func ?_⟩
  obtain ⟨t, ht, q⟩ := walk cdv A outer s H vs Q E gd (hr.deeper _) h
  have J := inv_start (CX := CX0) (E := E) S hr.hd en (len _ _ _ _ h) rv fresh
  refine wpAny_mono (ht.run [] s1 (start N vs) H _ J q) (fun fl s2 z => ?_) fun er s2 z => z
  cases fl with
  | ret u =>
    obtain ⟨v, σ2, H2, I2, r2, q2⟩ := z
    exact ⟨v, H2, I2.os, I2.bare, I2.base, I2.hok, r2, q2⟩
  | next =>
    obtain ⟨σ2, H2, I2, q2⟩ := z
    exact ⟨.non, H2, I2.os, I2.bare, I2.base, I2.hok, rfl, q2⟩
  | brk =>
    obtain ⟨σ2, H2, I2, q2⟩ := z
    exact q2.elim
  | cont =>
    obtain ⟨σ2, H2, I2, q2⟩ := z
    exact q2.elim
end
section
variable {X : Cx} {k : Nat} {f : Addr} {fd : FuncData} {ps : List Str} {sp : Sp} {E : XK} {x : Str} {p pos : Pos} {e : Expr} {es : List Expr} {t : TA}
theorem runG {pins : List (Addr × Obj)} {σ : L2.St} {H : Hp} {s : Shared} {Q : VK} {us : List Value} {vs : List V} (F : OkG X.prog X.w X.K X.mg X.base k f fd ps sp) (hr : Room k X.A) (gd : X.A.guards = some []) (hb : Binds X.K fd ps []) (hx : Passes CX0 X E)
    (I : Inv X pins σ H s) (r : Vals vs us) (h : sp vs H Q E) : wpAny (model X.prog X.w) X.A (call (.ref f) us) (EP X pins σ Q) X.xe s := by
  have l : (us ++ []).length = ps.length := by
    rw [List.append_nil, ← r.length]
    exact F.len _ _ _ _ h
  have b := hb s us I.kIn l
  rw [List.append_nil] at b
  refine wpAny_call (codeAny_mono (F.run X.A X.stack s H ⟨us, []⟩ us vs Q E hr gd I.env0 b r h) fun z s2 q => ?_)
  match z, q with
  | .error er, q => exact hx pins σ H s er s2 I q
  | .ok (.ret u), q => exact I.after q
  | .ok .next, q => exact q.elim
  | .ok .brk, q => exact q.elim
  | .ok .cont, q => exact q.elim
theorem pe_callG (F : OkG X.prog X.w X.K X.mg X.base k f fd ps sp) (hr : Room k X.A) (gd : X.A.guards = some []) (hg : Gl X x) (hm : X.mg x = some (.ref f)) (hk : PySem.W.keepIn X.K (.ref f) = true) (hb : Binds X.K fd ps []) (hx : Passes CX0 X E) (ha : PA X (e :: es) t)
    (hdb : (x == ("__debug__" : Str)) = false := by decide) (he : starEach (e :: es) X.env = (false, eval e X.env) :: starEach es X.env := by rfl) (hpl : (backTo pos (starEach es X.env)).any (·.1) = false := by rfl) : PE X (.Call (.Name x p) (e :: es) [] pos) (tCall sp [] E t) :=
  ⟨fun pins s σ H Q I h => wpAny_Call_Name_kw (ld_glob I hg hm (PySem.W.callWith_K (h₀ := X.base) I.ok.mod.kin hk (thn (ha.run pos pins s σ H _ I h) fun us s1 ⟨vs, H1, I1, r, q⟩ => ⟨I1.kIn, by
    have z : sp (vs ++ []) H1 Q E := q
    rw [List.append_nil] at z
    exact runG F hr gd hb hx I1 r z⟩) he hpl) hdb)⟩
end
end GD
set_option Elab.async false
set_option linter.all false
set_option maxRecDepth 100000
set_option maxHeartbeats 4000000
namespace GD
open PySem PySem.Spec PyProof.Rows L2
section
variable {P : Program} {w : World} {K : PySem.W.Frag} {mg mb : Str → Option Value} {k : Nat} {fa a : Addr} {fd : FuncData} {x : Str} {sp : Sp} {s : Shared} {vs : List Value} {ns : List Int} {H : Hp}
/-- nothing is tracked but perhaps the script, locked -/
structure One (P : Program) (w : World) (K : PySem.W.Frag) (H : Hp) (h : Heap) (a : Addr) : Prop where
  only : Only H
  ok : HOk P w H h
  at_ : ∀ b u, H b = some u → b = a
  no : ∀ u, H a = some u → K.lookup a = none
theorem One.hid (O : One P w K H s.heap a) (ha : s.heap.get? a = some { cls := .type "list", data := .seq vs.toArray }) {b : Addr} {o : Obj} (e : s.heap.get? b = some o) (n : b = a → ∀ u, H a ≠ some u) : (hidT s.heap H).get? b = some o := by
  refine hidT_get e ?_
  cases c : H b with
  | none => rfl
  | some u =>
    have z := O.at_ b u c
    rw [z] at c
    exact absurd c (n z u)
theorem One.nsT (O : One P w K H s.heap a) (ha : s.heap.get? a = some { cls := .type "list", data := .seq vs.toArray }) {b : Addr} {m : Str → Option Value} (h : s.heap.Ns b m) : (hidT s.heap H).Ns b m := by
  obtain ⟨o, es, ep, e, d, r⟩ := h
  refine ⟨o, es, ep, O.hid ha e (fun z => ?_), d, r⟩
  rw [z, ha] at e
  rw [← Option.some.inj e] at d
  cases d
theorem One.run (O : One P w K H s.heap a) (hS : SqL K H a (ns.map V.int)) (KX : K.In s.heap) (hm : s.heap.Ns mainGlobals mg) (hb : s.heap.Ns builtinsNs mb) (hbb : ∀ x : Str, x ≠ "__name__" → mb x = bootBuiltins x) (hlim : s.heap.NoLimit) (hg : s.gens = #[])
    (ha : s.heap.get? a = some { cls := .type "list", data := .seq vs.toArray }) (hr : Room k callerA)
    (F : ∀ base : Heap, K.In base → base.Ns mainGlobals mg → OkG P w K mg base k fa fd [x] sp) (bd : ∀ (s : Shared) (u : Value), BindsTo s fd ⟨[u], []⟩ [(x, u)])
    (h : sp [.ref a] H (fun v _ => v = .bl true) fun _ _ _ => False) :
    codeAny (model P w) callerA (.call (.ref fa) ⟨[.ref a], []⟩) (fun r s' => r = .ok (.ret (.bool true)) ∧ OldK s.heap s'.heap ∧ s'.os = s.os ∧ AllBare s'.gens) s := by
  have inB : K.In (hidT s.heap H) := fun b o e => O.hid ha (KX b o e) (fun z u c => by
    rw [z] at e
    rw [O.no u c] at e
    cases e)
  have md : Mod K mg (hidT s.heap H) := by
    obtain ⟨mc, l1, l2⟩ := hlim
    exact ⟨inB, O.nsT ha hm, ⟨mb, O.nsT ha hb, hbb⟩, ⟨mc, O.nsT ha l1, l2⟩⟩
  have en : Env0 P w K mg (hidT s.heap H) callerA [] s H := by
    refine ⟨rfl, md, fun b o e => of_hidT e, Nat.le_of_eq (hidT_size _ _), trivial, ?_, O.ok, .of_eq hg⟩
    rintro b ⟨⟩
  refine codeAny_mono ((F _ inB (O.nsT ha hm)).run callerA [] s H ⟨[.ref a], []⟩ [.ref a] [.ref a] _ _ hr rfl en (bd s (.ref a)) (.cons rfl .nil) h) fun r s2 z => ?_
  match r, z with
  | .error er, z => exact z.elim
  | .ok .next, z => exact z.elim
  | .ok .brk, z => exact z.elim
  | .ok .cont, z => exact z.elim
  | .ok (.ret u), z =>
    obtain ⟨v, H2, os2, bare2, un, ok2, rv, rfl⟩ := z
    obtain rfl : u = Value.bool true := rv
    refine ⟨rfl, OldK.of_keep fun b o e => ?_, os2, bare2⟩
    cases c : H b with
    | none => exact un.keep b o e c (fun m => absurd (show b ∈ ([] : List Addr) from m) (by simp)) (by simp)
    | some u =>
      rcases O.only b with z | ⟨ob, xs, z⟩
      · rw [z] at c
        cases c
      · have q1 := (O.ok b _ z).1
        have q2 := (ok2 b _ (un.frzs b ob _ z)).1
        rw [e] at q1
        rw [Option.some.inj q1]
        exact q2
theorem lawG (KX : K.In s.heap) (hm : s.heap.Ns mainGlobals mg) (hb : s.heap.Ns builtinsNs mb) (hbb : ∀ x : Str, x ≠ "__name__" → mb x = bootBuiltins x) (hlim : s.heap.NoLimit) (hg : s.gens = #[])
    (ha : s.heap.get? a = some { cls := .type "list", data := .seq vs.toArray }) (hi : IntsAre vs ns) (hl : ns.length ≤ sizeLine) (hr : Room k callerA)
    (F : ∀ base : Heap, K.In base → base.Ns mainGlobals mg → OkG P w K mg base k fa fd [x] sp) (bd : ∀ (s : Shared) (u : Value), BindsTo s fd ⟨[u], []⟩ [(x, u)])
    (h : ∀ H : Hp, Only H → SqL K H a (ns.map V.int) → sp [.ref a] H (fun v _ => v = .bl true) fun _ _ _ => False) :
    codeAny (model P w) callerA (.call (.ref fa) ⟨[.ref a], []⟩) (fun r s' => r = .ok (.ret (.bool true)) ∧ OldK s.heap s'.heap ∧ s'.os = s.os ∧ AllBare s'.gens) s := by
  have rv := vals_ints hi
  cases hk : K.lookup a with
  | some o =>
    have e := KX a o hk
    rw [ha] at e
    have eo := Option.some.inj e
    subst eo
    have hS : SqL K (fun _ => none) a (ns.map V.int) := .inr ⟨_, vs.toArray, _, hk, rfl, rfl, rfl, by rw [List.size_toArray, hi.length]; exact hl, by simpa using rv⟩
    have O : One P w K (fun _ => none) s.heap a := ⟨fun _ => .inl rfl, (fun b u z => by cases (show (none : Option HO) = some u from z)), (fun b u z => by cases (show (none : Option HO) = some u from z)), (fun u z => by cases (show (none : Option HO) = some u from z))⟩
    exact O.run hS KX hm hb hbb hlim hg ha hr F bd (h _ O.only hS)
  | none =>
    generalize hH : (fun b => if b = a then some (HO.frz { cls := .type "list", data := .seq vs.toArray } (.lst (ns.map V.int))) else none : Hp) = H
    have hHa : H a = some (.frz { cls := .type "list", data := .seq vs.toArray } (.lst (ns.map V.int))) := by
      rw [← hH]
      exact if_pos rfl
    have hHn : ∀ b, b ≠ a → H b = none := fun b n => by
      rw [← hH]
      exact if_neg n
    have hS : SqL K H a (ns.map V.int) := .inl (.inr ⟨_, hHa⟩)
    have at_ : ∀ b u, H b = some u → b = a := fun b u z => by
      by_cases n : b = a
      · exact n
      · rw [hHn b n] at z
        cases z
    have O : One P w K H s.heap a := by
      refine ⟨fun b => ?_, fun b u z => ?_, at_, fun _ _ => hk⟩
      · by_cases n : b = a
        · rw [n]
          exact .inr ⟨_, _, hHa⟩
        · exact .inl (hHn b n)
      · have eb := at_ b u z
        subst eb
        rw [hHa] at z
        rw [← Option.some.inj z]
        exact ⟨ha, by rw [List.length_map]; exact hl, vs, _, rv, ha⟩
    exact O.run hS KX hm hb hbb hlim hg ha hr F bd (h _ O.only hS)
end
/-- the end of a law over a head by facts, for a def that wants no guard around -/
theorem walkG {l : PySem.W.OpenLaw} {n k : Nat} {q : Program} {loose : List Str} {XP : (Str → Option Value) → Heap → Prop} {YP : World → Heap → Prop} {d : DefRec} {x : Str} (hn : l.most = some n) (hn2 : n ≤ sizeLine) (hdf : d.params.defaults = []) (hr : Room k callerA)
    (F : ∀ (w : World) (mg : Str → Option Value) (fa : Addr) (h : Heap), YP w h → h.Ns mainGlobals mg → mg d.name = some (.ref fa) → ∃ (K : PySem.W.Frag) (fd : FuncData) (sp : Sp), K.In h ∧ (∀ (s : Shared) (u : Value), BindsTo s fd ⟨[u], []⟩ [(x, u)]) ∧
      (∀ (H : Hp) (a : Addr) (ns : List Int), ns.length ≤ n → Only H → SqL K H a (ns.map V.int) → sp [.ref a] H (fun v _ => v = .bl true) fun _ _ _ => False) ∧ ∀ base : Heap, K.In base → base.Ns mainGlobals mg → OkG l.prog w K mg base k fa fd [x] sp) :
    PySem.W.WalkO q loose XP YP l.row.toRowW d [] (fun f vs => PySem.call f vs) := by
  refine Att.attach_call hn hdf fun w s₀ s₁ mg mb fa o pm cd doc a vs ns G Y _ _ _ named obj are few gens => ?_
  obtain ⟨K, fd, sp, inK, bd, hsp, hF⟩ := F w mg fa _ Y G.T.g named
  exact lawG inK G.T.g G.T.b G.T.builtins G.T.nolimit gens obj are (Nat.le_trans few hn2) hr hF bd fun H o S => hsp H a ns few o S
end GD
set_option Elab.async false
set_option linter.all false
set_option maxRecDepth 100000
set_option maxHeartbeats 4000000
/-! the end of a law whose def wants no guard around and has a table of code objects -/
namespace GT
open PySem PySem.Spec PyProof.Rows L2 GD LamX
section
variable {P : Program} {w : World} {K : PySem.W.Frag} {mg mb : Str → Option Value} {k : Nat} {fa a c T : Addr} {fd : FuncData} {x : Str} {sp : Sp} {s : Shared} {vs : List Value} {ns : List Int} {H : Hp}
/-- nothing is tracked but the table at T and perhaps the script, locked -/
structure TwoO (P : Program) (w : World) (K : PySem.W.Frag) (H : Hp) (h : Heap) (a T : Addr) : Prop where
  tb : H T = some (.tbl #[])
  ok : HOk P w H h
  at_ : ∀ b u, H b = some u → b = T ∨ (b = a ∧ ∃ ob xs, u = .frz ob (.lst xs))
  no : ∀ u, H a = some u → a = T ∨ K.lookup a = none
abbrev tabO : Obj := { cls := .none, data := .fields #[] }
theorem TwoO.hid (O : TwoO P w K H s.heap a T) {b : Addr} {o : Obj} (e : s.heap.get? b = some o) (n1 : b ≠ T) (n2 : b = a → ∀ u, H a ≠ some u) : (hidT s.heap H).get? b = some o := by
  refine hidT_get e ?_
  cases q : H b with
  | none => rfl
  | some u =>
    rcases O.at_ b u q with z | ⟨z, _⟩
    · exact absurd z n1
    · rw [z] at q
      exact absurd q (n2 z u)
theorem TwoO.hidD (O : TwoO P w K H s.heap a T) (ha : s.heap.get? a = some { cls := .type "list", data := .seq vs.toArray }) (hT : s.heap.get? T = some tabO) {b : Addr} {o : Obj} (e : s.heap.get? b = some o) (n1 : o ≠ tabO) (n2 : ∀ ys m, o.data ≠ .seq ys m) : (hidT s.heap H).get? b = some o := by
  refine O.hid e (fun z => ?_) fun z => ?_
  · rw [z, hT] at e
    exact absurd (Option.some.inj e).symm n1
  · rw [z, ha] at e
    exact absurd rfl (by rw [← Option.some.inj e] at n2; exact n2 _ _)
theorem TwoO.nsK (O : TwoO P w K H s.heap a T) (ha : s.heap.get? a = some { cls := .type "list", data := .seq vs.toArray }) (hT : s.heap.get? T = some tabO) {b : Addr} {m : Str → Option Value} (h : s.heap.Ns b m) : (hidT s.heap H).Ns b m := by
  obtain ⟨o, es, ep, e, d, r⟩ := h
  refine ⟨o, es, ep, O.hidD ha hT e (fun z => ?_) (fun ys m z => ?_), d, r⟩
  · rw [z] at d
    cases d
  · rw [d] at z
    cases z
theorem TwoO.run (O : TwoO P w K H s.heap a T) (hS : SqL K H a (ns.map V.int)) (KX : K.In s.heap) (hm : s.heap.Ns mainGlobals mg) (hb : s.heap.Ns builtinsNs mb) (hbb : ∀ x : Str, x ≠ "__name__" → mb x = bootBuiltins x) (hlim : s.heap.NoLimit) (hg : s.gens = #[])
    (ha : s.heap.get? a = some { cls := .type "list", data := .seq vs.toArray }) (hT : s.heap.get? T = some tabO) (nT : K.lookup T = none) (C : PySem.W.CodeHd s.heap c T)
    (hbm : ∃ (bm : Addr) (ob : Obj), mg "__builtins__" = some (.ref bm) ∧ bm ≠ builtinsNs ∧ s.heap.get? bm = some ob ∧ ob.cls = .type "module" ∧ ob.dict = some builtinsNs ∧ ob.data = .plain) (hr : Room k callerA)
    (F : ∀ base : Heap, K.In base → base.Ns mainGlobals mg → TabB base mg c T → OkG P w K mg base k fa fd [x] sp) (bd : ∀ (s : Shared) (u : Value), BindsTo s fd ⟨[u], []⟩ [(x, u)])
    (h : sp [.ref a] H (fun v _ => v = .bl true) fun _ _ _ => False) :
    codeAny (model P w) callerA (.call (.ref fa) ⟨[.ref a], []⟩) (fun r s' => r = .ok (.ret (.bool true)) ∧ OldK s.heap s'.heap ∧ s'.os = s.os ∧ AllBare s'.gens) s := by
  have aT : a ≠ T := fun z => by
    rw [z, hT] at ha
    cases ha
  have inB : K.In (hidT s.heap H) := fun b o e => O.hid (KX b o e) (fun z => by
    rw [z, nT] at e
    cases e) (fun z u q => by
    rcases O.no u q with z2 | z2
    · exact aT z2
    · rw [z, z2] at e
      cases e)
  have md : Mod K mg (hidT s.heap H) := by
    obtain ⟨mc, l1, l2⟩ := hlim
    exact ⟨inB, O.nsK ha hT hm, ⟨mb, O.nsK ha hT hb, hbb⟩, ⟨mc, O.nsK ha hT l1, l2⟩⟩
  have tab : TabB (hidT s.heap H) mg c T := by
    refine ⟨?_, ?_, fun z => ?_⟩
    · obtain ⟨o, us, file, tf, flags, tg, inF, text, tt, e1, r1, r2, r3, r4, r5, r6, r7, r8, hne⟩ := C
      refine ⟨o, us, file, tf, flags, tg, inF, text, tt, O.hidD ha hT e1 (fun z => ?_) (fun ys m z => ?_), r1, r2, r3, r4, r5, r6, r7, r8, hne⟩
      · rw [z] at r2
        cases r2
        simp at r3
      · rw [r2] at z
        cases z
    · obtain ⟨bm, ob, b1, b2, b3, b4, b5, b6⟩ := hbm
      refine ⟨bm, ob, b1, b2, fun q => ?_, fun q => ?_, O.hidD ha hT b3 (fun z => ?_) (fun ys m z => ?_), b4, b5, b6⟩
      · obtain ⟨o, es, ep, e, hd, _⟩ := hm
        rw [q, e] at b3
        cases b3
        rw [hd] at b6
        cases b6
      · rw [q, hT] at b3
        cases b3
        cases b6
      · rw [z] at b6
        cases b6
      · rw [b6] at z
        cases z
    · obtain ⟨o, es, ep, e, hd, _⟩ := hm
      rw [z, hT] at e
      cases e
      cases hd
  have en : Env0 P w K mg (hidT s.heap H) callerA [] s H := by
    refine ⟨rfl, md, fun b o e => of_hidT e, Nat.le_of_eq (hidT_size _ _), trivial, ?_, O.ok, .of_eq hg⟩
    rintro b ⟨⟩
  refine codeAny_mono ((F _ inB (O.nsK ha hT hm) tab).run callerA [] s H ⟨[.ref a], []⟩ [.ref a] [.ref a] _ _ hr rfl en (bd s (.ref a)) (.cons rfl .nil) h) fun r s2 z => ?_
  match r, z with
  | .error er, z => exact z.elim
  | .ok .next, z => exact z.elim
  | .ok .brk, z => exact z.elim
  | .ok .cont, z => exact z.elim
  | .ok (.ret u), z =>
    obtain ⟨v, H2, os2, bare2, un, ok2, rv, rfl⟩ := z
    obtain rfl : u = Value.bool true := rv
    have same : ∀ b o, b ≠ T → s.heap.get? b = some o → s2.heap.get? b = some o := fun b o n e => by
      cases q : H b with
      | none => exact un.keep b o e q (fun m => absurd (show b ∈ ([] : List Addr) from m) (by simp)) (by simp)
      | some u =>
        rcases O.at_ b u q with z | ⟨z, ob, xs, z2⟩
        · exact absurd z n
        · rw [z2] at q
          have q1 := (O.ok b _ q).1
          have q2 := (ok2 b _ (un.frzs b ob _ q)).1
          rw [e] at q1
          rw [Option.some.inj q1]
          exact q2
    obtain ⟨more, tm⟩ := un.tbls T #[] O.tb
    have t2 : s2.heap.get? T = some { cls := .none, data := .fields (#[] ++ more) } := ok2 T _ tm
    refine ⟨rfl, ⟨fun b o e => ?_, fun b o e => ?_⟩, os2, bare2⟩
    · by_cases n : b = T
      · rw [n, hT] at e
        cases e
        rw [n]
        exact .inr (.inl ⟨(C.tab hT).isCodeTable, rfl, #[], more, rfl, t2⟩)
      · exact .inl (same b o n e)
    · by_cases n : b = T
      · rw [n]
        exact ⟨_, t2⟩
      · exact ⟨o, same b o n e⟩
theorem lawGT (KX : K.In s.heap) (hm : s.heap.Ns mainGlobals mg) (hb : s.heap.Ns builtinsNs mb) (hbb : ∀ x : Str, x ≠ "__name__" → mb x = bootBuiltins x) (hlim : s.heap.NoLimit) (hg : s.gens = #[])
    (ha : s.heap.get? a = some { cls := .type "list", data := .seq vs.toArray }) (hT : s.heap.get? T = some tabO) (nT : K.lookup T = none) (C : PySem.W.CodeHd s.heap c T)
    (hbm : ∃ (bm : Addr) (ob : Obj), mg "__builtins__" = some (.ref bm) ∧ bm ≠ builtinsNs ∧ s.heap.get? bm = some ob ∧ ob.cls = .type "module" ∧ ob.dict = some builtinsNs ∧ ob.data = .plain) (hi : IntsAre vs ns) (hl : ns.length ≤ sizeLine) (hr : Room k callerA)
    (F : ∀ base : Heap, K.In base → base.Ns mainGlobals mg → TabB base mg c T → OkG P w K mg base k fa fd [x] sp) (bd : ∀ (s : Shared) (u : Value), BindsTo s fd ⟨[u], []⟩ [(x, u)])
    (h : ∀ H : Hp, H T = some (.tbl #[]) → SqL K H a (ns.map V.int) → sp [.ref a] H (fun v _ => v = .bl true) fun _ _ _ => False) :
    codeAny (model P w) callerA (.call (.ref fa) ⟨[.ref a], []⟩) (fun r s' => r = .ok (.ret (.bool true)) ∧ OldK s.heap s'.heap ∧ s'.os = s.os ∧ AllBare s'.gens) s := by
  have rv := vals_ints hi
  have aT : a ≠ T := fun z => by
    rw [z, hT] at ha
    cases ha
  let H0 : Hp := fun b => if b = T then some (.tbl #[]) else none
  have tb0 : H0 T = some (.tbl #[]) := if_pos rfl
  have nn0 : ∀ b, b ≠ T → H0 b = none := fun b n => if_neg n
  cases hk : K.lookup a with
  | some o =>
    have e := KX a o hk
    rw [ha] at e
    have eo := Option.some.inj e
    subst eo
    have hS : SqL K H0 a (ns.map V.int) := .inr ⟨_, vs.toArray, _, hk, rfl, rfl, rfl, by rw [List.size_toArray, hi.length]; exact hl, by simpa using rv⟩
    have O : TwoO P w K H0 s.heap a T := by
      refine ⟨tb0, fun b u z => ?_, fun b u z => ?_, fun u z => ?_⟩
      · by_cases n : b = T
        · rw [n, tb0] at z
          cases z
          rw [n]
          exact hT
        · rw [nn0 b n] at z
          cases z
      · by_cases n : b = T
        · exact .inl n
        · rw [nn0 b n] at z
          cases z
      · rw [nn0 a aT] at z
        cases z
    exact O.run hS KX hm hb hbb hlim hg ha hT nT C hbm hr F bd (h _ tb0 hS)
  | none =>
    obtain ⟨H, hH⟩ : ∃ H, upd H0 a (.frz { cls := .type "list", data := .seq vs.toArray } (.lst (ns.map V.int))) = H := ⟨_, rfl⟩
    have hHa : H a = some (.frz { cls := .type "list", data := .seq vs.toArray } (.lst (ns.map V.int))) := by
      rw [← hH]
      exact upd_same
    have hHT : H T = some (.tbl #[]) := by
      rw [← hH, upd_ne aT.symm]
      exact tb0
    have hHn : ∀ b, b ≠ a → b ≠ T → H b = none := fun b n m => by
      rw [← hH, upd_ne n]
      exact nn0 b m
    have hS : SqL K H a (ns.map V.int) := .inl (.inr ⟨_, hHa⟩)
    have O : TwoO P w K H s.heap a T := by
      refine ⟨hHT, fun b u z => ?_, fun b u z => ?_, fun _ _ => .inr hk⟩
      · by_cases n : b = a
        · rw [n, hHa] at z
          cases z
          rw [n]
          exact ⟨ha, by rw [List.length_map]; exact hl, vs, _, rv, ha⟩
        · by_cases m : b = T
          · rw [m, hHT] at z
            cases z
            rw [m]
            exact hT
          · rw [hHn b n m] at z
            cases z
      · by_cases n : b = a
        · rw [n, hHa] at z
          cases z
          exact .inr ⟨n, _, _, rfl⟩
        · by_cases m : b = T
          · exact .inl m
          · rw [hHn b n m] at z
            cases z
    exact O.run hS KX hm hb hbb hlim hg ha hT nT C hbm hr F bd (h _ hHT hS)
end
/-- the end of such a law over a head by facts -/
theorem walkGT {l : PySem.W.OpenLaw} {n k : Nat} {q : Program} {loose : List Str} {XP : (Str → Option Value) → Heap → Prop} {YP : World → Heap → Prop} {d : DefRec} {x : Str} (hn : l.most = some n) (hn2 : n ≤ sizeLine) (hdf : d.params.defaults = []) (hr : Room k callerA)
    (F : ∀ (w : World) (mg : Str → Option Value) (fa : Addr) (h : Heap), YP w h → h.Ns mainGlobals mg → mg d.name = some (.ref fa) → ∃ (K : PySem.W.Frag) (fd : FuncData) (c T : Addr) (sp : Sp), K.In h ∧ h.get? T = some tabO ∧ K.lookup T = none ∧ PySem.W.CodeHd h c T ∧ (∀ (s : Shared) (u : Value), BindsTo s fd ⟨[u], []⟩ [(x, u)]) ∧
      (∀ (H : Hp) (a : Addr) (ns : List Int), ns.length ≤ n → H T = some (.tbl #[]) → SqL K H a (ns.map V.int) → sp [.ref a] H (fun v _ => v = .bl true) fun _ _ _ => False) ∧ ∀ base : Heap, K.In base → base.Ns mainGlobals mg → TabB base mg c T → OkG l.prog w K mg base k fa fd [x] sp) :
    PySem.W.WalkO q loose XP YP l.row.toRowW d [] (fun f vs => PySem.call f vs) := by
  refine Att.attach_callB hn hdf fun w s₀ s₁ mg mb fa o pm cd doc a vs ns G Y _ _ _ named obj are few _ gens => ?_
  obtain ⟨K, fd, c, T, sp, inK, hT, nT, C, bd, hsp, hF⟩ := F w mg fa _ Y G.T.g named
  exact lawGT inK G.T.g G.T.b G.T.builtins G.T.nolimit gens obj hT nT C G.T.bmain are (Nat.le_trans few hn2) hr hF bd fun H o S => hsp H a ns few o S
end GT
set_option Elab.async false
set_option linter.all false
set_option maxRecDepth 100000
set_option maxHeartbeats 4000000
namespace W17
open PySem PySem.Spec PyProof.Rows L2 RZ CA
section
variable {P : Program} {w : World} {K : PySem.W.Frag} {mg : Str → Option Value} {base : Heap}

open LamX LamZ
/-! ### the law -/
def lamB : Expr → Expr
  | .Lambda _ b _ _ => b
  | e => e
def lamA : Expr → Arguments
  | .Lambda a _ _ _ => a
  | _ => defArgs s_law
def lamS : Expr → Scope
  | .Lambda _ _ s _ => s
  | _ => defScope s_law
def lstE : Expr → Nat → Expr
  | .List es p, i => es.getD i (.List es p)
  | e, _ => e
def callE : Expr → Nat → Expr
  | .Call f es ks p, i => es.getD i (.Call f es ks p)
  | e, _ => e
def stE : Stmt → Expr
  | .Assign _ e _ => e
  | .Expr e _ => e
  | _ => .Name "x" ⟨0, 0, 0, 0⟩
def forB : Stmt → List Stmt
  | .For _ _ b _ _ => b
  | _ => []
def inB (i : Nat) : Stmt := (forB ((forB ((defBody s_law).getD 1 (.Pass ⟨0, 0, 0, 0⟩))).getD 2 (.Pass ⟨0, 0, 0, 0⟩))).getD i (.Pass ⟨0, 0, 0, 0⟩)
/-- the lambdas of the three lists -/
def lamX (j : Nat) : Fin 3 → Expr
  | 0 => lstE (stE (inB (1 + 3 * j))) 0
  | 1 => lstE (stE (inB (1 + 3 * j))) 1
  | 2 => callE (stE (inB (2 + 3 * j))) 0
def TL (K : PySem.W.Frag) : List (Addr × Str) := [((He.cT K ("law", none)).2, "law.<locals>.<lambda>")]
def spLaw (K : PySem.W.Frag) : Sp := fun vs H Q _ => ∃ (a : Addr) (ns : List Int), vs = [.ref a] ∧ SqL K H a (ns.map V.int) ∧ ns.length ≤ 63 ∧ Tabs (TL K) H ∧ ∀ H', Q (.bl true) H'
theorem room_u {k : Nat} {A : Around} (r : Room k A) : A.units + 200 < cLine := by
  have := r.un
  omega
theorem room_r {k : Nat} {A : Around} (r : Room k A) : A.units + 100 < cLine := by
  have := r.un
  omega
/-- a def whose code object is known, where no guard stands around -/
theorem okGC {x qual : Str} {params : Arguments} {body : List Stmt} {scope : Scope} {dvs : List V} {kws : List (Str × V)} {n : He.Defn} {fd : FuncData} {N ps : List Str} {k : Nat} {sp : Sp} (F : FunD K x qual params body scope dvs kws (He.fAd K n) fd) (S : FnScope N ps scope) (len : ∀ vs H Q E, sp vs H Q E → vs.length = ps.length)
    (walk : ∀ (A : Around) (outer : List Env) (s : Shared) (H : Hp) (vs : List V) (Q : VK) (E : XK), A.guards = some [] → Room k (A.deeper (envOfC qual scope s.heap.objs.size (He.fAd K n) (.ref (He.codeOf K n)))) → sp vs H Q E →
      ∃ t, PSs (cxOf CX0 P w K mg base N qual scope (He.fAd K n) (.ref (He.codeOf K n)) A outer s H E) body t ∧ t { nx := fun _ H' => Q .non H', rt := Q } (L2.start N vs) H) : GD.OkG P w K mg base (k + 1) (He.fAd K n) fd ps sp := by
  obtain ⟨oc, od, dV, kV, doc, pm, an, cdv, ct, osl, rfl, lk, hcd, _, _⟩ := F.ex
  obtain ⟨c, rfl⟩ := He.codeIn_ref hcd
  have ec := He.codeOf_eq lk rfl
  rw [ec] at walk
  refine ⟨len, fun A outer s H args us vs Q E hr gd en bd rv h => ?_⟩
  have inK : K.In s.heap := en.mod.kin.keeps fun b o z => (en.bs b o z).1
  have nolim : s.heap.NoLimit := en.mod.nolimit.keeps fun b o z => (en.bs b o z).1
  have kinds : ∀ y ∈ ps.zip us, scope.names.lookup y.1 = some .local ∨ (scope.names.lookup y.1 = some .cell ∧ ((cellsFrom (s.heap.objs.size + 1) scope.names []).lookup y.1).isSome = true) := by
    rintro ⟨n, v⟩ m
    rcases S.par n (List.of_mem_zip m).1 with c | c
    · exact .inl c
    · exact .inr ⟨c, PySem.W.cellsFrom_some _ _ _ (.inl c)⟩
  refine codeAny_call_function hr.depth (inK _ _ lk) rfl S.co S.gen rfl (PySem.W.codeRec_of inK hcd) (bd _ _ _ _ (wpAny_newFunctionEnv_cells S.kind kinds fun env ee s1 fresh => ?_))
  subst ee
  refine ⟨nolim.keeps fresh.toInCall.keep, codeAny_func ?_⟩
  obtain ⟨t, ht, q⟩ := walk A outer s H vs Q E gd (hr.deeper _) h
  have J := inv_start (CX := CX0) (E := E) S hr.hd en (len _ _ _ _ h) rv fresh
  refine wpAny_mono (ht.run [] s1 (L2.start N vs) H _ J q) (fun fl s2 z => ?_) fun er s2 z => z
  cases fl with
  | ret u =>
    obtain ⟨v, σ2, H2, I2, r2, q2⟩ := z
    exact ⟨v, H2, I2.os, I2.bare, I2.base, I2.hok, r2, q2⟩
  | next =>
    obtain ⟨σ2, H2, I2, q2⟩ := z
    exact ⟨.non, H2, I2.os, I2.bare, I2.base, I2.hok, rfl, q2⟩
  | brk =>
    obtain ⟨σ2, H2, I2, q2⟩ := z
    exact q2.elim
  | cont =>
    obtain ⟨σ2, H2, I2, q2⟩ := z
    exact q2.elim
theorem sc_law : FnScope ["_law_script", "_law_odds", "_law_cell", "_law_well_here", "_law_prog", "_law_odd", "_law_other", "_law_asks", "_law_ask"] ["_law_script"] (defScope s_law) := ⟨rfl, rfl, rfl, by decide +kernel, rfl, by decide +kernel, by decide +kernel⟩
theorem ok_law {fd : FuncData} (T : Ctx w K mg) (F : FunD K "law" "law" (defArgs s_law) (defBody s_law) (defScope s_law) [] [] (He.ga K "law") fd) (TB : LamX.TabB base mg (He.cT K ("law", none)).1 (He.cT K ("law", none)).2) (H_L_well : Has P w K mg base 1 "_law_well" ["_law_cell"] spWell) (H_L_one : Has P w K mg base 2 "_law_one" ["_law_well_here", "_law_some"] spOne) (H_L_function : Has P w K mg base 4 "_law_function" ["_law_well_here", "_law_title", "_law_most"] spFunL) (H_L_classes : Has P w K mg base 1 "_law_classes" [] spClasses) (H_wanted : HasX P w K mg base 6 "wanted" ["source", "name", "row"] (spAsk K)) (H_wanting : HasX P w K mg base 6 "wanting" ["source", "name", "row", "variable"] (spAskV K)) (H_wanted_at_call : HasX P w K mg base 6 "wanted_at_call" ["source", "name", "row"] (spAsk K)) (H_Src : HasM P w K mg base 8 "Source" "__init__" ["self", "classes", "functions"] (spSrcInitG K)) : GD.OkG P w K mg base 11 (He.ga K "law") fd ["_law_script"] (spLaw K) := by
  obtain ⟨fd_L_well, G_L_well, b_L_well⟩ := H_L_well.ex
  obtain ⟨fd_L_one, G_L_one, b_L_one⟩ := H_L_one.ex
  obtain ⟨fd_L_function, G_L_function, b_L_function⟩ := H_L_function.ex
  obtain ⟨fd_L_classes, G_L_classes, b_L_classes⟩ := H_L_classes.ex
  obtain ⟨fd_wanted, G_wanted, b_wanted⟩ := H_wanted.ex
  obtain ⟨fd_wanting, G_wanting, b_wanting⟩ := H_wanting.ex
  obtain ⟨fd_wanted_at_call, G_wanted_at_call, b_wanted_at_call⟩ := H_wanted_at_call.ex
  obtain ⟨fd_Source_init, G_Source_init, b_Source_init⟩ := H_Src.ex
  obtain ⟨fdT, FT⟩ := T.D_L_said
  have bT := FT.bindsN (ps := ["_law_ask"]) fun _ _ _ _ _ _ us hl => match us, hl with | [_], _ => rfl
  obtain ⟨ocT, odT, dVT, kVT, docT, pmT, anT, cdvT, ctT, oslT, eT, lkT, hcT, _, _⟩ := FT.ex
  rw [eT] at lkT bT
  refine okGC (n := ("law", none)) F sc_law (fun vs H Q E h => ?_) (fun A outer s H vs Q E gd hr h => ?_)
  · obtain ⟨a, ns, rfl, hS, hl, hT, k⟩ := h; rfl
  · obtain ⟨a, ns, rfl, hS, hl, hT, k⟩ := h
    have hr_L_well : Room 1 _ := hr.mono (by decide)
    have hr_L_one : Room 2 _ := hr.mono (by decide)
    have hr_L_function : Room 4 _ := hr.mono (by decide)
    have hr_L_classes : Room 1 _ := hr.mono (by decide)
    have hr_Source_init : Room 9 _ := hr.mono (by decide)
    have hr8 : Room 8 _ := hr.mono (by decide)
    have hu := hu_of hr
    refine ⟨_, PSs.nox (pss_cons (ps_set (i := 1) sc_law.nd rfl (Or.inl rfl) (pe_lst (pa_cons pe_non (pa_cons pe_bl (pa_cons pe_bl (pa_cons pe_str (pa_cons pe_str (pa_cons (pe_lst pa_nil) (pa_cons (pe_lst (pa_cons pe_str pa_nil)) (pa_cons pe_dnewK (pa_cons (pe_tup pa_nil) (pa_cons (pe_tup (pa_cons pe_str pa_nil)) (pa_cons (pe_un un_neg pe_int) (pa_cons (pe_op op_pow pe_int pe_int) (pa_cons pe_int pa_nil)))))))))))))))
      (pss_cons (ps_for PassesOwn.never rfl (pi_list (pe_op op_cat (pe_slice sl_list (pv 0) po_none (po_some pe_int)) (pe_lst (pa_cons pe_int pa_nil)))) (pg_name (i := 2) sc_law.nd rfl (Or.inl rfl))
      (pss_cons (ps_set (i := 3) sc_law.nd rfl (Or.inl rfl) (pe_call G_L_well hr_L_well (by rfl) H_L_well.gl H_L_well.kp b_L_well .nil pass0 (pa_cons (pv 2) pa_nil)))
      (pss_cons (ps_set (i := 4) sc_law.nd rfl (Or.inr rfl) (pe_make T.k_Source G_Source_init hr_Source_init rfl T.g_Source b_Source_init .nil pass0 (pa_cons (pe_call0 G_L_classes hr_L_classes (by rfl) H_L_classes.gl H_L_classes.kp b_L_classes .nil pass0) (pa_cons (pe_lst (pa_cons (pe_call G_L_function hr_L_function (by rfl) H_L_function.gl H_L_function.kp b_L_function .nil pass0 (pa_cons (pv 3) (pa_cons pe_str (pa_cons pe_int pa_nil)))) pa_nil)) pa_nil))))
      (pss_one (ps_for PassesOwn.never rfl (pi_list (pv 1)) (pg_name (i := 5) sc_law.nd rfl (Or.inr rfl))
      (pss_cons (ps_set (i := 6) sc_law.nd rfl (Or.inr rfl) (pe_call G_L_one hr_L_one (by rfl) H_L_one.gl H_L_one.kp b_L_one .nil pass0 (pa_cons (pv 3) (pa_cons (pv 1) pa_nil))))
      (pss_cons (ps_set (i := 7) sc_law.nd rfl (Or.inl rfl) (pe_lst (pa_cons (LamZ.pe_lam0 (T := TL K) (bs := []) TB rfl (List.mem_singleton.mpr rfl) (fun p m _ => congrArg Prod.snd (List.mem_singleton.mp m)) (LamY.lamP_by (N := ["_law_script", "_law_odds", "_law_cell", "_law_well_here", "_law_prog", "_law_odd", "_law_other", "_law_asks", "_law_ask"]) (sc := defScope s_law) (by decide +kernel)) (by rfl)) (pa_cons (LamZ.pe_lam1 (T := TL K) (z := 0) (b := "_law_at") TB rfl (List.mem_singleton.mpr rfl) (fun p m _ => congrArg Prod.snd (List.mem_singleton.mp m)) (LamY.lamP_by (N := ["_law_script", "_law_odds", "_law_cell", "_law_well_here", "_law_prog", "_law_odd", "_law_other", "_law_asks", "_law_ask"]) (sc := defScope s_law) (by decide +kernel)) (by rfl) rfl) pa_nil))))
      (pss_cons (ps_expr (pe_bm PySem.F.plainAttrs_list PySem.F.slot_list_append PySem.F.type_list_append mt_append (pv 7) (pa_cons (LamZ.pe_lam0 (T := TL K) (bs := []) TB rfl (List.mem_singleton.mpr rfl) (fun p m _ => congrArg Prod.snd (List.mem_singleton.mp m)) (LamY.lamP_by (N := ["_law_script", "_law_odds", "_law_cell", "_law_well_here", "_law_prog", "_law_odd", "_law_other", "_law_asks", "_law_ask"]) (sc := defScope s_law) (by decide +kernel)) (by rfl)) pa_nil)))
      (pss_cons (ps_if (pt_cmpR (op_neD hr.units) (LamZ.pe_lcZ (own := [("_law_ask", 8)]) (g := gName 8) (tt := tYes) rfl sc_law.nd (pi_list (pv 7)) (blkOk_by (N := ["_law_script", "_law_odds", "_law_cell", "_law_well_here", "_law_prog", "_law_odd", "_law_other", "_law_asks", "_law_ask"]) (sc := defScope s_law) (by decide +kernel)) (fun _ _ _ _ _ => (pg_name (i := 8) sc_law.nd rfl (Or.inl rfl))) (fun _ _ _ _ _ => pts_nil) (fun pins s σ H I C cl fp hfp => LamZ.pe_orE (LamZ.lz_call (params := lamA (lamX 0 0)) (body := lamB (lamX 0 0)) (scope := lamS (lamX 0 0)) (bz := none) (k := 6) (i := 8) I hfp (by rfl) T.g_L_said FT.kp lkT hcT bT sc_L_said rfl (.inl rfl) (said_giv T gd (room_u hr)) hr8  (LamY.lamP_by (N := ["_law_script", "_law_odds", "_law_cell", "_law_well_here", "_law_prog", "_law_odd", "_law_other", "_law_asks", "_law_ask"]) (sc := defScope s_law) (by decide +kernel)) (fun _ _ _ _ _ => rfl) (fun A outer s H E f c hr2 => pe_call G_wanted hr2 (by rfl) H_wanted.gl H_wanted.kp b_wanted .nil (passes_call (takes_of rfl rfl rfl rfl) (fun _ _ _ _ h => h)) (pa_cons (pv 5) (pa_cons (pv 6) (pa_cons (pv 6) pa_nil)))) rfl (.inl rfl)) (LamZ.pe_orE (LamZ.lz_call (params := lamA (lamX 0 1)) (body := lamB (lamX 0 1)) (scope := lamS (lamX 0 1)) (bz := (some ("_law_at", 0))) (k := 6) (i := 8) I hfp (by rfl) T.g_L_said FT.kp lkT hcT bT sc_L_said rfl (.inl rfl) (said_giv T gd (room_u hr)) hr8  (LamY.lamP_by (N := ["_law_script", "_law_odds", "_law_cell", "_law_well_here", "_law_prog", "_law_odd", "_law_other", "_law_asks", "_law_ask"]) (sc := defScope s_law) (by decide +kernel)) (fun _ _ _ _ _ _ _ => ⟨_, rfl, rfl⟩) (fun A outer s H E f c hr2 => pe_call G_wanted_at_call hr2 (by rfl) H_wanted_at_call.gl H_wanted_at_call.kp b_wanted_at_call .nil (passes_call (takes_of rfl rfl rfl rfl) (fun _ _ _ _ h => h)) (pa_cons (pv 5) (pa_cons (pv 6) (pa_cons (pv 6) pa_nil)))) rfl (.inl rfl)) (LamZ.lz_call (params := lamA (lamX 0 2)) (body := lamB (lamX 0 2)) (scope := lamS (lamX 0 2)) (bz := none) (k := 6) (i := 8) I hfp (by rfl) T.g_L_said FT.kp lkT hcT bT sc_L_said rfl (.inl rfl) (said_giv T gd (room_u hr)) hr8  (LamY.lamP_by (N := ["_law_script", "_law_odds", "_law_cell", "_law_well_here", "_law_prog", "_law_odd", "_law_other", "_law_asks", "_law_ask"]) (sc := defScope s_law) (by decide +kernel)) (fun _ _ _ _ _ => rfl) (fun A outer s H E f c hr2 => pe_call G_wanting hr2 (by rfl) H_wanting.gl H_wanting.kp b_wanting .nil (passes_call (takes_of rfl rfl rfl rfl) (fun _ _ _ _ h => h)) (pa_cons (pv 5) (pa_cons (pv 6) (pa_cons (pv 6) (pa_cons (pv 6) pa_nil))))) rfl (.inl rfl))))) (pe_op op_rep (pe_lst (pa_cons (pe_tup (pa_cons pe_str (pa_cons pe_str (pa_cons pe_non pa_nil)))) pa_nil)) pe_int) (nomark _)) (pss_one (ps_ret pe_bl)) pss_nil)
      (pss_cons (ps_set (i := 7) sc_law.nd rfl (Or.inl rfl) (pe_lst (pa_cons (LamZ.pe_lam0 (T := TL K) (bs := []) TB rfl (List.mem_singleton.mpr rfl) (fun p m _ => congrArg Prod.snd (List.mem_singleton.mp m)) (LamY.lamP_by (N := ["_law_script", "_law_odds", "_law_cell", "_law_well_here", "_law_prog", "_law_odd", "_law_other", "_law_asks", "_law_ask"]) (sc := defScope s_law) (by decide +kernel)) (by rfl)) (pa_cons (LamZ.pe_lam1 (T := TL K) (z := 0) (b := "_law_at") TB rfl (List.mem_singleton.mpr rfl) (fun p m _ => congrArg Prod.snd (List.mem_singleton.mp m)) (LamY.lamP_by (N := ["_law_script", "_law_odds", "_law_cell", "_law_well_here", "_law_prog", "_law_odd", "_law_other", "_law_asks", "_law_ask"]) (sc := defScope s_law) (by decide +kernel)) (by rfl) rfl) pa_nil))))
      (pss_cons (ps_expr (pe_bm PySem.F.plainAttrs_list PySem.F.slot_list_append PySem.F.type_list_append mt_append (pv 7) (pa_cons (LamZ.pe_lam0 (T := TL K) (bs := []) TB rfl (List.mem_singleton.mpr rfl) (fun p m _ => congrArg Prod.snd (List.mem_singleton.mp m)) (LamY.lamP_by (N := ["_law_script", "_law_odds", "_law_cell", "_law_well_here", "_law_prog", "_law_odd", "_law_other", "_law_asks", "_law_ask"]) (sc := defScope s_law) (by decide +kernel)) (by rfl)) pa_nil)))
      (pss_cons (ps_if (pt_cmpR (op_neD hr.units) (LamZ.pe_lcZ (own := [("_law_ask", 8)]) (g := gName 8) (tt := tYes) rfl sc_law.nd (pi_list (pv 7)) (blkOk_by (N := ["_law_script", "_law_odds", "_law_cell", "_law_well_here", "_law_prog", "_law_odd", "_law_other", "_law_asks", "_law_ask"]) (sc := defScope s_law) (by decide +kernel)) (fun _ _ _ _ _ => (pg_name (i := 8) sc_law.nd rfl (Or.inl rfl))) (fun _ _ _ _ _ => pts_nil) (fun pins s σ H I C cl fp hfp => LamZ.pe_orE (LamZ.lz_call (params := lamA (lamX 1 0)) (body := lamB (lamX 1 0)) (scope := lamS (lamX 1 0)) (bz := none) (k := 6) (i := 8) I hfp (by rfl) T.g_L_said FT.kp lkT hcT bT sc_L_said rfl (.inl rfl) (said_giv T gd (room_u hr)) hr8  (LamY.lamP_by (N := ["_law_script", "_law_odds", "_law_cell", "_law_well_here", "_law_prog", "_law_odd", "_law_other", "_law_asks", "_law_ask"]) (sc := defScope s_law) (by decide +kernel)) (fun _ _ _ _ _ => rfl) (fun A outer s H E f c hr2 => pe_call G_wanted hr2 (by rfl) H_wanted.gl H_wanted.kp b_wanted .nil (passes_call (takes_of rfl rfl rfl rfl) (fun _ _ _ _ h => h)) (pa_cons (pv 4) (pa_cons (pv 5) (pa_cons (pv 6) pa_nil)))) rfl (.inl rfl)) (LamZ.pe_orE (LamZ.lz_call (params := lamA (lamX 1 1)) (body := lamB (lamX 1 1)) (scope := lamS (lamX 1 1)) (bz := (some ("_law_at", 0))) (k := 6) (i := 8) I hfp (by rfl) T.g_L_said FT.kp lkT hcT bT sc_L_said rfl (.inl rfl) (said_giv T gd (room_u hr)) hr8  (LamY.lamP_by (N := ["_law_script", "_law_odds", "_law_cell", "_law_well_here", "_law_prog", "_law_odd", "_law_other", "_law_asks", "_law_ask"]) (sc := defScope s_law) (by decide +kernel)) (fun _ _ _ _ _ _ _ => ⟨_, rfl, rfl⟩) (fun A outer s H E f c hr2 => pe_call G_wanted_at_call hr2 (by rfl) H_wanted_at_call.gl H_wanted_at_call.kp b_wanted_at_call .nil (passes_call (takes_of rfl rfl rfl rfl) (fun _ _ _ _ h => h)) (pa_cons (pv 4) (pa_cons (pv 5) (pa_cons (pv 6) pa_nil)))) rfl (.inl rfl)) (LamZ.lz_call (params := lamA (lamX 1 2)) (body := lamB (lamX 1 2)) (scope := lamS (lamX 1 2)) (bz := none) (k := 6) (i := 8) I hfp (by rfl) T.g_L_said FT.kp lkT hcT bT sc_L_said rfl (.inl rfl) (said_giv T gd (room_u hr)) hr8  (LamY.lamP_by (N := ["_law_script", "_law_odds", "_law_cell", "_law_well_here", "_law_prog", "_law_odd", "_law_other", "_law_asks", "_law_ask"]) (sc := defScope s_law) (by decide +kernel)) (fun _ _ _ _ _ => rfl) (fun A outer s H E f c hr2 => pe_call G_wanting hr2 (by rfl) H_wanting.gl H_wanting.kp b_wanting .nil (passes_call (takes_of rfl rfl rfl rfl) (fun _ _ _ _ h => h)) (pa_cons (pv 4) (pa_cons (pv 5) (pa_cons (pv 6) (pa_cons (pv 6) pa_nil))))) rfl (.inl rfl))))) (pe_op op_rep (pe_lst (pa_cons (pe_tup (pa_cons pe_str (pa_cons pe_str pa_nil))) pa_nil)) pe_int) (nomark _)) (pss_one (ps_ret pe_bl)) pss_nil)
      (pss_cons (ps_set (i := 7) sc_law.nd rfl (Or.inl rfl) (pe_lst (pa_cons (LamZ.pe_lam0 (T := TL K) (bs := []) TB rfl (List.mem_singleton.mpr rfl) (fun p m _ => congrArg Prod.snd (List.mem_singleton.mp m)) (LamY.lamP_by (N := ["_law_script", "_law_odds", "_law_cell", "_law_well_here", "_law_prog", "_law_odd", "_law_other", "_law_asks", "_law_ask"]) (sc := defScope s_law) (by decide +kernel)) (by rfl)) (pa_cons (LamZ.pe_lam1 (T := TL K) (z := 0) (b := "_law_at") TB rfl (List.mem_singleton.mpr rfl) (fun p m _ => congrArg Prod.snd (List.mem_singleton.mp m)) (LamY.lamP_by (N := ["_law_script", "_law_odds", "_law_cell", "_law_well_here", "_law_prog", "_law_odd", "_law_other", "_law_asks", "_law_ask"]) (sc := defScope s_law) (by decide +kernel)) (by rfl) rfl) pa_nil))))
      (pss_cons (ps_expr (pe_bm PySem.F.plainAttrs_list PySem.F.slot_list_append PySem.F.type_list_append mt_append (pv 7) (pa_cons (LamZ.pe_lam0 (T := TL K) (bs := []) TB rfl (List.mem_singleton.mpr rfl) (fun p m _ => congrArg Prod.snd (List.mem_singleton.mp m)) (LamY.lamP_by (N := ["_law_script", "_law_odds", "_law_cell", "_law_well_here", "_law_prog", "_law_odd", "_law_other", "_law_asks", "_law_ask"]) (sc := defScope s_law) (by decide +kernel)) (by rfl)) pa_nil)))
      (pss_cons (ps_if (pt_cmpR (op_neD hr.units) (LamZ.pe_lcZ (own := [("_law_ask", 8)]) (g := gName 8) (tt := tYes) rfl sc_law.nd (pi_list (pv 7)) (blkOk_by (N := ["_law_script", "_law_odds", "_law_cell", "_law_well_here", "_law_prog", "_law_odd", "_law_other", "_law_asks", "_law_ask"]) (sc := defScope s_law) (by decide +kernel)) (fun _ _ _ _ _ => (pg_name (i := 8) sc_law.nd rfl (Or.inl rfl))) (fun _ _ _ _ _ => pts_nil) (fun pins s σ H I C cl fp hfp => LamZ.pe_orE (LamZ.lz_call (params := lamA (lamX 2 0)) (body := lamB (lamX 2 0)) (scope := lamS (lamX 2 0)) (bz := none) (k := 6) (i := 8) I hfp (by rfl) T.g_L_said FT.kp lkT hcT bT sc_L_said rfl (.inl rfl) (said_giv T gd (room_u hr)) hr8  (LamY.lamP_by (N := ["_law_script", "_law_odds", "_law_cell", "_law_well_here", "_law_prog", "_law_odd", "_law_other", "_law_asks", "_law_ask"]) (sc := defScope s_law) (by decide +kernel)) (fun _ _ _ _ _ => rfl) (fun A outer s H E f c hr2 => pe_call G_wanted hr2 (by rfl) H_wanted.gl H_wanted.kp b_wanted .nil (passes_call (takes_of rfl rfl rfl rfl) (fun _ _ _ _ h => h)) (pa_cons (pv 4) (pa_cons pe_str (pa_cons (pv 5) pa_nil)))) rfl (.inl rfl)) (LamZ.pe_orE (LamZ.lz_call (params := lamA (lamX 2 1)) (body := lamB (lamX 2 1)) (scope := lamS (lamX 2 1)) (bz := (some ("_law_at", 0))) (k := 6) (i := 8) I hfp (by rfl) T.g_L_said FT.kp lkT hcT bT sc_L_said rfl (.inl rfl) (said_giv T gd (room_u hr)) hr8  (LamY.lamP_by (N := ["_law_script", "_law_odds", "_law_cell", "_law_well_here", "_law_prog", "_law_odd", "_law_other", "_law_asks", "_law_ask"]) (sc := defScope s_law) (by decide +kernel)) (fun _ _ _ _ _ _ _ => ⟨_, rfl, rfl⟩) (fun A outer s H E f c hr2 => pe_call G_wanted_at_call hr2 (by rfl) H_wanted_at_call.gl H_wanted_at_call.kp b_wanted_at_call .nil (passes_call (takes_of rfl rfl rfl rfl) (fun _ _ _ _ h => h)) (pa_cons (pv 4) (pa_cons pe_str (pa_cons (pv 5) pa_nil)))) rfl (.inl rfl)) (LamZ.lz_call (params := lamA (lamX 2 2)) (body := lamB (lamX 2 2)) (scope := lamS (lamX 2 2)) (bz := none) (k := 6) (i := 8) I hfp (by rfl) T.g_L_said FT.kp lkT hcT bT sc_L_said rfl (.inl rfl) (said_giv T gd (room_u hr)) hr8  (LamY.lamP_by (N := ["_law_script", "_law_odds", "_law_cell", "_law_well_here", "_law_prog", "_law_odd", "_law_other", "_law_asks", "_law_ask"]) (sc := defScope s_law) (by decide +kernel)) (fun _ _ _ _ _ => rfl) (fun A outer s H E f c hr2 => pe_call G_wanting hr2 (by rfl) H_wanting.gl H_wanting.kp b_wanting .nil (passes_call (takes_of rfl rfl rfl rfl) (fun _ _ _ _ h => h)) (pa_cons (pv 4) (pa_cons pe_str (pa_cons (pv 5) (pa_cons (pv 6) pa_nil))))) rfl (.inl rfl))))) (pe_op op_rep (pe_lst (pa_cons (pe_tup (pa_cons pe_str (pa_cons (pe_callB (call_reprT gd (room_r hr)) (by rfl) T.f_repr (by decide +kernel) (pa_cons (pv 5) pa_nil)) pa_nil))) pa_nil)) pe_int) (nomark _)) (pss_one (ps_ret pe_bl)) pss_nil)
      (pss_one (ps_if (pt_cmpR (op_neD hr.units) (LamZ.lz_callL (T := TL K) (k := 6) TB rfl (List.mem_singleton.mpr rfl) (fun p m _ => congrArg Prod.snd (List.mem_singleton.mp m)) (by rfl) (by rfl) T.g_L_said FT.kp lkT hcT bT sc_L_said rfl (.inl rfl) (said_giv T gd (room_u hr)) hr8  (LamY.lamP_by (N := ["_law_script", "_law_odds", "_law_cell", "_law_well_here", "_law_prog", "_law_odd", "_law_other", "_law_asks", "_law_ask"]) (sc := defScope s_law) (by decide +kernel)) (fun _ _ _ _ _ => rfl) (fun A outer s H E f c hr2 => pe_call G_wanting hr2 (by rfl) H_wanting.gl H_wanting.kp b_wanting .nil (passes_call (takes_of rfl rfl rfl rfl) (fun _ _ _ _ h => h)) (pa_cons (pv 4) (pa_cons pe_str (pa_cons pe_int (pa_cons (pv 5) pa_nil)))))) (pe_tup (pa_cons pe_str (pa_cons pe_str pa_nil))) (nomark _)) (pss_one (ps_ret pe_bl)) pss_nil)))))))))))))))))
      (pss_one (ps_ret pe_bl)))), ?_⟩
    refine ⟨sz_of (by show 0 ≤ 100000; decide), fun a1 h1 => ⟨sz_of (by show 1 ≤ 100000; decide), fun a2 h2 => ?_⟩⟩
    refine fun d1 h3 => ⟨sz_of (by show 0 ≤ 100000; decide), fun t1 h4 => ⟨sz_of (by show 1 ≤ 100000; decide), fun t2 h5 => ?_⟩⟩
    refine ⟨1, rfl, 10, 30, rfl, rfl, ⟨by decide, by decide, by decide⟩, sz_of (by show 13 ≤ 100000; decide), fun lo h6 => ?_⟩
    have r1 := Same.new (o := .lst []) h1
    have r2 := Same.new (o := .lst [.str "f"]) h2
    have r3 := Same.new (o := .dK []) h3
    have r4 := Same.new (o := .tup []) h4
    have r5 := Same.new (o := .tup [.str "f"]) h5
    have r6 := Same.new (o := .lst (oddV a1 a2 d1 t1 t2)) h6
    have r56 := r5.trans r6
    have r46 := r4.trans r56
    have r36 := r3.trans r46
    have r26 := r2.trans r36
    have O : OddsAt _ lo a1 a2 d1 t1 t2 := ⟨upd_same (o := .lst (oddV a1 a2 d1 t1 t2)), r26 _ _ upd_same, r36 _ _ upd_same, r46 _ _ upd_same, r56 _ _ upd_same, r6 _ _ upd_same⟩
    have r16 := r1.trans r26
    change gName 1 (V.ref lo) _ (upd _ lo (.lst (oddV a1 a2 d1 t1 t2))) _
    generalize upd _ lo (.lst (oddV a1 a2 d1 t1 t2)) = H6 at O r16
    clear r1 r2 r3 r4 r5 r6 r56 r46 r36 r26 h1 h2 h3 h4 h5 h6
    have hS6 := sql_mono hS r16
    have hT6 := Tabs.same hT r16
    have hcl : (cutV (ns.map V.int) none (some (2 : Int))).length ≤ 63 := Nat.le_trans (cutV_length _ _ _) (by rw [List.length_map]; exact hl)
    refine ⟨_, rfl, 2, rfl, a, _, rfl, hS6, fun l1 hl1 => ⟨sz_of (by show 1 ≤ 100000; decide), fun l2 hl2 => ⟨l1, l2, _, _, rfl, rfl, Same.new hl2 _ _ upd_same, upd_same, sz_of (by show _ + 1 ≤ _; omega), fun L hL => ⟨L, rfl, ⟨_, SqL.of upd_same⟩, ?_⟩⟩⟩⟩
    have r7 := (Same.new (o := .lst (cutV (ns.map V.int) none (some (2 : Int)))) hl1).trans ((Same.new (o := .lst [V.int 0]) hl2).trans (Same.new (o := .lst (cutV (ns.map V.int) none (some (2 : Int)) ++ [V.int 0])) hL))
    refine for_it (walk_list (K := K) (a := L) (xs := cutV (ns.map V.int) none (some (2 : Int)) ++ [V.int 0])) (fun i σ H1 => (Tabs (TL K) H1 ∧ H1 L = some (.lst (cutV (ns.map V.int) none (some (2 : Int)) ++ [V.int 0])) ∧ OddsAt H1 lo a1 a2 d1 t1 t2) ∧ ∃ v2 v3 v4 v5 v6 v7 v8 : Option V, σ = [some (.ref a), some (.ref lo), v2, v3, v4, v5, v6, v7, v8]) ⟨⟨Tabs.same hT6 r7, upd_same, O.same r7⟩, _, _, _, _, _, _, _, rfl⟩ (fun i σ H1 _ q => SqL.of q.1.2.1) ?_ (fun σ H1 _ => k _)
    clear O r16 hS6 hT6 hS hT r7 hl1 hl2 hL
    rintro i y σ H1' H1 hi ⟨⟨tT, hLL, O⟩, v2, v3, v4, v5, v6, v7, v8, rfl⟩ ⟨rfl, hy⟩
    obtain ⟨c, rfl⟩ := cell_int hy
    refine ⟨_, rfl, c, rfl, fun p H2 s2 hp w2 => ?_⟩
    have nLp : L ≠ p := ne_of_none hLL hp
    refine ⟨rfl, fun ca e la ps H3 s3 g1 g2 g3 g4 => ⟨_, rfl, p, 9, rfl, w2.mono s3, by decide, by decide, fun ef rws H4 b4 w4 ent fok l1 l9 => ⟨sz_of (by show 1 ≤ 100000; decide), fun fl hfl x dx hx hdx ndx => ?_⟩⟩⟩
    have s23 := s2.trans s3
    have w3 := w2.mono s3
    have g1' := b4 _ _ g1 (w3.neL g1 (by intro n; simp))
    have g2' := b4 _ _ g2 (w3.neT g2)
    have g3' := w3.keepTL b4 g3
    have g4' := g4.but w3 b4
    have s5 := (Same.new (o := .lst [.ref ef]) hfl).trans ((Same.new (o := .own x) hdx).trans (Same.new (o := .ins (He.ga K "Source") dx []) (by rw [upd_ne ndx.symm]; exact hx)))
    have nn4 : H4 x = none := by
      cases z : H4 x with
      | none => rfl
      | some o =>
        rw [Same.new hfl _ _ z] at hx
        cases hx
    refine ⟨x, dx, ca, fl, clC, [fF rws], rfl, upd_same, ⟨⟨[e], s5 _ _ g1', rfl, fun i e' c' q1 q2 => ?_⟩, clsOk_C, ⟨[ef], ((Same.new (o := .own x) hdx).trans (Same.new (o := .ins (He.ga K "Source") dx []) (by rw [upd_ne ndx.symm]; exact hx))) _ _ upd_same, rfl, fun i e' f' q1 q2 => ?_⟩, by simp, by show 1 ≤ 1; decide, by show 1 ≤ 6; decide, fun f m => ?_⟩, fun H6 b6 X => ⟨rfl, ?_⟩⟩
    · match i, q1, q2 with
      | 0, q1, q2 =>
        rw [← Option.some.inj q1, ← Option.some.inj q2]
        exact ⟨la, ps, s5 _ _ g2', s5 _ _ g3', g4'.mono s5⟩
      | n + 1, q1, q2 => simp at q1
    · match i, q1, q2 with
      | 0, q1, q2 =>
        rw [← Option.some.inj q1, ← Option.some.inj q2]
        exact ent.keep (.of s5)
      | n + 1, q1, q2 => simp at q1
    · rw [List.mem_singleton.mp m]
      exact fok
    have s6 : Same H4 H6 := fun c' u q => b6 _ _ (s5 _ _ q) fun z => by
      rw [z, nn4] at q
      cases q
    have C : CoreL K (TL K) L lo a1 a2 d1 t1 t2 p x (cutV (ns.map V.int) none (some (2 : Int)) ++ [V.int 0]) rws H6 :=
      ⟨Tabs.same (Tabs.but (Tabs.same tT s23) w3 b4) s6, s6 _ _ (b4 _ _ (s23 _ _ hLL) nLp), ((O.same s23).but w3 b4).same s6, w4.mono s6, nLp, X⟩
    clear s2 s3 s5 s6 b4 b6 X ent fok g1 g2 g3 g4 g1' g2' g3' g4' w2 w3 w4 hfl hx hdx ndx nn4 O hLL tT hp s23
    refine ⟨_, rfl, lo, rfl, ⟨_, SqL.of C.o.l⟩, ?_⟩
    refine for_it (walk_list (K := K) (a := lo) (xs := oddV a1 a2 d1 t1 t2)) (fun j σ H7 => CoreL K (TL K) L lo a1 a2 d1 t1 t2 p x (cutV (ns.map V.int) none (some (2 : Int)) ++ [V.int 0]) rws H7 ∧ ∃ v5 v6 v7 v8 : Option V, σ = [some (.ref a), some (.ref lo), some (.int c), some (.ref p), some (.ref x), v5, v6, v7, v8]) ⟨C, _, _, _, _, rfl⟩ (fun j σ H7 _ q => SqL.of q.1.o.l) ?_ (fun σ H7 q => ?_)
    rotate_left
    · obtain ⟨C7, v5, v6, v7, v8, rfl⟩ := q
      exact ⟨⟨C7.t, C7.c, C7.o⟩, _, _, _, _, _, _, _, rfl⟩
    clear C
    rintro j y σ H7' H7 hj ⟨C, v5, v6, v7, v8, rfl⟩ ⟨rfl, hyj⟩
    have hjl : j < oddT.length := hj
    obtain ⟨t, htj⟩ : ∃ t, oddT[j]? = some t := ⟨oddT[j], List.getElem?_eq_getElem hjl⟩
    have ht : t ∈ oddT := List.mem_of_getElem? htj
    have hth : ∀ {H : Hp}, OddsAt H lo a1 a2 d1 t1 t2 → ThAt H y t := fun o => o.ix hyj htj
    refine ⟨_, rfl, _, rfl, p, lo, _, rfl, C.w, C.o.l, C.w.neL C.o.l (by intro n; simp [oddV]), by show 0 < 13; decide, by show 13 ≤ 1000; decide, fun ov H8 hov b8 w8 => ?_⟩
    obtain ⟨j', hj', hov'⟩ := List.getElem_of_mem hov
    have C0 := C.but w8 b8
    clear C b8 w8 hov
    refine ⟨C0.t, fun f1 H1 e1 t1_ A1 => ⟨t1_, fun f2 H2 e2 t2_ A2 => ⟨sz_of (by show 2 ≤ 100000; decide), fun la hla => ?_⟩⟩⟩
    have C2 := (C0.ext e1 t1_).ext e2 t2_
    have A1 := A1.ext e2
    clear C0 e1 t1_ e2
    refine ⟨_, rfl, .inl ⟨rfl, _, SqL.of upd_same⟩, Tabs.same t2_ (Same.new hla), fun f3 H3 e3 t3_ A3 => ?_⟩
    have h3 := e3 _ _ upd_same (by intro ps z; cases z)
    refine ⟨la, _, _, rfl, rfl, h3, sz_lt (by show 2 < 100000; decide), ?_⟩
    have C := C2.ext (ext_lst (ys := [.ref f1, .ref f2] ++ [.ref f3]) hla e3) (Tabs.lst t3_ h3)
    have A1 := A1.ext (ext_lst (ys := [.ref f1, .ref f2] ++ [.ref f3]) hla e3)
    have A2 := A2.ext (ext_lst (ys := [.ref f1, .ref f2] ++ [.ref f3]) hla e3)
    have A3 := lamAt_keepA A3 (KeepA.lst (ys := [.ref f1, .ref f2] ++ [.ref f3]) h3)
    have h4 := upd_same (H := H3) (a := la) (o := .lst ([.ref f1, .ref f2] ++ [.ref f3]))
    generalize upd H3 la (.lst ([.ref f1, .ref f2] ++ [.ref f3])) = HA at C A1 A2 A3 h4
    clear C2 h3 e3 t3_ hla t2_
    refine ⟨_, rfl, la, rfl, ⟨_, SqL.of h4⟩, fun D hD => ?_⟩
    refine lc_any (walk_list (K := K) (a := la) (xs := [.ref f1, .ref f2] ++ [.ref f3])) hD (fun _ H v => ∃ q, v = .ref q ∧ H q = some (.tup [.str "source", .str "source", .non])) (by show 3 < 100000; decide) (fun i H H' v xs hDx b q => stab_tup hDx b q) (fun H3 s3 => SqL.of (s3 _ _ h4)) (fun i H3 yy H3' xs hi s3 hDl hyy Qe qe => ?_) (fun H4 xs s4 hl4 hx hD4 => ?_)
    · obtain ⟨rfl, hyy⟩ := hyy
      have C3 := C.same s3
      match i, hyy with
      | 0, hyy =>
        obtain rfl : V.ref f1 = yy := Option.some.inj hyy
        exact ⟨rfl, .inl ⟨f1, rfl, A1.ext (same_ext s3), ⟨_, rfl, _, rfl, _, rfl, _, _, _, rfl, .inl ⟨t, hth C3.o, said_src (fun q H5 s5 hq => qe _ H5 s5 ⟨q, rfl, hq⟩)⟩⟩⟩⟩
      | 1, hyy =>
        obtain rfl : V.ref f2 = yy := Option.some.inj hyy
        exact ⟨rfl, .inr (.inl ⟨f2, rfl, A2.ext (same_ext s3), ⟨_, rfl, _, rfl, _, rfl, _, _, _, rfl, .inl ⟨t, hth C3.o, said_src (fun q H5 s5 hq => qe _ H5 s5 ⟨q, rfl, hq⟩)⟩⟩⟩)⟩
      | 2, hyy =>
        obtain rfl : V.ref f3 = yy := Option.some.inj hyy
        exact ⟨rfl, .inr (.inr ⟨f3, rfl, A3.ext (same_ext s3), ⟨_, rfl, _, rfl, _, rfl, _, rfl, _, _, _, _, rfl, .inl (.inl ⟨t, hth C3.o, said_src (fun q H5 s5 hq => qe _ H5 s5 ⟨q, rfl, hq⟩)⟩)⟩⟩)⟩
      | n + 3, hyy => simp at hyy
    have C4 := C.same s4
    clear C A1 A2 A3 h4 hD
    refine ⟨sz_of (by show 3 ≤ 100000; decide), fun tt htt => ⟨sz_of (by show 1 ≤ 100000; decide), fun ll hll => ⟨ll, 3, _, rfl, rfl, upd_same, by decide, by decide, sz_of (by show 3 ≤ 100000; decide), fun pp hpp => ?_⟩⟩⟩
    have u1 := Same.new (o := .tup [.str "source", .str "source", .non]) htt
    have u2 := Same.new (o := .lst [.ref tt]) hll
    have u3 := Same.new (o := .lst (List.replicate (3 : Int).toNat [V.ref tt]).flatten) hpp
    have u := u1.trans (u2.trans u3)
    refine ⟨_, _, three_dp (u _ _ hD4) hl4 (fun i v e => by
      obtain ⟨q, rfl, hq⟩ := hx i v e
      exact dp_src (u _ _ hq)), three_rep upd_same (dp_src ((u2.trans u3) _ _ upd_same)), sh_src, sh_src, _, rfl, ifF (by rw [eqv_self sh_src]; rfl) ?_⟩
    have C0 := C4.same u
    clear C4 hD4 hx u u1 u2 u3
    refine ⟨C0.t, fun f1 H1 e1 t1_ A1 => ⟨t1_, fun f2 H2 e2 t2_ A2 => ⟨sz_of (by show 2 ≤ 100000; decide), fun la hla => ?_⟩⟩⟩
    have C2 := (C0.ext e1 t1_).ext e2 t2_
    have A1 := A1.ext e2
    clear C0 e1 t1_ e2
    refine ⟨_, rfl, .inl ⟨rfl, _, SqL.of upd_same⟩, Tabs.same t2_ (Same.new hla), fun f3 H3 e3 t3_ A3 => ?_⟩
    have h3 := e3 _ _ upd_same (by intro ps z; cases z)
    refine ⟨la, _, _, rfl, rfl, h3, sz_lt (by show 2 < 100000; decide), ?_⟩
    have C := C2.ext (ext_lst (ys := [.ref f1, .ref f2] ++ [.ref f3]) hla e3) (Tabs.lst t3_ h3)
    have A1 := A1.ext (ext_lst (ys := [.ref f1, .ref f2] ++ [.ref f3]) hla e3)
    have A2 := A2.ext (ext_lst (ys := [.ref f1, .ref f2] ++ [.ref f3]) hla e3)
    have A3 := lamAt_keepA A3 (KeepA.lst (ys := [.ref f1, .ref f2] ++ [.ref f3]) h3)
    have h4 := upd_same (H := H3) (a := la) (o := .lst ([.ref f1, .ref f2] ++ [.ref f3]))
    generalize upd H3 la (.lst ([.ref f1, .ref f2] ++ [.ref f3])) = HA at C A1 A2 A3 h4
    clear C2 h3 e3 t3_ hla t2_
    refine ⟨_, rfl, la, rfl, ⟨_, SqL.of h4⟩, fun D hD => ?_⟩
    refine lc_any (walk_list (K := K) (a := la) (xs := [.ref f1, .ref f2] ++ [.ref f3])) hD (fun _ H v => ∃ q, v = .ref q ∧ H q = some (.tup [.str "argument", .str "name"])) (by show 3 < 100000; decide) (fun i H H' v xs hDx b q => stab_tup hDx b q) (fun H3 s3 => SqL.of (s3 _ _ h4)) (fun i H3 yy H3' xs hi s3 hDl hyy Qe qe => ?_) (fun H4 xs s4 hl4 hx hD4 => ?_)
    · obtain ⟨rfl, hyy⟩ := hyy
      have C3 := C.same s3
      match i, hyy with
      | 0, hyy =>
        obtain rfl : V.ref f1 = yy := Option.some.inj hyy
        exact ⟨rfl, .inl ⟨f1, rfl, A1.ext (same_ext s3), ⟨_, rfl, _, rfl, _, rfl, _, _, _, rfl, .inr (.inl ⟨x, clC, fF rws, t, rfl, C3.s, hth C3.o, odd_name t ht, said_arg (fun q H5 s5 hq => qe _ H5 s5 ⟨q, rfl, hq⟩)⟩)⟩⟩⟩
      | 1, hyy =>
        obtain rfl : V.ref f2 = yy := Option.some.inj hyy
        exact ⟨rfl, .inr (.inl ⟨f2, rfl, A2.ext (same_ext s3), ⟨_, rfl, _, rfl, _, rfl, _, _, _, rfl, .inr (.inl ⟨x, clC, fF rws, t, rfl, C3.s, hth C3.o, odd_name t ht, said_arg (fun q H5 s5 hq => qe _ H5 s5 ⟨q, rfl, hq⟩)⟩)⟩⟩)⟩
      | 2, hyy =>
        obtain rfl : V.ref f3 = yy := Option.some.inj hyy
        exact ⟨rfl, .inr (.inr ⟨f3, rfl, A3.ext (same_ext s3), ⟨_, rfl, _, rfl, _, rfl, _, rfl, _, _, _, _, rfl, .inl (.inr (.inl ⟨x, clC, fF rws, t, rfl, C3.s, hth C3.o, odd_name t ht, said_arg (fun q H5 s5 hq => qe _ H5 s5 ⟨q, rfl, hq⟩)⟩))⟩⟩)⟩
      | n + 3, hyy => simp at hyy
    have C4 := C.same s4
    clear C A1 A2 A3 h4 hD
    refine ⟨sz_of (by show 2 ≤ 100000; decide), fun tt htt => ⟨sz_of (by show 1 ≤ 100000; decide), fun ll hll => ⟨ll, 3, _, rfl, rfl, upd_same, by decide, by decide, sz_of (by show 3 ≤ 100000; decide), fun pp hpp => ?_⟩⟩⟩
    have u1 := Same.new (o := .tup [.str "argument", .str "name"]) htt
    have u2 := Same.new (o := .lst [.ref tt]) hll
    have u3 := Same.new (o := .lst (List.replicate (3 : Int).toNat [V.ref tt]).flatten) hpp
    have u := u1.trans (u2.trans u3)
    refine ⟨_, _, three_dp (u _ _ hD4) hl4 (fun i v e => by
      obtain ⟨q, rfl, hq⟩ := hx i v e
      exact dp_arg (u _ _ hq)), three_rep upd_same (dp_arg ((u2.trans u3) _ _ upd_same)), sh_arg, sh_arg, _, rfl, ifF (by rw [eqv_self sh_arg]; rfl) ?_⟩
    have C0 := C4.same u
    clear C4 hD4 hx u u1 u2 u3
    refine ⟨C0.t, fun f1 H1 e1 t1_ A1 => ⟨t1_, fun f2 H2 e2 t2_ A2 => ⟨sz_of (by show 2 ≤ 100000; decide), fun la hla => ?_⟩⟩⟩
    have C2 := (C0.ext e1 t1_).ext e2 t2_
    have A1 := A1.ext e2
    clear C0 e1 t1_ e2
    refine ⟨_, rfl, .inl ⟨rfl, _, SqL.of upd_same⟩, Tabs.same t2_ (Same.new hla), fun f3 H3 e3 t3_ A3 => ?_⟩
    have h3 := e3 _ _ upd_same (by intro ps z; cases z)
    refine ⟨la, _, _, rfl, rfl, h3, sz_lt (by show 2 < 100000; decide), ?_⟩
    have C := C2.ext (ext_lst (ys := [.ref f1, .ref f2] ++ [.ref f3]) hla e3) (Tabs.lst t3_ h3)
    have A1 := A1.ext (ext_lst (ys := [.ref f1, .ref f2] ++ [.ref f3]) hla e3)
    have A2 := A2.ext (ext_lst (ys := [.ref f1, .ref f2] ++ [.ref f3]) hla e3)
    have A3 := lamAt_keepA A3 (KeepA.lst (ys := [.ref f1, .ref f2] ++ [.ref f3]) h3)
    have h4 := upd_same (H := H3) (a := la) (o := .lst ([.ref f1, .ref f2] ++ [.ref f3]))
    generalize upd H3 la (.lst ([.ref f1, .ref f2] ++ [.ref f3])) = HA at C A1 A2 A3 h4
    clear C2 h3 e3 t3_ hla t2_
    refine ⟨_, rfl, la, rfl, ⟨_, SqL.of h4⟩, fun D hD => ?_⟩
    refine lc_any (walk_list (K := K) (a := la) (xs := [.ref f1, .ref f2] ++ [.ref f3])) hD (fun _ H v => ∃ q, v = .ref q ∧ H q = some (.tup [.str "number", .str (thD t).shown])) (by show 3 < 100000; decide) (fun i H H' v xs hDx b q => stab_tup hDx b q) (fun H3 s3 => SqL.of (s3 _ _ h4)) (fun i H3 yy H3' xs hi s3 hDl hyy Qe qe => ?_) (fun H4 xs s4 hl4 hx hD4 => ?_)
    · obtain ⟨rfl, hyy⟩ := hyy
      have C3 := C.same s3
      match i, hyy with
      | 0, hyy =>
        obtain rfl : V.ref f1 = yy := Option.some.inj hyy
        exact ⟨rfl, .inl ⟨f1, rfl, A1.ext (same_ext s3), ⟨_, rfl, _, rfl, _, _, _, rfl, .inr (.inr ⟨x, clC, fF rws, t, rfl, rfl, by show 1 ≤ 1000; decide, C3.s, hth C3.o, by show rws.length ≤ 40; omega, odd_row l9 t ht, said_num (hth C3.o) (odd_repr t ht) (fun q H5 s5 hq => qe _ H5 s5 ⟨q, rfl, hq⟩)⟩)⟩⟩⟩
      | 1, hyy =>
        obtain rfl : V.ref f2 = yy := Option.some.inj hyy
        exact ⟨rfl, .inr (.inl ⟨f2, rfl, A2.ext (same_ext s3), ⟨_, rfl, _, rfl, _, _, _, rfl, .inr (.inr ⟨x, clC, fF rws, t, rfl, rfl, by show 1 ≤ 1000; decide, C3.s, hth C3.o, by show rws.length ≤ 40; omega, odd_row l9 t ht, said_num (hth C3.o) (odd_repr t ht) (fun q H5 s5 hq => qe _ H5 s5 ⟨q, rfl, hq⟩)⟩)⟩⟩)⟩
      | 2, hyy =>
        obtain rfl : V.ref f3 = yy := Option.some.inj hyy
        exact ⟨rfl, .inr (.inr ⟨f3, rfl, A3.ext (same_ext s3), ⟨_, rfl, _, rfl, _, rfl, _, _, _, _, rfl, .inl (.inr (.inr ⟨x, clC, fF rws, t, rfl, rfl, by show 1 ≤ 1000; decide, C3.s, hth C3.o, by show rws.length ≤ 40; omega, odd_row l9 t ht, said_num (hth C3.o) (odd_repr t ht) (fun q H5 s5 hq => qe _ H5 s5 ⟨q, rfl, hq⟩)⟩))⟩⟩)⟩
      | n + 3, hyy => simp at hyy
    have C4 := C.same s4
    clear C A1 A2 A3 h4 hD
    refine ⟨_, rfl, y, t, rfl, hth C4.o, odd_repr t ht, sz_of (by show 2 ≤ 100000; decide), fun tt htt => ⟨sz_of (by show 1 ≤ 100000; decide), fun ll hll => ⟨ll, 3, _, rfl, rfl, upd_same, by decide, by decide, sz_of (by show 3 ≤ 100000; decide), fun pp hpp => ?_⟩⟩⟩
    have u1 := Same.new (o := .tup [.str "number", .str (thD t).shown]) htt
    have u2 := Same.new (o := .lst [.ref tt]) hll
    have u3 := Same.new (o := .lst (List.replicate (3 : Int).toNat [V.ref tt]).flatten) hpp
    have u := u1.trans (u2.trans u3)
    refine ⟨_, _, three_dp (u _ _ hD4) hl4 (fun i v e => by
      obtain ⟨q, rfl, hq⟩ := hx i v e
      exact dp_num (u _ _ hq)), three_rep upd_same (dp_num ((u2.trans u3) _ _ upd_same)), (sh_num t ht), (sh_num t ht), _, rfl, ifF (by rw [eqv_self (sh_num t ht)]; rfl) ?_⟩
    have C0 := C4.same u
    clear C4 hD4 hx u u1 u2 u3
    refine ⟨C0.t, fun f H1 e1 t1_ A1 => ⟨f, rfl, ?_⟩⟩
    have C1 := C0.ext e1 t1_
    refine ⟨_, rfl, _, rfl, _, _, _, _, rfl, .inr ⟨x, clC, fF rws, 0, t, rfl, rfl, rfl, by show 1 ≤ 1000; decide, C1.s, by show rws.length ≤ 40; omega, by decide, by show (0 : Int) ≤ (rws.length : Int) - 1; omega, hth C1.o, odd_var t ht, said_arg fun q H2 s2 hq => ?_⟩⟩
    refine ⟨sz_of (by show 2 ≤ 100000; decide), fun tt htt => ?_⟩
    have u := Same.new (o := .tup [.str "argument", .str "variable"]) htt
    refine ⟨_, _, dp_arg (u _ _ hq), dp_arg upd_same, sh_var, sh_var, _, rfl, ifF (by rw [eqv_self sh_var]; rfl) ?_⟩
    exact ⟨C1.same (s2.trans u), _, _, _, _, rfl⟩

end
end W17
set_option Elab.async false
set_option linter.all false
set_option maxRecDepth 100000
set_option maxHeartbeats 4000000
namespace W17
open PySem PySem.Spec PyProof.Rows L2 RZ LamX LamZ
theorem law_has {P : Program} {w : World} {K : PySem.W.Frag} {mg : Str → Option Value} {base : Heap} {fd : FuncData} (T : Ctx w K mg) (TB : LamX.TabB base mg (He.cT K ("law", none)).1 (He.cT K ("law", none)).2) (F : FunD K "law" "law" (defArgs s_law) (defBody s_law) (defScope s_law) [] [] (He.ga K "law") fd) : GD.OkG P w K mg base 11 (He.ga K "law") fd ["_law_script"] (spLaw K) := by
  have h_ok_is_integer := ok_is_integer (P := P) (base := base) T
  have h_ok_is_integer_in := ok_is_integer_in (P := P) (base := base) T (H_is_integer := h_ok_is_integer)
  have h_ok_is_written_number := ok_is_written_number (P := P) (base := base) T (H_is_integer_in := h_ok_is_integer_in)
  have h_ok_is_name := ok_is_name (P := P) (base := base) T
  have h_ok_is_tuple_of := ok_is_tuple_of (P := P) (base := base) T
  have h_ok_is_list_of := ok_is_list_of (P := P) (base := base) T
  have h_ok_is_word_tuple := ok_is_word_tuple (P := P) (base := base) T
  have h_ok_frozen0 := ok_frozen0 (P := P) (base := base) T
  have h_ok_frozen1 := ok_frozen1 (P := P) (base := base) T (H_frozen := h_ok_frozen0)
  have h_ok_frozen2 := ok_frozen2 (P := P) (base := base) T (H_frozen := h_ok_frozen1)
  have h_ok_Source_fields_of := ok_Source_fields_of (P := P) (base := base) T
  have h_ok_Source_field_kind := ok_Source_field_kind (P := P) (base := base) T
  have h_ok_Source_function_at := ok_Source_function_at (P := P) (base := base) T
  have h_ok_is_list_of_names := ok_is_list_of_names (P := P) (base := base) T (H_is_name := h_ok_is_name)
  have h_ok_fills := ok_fills (P := P) (base := base) T (H_is_name := h_ok_is_name) (H_is_written_number := h_ok_is_written_number) (H_is_integer := h_ok_is_integer) (H_Source_fields_of := h_ok_Source_fields_of) (H_Source_field_kind := h_ok_Source_field_kind) (H_Source_function_at := h_ok_Source_function_at) (H_is_list_of_names := h_ok_is_list_of_names)
  have h_ok_is_row := ok_is_row (P := P) (base := base) T (H_is_word_tuple := h_ok_is_word_tuple) (H_fills := h_ok_fills)
  have h_ok_row_sets := ok_row_sets (P := P) (base := base) T
  have h_ok_row_reads := ok_row_reads (P := P) (base := base) T
  have h_ok_names_in := ok_names_in (P := P) (base := base) T (H_row_reads := h_ok_row_reads) (H_row_sets := h_ok_row_sets)
  have h_ok_call_fits := ok_call_fits (P := P) (base := base) T
  have h_ok_row_kinds_fit := ok_row_kinds_fit (P := P) (base := base) T (H_names_in := h_ok_names_in) (H_call_fits := h_ok_call_fits) (H_Source_field_kind := h_ok_Source_field_kind) (H_Source_function_at := h_ok_Source_function_at)
  have h_ok_frozenM := ok_frozenM (P := P) (base := base) T (H_frozen := h_ok_frozen0)
  have h_ok_frozenR := ok_frozenR (P := P) (base := base) T (H_frozen := h_ok_frozenM)
  have h_ok_frozenW := ok_frozenW (P := P) (base := base) T (H_frozen := h_ok_frozenR)
  have h_ok_Source_is_row_of := ok_Source_is_row_of (P := P) (base := base) T (H_is_row := h_ok_is_row) (H_row_sets := h_ok_row_sets) (H_row_reads := h_ok_row_reads) (H_row_kinds_fit := h_ok_row_kinds_fit)
  have h_ok_Source_take_rows := ok_Source_take_rows (P := P) (base := base) T (H_Source_is_row_of := h_ok_Source_is_row_of) (H_frozen := h_ok_frozenW)
  have h_ok_is_kindG := ok_is_kindG (P := P) (base := base) T
  have h_ok_are_named_kindsG := ok_are_named_kindsG (P := P) (base := base) T (H_is_list_of := h_ok_is_list_of) (H_is_tuple_of := h_ok_is_tuple_of) (H_is_name := h_ok_is_name) (H_is_kind := h_ok_is_kindG)
  have h_ok_is_head := ok_is_head (P := P) (base := base) T (H_is_tuple_of := h_ok_is_tuple_of) (H_is_name := h_ok_is_name) (H_is_kind := h_ok_is_kindG) (H_are_named_kinds := h_ok_are_named_kindsG) (H_is_list_of := h_ok_is_list_of)
  have h_ok_is_class := ok_is_class (P := P) (base := base) T (H_is_tuple_of := h_ok_is_tuple_of) (H_is_name := h_ok_is_name) (H_are_named_kinds := h_ok_are_named_kindsG)
  have h_ok_Source_kinds_differ := ok_Source_kinds_differ (P := P) (base := base) T
  have h_ok_Source_take_classes := ok_Source_take_classes (P := P) (base := base) T (H_is_list_of := h_ok_is_list_of) (H_is_class := h_ok_is_class) (H_Source_kinds_differ := h_ok_Source_kinds_differ) (H_frozen := h_ok_frozen2)
  have h_ok_Function_init := ok_Function_init (P := P) (base := base) T (H_frozen := h_ok_frozen2)
  have h_ok_Source_take_heads := ok_Source_take_heads (P := P) (base := base) T (H_is_list_of := h_ok_is_list_of) (H_is_head := h_ok_is_head) (H_Function_init := h_ok_Function_init)
  have h_ok_Source_init := ok_Source_init (P := P) (base := base) T (H_Source_take_classes := h_ok_Source_take_classes) (H_Source_take_heads := h_ok_Source_take_heads) (H_Source_take_rows := h_ok_Source_take_rows)
  have h_ok_L_well := ok_L_well (P := P) (base := base) T
  have h_ok_L_draw := ok_L_draw (P := P) (base := base) T
  have h_ok_L_one := ok_L_one (P := P) (base := base) T (H_L_draw := h_ok_L_draw)
  have h_ok_L_plain := ok_L_plain (P := P) (base := base) T (H_L_draw := h_ok_L_draw) (H_L_one := h_ok_L_one)
  have h_ok_L_classes := ok_L_classes (P := P) (base := base) T
  have h_ok_L_function := ok_L_function (P := P) (base := base) T (H_L_draw := h_ok_L_draw) (H_L_one := h_ok_L_one) (H_L_plain := h_ok_L_plain)
  have h_ok_arg_init := ok_arg_init (P := P) (base := base) T
  have h_ok_num_init := ok_num_init (P := P) (base := base) T
  have h_ok_src_err := ok_src_err (P := P) (base := base) T
  have h_okT_is_integer := okT_is_integer (P := P) (base := base) T
  have h_okT_is_integer_in := okT_is_integer_in (P := P) (base := base) T (H_is_integer := h_okT_is_integer)
  have h_okT_has_row := okT_has_row (P := P) (base := base) T (H_is_integer_in := h_okT_is_integer_in)
  have h_okT_function_at := okT_function_at (P := P) (base := base) T
  have h_okT_function_with := okT_function_with (P := P) (base := base) T (H_err := h_ok_src_err) (H_arg := h_ok_arg_init) (H_num := h_ok_num_init) (H_Source_function_at := h_okT_function_at) (H_Function_has_row := h_okT_has_row)
  have h_okN_wanted_in := okN_wanted_in (P := P) (base := base) T
  have h_okT_wanted := okT_wanted (P := P) (base := base) T (H_with := h_okT_function_with) (H_in := h_okN_wanted_in)
  have h_okT_wanted_at_call := okT_wanted_at_call (P := P) (base := base) T (H_with := h_okT_function_with)
  have h_okT_wanting := okT_wanting (P := P) (base := base) T (H_arg := h_ok_arg_init) (H_with := h_okT_function_with)
  have h_ok_law := ok_law (P := P) (base := base) (fd := fd) T F TB (H_L_well := h_ok_L_well) (H_L_one := h_ok_L_one) (H_L_function := h_ok_L_function) (H_L_classes := h_ok_L_classes) (H_wanted := h_okT_wanted) (H_wanting := h_okT_wanting) (H_wanted_at_call := h_okT_wanted_at_call) (H_Src := h_ok_Source_init)
  exact h_ok_law
theorem facts {P : Program} {w : World} {K : PySem.W.Frag} {h : Heap} {mg : Str → Option Value} {f : Addr} (X : K.In h) (G : h.Ns mainGlobals mg) (hfa : mg ("law" : Str) = some (.ref f)) (c : He.SaysX fa fn ts tf ex w h K) :
    ∃ fd : FuncData, (∀ (s : Shared) (v : Value), BindsTo s fd ⟨[v], []⟩ [("_law_script", v)]) ∧ ∀ base : Heap, K.In base → base.Ns mainGlobals mg → LamX.TabB base mg (He.cT K ("law", none)).1 (He.cT K ("law", none)).2 → GD.OkG P w K mg base 11 f fd ["_law_script"] (spLaw K) := by
  have T : Ctx w K mg := ⟨⟨h, X, G⟩, c.t, c.more⟩
  obtain ⟨fd, F⟩ := T.D_law
  have e := hfa.symm.trans T.g_law
  cases e
  have b := FunD.bindsA (ps := ["_law_script"]) F fun _ _ _ _ _ _ us hl => match us, hl with | [_], _ => rfl
  exact ⟨fd, fun s v => b s [v] rfl, fun base _ _ tb => law_has T tb F⟩
end W17
set_option Elab.async false
set_option linter.all false
set_option maxRecDepth 100000
set_option maxHeartbeats 0
open PySem PySem.W PySem.Calls PyProof.Rows
theorem PySem.Challenge.cw_backframes_k17_what_wanting_refuses_holds : PySem.Challenge.rw_backframes_k17_what_wanting_refuses.Holds := by
  w_on; o_law
  refine HandSHeadRun.head_any (r := OpenLaw.row PySem.Challenge.rw_backframes_k17_what_wanting_refuses) (q := view (OpenLaw.row PySem.Challenge.rw_backframes_k17_what_wanting_refuses).prog [62]) (H := W17.hk) (ob := W17.ob) (M := 8000) (loose := W17.nms) (d := HandSHeadRun.topDef (OpenLaw.row PySem.Challenge.rw_backframes_k17_what_wanting_refuses).prog 62) (kwd := []) W17.ob_eq
    (by kernel_rfl) (fun s => by kernel_rfl) W17.run (by kernel_rfl) (by kernel_rfl) (by kernel_rfl) (by rfl) (by first | assumption | decide +kernel) (by decide +kernel) ⟨rfl, rfl, rfl, rfl, rfl, by decide +kernel⟩ ?hw ?hc
  case hw => w_witness2
  case hc =>
    refine GT.walkGT (l := PySem.Challenge.rw_backframes_k17_what_wanting_refuses) (n := 63) (k := 11) (x := "_law_script") rfl (by decide) (by kernel_rfl) ⟨rfl, by decide, by decide⟩ ?F
    intro w mg fa h Y G hmg0
    obtain ⟨K, KX, c⟩ := Y
    have hmg : mg ("law" : PySem.Str) = some (.ref fa) := by
      have e : (HandSHeadRun.topDef (OpenLaw.row PySem.Challenge.rw_backframes_k17_what_wanting_refuses).prog 62).name = ("law" : PySem.Str) := by kernel_rfl
      rw [← e]
      exact hmg0
    obtain ⟨fd, hb, hF⟩ := W17.facts (P := (PySem.Challenge.rw_backframes_k17_what_wanting_refuses).prog) (w := w) KX G hmg c
    have hm : (("law", none) : He.Defn) ∈ W17.tf := List.mem_singleton.mpr rfl
    refine ⟨K, fd, (He.cT K ("law", none)).1, (He.cT K ("law", none)).2, W17.spLaw K, KX, c.empty _ hm, c.out _ hm, PySem.W.codeHd_of_K KX (c.hd _ hm), hb, fun H a ns hl hc hS => ⟨a, ns, rfl, hS, hl, ?_, fun _ => rfl⟩, hF⟩
    intro p hp
    rw [List.mem_singleton.mp hp]
    exact LamX.TabS.nil hc
