import PyProof.Rows.All
import Wide.All
import OpenK.AllK
import Wide.FinOn
import HandS.ExcInit
import HandS.ExcField
import KE.KExcInit
import KE.KStateDown
import HandS.ForMost
import HandS.More
import HandS.Words
import HandS.Defaults
import HandS.IsInst
import HandS.Head0
import HandS.Head1
import HandS.Head2
import HandS.HeadEnd
import HandS.HeadHook1
import HandS.HeadHook2
import HandS.HeadHook3
import HandS.HeadHook4
import HandS.Zip
import HandS.Conv
import HandS.Evl
import HandS.Wide
import HandS.WrittenGet
import HandS.Walk
import KE.KDictPairs
import HandS.Star
import HandS.TupAny
import HandS.ExcIs
import HandS.Ends
import PyProof.Rows.ReprR
import HandS.MakeKwOnly
import HandS.MakeKw
import HandS.OwnEq
import PyProof.InstEq
import PyProof.InstNe
import HandS.List
import HandS.Iter
import PyProof.AutoSeq1
import PyProof.ListOps
import HandS.NoneIn
import HandS.TupSets
import HandS.SetFor
import KE.SortData
import PyProof.SumAny
import HandS.Codes
import KE.KRevSl
import KE.DataCmp
import PySem.Challenge.RW_backframes_k01_sources_made
set_option Elab.async false
set_option linter.all false
set_option maxRecDepth 100000
set_option maxHeartbeats 4000000
namespace AE
open PySem PySem.Spec PyProof.Rows PySem.W PySem.Calls PySem.HandSPX
open Builtin Builtin.ObjectAttr
/-- the built-in classes below an error of the program -/
def low : List Value := [.type "ArithmeticError", .type "Exception", .type "BaseException", .type "object"]
/-- what is asked of an error's class whose __init__ is its own -/
structure AeC (K : Frag) (C : Addr) : Prop where
  cls : excInitIn K C low "ArithmeticError.__new__" = true
  ov : excOver K C low = true
  sa : findIn K (.ref C) "__setattr__" = some (some (.builtin "object.__setattr__"))
  exC : subIn K (.ref C) (.type "BaseException") = some true
  tyC : typeIn K (.ref C) = some (.type "type")
  kC : keepIn K (.ref C) = true
  hd : hasDictIn K C = true
def aeB (K : Frag) (C : Addr) : Bool := excInitIn K C low "ArithmeticError.__new__" && (excOver K C low && (decide (findIn K (.ref C) "__setattr__" = some (some (.builtin "object.__setattr__"))) && (decide (subIn K (.ref C) (.type "BaseException") = some true) && (decide (typeIn K (.ref C) = some (.type "type")) && (keepIn K (.ref C) && hasDictIn K C)))))
theorem aeB_ok {K : Frag} {C : Addr} (h : aeB K C = true) : AeC K C := by
  unfold aeB at h
  simp only [Bool.and_eq_true, decide_eq_true_eq] at h
  exact ⟨h.1, h.2.1, h.2.2.1, h.2.2.2.1, h.2.2.2.2.1, h.2.2.2.2.2.1, h.2.2.2.2.2.2⟩
section
variable {prog : Program} {w : World} {A : Around} {E : Value → Shared → Prop} {R : Result → Shared → Prop} {hp : Heap} {g : Array GenState} {d : Drawn} {t : Nat} {os : OsState}
/-- the first field of such an error: its dict is made -/
theorem ae_osa {K : Frag} {name : Str} {tk : Tok} {v : Value} {x C : Addr} {fv : Array Value} (T : AeC K C) (X : K.In hp)
    (hx : hp.get? x = some { cls := .ref C, data := .fields fv }) (ha : findIn K (.ref C) name = some none)
    (k : ∀ (G : Heap) (tk' : Nat) (y : Addr), (∀ b o, b ≠ x → hp.get? b = some o → G.get? b = some o) → hp.objs.size ≤ y → y ≠ x →
      G.get? x = some { cls := .ref C, dict := some y, data := .fields fv } → G.Ns1 y (fun z => if z = name then some v else none) → R (.ok (.ret .none)) ⟨G, g, d, tk', os⟩) :
    codeAny (model prog w) A (.call (.builtin "object.__setattr__") ⟨[.ref x, .str name tk, v], []⟩) R ⟨hp, g, d, t, os⟩ := by
  have I : InstAt hp x { cls := .ref C, data := .fields fv } C none := ⟨hx, rfl, rfl, trivial⟩
  obtain ⟨cd, hcd, hh⟩ := any_some T.hd
  have Lc : Looks (model prog w) hp (classData C) cd := looks_clsIn X hcd
  have nx : x ≠ hp.objs.size := Nat.ne_of_lt (Heap.lt_size hx)
  refine osa_openX F.store_ArithmeticError X I T.ov (r := none) (by unfold takerIn; rw [ha]; rfl) fun b => ?_
  show wpAny _ _ (storeInOwnDict (.ref x) (.ref C) (.str name tk) name v b) _ _ _
  obtain ⟨nm, bs, mro, ns, qn, hd, sn, sb, ab, col, del⟩ := cd
  have hh : hd = true := hh
  subst hh
  unfold storeInOwnDict ownDictForStores
  repeat first
    | with_reducible refine store_in_new ?_ ?_
    | with_reducible refine wpAny_loadPart_at hx ?_
    | with_reducible refine Lc.at ?_
    | wp_step
  · have made : ∀ o : Obj → Obj, ((hp.push { cls := .type "dict", data := .dict #[] }).update x o).get? hp.objs.size = some { cls := .type "dict", data := .dict #[] } := fun o => by
      rw [Heap.get?_update_ne _ _ _ _ nx.symm]
      exact Heap.get?_push_at rfl rfl
    exact ⟨_, #[], _, made _, rfl, fun e m => by simp at m, fun _ => rfl⟩
  · intro G t2 hG hs
    have hx2 : (hp.push { cls := .type "dict", data := .dict #[] }).get? x = some { cls := .ref C, data := .fields fv } := Heap.get?_push_of_some _ hx
    have keep : ∀ b o, b ≠ x → hp.get? b = some o → G.get? b = some o := fun b o nb q =>
      (hs.2 b (Nat.ne_of_lt (Heap.lt_size q))).trans ((Heap.get?_update_ne _ _ _ _ nb).trans (Heap.get?_push_of_some _ q))
    exact k G t2 hp.objs.size keep (Nat.le_refl _) nx.symm ((hs.2 x nx).trans (Heap.get?_update_self _ hx2 rfl)) hG
end
end AE
set_option Elab.async false
set_option linter.all false
set_option maxRecDepth 100000
set_option maxHeartbeats 4000000
namespace AE
open PySem PySem.Spec PyProof.Rows L2
section
variable {X : Cx} {pins : List (Addr × Obj)} {σ : L2.St} {H : Hp} {s : Shared} {a C dx : Addr} {f : Str} {y : V} {u : Value} {Q : Unit → Shared → Prop} {E : Value → Shared → Prop} {A : Around}
/-- two places of a heap with unlike things are two -/
theorem apart {b c : Addr} {o v : HO} (h1 : H b = some o) (h2 : H c = some v) (n : o ≠ v) : c ≠ b := at_ne h1 h2 n
theorem ae_new (T : AeC X.K C) (I : Inv X pins σ H s) (e : H a = some (exo a C none)) (hno : PySem.W.findIn X.K (.ref C) f = some none) (ry : RelV y u)
    (k : ∀ dx s', H dx = none → dx ≠ a → Inv X pins σ (upd (upd H dx (exd dx [(f, y)])) a (exo a C (some dx))) s' → Q () s') : wpAny (model X.prog X.w) A (setAttr (.ref a) f u) Q E s := by
  obtain ⟨t1, ho⟩ := exo_at I.hok e
  obtain ⟨hp, g, d, t, os⟩ := s
  refine PySem.W.set_plain I.kIn (od := none) ⟨ho, rfl, rfl, trivial⟩ T.sa (ae_osa T I.kIn ho hno fun G t2 dx keep new ne hx hns => ?_)
  have hd : H dx = none := I.hok.fresh new
  have nd : ∀ {b o}, hp.get? b = some o → b ≠ dx := fun q => Nat.ne_of_lt (Nat.lt_of_lt_of_le (Heap.lt_size q) new)
  have na : ∀ {b}, H b = none → b ≠ a := fun n z => by
    rw [z, e] at n
    cases n
  have same : ∀ {b o}, b ≠ a → b ≠ dx → (upd (upd H dx (exd dx [(f, y)])) a (exo a C (some dx))) b = o → H b = o := fun n1 n2 q => by
    rw [upd_ne n1, upd_ne n2] at q
    exact q
  have put : ∀ {b o}, b ≠ a → H b = some o → (upd (upd H dx (exd dx [(f, y)])) a (exo a C (some dx))) b = some o := fun {b o} n q => by
    rw [upd_ne n, upd_ne (ne_of_none q hd)]
    exact q
  have U : Un X.fs [] H (upd (upd H dx (exd dx [(f, y)])) a (exo a C (some dx))) hp G := by
    refine ⟨?_, ?_, ?_, ?_, ?_, ?_, ?_⟩
    · intro b o q n _ _
      exact keep b o (na n) q
    · intro b o q n _ _
      exact ⟨o.slots, keep b o (na n) q⟩
    · intro b o q n _
      rw [upd_ne (na n), upd_ne (nd q)]
      exact n
    · intro b o q _
      by_cases z : b = a
      · exact ⟨_, by rw [z]; exact hx⟩
      · exact ⟨o, keep b o z q⟩
    · intro b xs q
      exact put (apart e q exo_tup) q
    · intro b o v q
      exact put (apart e q exo_frz) q
    · intro b ps q
      exact ⟨#[], by rw [put (apart e q exo_tbl) q]; simp⟩
  refine k dx _ hd ne (I.un (t' := t2) U fun b o q => ?_)
  by_cases z : b = a
  · subst z
    rw [upd_same] at q
    cases q
    exact exo_ok hx
  · by_cases w : b = dx
    · subst w
      rw [upd_ne z, upd_same] at q
      cases q
      exact exd_ok hns (relO_put (fs := []) ry fun _ => True.intro)
    · refine (I.hok b o (same z w q)).stay (fun c v hc m => keep c v ?_ m) (fun c hc => put (apart e hc exo_own) hc) (fun c xs hc => put (apart e hc exo_tup) hc)
      rcases hc with rfl | hc
      · exact z
      · exact apart e hc exo_own
end
/-- self.f = e, the first field of an error that is made -/
def tAst (K : PySem.W.Frag) (f : Str) (to te : TE) : TS := fun D σ H => te σ H fun y H1 => to σ H1 fun x H2 => ∃ a C : Addr, x = .ref a ∧ AeC K C ∧ PySem.W.findIn K (.ref C) f = some none ∧ H2 a = some (exo a C none) ∧
  ∀ dx, H2 dx = none → dx ≠ a → D.nx σ (upd (upd H2 dx (exd dx [(f, y)])) a (exo a C (some dx)))
theorem ps_ast {X : Cx} {o e : Expr} {to te : TE} {f : Str} {p pos : Pos} (ho : PE X o to) (he : PE X e te) (hs : swapsWith e (some (.Attribute o f p)) pos.line X.env = pure false := by rfl) : PS X (.Assign [.Attribute o f p] e pos) (tAst X.K f to te) := by
  refine ⟨fun pins s σ H D I h => plainObj_wpAny_Assign_Attribute (thn (he.run pins s σ H _ I h) fun v s1 ⟨y, H1, I1, r1, q1⟩ => thn (ho.run pins s1 σ H1 _ I1 q1) fun u s2 q2 => ?_) hs⟩
  obtain ⟨x, H2, I2, r2, a, C, rfl, T, hno, ea, q⟩ := q2
  obtain rfl : u = Value.ref a := r2
  exact ae_new T I2 ea hno r1 fun dx s' n ne J => ⟨σ, _, J, q dx n ne⟩
end AE
set_option Elab.async false
set_option linter.all false
set_option maxRecDepth 100000
set_option maxHeartbeats 4000000
namespace AE
open PySem PySem.Spec PyProof.Rows L2
/-- an error of such a class is made by its own __init__ -/
theorem pmk_ae {X : Cx} {CX : CXT} {e : Expr} {es : List Expr} {ta : TA} {p pos : Pos} {x : Str} {C fI : Addr} {k : Nat} {fd : FuncData} {ps : List Str} {sp : Sp} (T : AeC X.K C)
    (iC : PySem.W.findIn X.K (.ref C) "__init__" = some (some (.ref fI))) (tI : PySem.W.typeIn X.K (.ref fI) = some (.type "function")) (F1 : FnOk X.prog X.w X.K X.mg X.base CX k fI fd ps sp)
    (hr : Room (k + 1) X.A) (hb : Binds X.K fd ps []) (hx : Passes CX X (fun _ _ _ => False)) (hg : Gl X x) (hm : X.mg x = some (.ref C)) (ha : PA X (e :: es) ta)
    (hdb : (x == ("__debug__" : Str)) = false := by decide) (he : starEach (e :: es) X.env = (false, eval e X.env) :: starEach es X.env := by rfl) (hpl : (backTo pos (starEach es X.env)).any (·.1) = false := by rfl) :
    PMk X (.Call (.Name x p) (e :: es) [] pos) (tMkO C sp [] ta) := by
  intro pins s σ H Q I h
  refine wpAny_Call_Name_kw (ld_glob I hg hm ?_ hdb)
  refine PySem.W.callWith_K (h₀ := X.base) I.ok.mod.kin T.kC (thn (ha.run pos pins s σ H _ I h) fun us s1 q1 => ?_) he hpl
  obtain ⟨vs, H1, I1, r1, hz, q1⟩ := q1
  refine ⟨I1.kIn, ?_⟩
  show wpAny _ _ (call (.ref C) us) _ _ _
  obtain ⟨hp, g, dr, tk, os⟩ := s1
  obtain ⟨nm, N, qn, bs, bm, hd, sn, sub, ab, col, dd, k0, k1, k2, k3, k5, hC, hbm⟩ := PySem.W.excInit_of I1.kIn T.cls
  generalize hG : (hp.push (PySem.W.kdv_tup us)).push (PySem.HandSPX.excO C hp.objs.size) = G
  have new : hp.objs.size ≤ hp.objs.size + 1 := Nat.le_succ _
  have hn : H1 (hp.objs.size + 1) = none := I1.hok.fresh new
  have keep : ∀ b o, hp.get? b = some o → G.get? b = some o := fun b o q => by
    rw [← hG]
    exact Heap.get?_push_of_some _ (Heap.get?_push_of_some _ q)
  have there : G.get? (hp.objs.size + 1) = some (PySem.HandSPX.excO C hp.objs.size) := by
    rw [← hG]
    heap_get
  have I2 : Inv X pins σ (upd H1 (hp.objs.size + 1) (exo (hp.objs.size + 1) C none)) ⟨G, g, dr, tk, os⟩ := I1.laid (t' := tk) (a := hp.objs.size + 1) keep new (exo_ok there)
  have hq := q1 (hp.objs.size + 1) hn
  rw [List.append_nil] at hq
  have r2 : Vals (V.ref (hp.objs.size + 1) :: vs) (Value.ref (hp.objs.size + 1) :: us) := .cons rfl r1
  have len : (Value.ref (hp.objs.size + 1) :: us ++ []).length = ps.length := by
    rw [List.append_nil, ← r2.length, F1.len _ _ _ _ hq]
  have few : us.length ≤ sizeLine := by
    rw [← Paired.length r1, sizeLine_eq]
    omega
  have run := F1.run _ X.stack _ _ ⟨Value.ref (hp.objs.size + 1) :: us, []⟩ (Value.ref (hp.objs.size + 1) :: us) _ _ (fun _ _ _ => False) (hr.make C us []) (I2.env0.make C us []) (by
    have z := hb _ (Value.ref (hp.objs.size + 1) :: us) I2.kIn len
    rw [List.append_nil] at z
    exact z) r2 hq
  refine wpAny_call (PySem.HandSPX.call_own F.excBase_ArithmeticError hbm hC (PySem.W.looks_findIn I1.kIn iC) (fun self => PySem.W.bind_fn I1.kIn self tI) few ?_)
  rw [hG]
  refine codeAny_mono run fun r s' z => ?_
  match r, z with
  | .error er, z => exact hx pins σ _ _ er s' I2 z
  | .ok (.ret v), z =>
    obtain ⟨y, H2, os2, bare2, un2, hok2, rv, ev, d, fs, ea, ed, hd1, q2⟩ := z
    subst ev
    obtain ⟨h2, g2, d2, t2, os'⟩ := s'
    exact ⟨rv, mk_end (raises_own T.exC T.tyC) I1 new keep un2 hok2 os2 bare2 ea ed hd1 q2⟩
  | .ok .next, z => exact z.elim
  | .ok .brk, z => exact z.elim
  | .ok .cont, z => exact z.elim
end AE
set_option Elab.async false
set_option linter.all false
set_option maxRecDepth 100000
set_option maxHeartbeats 0
namespace W1
open PySem PySem.Spec PyProof.Rows L2
def top (i : Nat) : Stmt := PySem.Challenge.pw_backframes_k01_sources_made.main.body.getD i (.Pass ⟨0, 0, 0, 0⟩)
abbrev s_is_integer : Stmt := top 9
def d_is_integer : He.DefD := ⟨("is_integer", none), "is_integer", "is_integer", defArgs s_is_integer, defBody s_is_integer, defScope s_is_integer, [], []⟩
abbrev s_is_integer_in : Stmt := top 10
def d_is_integer_in : He.DefD := ⟨("is_integer_in", none), "is_integer_in", "is_integer_in", defArgs s_is_integer_in, defBody s_is_integer_in, defScope s_is_integer_in, [], []⟩
abbrev s_is_written_number : Stmt := top 11
def d_is_written_number : He.DefD := ⟨("is_written_number", none), "is_written_number", "is_written_number", defArgs s_is_written_number, defBody s_is_written_number, defScope s_is_written_number, [], []⟩
abbrev s_is_name : Stmt := top 12
def d_is_name : He.DefD := ⟨("is_name", none), "is_name", "is_name", defArgs s_is_name, defBody s_is_name, defScope s_is_name, [], []⟩
abbrev s_is_kind : Stmt := top 13
def d_is_kind : He.DefD := ⟨("is_kind", none), "is_kind", "is_kind", defArgs s_is_kind, defBody s_is_kind, defScope s_is_kind, [], []⟩
abbrev s_is_tuple_of : Stmt := top 14
def d_is_tuple_of : He.DefD := ⟨("is_tuple_of", none), "is_tuple_of", "is_tuple_of", defArgs s_is_tuple_of, defBody s_is_tuple_of, defScope s_is_tuple_of, [], []⟩
abbrev s_is_list_of : Stmt := top 15
def d_is_list_of : He.DefD := ⟨("is_list_of", none), "is_list_of", "is_list_of", defArgs s_is_list_of, defBody s_is_list_of, defScope s_is_list_of, [], []⟩
abbrev s_is_list_of_names : Stmt := top 16
def d_is_list_of_names : He.DefD := ⟨("is_list_of_names", none), "is_list_of_names", "is_list_of_names", defArgs s_is_list_of_names, defBody s_is_list_of_names, defScope s_is_list_of_names, [], []⟩
abbrev s_is_word_tuple : Stmt := top 17
def d_is_word_tuple : He.DefD := ⟨("is_word_tuple", none), "is_word_tuple", "is_word_tuple", defArgs s_is_word_tuple, defBody s_is_word_tuple, defScope s_is_word_tuple, [], []⟩
abbrev s_frozen : Stmt := top 18
def d_frozen : He.DefD := ⟨("frozen", none), "frozen", "frozen", defArgs s_frozen, defBody s_frozen, defScope s_frozen, [], []⟩
abbrev s_are_named_kinds : Stmt := top 19
def d_are_named_kinds : He.DefD := ⟨("are_named_kinds", none), "are_named_kinds", "are_named_kinds", defArgs s_are_named_kinds, defBody s_are_named_kinds, defScope s_are_named_kinds, [], []⟩
abbrev s_is_row : Stmt := top 24
def d_is_row : He.DefD := ⟨("is_row", none), "is_row", "is_row", defArgs s_is_row, defBody s_is_row, defScope s_is_row, [], []⟩
abbrev s_fills : Stmt := top 25
def d_fills : He.DefD := ⟨("_fills", none), "_fills", "_fills", defArgs s_fills, defBody s_fills, defScope s_fills, [], []⟩
abbrev s_row_sets : Stmt := top 26
def d_row_sets : He.DefD := ⟨("row_sets", none), "row_sets", "row_sets", defArgs s_row_sets, defBody s_row_sets, defScope s_row_sets, [], []⟩
abbrev s_row_reads : Stmt := top 27
def d_row_reads : He.DefD := ⟨("row_reads", none), "row_reads", "row_reads", defArgs s_row_reads, defBody s_row_reads, defScope s_row_reads, [], []⟩
abbrev s_row_kinds_fit : Stmt := top 28
def d_row_kinds_fit : He.DefD := ⟨("row_kinds_fit", none), "row_kinds_fit", "row_kinds_fit", defArgs s_row_kinds_fit, defBody s_row_kinds_fit, defScope s_row_kinds_fit, [], []⟩
abbrev s_names_in : Stmt := top 29
def d_names_in : He.DefD := ⟨("_names_in", none), "_names_in", "_names_in", defArgs s_names_in, defBody s_names_in, defScope s_names_in, [], []⟩
abbrev s_call_fits : Stmt := top 30
def d_call_fits : He.DefD := ⟨("_call_fits", none), "_call_fits", "_call_fits", defArgs s_call_fits, defBody s_call_fits, defScope s_call_fits, [], []⟩
abbrev s_told_row : Stmt := top 31
def d_told_row : He.DefD := ⟨("told_row", none), "told_row", "told_row", defArgs s_told_row, defBody s_told_row, defScope s_told_row, [], []⟩
abbrev s_told_function : Stmt := top 44
def d_told_function : He.DefD := ⟨("_told_function", none), "_told_function", "_told_function", defArgs s_told_function, defBody s_told_function, defScope s_told_function, [], []⟩
abbrev s_is_class : Stmt := top 42
def d_is_class : He.DefD := ⟨("_is_class", none), "_is_class", "_is_class", defArgs s_is_class, defBody s_is_class, defScope s_is_class, [], []⟩
abbrev s_is_head : Stmt := top 43
def d_is_head : He.DefD := ⟨("_is_head", none), "_is_head", "_is_head", defArgs s_is_head, defBody s_is_head, defScope s_is_head, [], []⟩
abbrev s_L_mix : Stmt := top 46
def d_L_mix : He.DefD := ⟨("_law_mix", none), "_law_mix", "_law_mix", defArgs s_L_mix, defBody s_L_mix, defScope s_L_mix, [], []⟩
abbrev s_L_well : Stmt := top 47
def d_L_well : He.DefD := ⟨("_law_well", none), "_law_well", "_law_well", defArgs s_L_well, defBody s_L_well, defScope s_L_well, [], []⟩
abbrev s_L_draw : Stmt := top 48
def d_L_draw : He.DefD := ⟨("_law_draw", none), "_law_draw", "_law_draw", defArgs s_L_draw, defBody s_L_draw, defScope s_L_draw, [], []⟩
abbrev s_L_pick : Stmt := top 49
def d_L_pick : He.DefD := ⟨("_law_pick", none), "_law_pick", "_law_pick", defArgs s_L_pick, defBody s_L_pick, defScope s_L_pick, [], []⟩
abbrev s_L_some : Stmt := top 50
def d_L_some : He.DefD := ⟨("_law_some", none), "_law_some", "_law_some", defArgs s_L_some, defBody s_L_some, defScope s_L_some, [], []⟩
abbrev s_L_classes : Stmt := top 51
def d_L_classes : He.DefD := ⟨("_law_classes", none), "_law_classes", "_law_classes", defArgs s_L_classes, defBody s_L_classes, defScope s_L_classes, [], []⟩
abbrev s_L_heads : Stmt := top 52
def d_L_heads : He.DefD := ⟨("_law_heads", none), "_law_heads", "_law_heads", defArgs s_L_heads, defBody s_L_heads, defScope s_L_heads, [], []⟩
abbrev s_L_named : Stmt := top 53
def d_L_named : He.DefD := ⟨("_law_named", none), "_law_named", "_law_named", defArgs s_L_named, defBody s_L_named, defScope s_L_named, [], []⟩
abbrev s_L_number_rows : Stmt := top 54
def d_L_number_rows : He.DefD := ⟨("_law_number_rows", none), "_law_number_rows", "_law_number_rows", defArgs s_L_number_rows, defBody s_L_number_rows, defScope s_L_number_rows, [], []⟩
abbrev s_L_object_rows : Stmt := top 55
def d_L_object_rows : He.DefD := ⟨("_law_object_rows", none), "_law_object_rows", "_law_object_rows", defArgs s_L_object_rows, defBody s_L_object_rows, defScope s_L_object_rows, [], []⟩
abbrev s_L_field_rows : Stmt := top 56
def d_L_field_rows : He.DefD := ⟨("_law_field_rows", none), "_law_field_rows", "_law_field_rows", defArgs s_L_field_rows, defBody s_L_field_rows, defScope s_L_field_rows, [], []⟩
abbrev s_L_call_rows : Stmt := top 57
def d_L_call_rows : He.DefD := ⟨("_law_call_rows", none), "_law_call_rows", "_law_call_rows", defArgs s_L_call_rows, defBody s_L_call_rows, defScope s_L_call_rows, [], []⟩
abbrev s_L_rows : Stmt := top 58
def d_L_rows : He.DefD := ⟨("_law_rows", none), "_law_rows", "_law_rows", defArgs s_L_rows, defBody s_L_rows, defScope s_L_rows, [], []⟩
abbrev s_L_parts : Stmt := top 59
def d_L_parts : He.DefD := ⟨("_law_parts", none), "_law_parts", "_law_parts", defArgs s_L_parts, defBody s_L_parts, defScope s_L_parts, [], []⟩
abbrev s_L_copied : Stmt := top 60
def d_L_copied : He.DefD := ⟨("_law_copied", none), "_law_copied", "_law_copied", defArgs s_L_copied, defBody s_L_copied, defScope s_L_copied, [], []⟩
abbrev s_L_spoilt : Stmt := top 61
def d_L_spoilt : He.DefD := ⟨("_law_spoilt", none), "_law_spoilt", "_law_spoilt", defArgs s_L_spoilt, defBody s_L_spoilt, defScope s_L_spoilt, [], []⟩
abbrev s_L_unlike : Stmt := top 62
def d_L_unlike : He.DefD := ⟨("_law_unlike", none), "_law_unlike", "_law_unlike", defArgs s_L_unlike, defBody s_L_unlike, defScope s_L_unlike, [], []⟩
abbrev s_L_right : Stmt := top 63
def d_L_right : He.DefD := ⟨("_law_right", none), "_law_right", "_law_right", defArgs s_L_right, defBody s_L_right, defScope s_L_right, [], []⟩
abbrev s_law : Stmt := top 64
def d_law : He.DefD := ⟨("law", none), "law", "law", defArgs s_law, defBody s_law, defScope s_law, [], []⟩
abbrev s_Function_init : Stmt := inClass (top 40) 0
def d_Function_init : He.DefD := ⟨("Function", some "__init__"), "__init__", "Function.__init__", defArgs s_Function_init, defBody s_Function_init, defScope s_Function_init, [], []⟩
abbrev s_InvalidSource_init : Stmt := inClass (top 3) 0
def d_InvalidSource_init : He.DefD := ⟨("InvalidSource", some "__init__"), "__init__", "InvalidSource.__init__", defArgs s_InvalidSource_init, defBody s_InvalidSource_init, defScope s_InvalidSource_init, [], []⟩
abbrev s_Source_init : Stmt := inClass (top 41) 0
def d_Source_init : He.DefD := ⟨("Source", some "__init__"), "__init__", "Source.__init__", defArgs s_Source_init, defBody s_Source_init, defScope s_Source_init, [], []⟩
abbrev s_Source_take_classes : Stmt := inClass (top 41) 1
def d_Source_take_classes : He.DefD := ⟨("Source", some "_take_classes"), "_take_classes", "Source._take_classes", defArgs s_Source_take_classes, defBody s_Source_take_classes, defScope s_Source_take_classes, [], []⟩
abbrev s_Source_kinds_differ : Stmt := inClass (top 41) 2
def d_Source_kinds_differ : He.DefD := ⟨("Source", some "_kinds_differ"), "_kinds_differ", "Source._kinds_differ", defArgs s_Source_kinds_differ, defBody s_Source_kinds_differ, defScope s_Source_kinds_differ, [], []⟩
abbrev s_Source_take_heads : Stmt := inClass (top 41) 3
def d_Source_take_heads : He.DefD := ⟨("Source", some "_take_heads"), "_take_heads", "Source._take_heads", defArgs s_Source_take_heads, defBody s_Source_take_heads, defScope s_Source_take_heads, [], []⟩
abbrev s_Source_take_rows : Stmt := inClass (top 41) 4
def d_Source_take_rows : He.DefD := ⟨("Source", some "_take_rows"), "_take_rows", "Source._take_rows", defArgs s_Source_take_rows, defBody s_Source_take_rows, defScope s_Source_take_rows, [], []⟩
abbrev s_Source_is_row_of : Stmt := inClass (top 41) 5
def d_Source_is_row_of : He.DefD := ⟨("Source", some "_is_row_of"), "_is_row_of", "Source._is_row_of", defArgs s_Source_is_row_of, defBody s_Source_is_row_of, defScope s_Source_is_row_of, [], []⟩
abbrev s_Source_function_at : Stmt := inClass (top 41) 9
def d_Source_function_at : He.DefD := ⟨("Source", some "function_at"), "function_at", "Source.function_at", defArgs s_Source_function_at, defBody s_Source_function_at, defScope s_Source_function_at, [], []⟩
abbrev s_Source_fields_of : Stmt := inClass (top 41) 10
def d_Source_fields_of : He.DefD := ⟨("Source", some "fields_of"), "fields_of", "Source.fields_of", defArgs s_Source_fields_of, defBody s_Source_fields_of, defScope s_Source_fields_of, [], []⟩
abbrev s_Source_field_kind : Stmt := inClass (top 41) 11
def d_Source_field_kind : He.DefD := ⟨("Source", some "field_kind"), "field_kind", "Source.field_kind", defArgs s_Source_field_kind, defBody s_Source_field_kind, defScope s_Source_field_kind, [], []⟩
abbrev s_Source_classes : Stmt := inClass (top 41) 6
def d_Source_classes : He.DefD := ⟨("Source", some "classes"), "classes", "Source.classes", defArgs s_Source_classes, defBody s_Source_classes, defScope s_Source_classes, [], []⟩
abbrev s_Source_functions : Stmt := inClass (top 41) 7
def d_Source_functions : He.DefD := ⟨("Source", some "functions"), "functions", "Source.functions", defArgs s_Source_functions, defBody s_Source_functions, defScope s_Source_functions, [], []⟩
abbrev s_Source_eq : Stmt := inClass (top 41) 8
def d_Source_eq : He.DefD := ⟨("Source", some "__eq__"), "__eq__", "Source.__eq__", defArgs s_Source_eq, defBody s_Source_eq, defScope s_Source_eq, [], []⟩
def fn : List He.DefD := [d_is_integer, d_is_integer_in, d_is_written_number, d_is_name, d_is_kind, d_is_tuple_of, d_is_list_of, d_is_list_of_names, d_is_word_tuple, d_frozen, d_are_named_kinds, d_is_row, d_fills, d_row_sets, d_row_reads, d_row_kinds_fit, d_names_in, d_call_fits, d_told_row, d_told_function, d_is_class, d_is_head, d_L_mix, d_L_well, d_L_draw, d_L_pick, d_L_some, d_L_classes, d_L_heads, d_L_named, d_L_number_rows, d_L_object_rows, d_L_field_rows, d_L_call_rows, d_L_rows, d_L_parts, d_L_copied, d_L_spoilt, d_L_unlike, d_L_right, d_law, d_Function_init, d_InvalidSource_init, d_Source_init, d_Source_take_classes, d_Source_kinds_differ, d_Source_take_heads, d_Source_take_rows, d_Source_is_row_of, d_Source_function_at, d_Source_fields_of, d_Source_field_kind, d_Source_classes, d_Source_functions, d_Source_eq]
def fa : List He.Fa := [.glo "is_integer", .glo "is_integer_in", .glo "is_written_number", .glo "is_name", .glo "is_kind", .glo "is_tuple_of", .glo "is_list_of", .glo "is_list_of_names", .glo "is_word_tuple", .glo "frozen", .glo "are_named_kinds", .glo "is_row", .glo "_fills", .glo "row_sets", .glo "row_reads", .glo "row_kinds_fit", .glo "_names_in", .glo "_call_fits", .glo "told_row", .glo "_told_function", .glo "_is_class", .glo "_is_head", .glo "_law_mix", .glo "_law_well", .glo "_law_draw", .glo "_law_pick", .glo "_law_some", .glo "_law_classes", .glo "_law_heads", .glo "_law_named", .glo "_law_number_rows", .glo "_law_object_rows", .glo "_law_field_rows", .glo "_law_call_rows", .glo "_law_rows", .glo "_law_parts", .glo "_law_copied", .glo "_law_spoilt", .glo "_law_unlike", .glo "_law_right", .glo "law", .free "isinstance", .free "int", .free "bool", .free "str", .free "list", .free "tuple", .free "len", .free "all", .free "any", .free "zip", .free "enumerate", .free "dict", .free "range", .free "min", .free "max", .free "sorted", .free "set", .free "sum", .free "ArithmeticError", .int "GREATEST_WRITTEN" 1000000000, .int "MOST_CLASSES" 6, .int "MOST_FIELDS" 4, .int "MOST_FUNCTIONS" 6, .int "MOST_PARAMETERS" 4, .int "MOST_OTHERS" 8, .int "MOST_ROWS" 40, .str "LETTERS" "abcdefghijklmnopqrstuvwxyz", .str "MARKS" "abcdefghijklmnopqrstuvwxyz0123456789", .glo "InvalidSource", .glo "CodeError", .exm "InvalidSource" "InvalidSource" true, .glo "Function", .glo "Source", .glo "KINDS", .glo "NUMBER_WORDS", .glo "ROW_WORDS", .glo "ROLES", .cls "Function", .mkr "Function", .noat "Function" "name", .noat "Function" "params", .noat "Function" "others", .noat "Function" "result", .noat "Function" "variables", .noat "Function" "body", .cls "Source", .mkr "Source", .noat "Source" "_field_kinds", .noat "Source" "_fields", .noat "Source" "_functions", .meth "Source" "_take_classes", .meth "Source" "_kinds_differ", .meth "Source" "_take_heads", .meth "Source" "_take_rows", .meth "Source" "_is_row_of", .meth "Source" "function_at", .meth "Source" "fields_of", .meth "Source" "field_kind", .meth "Source" "classes", .meth "Source" "functions", .meth "Source" "__eq__"]
def v_KINDS : List He.Dv := [.str "number", .str "object"]
def v_NUMBER_WORDS : List He.Dv := [.str "number", .str "add", .str "sub", .str "times", .str "less", .str "if", .str "guard"]
def v_ROW_WORDS : List He.Dv := [.str "number", .str "add", .str "sub", .str "times", .str "less", .str "nil", .str "new", .str "copy", .str "same", .str "get", .str "put", .str "call", .str "see", .str "if", .str "jump", .str "return"]
def roles : List (Str × List Str) := [("number", ["sets", "number"]), ("nil", ["sets"]), ("copy", ["sets", "reads"]), ("add", ["sets", "reads", "reads"]), ("sub", ["sets", "reads", "reads"]), ("times", ["sets", "reads", "reads"]), ("less", ["sets", "reads", "reads"]), ("same", ["sets", "reads", "reads"]), ("new", ["sets", "class"]), ("get", ["sets", "reads", "field"]), ("put", ["reads", "field", "reads"]), ("call", ["sets", "function", "many"]), ("see", ["reads"]), ("if", ["reads", "row"]), ("jump", ["row"]), ("return", ["reads"]), ("guard", ["reads", "point"]), ("look", ["point"])]
/-- the tuple that the table ROLES has at a word -/
def rolA (K : PySem.W.Frag) (x : Str) : Addr := match PySem.W.nsIn K (He.ga K "ROLES") x with
  | some (some (.ref a)) => a
  | _ => 0
def tupAt (K : PySem.W.Frag) (a : Addr) (vs : List V) : Bool := match K.lookup a with
  | some ⟨.type c, _, .seq its _, _⟩ => decide (c = "tuple") && (decide (its.size ≤ sizeLine) && He.relAll vs its.toList)
  | _ => false
def rolB (K : PySem.W.Frag) (q : Str × List Str) : Bool := He.eqO (PySem.W.nsIn K (He.ga K "ROLES") q.1) (some (some (.ref (rolA K q.1)))) && tupAt K (rolA K q.1) (q.2.map V.str)
def isaB (K : PySem.W.Frag) (C : Addr) : Bool := He.eqO (PySem.W.findIn K (.ref C) "__class__") (some (some (.builtin "object.__class__"))) && (He.eqO (PySem.W.specialIn K (.builtin "object.__class__") "__get__") (some (some (.builtin "getset_descriptor.__get__"))) && (decide (PySem.W.takesIn K (.builtin "object.__class__") = some true) && (decide (PySem.W.mroIn K C (.type "object") = some true) && decide (PySem.W.kitOne K (.ref C) (.ref C) = some true))))
/-- what is asked of an error of the program at C -/
def errB (K : PySem.W.Frag) (C : Addr) (fs : List Str) : Bool := AE.aeB K C && (L2.xfB K C && ((fs.all fun f => decide (PySem.W.findIn K (.ref C) f = some none)) && (decide (PySem.W.findIn K (.ref C) "__init__" = some (some (.ref (He.ma K C "__init__")))) && (decide (PySem.W.typeIn K (.ref (He.ma K C "__init__")) = some (.type "function")) && (He.eqO (PySem.W.findIn K (.ref C) "__class__") (some (some (.builtin "object.__class__"))) && decide (PySem.W.mroIn K C (.type "object") = some true))))))
def errN : List Str := ["InvalidSource"]
def errsB (K : PySem.W.Frag) : Bool := errB K (He.ga K "InvalidSource") ["part", "at"]
def marksB (K : PySem.W.Frag) : Bool := errN.all fun x => (errN.all fun y => decide (PySem.W.kitOne K (.ref (He.ga K x)) (.ref (He.ga K y)) = some (decide (x = y)))) && (decide (PySem.W.kitOne K (.ref (He.ga K x)) (.ref (He.ga K "CodeError")) = some true) && decide (PySem.W.kitOne K (.ref (He.ga K x)) (.type "ArithmeticError") = some true))
def eqB (K : PySem.W.Frag) : Bool := decide (PySem.W.findIn K (.ref (He.ga K "Source")) "__eq__" = some (some (.ref (He.ma K (He.ga K "Source") "__eq__")))) && (decide (PySem.W.findIn K (.ref (He.ga K "Source")) "__ne__" = some (some (.builtin "object.__ne__"))) && (decide (PySem.W.subIn K (.ref (He.ga K "Source")) (.type "object") = some true) && PySem.W.isFn K (.ref (He.ma K (He.ga K "Source") "__eq__"))))
def notB (K : PySem.W.Frag) : Bool := (["NoneType", "int", "bool", "str", "list", "tuple", "dict"] : List String).all fun t => decide (PySem.W.kitOne K (.type t) (.ref (He.ga K "Source")) = some false)
def ex (K : PySem.W.Frag) : Bool := He.tupB K "KINDS" v_KINDS && (He.tupB K "NUMBER_WORDS" v_NUMBER_WORDS && (He.tupB K "ROW_WORDS" v_ROW_WORDS && (roles.all (rolB K) && (isaB K (He.ga K "Source") && (errsB K && (marksB K && (eqB K && notB K)))))))
def ts : List He.Tab := [(fun K => He.ga K "ROLES", roles.map (·.1))]
def nms : List Str := (["_wall", "CodeError", "InvalidSource", "GREATEST_WRITTEN", "LETTERS", "MARKS", "KINDS", "is_integer", "is_integer_in", "is_written_number", "is_name", "is_kind", "is_tuple_of", "is_list_of", "is_list_of_names", "is_word_tuple", "frozen", "are_named_kinds", "ROLES", "NUMBER_WORDS", "GREATEST_POINT", "is_row", "_fills", "row_sets", "row_reads", "row_kinds_fit", "_names_in", "_call_fits", "told_row", "MOST_CLASSES"] : List Str) ++ (["MOST_FIELDS", "MOST_FUNCTIONS", "MOST_PARAMETERS", "MOST_OTHERS", "MOST_ROWS", "ROW_WORDS", "Function", "Source", "_is_class", "_is_head", "_told_function", "_law_mix", "_law_well", "_law_draw", "_law_pick", "_law_some", "_law_classes", "_law_heads", "_law_named", "_law_number_rows", "_law_object_rows", "_law_field_rows", "_law_call_rows", "_law_rows", "_law_parts", "_law_copied", "_law_spoilt", "_law_unlike", "_law_right"] : List Str)
abbrev R : PySem.W.OpenRow := PySem.W.OpenLaw.row PySem.Challenge.rw_backframes_k01_sources_made
abbrev hk : PySem.W.Hook := He.hookX 4 fa fn ts [] ex
def ob (s : PySem.W.SharedT) : He.AlX := He.obsX 4 fa fn ts [] ex (HandSHeadRun.getT s)
theorem ob_eq (s : PySem.W.SharedT) : ob s = hk.obs s.abs := He.obsX_eq (HandSHeadRun.getT_eq s)
theorem runF (w : World) : HandSHeadRun.RunEq R (PySem.W.view R.prog [64]) hk ob 8000 nms (w.withFollow "special-get-raises" false) := by
  intro os
  kernel_rfl
theorem runT (w : World) : HandSHeadRun.RunEq R (PySem.W.view R.prog [64]) hk ob 8000 nms (w.withFollow "special-get-raises" true) := by
  intro os
  kernel_rfl
theorem run (w : World) : HandSHeadRun.RunEq R (PySem.W.view R.prog [64]) hk ob 8000 nms w := PySem.W.byRow2 "special-get-raises" runF runT w
end W1
set_option Elab.async false
set_option linter.all false
set_option maxRecDepth 100000
set_option maxHeartbeats 4000000
namespace W1
open PySem PySem.Spec PyProof.Rows L2
/-- what stands behind the top -/
structure Ctx (w : World) (K : PySem.W.Frag) (mg : Str → Option Value) : Prop where
  ex_ : ∃ h : Heap, K.In h ∧ h.Ns mainGlobals mg
  says : He.SaysT fa fn ts w K
  more : ex K = true
section
variable {w : World} {K : PySem.W.Frag} {mg : Str → Option Value}
theorem Ctx.glo (T : Ctx w K mg) {x : Str} (i : Nat) (h : fa[i]? = some (.glo x) := by rfl) : mg x = some (.ref (He.ga K x)) := by
  obtain ⟨_, X, G⟩ := T.ex_
  exact He.glo_ok X G (T.says.d.fact i h)
theorem Ctx.free (T : Ctx w K mg) {x : Str} (i : Nat) (h : fa[i]? = some (.free x) := by rfl) : mg x = none := by
  obtain ⟨_, X, G⟩ := T.ex_
  exact He.free_ok X G (T.says.d.fact i h)
theorem Ctx.int (T : Ctx w K mg) {x : Str} {z : Int} (i : Nat) (h : fa[i]? = some (.int x z) := by rfl) : ∃ t, mg x = some (.int z t) := by
  obtain ⟨_, X, G⟩ := T.ex_
  exact He.int_ok X G (T.says.d.fact i h)
theorem Ctx.str (T : Ctx w K mg) {x z : Str} (i : Nat) (h : fa[i]? = some (.str x z) := by rfl) : ∃ t, mg x = some (.str z t) := by
  obtain ⟨_, X, G⟩ := T.ex_
  exact He.str_ok X G (T.says.d.fact i h)
/-- a def that keeps its promise, with all that a caller needs -/
structure Has (P : Program) (w : World) (K : PySem.W.Frag) (mg : Str → Option Value) (base : Heap) (k : Nat) (x : Str) (ps : List Str) (sp : Sp) : Prop where
  ex : ∃ fd, FnOk P w K mg base CX0 k (He.ga K x) fd ps sp ∧ Binds K fd ps []
  kp : PySem.W.keepIn K (.ref (He.ga K x)) = true
  gl : mg x = some (.ref (He.ga K x))
/-- the same of a method -/
structure HasM (P : Program) (w : World) (K : PySem.W.Frag) (mg : Str → Option Value) (base : Heap) (k : Nat) (C m : Str) (ps : List Str) (sp : Sp) : Prop where
  ex : ∃ fd, FnOk P w K mg base CX0 k (He.ma K (He.ga K C) m) fd ps sp ∧ Binds K fd ps []
theorem Ctx.g_is_integer (T : Ctx w K mg) : mg "is_integer" = some (.ref (He.ga K "is_integer")) := T.glo 0
theorem Ctx.g_is_integer_in (T : Ctx w K mg) : mg "is_integer_in" = some (.ref (He.ga K "is_integer_in")) := T.glo 1
theorem Ctx.g_is_written_number (T : Ctx w K mg) : mg "is_written_number" = some (.ref (He.ga K "is_written_number")) := T.glo 2
theorem Ctx.g_is_name (T : Ctx w K mg) : mg "is_name" = some (.ref (He.ga K "is_name")) := T.glo 3
theorem Ctx.g_is_kind (T : Ctx w K mg) : mg "is_kind" = some (.ref (He.ga K "is_kind")) := T.glo 4
theorem Ctx.g_is_tuple_of (T : Ctx w K mg) : mg "is_tuple_of" = some (.ref (He.ga K "is_tuple_of")) := T.glo 5
theorem Ctx.g_is_list_of (T : Ctx w K mg) : mg "is_list_of" = some (.ref (He.ga K "is_list_of")) := T.glo 6
theorem Ctx.g_is_list_of_names (T : Ctx w K mg) : mg "is_list_of_names" = some (.ref (He.ga K "is_list_of_names")) := T.glo 7
theorem Ctx.g_is_word_tuple (T : Ctx w K mg) : mg "is_word_tuple" = some (.ref (He.ga K "is_word_tuple")) := T.glo 8
theorem Ctx.g_frozen (T : Ctx w K mg) : mg "frozen" = some (.ref (He.ga K "frozen")) := T.glo 9
theorem Ctx.g_are_named_kinds (T : Ctx w K mg) : mg "are_named_kinds" = some (.ref (He.ga K "are_named_kinds")) := T.glo 10
theorem Ctx.g_is_row (T : Ctx w K mg) : mg "is_row" = some (.ref (He.ga K "is_row")) := T.glo 11
theorem Ctx.g_fills (T : Ctx w K mg) : mg "_fills" = some (.ref (He.ga K "_fills")) := T.glo 12
theorem Ctx.g_row_sets (T : Ctx w K mg) : mg "row_sets" = some (.ref (He.ga K "row_sets")) := T.glo 13
theorem Ctx.g_row_reads (T : Ctx w K mg) : mg "row_reads" = some (.ref (He.ga K "row_reads")) := T.glo 14
theorem Ctx.g_row_kinds_fit (T : Ctx w K mg) : mg "row_kinds_fit" = some (.ref (He.ga K "row_kinds_fit")) := T.glo 15
theorem Ctx.g_names_in (T : Ctx w K mg) : mg "_names_in" = some (.ref (He.ga K "_names_in")) := T.glo 16
theorem Ctx.g_call_fits (T : Ctx w K mg) : mg "_call_fits" = some (.ref (He.ga K "_call_fits")) := T.glo 17
theorem Ctx.g_told_row (T : Ctx w K mg) : mg "told_row" = some (.ref (He.ga K "told_row")) := T.glo 18
theorem Ctx.g_told_function (T : Ctx w K mg) : mg "_told_function" = some (.ref (He.ga K "_told_function")) := T.glo 19
theorem Ctx.g_is_class (T : Ctx w K mg) : mg "_is_class" = some (.ref (He.ga K "_is_class")) := T.glo 20
theorem Ctx.g_is_head (T : Ctx w K mg) : mg "_is_head" = some (.ref (He.ga K "_is_head")) := T.glo 21
theorem Ctx.g_L_mix (T : Ctx w K mg) : mg "_law_mix" = some (.ref (He.ga K "_law_mix")) := T.glo 22
theorem Ctx.g_L_well (T : Ctx w K mg) : mg "_law_well" = some (.ref (He.ga K "_law_well")) := T.glo 23
theorem Ctx.g_L_draw (T : Ctx w K mg) : mg "_law_draw" = some (.ref (He.ga K "_law_draw")) := T.glo 24
theorem Ctx.g_L_pick (T : Ctx w K mg) : mg "_law_pick" = some (.ref (He.ga K "_law_pick")) := T.glo 25
theorem Ctx.g_L_some (T : Ctx w K mg) : mg "_law_some" = some (.ref (He.ga K "_law_some")) := T.glo 26
theorem Ctx.g_L_classes (T : Ctx w K mg) : mg "_law_classes" = some (.ref (He.ga K "_law_classes")) := T.glo 27
theorem Ctx.g_L_heads (T : Ctx w K mg) : mg "_law_heads" = some (.ref (He.ga K "_law_heads")) := T.glo 28
theorem Ctx.g_L_named (T : Ctx w K mg) : mg "_law_named" = some (.ref (He.ga K "_law_named")) := T.glo 29
theorem Ctx.g_L_number_rows (T : Ctx w K mg) : mg "_law_number_rows" = some (.ref (He.ga K "_law_number_rows")) := T.glo 30
theorem Ctx.g_L_object_rows (T : Ctx w K mg) : mg "_law_object_rows" = some (.ref (He.ga K "_law_object_rows")) := T.glo 31
theorem Ctx.g_L_field_rows (T : Ctx w K mg) : mg "_law_field_rows" = some (.ref (He.ga K "_law_field_rows")) := T.glo 32
theorem Ctx.g_L_call_rows (T : Ctx w K mg) : mg "_law_call_rows" = some (.ref (He.ga K "_law_call_rows")) := T.glo 33
theorem Ctx.g_L_rows (T : Ctx w K mg) : mg "_law_rows" = some (.ref (He.ga K "_law_rows")) := T.glo 34
theorem Ctx.g_L_parts (T : Ctx w K mg) : mg "_law_parts" = some (.ref (He.ga K "_law_parts")) := T.glo 35
theorem Ctx.g_L_copied (T : Ctx w K mg) : mg "_law_copied" = some (.ref (He.ga K "_law_copied")) := T.glo 36
theorem Ctx.g_L_spoilt (T : Ctx w K mg) : mg "_law_spoilt" = some (.ref (He.ga K "_law_spoilt")) := T.glo 37
theorem Ctx.g_L_unlike (T : Ctx w K mg) : mg "_law_unlike" = some (.ref (He.ga K "_law_unlike")) := T.glo 38
theorem Ctx.g_L_right (T : Ctx w K mg) : mg "_law_right" = some (.ref (He.ga K "_law_right")) := T.glo 39
theorem Ctx.g_law (T : Ctx w K mg) : mg "law" = some (.ref (He.ga K "law")) := T.glo 40
theorem Ctx.f_isinstance (T : Ctx w K mg) : mg "isinstance" = none := T.free 41
theorem Ctx.f_int (T : Ctx w K mg) : mg "int" = none := T.free 42
theorem Ctx.f_bool (T : Ctx w K mg) : mg "bool" = none := T.free 43
theorem Ctx.f_str (T : Ctx w K mg) : mg "str" = none := T.free 44
theorem Ctx.f_list (T : Ctx w K mg) : mg "list" = none := T.free 45
theorem Ctx.f_tuple (T : Ctx w K mg) : mg "tuple" = none := T.free 46
theorem Ctx.f_len (T : Ctx w K mg) : mg "len" = none := T.free 47
theorem Ctx.f_all (T : Ctx w K mg) : mg "all" = none := T.free 48
theorem Ctx.f_any (T : Ctx w K mg) : mg "any" = none := T.free 49
theorem Ctx.f_zip (T : Ctx w K mg) : mg "zip" = none := T.free 50
theorem Ctx.f_enumerate (T : Ctx w K mg) : mg "enumerate" = none := T.free 51
theorem Ctx.f_dict (T : Ctx w K mg) : mg "dict" = none := T.free 52
theorem Ctx.f_range (T : Ctx w K mg) : mg "range" = none := T.free 53
theorem Ctx.f_min (T : Ctx w K mg) : mg "min" = none := T.free 54
theorem Ctx.f_max (T : Ctx w K mg) : mg "max" = none := T.free 55
theorem Ctx.f_sorted (T : Ctx w K mg) : mg "sorted" = none := T.free 56
theorem Ctx.f_set (T : Ctx w K mg) : mg "set" = none := T.free 57
theorem Ctx.f_sum (T : Ctx w K mg) : mg "sum" = none := T.free 58
theorem Ctx.f_ArithmeticError (T : Ctx w K mg) : mg "ArithmeticError" = none := T.free 59
theorem Ctx.i_GREATEST_WRITTEN (T : Ctx w K mg) : ∃ t, mg "GREATEST_WRITTEN" = some (.int 1000000000 t) := T.int 60
theorem Ctx.i_MOST_CLASSES (T : Ctx w K mg) : ∃ t, mg "MOST_CLASSES" = some (.int 6 t) := T.int 61
theorem Ctx.i_MOST_FIELDS (T : Ctx w K mg) : ∃ t, mg "MOST_FIELDS" = some (.int 4 t) := T.int 62
theorem Ctx.i_MOST_FUNCTIONS (T : Ctx w K mg) : ∃ t, mg "MOST_FUNCTIONS" = some (.int 6 t) := T.int 63
theorem Ctx.i_MOST_PARAMETERS (T : Ctx w K mg) : ∃ t, mg "MOST_PARAMETERS" = some (.int 4 t) := T.int 64
theorem Ctx.i_MOST_OTHERS (T : Ctx w K mg) : ∃ t, mg "MOST_OTHERS" = some (.int 8 t) := T.int 65
theorem Ctx.i_MOST_ROWS (T : Ctx w K mg) : ∃ t, mg "MOST_ROWS" = some (.int 40 t) := T.int 66
theorem Ctx.s_LETTERS (T : Ctx w K mg) : ∃ t, mg "LETTERS" = some (.str "abcdefghijklmnopqrstuvwxyz" t) := T.str 67
theorem Ctx.s_MARKS (T : Ctx w K mg) : ∃ t, mg "MARKS" = some (.str "abcdefghijklmnopqrstuvwxyz0123456789" t) := T.str 68
theorem Ctx.g_InvalidSource (T : Ctx w K mg) : mg "InvalidSource" = some (.ref (He.ga K "InvalidSource")) := T.glo 69
theorem Ctx.g_CodeError (T : Ctx w K mg) : mg "CodeError" = some (.ref (He.ga K "CodeError")) := T.glo 70
theorem Ctx.g_Function (T : Ctx w K mg) : mg "Function" = some (.ref (He.ga K "Function")) := T.glo 72
theorem Ctx.g_Source (T : Ctx w K mg) : mg "Source" = some (.ref (He.ga K "Source")) := T.glo 73
theorem Ctx.g_KINDS (T : Ctx w K mg) : mg "KINDS" = some (.ref (He.ga K "KINDS")) := T.glo 74
theorem Ctx.g_NUMBER_WORDS (T : Ctx w K mg) : mg "NUMBER_WORDS" = some (.ref (He.ga K "NUMBER_WORDS")) := T.glo 75
theorem Ctx.g_ROW_WORDS (T : Ctx w K mg) : mg "ROW_WORDS" = some (.ref (He.ga K "ROW_WORDS")) := T.glo 76
theorem Ctx.g_ROLES (T : Ctx w K mg) : mg "ROLES" = some (.ref (He.ga K "ROLES")) := T.glo 77
theorem Ctx.c_Function (T : Ctx w K mg) : Cls K (He.ga K "Function") := He.cls_ok (T.says.d.fact 78 rfl)
theorem Ctx.k_Function (T : Ctx w K mg) : Mk K (He.ga K "Function") (He.ma K (He.ga K "Function") "__init__") := He.mkr_ok (T.says.d.fact 79 rfl)
theorem Ctx.n_Function_name (T : Ctx w K mg) : NoAttr K (He.ga K "Function") "name" := He.noat_ok (T.says.d.fact 80 rfl)
theorem Ctx.n_Function_params (T : Ctx w K mg) : NoAttr K (He.ga K "Function") "params" := He.noat_ok (T.says.d.fact 81 rfl)
theorem Ctx.n_Function_others (T : Ctx w K mg) : NoAttr K (He.ga K "Function") "others" := He.noat_ok (T.says.d.fact 82 rfl)
theorem Ctx.n_Function_result (T : Ctx w K mg) : NoAttr K (He.ga K "Function") "result" := He.noat_ok (T.says.d.fact 83 rfl)
theorem Ctx.n_Function_variables (T : Ctx w K mg) : NoAttr K (He.ga K "Function") "variables" := He.noat_ok (T.says.d.fact 84 rfl)
theorem Ctx.n_Function_body (T : Ctx w K mg) : NoAttr K (He.ga K "Function") "body" := He.noat_ok (T.says.d.fact 85 rfl)
theorem Ctx.c_Source (T : Ctx w K mg) : Cls K (He.ga K "Source") := He.cls_ok (T.says.d.fact 86 rfl)
theorem Ctx.k_Source (T : Ctx w K mg) : Mk K (He.ga K "Source") (He.ma K (He.ga K "Source") "__init__") := He.mkr_ok (T.says.d.fact 87 rfl)
theorem Ctx.n_Source_field_kinds (T : Ctx w K mg) : NoAttr K (He.ga K "Source") "_field_kinds" := He.noat_ok (T.says.d.fact 88 rfl)
theorem Ctx.n_Source_fields (T : Ctx w K mg) : NoAttr K (He.ga K "Source") "_fields" := He.noat_ok (T.says.d.fact 89 rfl)
theorem Ctx.n_Source_functions (T : Ctx w K mg) : NoAttr K (He.ga K "Source") "_functions" := He.noat_ok (T.says.d.fact 90 rfl)
theorem Ctx.m_Source_take_classes (T : Ctx w K mg) : Meth K (He.ga K "Source") "_take_classes" (He.ma K (He.ga K "Source") "_take_classes") := He.meth_ok (T.says.d.fact 91 rfl)
theorem Ctx.m_Source_kinds_differ (T : Ctx w K mg) : Meth K (He.ga K "Source") "_kinds_differ" (He.ma K (He.ga K "Source") "_kinds_differ") := He.meth_ok (T.says.d.fact 92 rfl)
theorem Ctx.m_Source_take_heads (T : Ctx w K mg) : Meth K (He.ga K "Source") "_take_heads" (He.ma K (He.ga K "Source") "_take_heads") := He.meth_ok (T.says.d.fact 93 rfl)
theorem Ctx.m_Source_take_rows (T : Ctx w K mg) : Meth K (He.ga K "Source") "_take_rows" (He.ma K (He.ga K "Source") "_take_rows") := He.meth_ok (T.says.d.fact 94 rfl)
theorem Ctx.m_Source_is_row_of (T : Ctx w K mg) : Meth K (He.ga K "Source") "_is_row_of" (He.ma K (He.ga K "Source") "_is_row_of") := He.meth_ok (T.says.d.fact 95 rfl)
theorem Ctx.m_Source_function_at (T : Ctx w K mg) : Meth K (He.ga K "Source") "function_at" (He.ma K (He.ga K "Source") "function_at") := He.meth_ok (T.says.d.fact 96 rfl)
theorem Ctx.m_Source_fields_of (T : Ctx w K mg) : Meth K (He.ga K "Source") "fields_of" (He.ma K (He.ga K "Source") "fields_of") := He.meth_ok (T.says.d.fact 97 rfl)
theorem Ctx.m_Source_field_kind (T : Ctx w K mg) : Meth K (He.ga K "Source") "field_kind" (He.ma K (He.ga K "Source") "field_kind") := He.meth_ok (T.says.d.fact 98 rfl)
theorem Ctx.m_Source_classes (T : Ctx w K mg) : Meth K (He.ga K "Source") "classes" (He.ma K (He.ga K "Source") "classes") := He.meth_ok (T.says.d.fact 99 rfl)
theorem Ctx.m_Source_functions (T : Ctx w K mg) : Meth K (He.ga K "Source") "functions" (He.ma K (He.ga K "Source") "functions") := He.meth_ok (T.says.d.fact 100 rfl)
theorem Ctx.m_Source_eq (T : Ctx w K mg) : Meth K (He.ga K "Source") "__eq__" (He.ma K (He.ga K "Source") "__eq__") := He.meth_ok (T.says.d.fact 101 rfl)
theorem Ctx.D_is_integer (T : Ctx w K mg) : ∃ fd, FunD K "is_integer" "is_integer" (defArgs s_is_integer) (defBody s_is_integer) (defScope s_is_integer) [] [] (He.ga K "is_integer") fd := T.says.d.def_ 0 (d := d_is_integer) rfl
theorem Ctx.D_is_integer_in (T : Ctx w K mg) : ∃ fd, FunD K "is_integer_in" "is_integer_in" (defArgs s_is_integer_in) (defBody s_is_integer_in) (defScope s_is_integer_in) [] [] (He.ga K "is_integer_in") fd := T.says.d.def_ 1 (d := d_is_integer_in) rfl
theorem Ctx.D_is_written_number (T : Ctx w K mg) : ∃ fd, FunD K "is_written_number" "is_written_number" (defArgs s_is_written_number) (defBody s_is_written_number) (defScope s_is_written_number) [] [] (He.ga K "is_written_number") fd := T.says.d.def_ 2 (d := d_is_written_number) rfl
theorem Ctx.D_is_name (T : Ctx w K mg) : ∃ fd, FunD K "is_name" "is_name" (defArgs s_is_name) (defBody s_is_name) (defScope s_is_name) [] [] (He.ga K "is_name") fd := T.says.d.def_ 3 (d := d_is_name) rfl
theorem Ctx.D_is_kind (T : Ctx w K mg) : ∃ fd, FunD K "is_kind" "is_kind" (defArgs s_is_kind) (defBody s_is_kind) (defScope s_is_kind) [] [] (He.ga K "is_kind") fd := T.says.d.def_ 4 (d := d_is_kind) rfl
theorem Ctx.D_is_tuple_of (T : Ctx w K mg) : ∃ fd, FunD K "is_tuple_of" "is_tuple_of" (defArgs s_is_tuple_of) (defBody s_is_tuple_of) (defScope s_is_tuple_of) [] [] (He.ga K "is_tuple_of") fd := T.says.d.def_ 5 (d := d_is_tuple_of) rfl
theorem Ctx.D_is_list_of (T : Ctx w K mg) : ∃ fd, FunD K "is_list_of" "is_list_of" (defArgs s_is_list_of) (defBody s_is_list_of) (defScope s_is_list_of) [] [] (He.ga K "is_list_of") fd := T.says.d.def_ 6 (d := d_is_list_of) rfl
theorem Ctx.D_is_list_of_names (T : Ctx w K mg) : ∃ fd, FunD K "is_list_of_names" "is_list_of_names" (defArgs s_is_list_of_names) (defBody s_is_list_of_names) (defScope s_is_list_of_names) [] [] (He.ga K "is_list_of_names") fd := T.says.d.def_ 7 (d := d_is_list_of_names) rfl
theorem Ctx.D_is_word_tuple (T : Ctx w K mg) : ∃ fd, FunD K "is_word_tuple" "is_word_tuple" (defArgs s_is_word_tuple) (defBody s_is_word_tuple) (defScope s_is_word_tuple) [] [] (He.ga K "is_word_tuple") fd := T.says.d.def_ 8 (d := d_is_word_tuple) rfl
theorem Ctx.D_frozen (T : Ctx w K mg) : ∃ fd, FunD K "frozen" "frozen" (defArgs s_frozen) (defBody s_frozen) (defScope s_frozen) [] [] (He.ga K "frozen") fd := T.says.d.def_ 9 (d := d_frozen) rfl
theorem Ctx.D_are_named_kinds (T : Ctx w K mg) : ∃ fd, FunD K "are_named_kinds" "are_named_kinds" (defArgs s_are_named_kinds) (defBody s_are_named_kinds) (defScope s_are_named_kinds) [] [] (He.ga K "are_named_kinds") fd := T.says.d.def_ 10 (d := d_are_named_kinds) rfl
theorem Ctx.D_is_row (T : Ctx w K mg) : ∃ fd, FunD K "is_row" "is_row" (defArgs s_is_row) (defBody s_is_row) (defScope s_is_row) [] [] (He.ga K "is_row") fd := T.says.d.def_ 11 (d := d_is_row) rfl
theorem Ctx.D_fills (T : Ctx w K mg) : ∃ fd, FunD K "_fills" "_fills" (defArgs s_fills) (defBody s_fills) (defScope s_fills) [] [] (He.ga K "_fills") fd := T.says.d.def_ 12 (d := d_fills) rfl
theorem Ctx.D_row_sets (T : Ctx w K mg) : ∃ fd, FunD K "row_sets" "row_sets" (defArgs s_row_sets) (defBody s_row_sets) (defScope s_row_sets) [] [] (He.ga K "row_sets") fd := T.says.d.def_ 13 (d := d_row_sets) rfl
theorem Ctx.D_row_reads (T : Ctx w K mg) : ∃ fd, FunD K "row_reads" "row_reads" (defArgs s_row_reads) (defBody s_row_reads) (defScope s_row_reads) [] [] (He.ga K "row_reads") fd := T.says.d.def_ 14 (d := d_row_reads) rfl
theorem Ctx.D_row_kinds_fit (T : Ctx w K mg) : ∃ fd, FunD K "row_kinds_fit" "row_kinds_fit" (defArgs s_row_kinds_fit) (defBody s_row_kinds_fit) (defScope s_row_kinds_fit) [] [] (He.ga K "row_kinds_fit") fd := T.says.d.def_ 15 (d := d_row_kinds_fit) rfl
theorem Ctx.D_names_in (T : Ctx w K mg) : ∃ fd, FunD K "_names_in" "_names_in" (defArgs s_names_in) (defBody s_names_in) (defScope s_names_in) [] [] (He.ga K "_names_in") fd := T.says.d.def_ 16 (d := d_names_in) rfl
theorem Ctx.D_call_fits (T : Ctx w K mg) : ∃ fd, FunD K "_call_fits" "_call_fits" (defArgs s_call_fits) (defBody s_call_fits) (defScope s_call_fits) [] [] (He.ga K "_call_fits") fd := T.says.d.def_ 17 (d := d_call_fits) rfl
theorem Ctx.D_told_row (T : Ctx w K mg) : ∃ fd, FunD K "told_row" "told_row" (defArgs s_told_row) (defBody s_told_row) (defScope s_told_row) [] [] (He.ga K "told_row") fd := T.says.d.def_ 18 (d := d_told_row) rfl
theorem Ctx.D_told_function (T : Ctx w K mg) : ∃ fd, FunD K "_told_function" "_told_function" (defArgs s_told_function) (defBody s_told_function) (defScope s_told_function) [] [] (He.ga K "_told_function") fd := T.says.d.def_ 19 (d := d_told_function) rfl
theorem Ctx.D_is_class (T : Ctx w K mg) : ∃ fd, FunD K "_is_class" "_is_class" (defArgs s_is_class) (defBody s_is_class) (defScope s_is_class) [] [] (He.ga K "_is_class") fd := T.says.d.def_ 20 (d := d_is_class) rfl
theorem Ctx.D_is_head (T : Ctx w K mg) : ∃ fd, FunD K "_is_head" "_is_head" (defArgs s_is_head) (defBody s_is_head) (defScope s_is_head) [] [] (He.ga K "_is_head") fd := T.says.d.def_ 21 (d := d_is_head) rfl
theorem Ctx.D_L_mix (T : Ctx w K mg) : ∃ fd, FunD K "_law_mix" "_law_mix" (defArgs s_L_mix) (defBody s_L_mix) (defScope s_L_mix) [] [] (He.ga K "_law_mix") fd := T.says.d.def_ 22 (d := d_L_mix) rfl
theorem Ctx.D_L_well (T : Ctx w K mg) : ∃ fd, FunD K "_law_well" "_law_well" (defArgs s_L_well) (defBody s_L_well) (defScope s_L_well) [] [] (He.ga K "_law_well") fd := T.says.d.def_ 23 (d := d_L_well) rfl
theorem Ctx.D_L_draw (T : Ctx w K mg) : ∃ fd, FunD K "_law_draw" "_law_draw" (defArgs s_L_draw) (defBody s_L_draw) (defScope s_L_draw) [] [] (He.ga K "_law_draw") fd := T.says.d.def_ 24 (d := d_L_draw) rfl
theorem Ctx.D_L_pick (T : Ctx w K mg) : ∃ fd, FunD K "_law_pick" "_law_pick" (defArgs s_L_pick) (defBody s_L_pick) (defScope s_L_pick) [] [] (He.ga K "_law_pick") fd := T.says.d.def_ 25 (d := d_L_pick) rfl
theorem Ctx.D_L_some (T : Ctx w K mg) : ∃ fd, FunD K "_law_some" "_law_some" (defArgs s_L_some) (defBody s_L_some) (defScope s_L_some) [] [] (He.ga K "_law_some") fd := T.says.d.def_ 26 (d := d_L_some) rfl
theorem Ctx.D_L_classes (T : Ctx w K mg) : ∃ fd, FunD K "_law_classes" "_law_classes" (defArgs s_L_classes) (defBody s_L_classes) (defScope s_L_classes) [] [] (He.ga K "_law_classes") fd := T.says.d.def_ 27 (d := d_L_classes) rfl
theorem Ctx.D_L_heads (T : Ctx w K mg) : ∃ fd, FunD K "_law_heads" "_law_heads" (defArgs s_L_heads) (defBody s_L_heads) (defScope s_L_heads) [] [] (He.ga K "_law_heads") fd := T.says.d.def_ 28 (d := d_L_heads) rfl
theorem Ctx.D_L_named (T : Ctx w K mg) : ∃ fd, FunD K "_law_named" "_law_named" (defArgs s_L_named) (defBody s_L_named) (defScope s_L_named) [] [] (He.ga K "_law_named") fd := T.says.d.def_ 29 (d := d_L_named) rfl
theorem Ctx.D_L_number_rows (T : Ctx w K mg) : ∃ fd, FunD K "_law_number_rows" "_law_number_rows" (defArgs s_L_number_rows) (defBody s_L_number_rows) (defScope s_L_number_rows) [] [] (He.ga K "_law_number_rows") fd := T.says.d.def_ 30 (d := d_L_number_rows) rfl
theorem Ctx.D_L_object_rows (T : Ctx w K mg) : ∃ fd, FunD K "_law_object_rows" "_law_object_rows" (defArgs s_L_object_rows) (defBody s_L_object_rows) (defScope s_L_object_rows) [] [] (He.ga K "_law_object_rows") fd := T.says.d.def_ 31 (d := d_L_object_rows) rfl
theorem Ctx.D_L_field_rows (T : Ctx w K mg) : ∃ fd, FunD K "_law_field_rows" "_law_field_rows" (defArgs s_L_field_rows) (defBody s_L_field_rows) (defScope s_L_field_rows) [] [] (He.ga K "_law_field_rows") fd := T.says.d.def_ 32 (d := d_L_field_rows) rfl
theorem Ctx.D_L_call_rows (T : Ctx w K mg) : ∃ fd, FunD K "_law_call_rows" "_law_call_rows" (defArgs s_L_call_rows) (defBody s_L_call_rows) (defScope s_L_call_rows) [] [] (He.ga K "_law_call_rows") fd := T.says.d.def_ 33 (d := d_L_call_rows) rfl
theorem Ctx.D_L_rows (T : Ctx w K mg) : ∃ fd, FunD K "_law_rows" "_law_rows" (defArgs s_L_rows) (defBody s_L_rows) (defScope s_L_rows) [] [] (He.ga K "_law_rows") fd := T.says.d.def_ 34 (d := d_L_rows) rfl
theorem Ctx.D_L_parts (T : Ctx w K mg) : ∃ fd, FunD K "_law_parts" "_law_parts" (defArgs s_L_parts) (defBody s_L_parts) (defScope s_L_parts) [] [] (He.ga K "_law_parts") fd := T.says.d.def_ 35 (d := d_L_parts) rfl
theorem Ctx.D_L_copied (T : Ctx w K mg) : ∃ fd, FunD K "_law_copied" "_law_copied" (defArgs s_L_copied) (defBody s_L_copied) (defScope s_L_copied) [] [] (He.ga K "_law_copied") fd := T.says.d.def_ 36 (d := d_L_copied) rfl
theorem Ctx.D_L_spoilt (T : Ctx w K mg) : ∃ fd, FunD K "_law_spoilt" "_law_spoilt" (defArgs s_L_spoilt) (defBody s_L_spoilt) (defScope s_L_spoilt) [] [] (He.ga K "_law_spoilt") fd := T.says.d.def_ 37 (d := d_L_spoilt) rfl
theorem Ctx.D_L_unlike (T : Ctx w K mg) : ∃ fd, FunD K "_law_unlike" "_law_unlike" (defArgs s_L_unlike) (defBody s_L_unlike) (defScope s_L_unlike) [] [] (He.ga K "_law_unlike") fd := T.says.d.def_ 38 (d := d_L_unlike) rfl
theorem Ctx.D_L_right (T : Ctx w K mg) : ∃ fd, FunD K "_law_right" "_law_right" (defArgs s_L_right) (defBody s_L_right) (defScope s_L_right) [] [] (He.ga K "_law_right") fd := T.says.d.def_ 39 (d := d_L_right) rfl
theorem Ctx.D_law (T : Ctx w K mg) : ∃ fd, FunD K "law" "law" (defArgs s_law) (defBody s_law) (defScope s_law) [] [] (He.ga K "law") fd := T.says.d.def_ 40 (d := d_law) rfl
theorem Ctx.D_Function_init (T : Ctx w K mg) : ∃ fd, FunD K "__init__" "Function.__init__" (defArgs s_Function_init) (defBody s_Function_init) (defScope s_Function_init) [] [] (He.ma K (He.ga K "Function") "__init__") fd := T.says.d.def_ 41 (d := d_Function_init) rfl
theorem Ctx.D_InvalidSource_init (T : Ctx w K mg) : ∃ fd, FunD K "__init__" "InvalidSource.__init__" (defArgs s_InvalidSource_init) (defBody s_InvalidSource_init) (defScope s_InvalidSource_init) [] [] (He.ma K (He.ga K "InvalidSource") "__init__") fd := T.says.d.def_ 42 (d := d_InvalidSource_init) rfl
theorem Ctx.D_Source_init (T : Ctx w K mg) : ∃ fd, FunD K "__init__" "Source.__init__" (defArgs s_Source_init) (defBody s_Source_init) (defScope s_Source_init) [] [] (He.ma K (He.ga K "Source") "__init__") fd := T.says.d.def_ 43 (d := d_Source_init) rfl
theorem Ctx.D_Source_take_classes (T : Ctx w K mg) : ∃ fd, FunD K "_take_classes" "Source._take_classes" (defArgs s_Source_take_classes) (defBody s_Source_take_classes) (defScope s_Source_take_classes) [] [] (He.ma K (He.ga K "Source") "_take_classes") fd := T.says.d.def_ 44 (d := d_Source_take_classes) rfl
theorem Ctx.D_Source_kinds_differ (T : Ctx w K mg) : ∃ fd, FunD K "_kinds_differ" "Source._kinds_differ" (defArgs s_Source_kinds_differ) (defBody s_Source_kinds_differ) (defScope s_Source_kinds_differ) [] [] (He.ma K (He.ga K "Source") "_kinds_differ") fd := T.says.d.def_ 45 (d := d_Source_kinds_differ) rfl
theorem Ctx.D_Source_take_heads (T : Ctx w K mg) : ∃ fd, FunD K "_take_heads" "Source._take_heads" (defArgs s_Source_take_heads) (defBody s_Source_take_heads) (defScope s_Source_take_heads) [] [] (He.ma K (He.ga K "Source") "_take_heads") fd := T.says.d.def_ 46 (d := d_Source_take_heads) rfl
theorem Ctx.D_Source_take_rows (T : Ctx w K mg) : ∃ fd, FunD K "_take_rows" "Source._take_rows" (defArgs s_Source_take_rows) (defBody s_Source_take_rows) (defScope s_Source_take_rows) [] [] (He.ma K (He.ga K "Source") "_take_rows") fd := T.says.d.def_ 47 (d := d_Source_take_rows) rfl
theorem Ctx.D_Source_is_row_of (T : Ctx w K mg) : ∃ fd, FunD K "_is_row_of" "Source._is_row_of" (defArgs s_Source_is_row_of) (defBody s_Source_is_row_of) (defScope s_Source_is_row_of) [] [] (He.ma K (He.ga K "Source") "_is_row_of") fd := T.says.d.def_ 48 (d := d_Source_is_row_of) rfl
theorem Ctx.D_Source_function_at (T : Ctx w K mg) : ∃ fd, FunD K "function_at" "Source.function_at" (defArgs s_Source_function_at) (defBody s_Source_function_at) (defScope s_Source_function_at) [] [] (He.ma K (He.ga K "Source") "function_at") fd := T.says.d.def_ 49 (d := d_Source_function_at) rfl
theorem Ctx.D_Source_fields_of (T : Ctx w K mg) : ∃ fd, FunD K "fields_of" "Source.fields_of" (defArgs s_Source_fields_of) (defBody s_Source_fields_of) (defScope s_Source_fields_of) [] [] (He.ma K (He.ga K "Source") "fields_of") fd := T.says.d.def_ 50 (d := d_Source_fields_of) rfl
theorem Ctx.D_Source_field_kind (T : Ctx w K mg) : ∃ fd, FunD K "field_kind" "Source.field_kind" (defArgs s_Source_field_kind) (defBody s_Source_field_kind) (defScope s_Source_field_kind) [] [] (He.ma K (He.ga K "Source") "field_kind") fd := T.says.d.def_ 51 (d := d_Source_field_kind) rfl
theorem Ctx.D_Source_classes (T : Ctx w K mg) : ∃ fd, FunD K "classes" "Source.classes" (defArgs s_Source_classes) (defBody s_Source_classes) (defScope s_Source_classes) [] [] (He.ma K (He.ga K "Source") "classes") fd := T.says.d.def_ 52 (d := d_Source_classes) rfl
theorem Ctx.D_Source_functions (T : Ctx w K mg) : ∃ fd, FunD K "functions" "Source.functions" (defArgs s_Source_functions) (defBody s_Source_functions) (defScope s_Source_functions) [] [] (He.ma K (He.ga K "Source") "functions") fd := T.says.d.def_ 53 (d := d_Source_functions) rfl
theorem Ctx.D_Source_eq (T : Ctx w K mg) : ∃ fd, FunD K "__eq__" "Source.__eq__" (defArgs s_Source_eq) (defBody s_Source_eq) (defScope s_Source_eq) [] [] (He.ma K (He.ga K "Source") "__eq__") fd := T.says.d.def_ 54 (d := d_Source_eq) rfl
theorem Ctx.kinds (T : Ctx w K mg) (H : Hp) : SqT K H (He.ga K "KINDS") (v_KINDS.map (He.Dv.v K)) := He.tupB_ok (He.ba T.more).1 H
theorem Ctx.numwords (T : Ctx w K mg) (H : Hp) : SqT K H (He.ga K "NUMBER_WORDS") (v_NUMBER_WORDS.map (He.Dv.v K)) := He.tupB_ok (He.ba (He.ba T.more).2).1 H
theorem Ctx.rowwords (T : Ctx w K mg) (H : Hp) : SqT K H (He.ga K "ROW_WORDS") (v_ROW_WORDS.map (He.Dv.v K)) := He.tupB_ok (He.ba (He.ba (He.ba T.more).2).2).1 H
theorem tupAt_ok {K : PySem.W.Frag} {a : Addr} {vs : List V} (h : tupAt K a vs = true) (H : Hp) : SqT K H a vs := by
  unfold tupAt at h
  cases q : K.lookup a with
  | none =>
    rw [q] at h
    cases h
  | some o =>
    obtain ⟨oc, od, dt, osl⟩ := o
    rw [q] at h
    cases oc with
    | type c =>
      cases dt with
      | seq its n =>
        obtain ⟨h1, h2⟩ := He.ba (show (decide (c = "tuple") && (decide (its.size ≤ sizeLine) && He.relAll vs its.toList)) = true from h)
        obtain ⟨h3, h4⟩ := He.ba h2
        exact .inr ⟨_, its, n, q, congrArg Value.type (of_decide_eq_true h1), rfl, of_decide_eq_true h3, He.relAll_ok h4⟩
      | _ => cases h
    | _ => cases dt <;> cases h
theorem Ctx.rolesD (T : Ctx w K mg) : ∃ es n, KDict K w (He.ga K "ROLES") es n := T.says.tab 0 (t := (fun K => He.ga K "ROLES", roles.map (·.1))) rfl
theorem Ctx.role (T : Ctx w K mg) {x : Str} {rs : List Str} (m : (x, rs) ∈ roles) (H : Hp) : PySem.W.nsIn K (He.ga K "ROLES") x = some (some (.ref (rolA K x))) ∧ SqT K H (rolA K x) (rs.map V.str) := by
  have e := List.all_eq_true.mp (He.ba (He.ba (He.ba (He.ba T.more).2).2).2).1 (x, rs) m
  obtain ⟨e1, e2⟩ := He.ba (show (He.eqO (PySem.W.nsIn K (He.ga K "ROLES") x) (some (some (.ref (rolA K x)))) && tupAt K (rolA K x) (rs.map V.str)) = true from e)
  exact ⟨He.eqO_ok e1, tupAt_ok e2 H⟩
theorem Ctx.isSource (T : Ctx w K mg) {H : Hp} {p dx : Addr} {fs : List (Str × V)} (h : H p = some (.ins (He.ga K "Source") dx fs)) : TyX K H (.ref p) (.ref (He.ga K "Source")) ∧ PySem.W.kitOne K (.ref (He.ga K "Source")) (.ref (He.ga K "Source")) = some true := by
  have e := (He.ba (He.ba (He.ba (He.ba (He.ba T.more).2).2).2).2).1
  obtain ⟨e1, e⟩ := He.ba (show (He.eqO (PySem.W.findIn K (.ref (He.ga K "Source")) "__class__") (some (some (.builtin "object.__class__"))) && (He.eqO (PySem.W.specialIn K (.builtin "object.__class__") "__get__") (some (some (.builtin "getset_descriptor.__get__"))) && (decide (PySem.W.takesIn K (.builtin "object.__class__") = some true) && (decide (PySem.W.mroIn K (He.ga K "Source") (.type "object") = some true) && decide (PySem.W.kitOne K (.ref (He.ga K "Source")) (.ref (He.ga K "Source")) = some true))))) = true from e)
  obtain ⟨e2, e⟩ := He.ba e
  obtain ⟨e3, e⟩ := He.ba e
  obtain ⟨e4, e5⟩ := He.ba e
  exact ⟨.base (.ins h T.c_Source (He.eqO_ok e1) (He.eqO_ok e2) (of_decide_eq_true e3) (of_decide_eq_true e4)), of_decide_eq_true e5⟩
end
end W1
set_option Elab.async false
set_option linter.all false
set_option maxRecDepth 100000
set_option maxHeartbeats 4000000
namespace W1
open PySem PySem.Spec PyProof.Rows L2
/-! ### heaps that grow -/
theorem Same.new {H : Hp} {p : Addr} {o : HO} (h : H p = none) : Same H (upd H p o) := fun a u e => by
  rw [upd_ne (ne_of_none e h)]
  exact e
theorem Same.mut {H H' : Hp} {p : Addr} {o : HO} (e : Same H H') (h : H p = none) : Same H (upd H' p o) := fun a u ha => by
  rw [upd_ne (ne_of_none ha h)]
  exact e a u ha
theorem Same.tup {K : PySem.W.Frag} {H H' : Hp} {a : Addr} {xs : List V} (e : Same H H') (h : SqT K H a xs) : SqT K H' a xs := by
  rcases h with (h | ⟨o, h⟩) | h
  · exact .inl (.inl (e _ _ h))
  · exact .inl (.inr ⟨o, e _ _ h⟩)
  · exact .inr h
theorem sz_of {n : Nat} (h : n ≤ 100000) : n ≤ sizeLine := Nat.le_trans h (by decide)
theorem sz_lt {n : Nat} (h : n < 100000) : n < sizeLine := Nat.lt_of_lt_of_le h (by decide)
/-- a comprehension whose elements leave what stood as it was: the list of what they give -/
theorem lc_pure {J : It} {n : Nat} {G : Hp → Prop} {Y : Nat → Hp → V → Hp → Prop} (w : Walk J n G Y) {g : TG} {te : TE} {vs : List Nat} {σ : L2.St} {H0 : Hp} {D : Addr} {Qd : Hp → Prop} (hD : H0 D = none) (f : Nat → V) (hn : n < 100000)
    (hG : ∀ H, Same H0 H → G H)
    (hs : ∀ i H x H', i < n → Same H0 H → Y i H x H' → ∀ Qe : VK, (∀ H4, Same H H4 → Qe (f i) H4) → g x (wipe σ vs) H' fun σ2 H2 => wipe σ2 vs = wipe σ vs ∧ te σ2 H2 Qe)
    (hd : ∀ H, Same H0 H → H D = some (.lst ((List.range n).map f)) → Qd H) :
    ∃ W : Nat → Nat → Hp → Prop, (∃ m, W 0 m (upd H0 D (.lst []))) ∧ ∀ i m H, W i m H →
      (J.stop i H ∧ Qd H) ∨ (J.go i H ∧ ∃ Nx : Hp → Prop, (∀ H', Nx H' → ∃ m', m' < m ∧ W (i + 1) m' H') ∧ ∀ x H', J.yld i H x H' → g x (wipe σ vs) H' fun σ2 H2 => wipe σ2 vs = wipe σ vs ∧ tYes σ2 H2 fun b H3 =>
        if b = true then te σ2 H3 fun y H4 => ∃ acc, H4 D = some (.lst acc) ∧ acc.length < sizeLine ∧ Nx (upd H4 D (.lst (acc ++ [y]))) else Nx H3) := by
  refine lc_it w (fun i H => Same H0 H ∧ H D = some (.lst ((List.range i).map f))) ⟨Same.new hD, upd_same⟩ (fun i H _ p => hG H p.1) (fun i x H H' hi p y => ?_) (fun H p => hd H p.1 p.2)
  have q := hs i H x H' hi p.1 y (fun y H4 => ∃ acc, H4 D = some (.lst acc) ∧ acc.length < sizeLine ∧ (Same H0 (upd H4 D (.lst (acc ++ [y]))) ∧ upd H4 D (.lst (acc ++ [y])) D = some (.lst ((List.range (i + 1)).map f)))) (fun H4 s4 => ?_)
  · exact q
  · refine ⟨_, s4 _ _ p.2, sz_lt ?_, Same.mut (p.1.trans s4) hD, ?_⟩
    · rw [List.length_map, List.length_range]
      exact Nat.lt_trans hi hn
    · rw [upd_same, List.range_succ, List.map_append]
      rfl
theorem qT {Q : VK} {H : Hp} {b : Bool} (e : b = true) (k : Q (.bl true) H) : Q (.bl b) H := by
  rw [e]
  exact k
theorem qF {Q : VK} {H : Hp} {b : Bool} (e : b = false) (k : Q (.bl false) H) : Q (.bl b) H := by
  rw [e]
  exact k
theorem ifT {b : Bool} {A B : Prop} (e : b = true) (h : A) : if b = true then A else B := by
  rw [e]
  exact iteT h
theorem ifF {b : Bool} {A B : Prop} (e : b = false) (h : B) : if b = true then A else B := by
  rw [e]
  exact iteF h
theorem at0 {v : V} {xs : List V} : atI (v :: xs) 0 = some v := atI_nat (j := 0) rfl
theorem at1 {a v : V} {xs : List V} : atI (a :: v :: xs) 1 = some v := atI_nat (j := 1) rfl
theorem at2 {a b v : V} {xs : List V} : atI (a :: b :: v :: xs) 2 = some v := atI_nat (j := 2) rfl
theorem at3 {a b c v : V} {xs : List V} : atI (a :: b :: c :: v :: xs) 3 = some v := atI_nat (j := 3) rfl
theorem at4 {a b c d v : V} {xs : List V} : atI (a :: b :: c :: d :: v :: xs) 4 = some v := atI_nat (j := 4) rfl
/-- .. whose elements are new tuples -/
theorem lc_tups {J : It} {n : Nat} {G : Hp → Prop} {Y : Nat → Hp → V → Hp → Prop} (w : Walk J n G Y) {g : TG} {te : TE} {vs : List Nat} {σ : L2.St} {H0 : Hp} {D : Addr} {Qd : Hp → Prop} (hD : H0 D = none) (f : Nat → List V) (hn : n < 100000)
    (hG : ∀ H, Same H0 H → G H)
    (hs : ∀ i H x H', i < n → Same H0 H → Y i H x H' → ∀ Qe : VK, (∀ q H4, Same H H4 → H4 q = some (.tup (f i)) → Qe (.ref q) H4) → g x (wipe σ vs) H' fun σ2 H2 => wipe σ2 vs = wipe σ vs ∧ te σ2 H2 Qe)
    (hd : ∀ (H : Hp) (qs : List Addr), Same H0 H → qs.length = n → (∀ (i : Nat) (q : Addr), qs[i]? = some q → H q = some (.tup (f i))) → H D = some (.lst (qs.map V.ref)) → Qd H) :
    ∃ W : Nat → Nat → Hp → Prop, (∃ m, W 0 m (upd H0 D (.lst []))) ∧ ∀ i m H, W i m H →
      (J.stop i H ∧ Qd H) ∨ (J.go i H ∧ ∃ Nx : Hp → Prop, (∀ H', Nx H' → ∃ m', m' < m ∧ W (i + 1) m' H') ∧ ∀ x H', J.yld i H x H' → g x (wipe σ vs) H' fun σ2 H2 => wipe σ2 vs = wipe σ vs ∧ tYes σ2 H2 fun b H3 =>
        if b = true then te σ2 H3 fun y H4 => ∃ acc, H4 D = some (.lst acc) ∧ acc.length < sizeLine ∧ Nx (upd H4 D (.lst (acc ++ [y]))) else Nx H3) := by
  refine lc_it w (fun i H => Same H0 H ∧ ∃ qs : List Addr, qs.length = i ∧ (∀ (j : Nat) (q : Addr), qs[j]? = some q → H q = some (.tup (f j))) ∧ H D = some (.lst (qs.map V.ref))) ⟨Same.new hD, [], rfl, fun j q e => by simp at e, upd_same⟩ (fun i H _ p => hG H p.1) (fun i x H H' hi p y => ?_) (fun H p => ?_)
  · obtain ⟨s1, qs, hl, hq, hDD⟩ := p
    have q := hs i H x H' hi s1 y (fun y H4 => ∃ acc, H4 D = some (.lst acc) ∧ acc.length < sizeLine ∧ (Same H0 (upd H4 D (.lst (acc ++ [y]))) ∧ ∃ qs : List Addr, qs.length = i + 1 ∧ (∀ (j : Nat) (q : Addr), qs[j]? = some q → upd H4 D (.lst (acc ++ [y])) q = some (.tup (f j))) ∧ upd H4 D (.lst (acc ++ [y])) D = some (.lst (qs.map V.ref)))) (fun q H4 s4 hq4 => ?_)
    · exact q
    · have h4 := s4 _ _ hDD
      refine ⟨_, h4, sz_lt ?_, Same.mut (s1.trans s4) hD, qs ++ [q], by rw [List.length_append, hl]; rfl, fun j r e => ?_, by rw [upd_same, List.map_append]; rfl⟩
      · rw [List.length_map, hl]
        exact Nat.lt_trans hi hn
      · have z : H4 r = some (.tup (f j)) := by
          by_cases hj : j < qs.length
          · rw [List.getElem?_append_left hj] at e
            exact s4 _ _ (hq j r e)
          · rw [List.getElem?_append_right (by omega)] at e
            have hj2 : j - qs.length = 0 := by
              have := (List.getElem?_eq_some_iff.mp e).1
              simp at this
              omega
            rw [hj2] at e
            have er : q = r := Option.some.inj e
            have ej : j = i := by omega
            rw [← er, ej]
            exact hq4
        rw [upd_ne]
        · exact z
        · intro c
          rw [c, h4] at z
          cases z
  · obtain ⟨s1, qs, hl, hq, hDD⟩ := p
    exact hd H qs s1 hl hq hDD
theorem map_range_getD {xs : List V} : (List.range xs.length).map (fun i => xs.getD i .non) = xs := by
  apply List.ext_getElem
  · simp
  · intro i h1 h2
    simp at h1
    simp [h1]
theorem getD_of {xs : List V} {i : Nat} {x : V} (h : xs[i]? = some x) : xs.getD i .non = x := by
  rw [List.getD_eq_getElem?_getD, h]
  rfl
/-- pairs of a name and "number" -/
structure Pairs (H : Hp) (ps : List Addr) (ns : List Str) : Prop where
  len : ps.length = ns.length
  at_ : ∀ (i : Nat) p x, ps[i]? = some p → ns[i]? = some x → H p = some (.tup [.str x, .str "number"])
theorem Pairs.mono {H H' : Hp} {ps : List Addr} {ns : List Str} (h : Pairs H ps ns) (e : Same H H') : Pairs H' ps ns := ⟨h.len, fun i p x a b => e _ _ (h.at_ i p x a b)⟩
theorem Pairs.append {H : Hp} {ps qs : List Addr} {ns ms : List Str} (h : Pairs H ps ns) (h2 : Pairs H qs ms) : Pairs H (ps ++ qs) (ns ++ ms) := by
  refine ⟨by rw [List.length_append, List.length_append, h.len, h2.len], fun i p x a b => ?_⟩
  by_cases hi : i < ps.length
  · rw [List.getElem?_append_left hi] at a
    rw [List.getElem?_append_left (by rw [← h.len]; exact hi)] at b
    exact h.at_ i p x a b
  · rw [List.getElem?_append_right (by omega)] at a
    rw [List.getElem?_append_right (by rw [← h.len]; omega), ← h.len] at b
    exact h2.at_ _ p x a b
theorem Pairs.get {H : Hp} {ps : List Addr} {ns : List Str} (h : Pairs H ps ns) {i : Nat} {y : V} (e : (ps.map V.ref)[i]? = some y) : ∃ p x, y = .ref p ∧ ps[i]? = some p ∧ ns[i]? = some x ∧ H p = some (.tup [.str x, .str "number"]) := by
  rw [List.getElem?_map] at e
  cases q : ps[i]? with
  | none =>
    rw [q] at e
    cases e
  | some p =>
    rw [q] at e
    have hi : i < ps.length := (List.getElem?_eq_some_iff.mp q).1
    have hx : ns[i]? = some (ns[i]'(by rw [← h.len]; exact hi)) := by
      rw [List.getElem?_eq_getElem]
    exact ⟨p, _, (Option.some.inj e).symm, rfl, hx, h.at_ i p _ q hx⟩
theorem take_snoc {α : Type} : ∀ {l : List α} {i : Nat} {x : α}, l[i]? = some x → l.take (i + 1) = l.take i ++ [x]
  | [], i, x, h => by simp at h
  | a :: l, 0, x, h => by
    have e : a = x := Option.some.inj h
    subst e
    rfl
  | a :: l, i + 1, x, h => by
    have ih := take_snoc (l := l) (i := i) (x := x) h
    show a :: l.take (i + 1) = a :: l.take i ++ [x]
    rw [ih]
    rfl
theorem not_in_take {α : Type} {l : List α} (hN : l.Nodup) {i : Nat} {x : α} (h : l[i]? = some x) : x ∉ l.take i := fun m => by
  obtain ⟨j, hj, e⟩ := List.mem_iff_getElem.mp m
  rw [List.getElem_take] at e
  have hj2 : j < i := by
    rw [List.length_take] at hj
    omega
  have hi := (List.getElem?_eq_some_iff.mp h)
  obtain ⟨hi1, hi2⟩ := hi
  have q := (List.getElem_inj hN).mp (e.trans hi2.symm)
  omega
/-- a dict whose keys are these names -/
def kvT (l : List Str) (f : Str → V) : List (Key × V) := l.map fun x => (Sum.inr x, f x)
theorem valV_kvT {l : List Str} {f : Str → V} {x : Str} (h : x ∉ l) : valV (kvT l f) (Sum.inr x : Key) = none := by
  cases e : valV (kvT l f) (Sum.inr x : Key) with
  | none => rfl
  | some v =>
    have m := valV_in e
    obtain ⟨q, hq, e2⟩ := List.mem_map.mp m
    obtain ⟨y, hy, e3⟩ := List.mem_map.mp hq
    rw [← e3] at e2
    have e4 : y = x := Sum.inr.inj e2
    rw [← e4] at h
    exact absurd hy h
theorem putK_kvT {l : List Str} {f : Str → V} {x : Str} (h : x ∉ l) : putK (kvT l f) (Sum.inr x : Key) (f x) = kvT (l ++ [x]) f := by
  rw [putK_new _ (valV_kvT h)]
  unfold kvT
  rw [List.map_append]
  rfl
/-! ### truth of a list of true things -/
theorem all_true {n : Nat} : (((List.range n).map fun _ => true).all id) = true := by
  simp
/-! ### names -/
def LETS : Str := "abcdefghijklmnopqrstuvwxyz"
def MRKS : Str := "abcdefghijklmnopqrstuvwxyz0123456789"
structure Nam (x : Str) : Prop where
  pos : 0 < x.cps.size
  le : x.cps.size ≤ 8
  one : ∃ c : Nat, x.cps[0]? = some c ∧ c ∈ LETS.cps.toList
  all : ∀ (i c : Nat), x.cps[i]? = some c → c ∈ MRKS.cps.toList
theorem pe_fldK {X : Cx} {K : PySem.W.Frag} {e : Expr} {ta : TE} {f : Str} {pos : Pos} (hk : X.K = K) (he : PE X e ta) (hb : attributeBase e f X.env (eval e X.env) = eval e X.env) : PE X (.Attribute e f pos) (tFld K ta f) := by
  subst hk
  exact pe_fld he hb
end W1
set_option Elab.async false
set_option linter.all false
set_option maxRecDepth 100000
set_option maxHeartbeats 4000000
namespace W1
open PySem PySem.Spec PyProof.Rows L2
/-! ### tuples whose objects are known to have no dict -/
def PlT (o : Obj) : Prop := o.cls = .type "tuple" ∧ o.dict = none
/-- a plain tuple -/
def TupP (H : Hp) (a : Addr) (xs : List V) : Prop := ∃ o, H a = some (.frz o (.tup xs)) ∧ PlT o
theorem TupP.sq {K : PySem.W.Frag} {H : Hp} {a : Addr} {xs : List V} (h : TupP H a xs) : SqT K H a xs := by
  obtain ⟨o, e, _⟩ := h
  exact .inl (.inr ⟨o, e⟩)
theorem TupP.mono {H H' : Hp} {a : Addr} {xs : List V} (h : TupP H a xs) (e : Same H H') : TupP H' a xs := by
  obtain ⟨o, q, p⟩ := h
  exact ⟨o, e _ _ q, p⟩
section
variable {X : Cx}
/-- tuple(list) -/
theorem call_tupleP : CallR X (.type "tuple") (fun xs H Q => ∃ p ys, xs = [.ref p] ∧ SqL X.K H p ys ∧ ∀ l o, H l = none → PlT o → Q (.ref l) (upd H l (.frz o (.tup ys)))) := by
  intro pins s σ H xs us Q I r h
  obtain ⟨p, ys, rfl, hq, q⟩ := h
  obtain ⟨u, rfl, rx⟩ := vals1 r
  cases rx
  obtain ⟨its, r', pl, hz⟩ := I.list hq
  have hlen := r'.length
  refine call_tuple_list pl.isList (fun h' kp => ?_) (by simp only [List.size_toArray] <;> omega)
  have I1 : Inv X pins σ H { s with heap := h' } := I.kept (t' := s.toks) kp
  have I2 : Inv X pins σ (upd H h'.objs.size (.frz { cls := .type "tuple", data := .seq its.toArray } (.tup ys))) { s with heap := h'.push { cls := .type "tuple", data := .seq its.toArray } } :=
    I1.laid (t' := s.toks) (fun b o e => Heap.get?_push_of_some _ e) (Nat.le_refl _) (show ObjOk X.prog X.w _ _ _ (.frz _ (.tup ys)) from ⟨Heap.get?_push_size _ rfl, hz, its, r', IsTup.new _ _⟩)
  exact ⟨.ref h'.objs.size, _, I2, rfl, q _ _ (I1.hok.fresh (Nat.le_refl _)) ⟨rfl, rfl⟩⟩
/-- t + u of plain tuples -/
theorem op_catP : OpR X (binaryOp .Add) (fun x y H Q => ∃ a b xs ys, x = .ref a ∧ y = .ref b ∧ SqT X.K H a xs ∧ SqT X.K H b ys ∧ xs ≠ [] ∧ xs.length + ys.length ≤ sizeLine ∧ (ys = [] → Q (.ref a) H) ∧ (ys ≠ [] → ∀ p o, H p = none → PlT o → Q (.ref p) (upd H p (.frz o (.tup (xs ++ ys)))))) := by
  intro pins s σ H x y v u Q I rx ry h
  obtain ⟨a, b, xs, ys, rfl, rfl, ha, hb, hx, hz, q1, q2⟩ := h
  cases rx
  cases ry
  obtain ⟨its, r1, p1, _⟩ := I.tuple ha
  obtain ⟨its2, r2, p2, _⟩ := I.tuple hb
  refine HT.cat_tup p1 p2 (fun z => hx (r1.nil_iff.mp z)) (fun z => ⟨.ref a, H, I, rfl, q1 (r2.nil_iff.mp z)⟩) (fun z => ?_) (by rw [← r1.length, ← r2.length]; exact hz)
  refine ⟨.ref s.heap.objs.size, _, I.laid (t' := s.toks) (o := .frz { cls := .type "tuple", data := .seq (its ++ its2).toArray } (.tup (xs ++ ys))) (fun b ob q => Heap.get?_push_of_some _ q) (Nat.le_refl _) ?_, rfl, q2 (fun w => z (r2.nil_iff.mpr w)) _ _ (I.hok.fresh (Nat.le_refl _)) ⟨rfl, rfl⟩⟩
  exact ⟨Heap.get?_push_size _ rfl, by rw [List.length_append]; exact hz, _, r1.append r2, IsTup.new _ _⟩
/-- dict(t) of a plain tuple of pairs (key, value) -/
theorem call_dictT (hcalm : X.calm = true) : CallR X (.type "dict") (fun xs H Q => ∃ (a : Addr) (ps : List Addr) (kvs : List (Key × V)), xs = [.ref a] ∧ TupP H a (ps.map V.ref) ∧ Paired (fun p kv => SqT X.K H p [kV kv.1, kv.2]) ps kvs ∧
    ∀ p, H p = none → Q (.ref p) (upd H p (.dK (mergeK [] kvs)))) := by
  intro pins s σ H xs us Q I r q
  obtain ⟨a, ps, kvs, ex, ⟨o, ho, hc, hd⟩, hp, q⟩ := q
  subst ex
  obtain ⟨u, eu, rx⟩ := vals1 r
  subst eu
  cases rx
  obtain ⟨e0, hz, its, rv, ⟨o', e1, _, n, hdat⟩⟩ := (show ObjOk X.prog X.w H s.heap a (.frz o (.tup (ps.map V.ref))) from I.hok a _ ho)
  have eo : o' = o := Option.some.inj (e1.symm.trans e0)
  subst eo
  have ei := refs_at rv
  subst ei
  rw [List.length_map] at hz
  obtain ⟨prs, rel, hl, hpr⟩ := pairs_of I hp
  -- the keys as they stand
  have keyed : ∃ qs : List (Value × Value), qs.length = prs.length ∧ ∀ (j : Nat) (q : Key × Value), prs[j]? = some q → ∃ (b : Addr) (u : Value), ps[j]? = some b ∧ IsTup s.heap b #[u, q.2] ∧ keyIs q.1 u = true ∧ qs[j]? = some (u, q.2) := by
    have go : ∀ (prs : List (Key × Value)) (f : Nat → Key × Value → Value → Prop), (∀ j q, prs[j]? = some q → ∃ u, f j q u) → ∃ qs : List (Value × Value), qs.length = prs.length ∧ ∀ j q, prs[j]? = some q → ∃ u, f j q u ∧ qs[j]? = some (u, q.2) := by
      intro prs
      induction prs with
      | nil => exact fun f _ => ⟨[], rfl, fun j q e => by simp at e⟩
      | cons p r ih =>
        intro f hf
        obtain ⟨u0, h0⟩ := hf 0 p rfl
        obtain ⟨qs, h1, h2⟩ := ih (fun j q u => f (j + 1) q u) fun j q e => hf (j + 1) q (by simpa using e)
        refine ⟨(u0, p.2) :: qs, by simp [h1], fun j q e => ?_⟩
        cases j with
        | zero =>
          have e' : p = q := Option.some.inj e
          subst e'
          exact ⟨u0, h0, rfl⟩
        | succ j =>
          obtain ⟨u, h3, h4⟩ := h2 j q (by simpa using e)
          exact ⟨u, h3, by simpa using h4⟩
    obtain ⟨qs, h1, h2⟩ := go prs (fun j q u => ∃ b, ps[j]? = some b ∧ IsTup s.heap b #[u, q.2] ∧ keyIs q.1 u = true) fun j q e => by
      obtain ⟨b, u, x1, x2, x3⟩ := hpr j q e
      exact ⟨u, b, x1, x2, x3⟩
    refine ⟨qs, h1, fun j q e => ?_⟩
    obtain ⟨u, ⟨b, x1, x2, x3⟩, x4⟩ := h2 j q e
    exact ⟨b, u, x1, x2, x3, x4⟩
  obtain ⟨qs, hql, hqs⟩ := keyed
  have hz' : prs.length ≤ sizeLine := by
    rw [hl]
    exact hz
  have items : PairItems s.heap (ps.map Value.ref).toArray (fun j => ps.getD j 0) qs := by
    refine ⟨by simp [hql, hl], fun j k v e => ?_⟩
    have hj : j < prs.length := by
      rw [← hql]
      exact (List.getElem?_eq_some_iff.mp e).1
    obtain ⟨b, u, x1, x2, x3, x4⟩ := hqs j prs[j] (List.getElem?_eq_getElem hj)
    have e2 : (u, prs[j].2) = (k, v) := Option.some.inj (x4.symm.trans e)
    have eb : ps.getD j 0 = b := by
      rw [List.getD_eq_getElem?_getD, x1]
      rfl
    refine ⟨by simp [x1, eb], .inl ?_⟩
    obtain ⟨e3, e4⟩ := Prod.mk.inj e2
    show s.heap.IsTuple (ps.getD j 0) #[k, v]
    rw [eb, ← e3, ← e4]
    exact x2
  have have_ : PairsHave (mixKind X.prog X.w) qs.length (PairRel qs) prs := by
    refine ⟨hql.symm, fun i key v e => ?_⟩
    have hj : i < prs.length := by
      rw [← hql]
      exact (List.getElem?_eq_some_iff.mp e).1
    obtain ⟨b, u, x1, x2, x3, x4⟩ := hqs i prs[i] (List.getElem?_eq_getElem hj)
    have e2 : (u, prs[i].2) = (key, v) := Option.some.inj (x4.symm.trans e)
    obtain ⟨e3, e4⟩ := Prod.mk.inj e2
    refine ⟨prs[i].1, ?_, ?_⟩
    · rw [List.getElem?_eq_getElem hj, ← e4]
    · rw [← e3]
      exact x3
  refine PySem.call_dict_pairs (knd := mixKind X.prog X.w) (kvs := prs) (PairArg.tuple a (ps.map Value.ref).toArray (fun j => ps.getD j 0) qs) (I.ok.hd hcalm) ⟨⟨o', n, e0, hc, hd, hdat⟩, items⟩ have_ (by rw [hql]; exact hz') fun h' tk hd' k => ?_
  have hm : (s.heap.objs.size == sysModules) = false := beq_eq_false_iff_ne.mpr (Nat.ne_of_gt I.big)
  have hlen : (mergeK [] kvs).length ≤ sizeLine := by
    refine Nat.le_trans (length_mergeK kvs []) ?_
    rw [List.length_nil, Nat.zero_add, rel.length, hl]
    exact hz
  exact ⟨.ref s.heap.objs.size, upd H s.heap.objs.size (.dK (mergeK [] kvs)), I.laid (t' := tk) (fun b o e => k b o (by simp) e) (Nat.le_refl _) (show ObjOk X.prog X.w _ _ _ (.dK (mergeK [] kvs)) from ⟨hlen, hm, merged [] prs, KV.merge rel .nil, hd'⟩), rfl, q _ (I.hok.fresh (Nat.le_refl _))⟩
end
end W1
set_option Elab.async false
set_option linter.all false
set_option maxRecDepth 100000
set_option maxHeartbeats 4000000
namespace W1
open PySem PySem.Spec PyProof.Rows L2
section
variable {P : Program} {w : World} {K : PySem.W.Frag} {mg : Str → Option Value} {base : Heap}

def spIsInt : Sp := fun vs H Q _ => ∃ i, vs = [.int i] ∧ Q (.bl true) H
def spIntIn : Sp := fun vs H Q _ => ∃ i lo hi, vs = [.int i, .int lo, .int hi] ∧ lo ≤ i ∧ i ≤ hi ∧ Q (.bl true) H
def spWritten : Sp := fun vs H Q _ => ∃ i : Int, vs = [.int i] ∧ -1000000000 ≤ i ∧ i ≤ 1000000000 ∧ Q (.bl true) H
def spName : Sp := fun vs H Q _ => ∃ x, vs = [.str x] ∧ Nam x ∧ ∀ H', Same H H' → Q (.bl true) H'
def spKind : Sp := fun vs H Q _ => vs = [.str "number"] ∧ Q (.bl true) H
def spTupOf : Sp := fun vs H Q _ => ∃ a xs n, vs = [.ref a, .int n] ∧ H a = some (.tup xs) ∧ n = (xs.length : Int) ∧ Q (.bl true) H
def spListOf : Sp := fun vs H Q _ => ∃ a xs lo hi, vs = [.ref a, .int lo, .int hi] ∧ H a = some (.lst xs) ∧ lo ≤ (xs.length : Int) ∧ (xs.length : Int) ≤ hi ∧ Q (.bl true) H
def spWord : Sp := fun vs H Q _ => ∃ a x xs, vs = [.ref a] ∧ H a = some (.tup (.str x :: xs)) ∧ Q (.bl true) H
theorem sc_is_integer : FnScope ["thing"] ["thing"] (defScope s_is_integer) := ⟨rfl, rfl, rfl, by decide +kernel, rfl, by decide +kernel, by decide +kernel⟩
theorem ok_is_integer (T : Ctx w K mg) : Has P w K mg base 1 "is_integer" ["thing"] spIsInt := by
  obtain ⟨fd, F⟩ := T.D_is_integer
  refine ⟨⟨fd, F.ok sc_is_integer (fun vs H Q E h => ?_) (fun cdv A outer s H vs Q E hr h => ?_), F.bindsN fun _ _ _ _ _ _ us hl => match us, hl with | [_], _ => rfl⟩, F.kp, T.g_is_integer⟩
  · obtain ⟨i, rfl, k⟩ := h; rfl
  · obtain ⟨i, rfl, k⟩ := h
    have hu := hu_of hr
    refine ⟨_, PSs.nox (pss_one (ps_ret (pe_and (pe_callB call_isi (by rfl) T.f_isinstance (by decide +kernel) (pa_cons (pv 0) (pa_cons (pe_bltn (v := .ty "int") (u := .type "int") rfl T.f_int (by decide +kernel) rfl) pa_nil))) (pe_one (pe_not (pe_callB call_isi (by rfl) T.f_isinstance (by decide +kernel) (pa_cons (pv 0) (pa_cons (pe_bltn (v := .ty "bool") (u := .type "bool") rfl T.f_bool (by decide +kernel) rfl) pa_nil)))))))), ?_⟩
    refine ⟨_, rfl, _, _, _, _, true, rfl, .ty _, .base (.int i), kit_ty (by decide +kernel), true, rfl, iteT ?_⟩
    exact ⟨_, rfl, _, _, _, _, false, rfl, .ty _, .base (.int i), kit_ty (by decide +kernel), false, rfl, k⟩
theorem sc_is_integer_in : FnScope ["thing", "least", "most"] ["thing", "least", "most"] (defScope s_is_integer_in) := ⟨rfl, rfl, rfl, by decide +kernel, rfl, by decide +kernel, by decide +kernel⟩
theorem ok_is_integer_in (T : Ctx w K mg) (H_is_integer : Has P w K mg base 1 "is_integer" ["thing"] spIsInt) : Has P w K mg base 2 "is_integer_in" ["thing", "least", "most"] spIntIn := by
  obtain ⟨fd, F⟩ := T.D_is_integer_in
  obtain ⟨fd_is_integer, G_is_integer, b_is_integer⟩ := H_is_integer.ex
  refine ⟨⟨fd, F.ok sc_is_integer_in (fun vs H Q E h => ?_) (fun cdv A outer s H vs Q E hr h => ?_), F.bindsN fun _ _ _ _ _ _ us hl => match us, hl with | [_, _, _], _ => rfl⟩, F.kp, T.g_is_integer_in⟩
  · obtain ⟨i, lo, hi, rfl, h1, h2, k⟩ := h; rfl
  · obtain ⟨i, lo, hi, rfl, h1, h2, k⟩ := h
    have hr_is_integer : Room 1 _ := hr.mono (by decide)
    have hu := hu_of hr
    refine ⟨_, PSs.nox (pss_one (ps_ret (pe_and (pe_call G_is_integer hr_is_integer (by rfl) H_is_integer.gl H_is_integer.kp b_is_integer .nil pass0 (pa_cons (pv 0) pa_nil)) (pe_one (pe_chain op_le op_le (pv 1) (pv 0) (pv 2)))))), ?_⟩
    refine ⟨_, rfl, i, rfl, true, rfl, iteT ?_⟩
    exact ⟨_, rfl, _, rfl, _, _, rfl, rfl, _, rfl, ifT (decide_eq_true h1) ⟨_, rfl, _, _, rfl, rfl, qT (decide_eq_true h2) k⟩⟩
theorem sc_is_written_number : FnScope ["thing"] ["thing"] (defScope s_is_written_number) := ⟨rfl, rfl, rfl, by decide +kernel, rfl, by decide +kernel, by decide +kernel⟩
theorem ok_is_written_number (T : Ctx w K mg) (H_is_integer_in : Has P w K mg base 2 "is_integer_in" ["thing", "least", "most"] spIntIn) : Has P w K mg base 3 "is_written_number" ["thing"] spWritten := by
  obtain ⟨fd, F⟩ := T.D_is_written_number
  obtain ⟨fd_is_integer_in, G_is_integer_in, b_is_integer_in⟩ := H_is_integer_in.ex
  refine ⟨⟨fd, F.ok sc_is_written_number (fun vs H Q E h => ?_) (fun cdv A outer s H vs Q E hr h => ?_), F.bindsN fun _ _ _ _ _ _ us hl => match us, hl with | [_], _ => rfl⟩, F.kp, T.g_is_written_number⟩
  · obtain ⟨i, rfl, h1, h2, k⟩ := h; rfl
  · obtain ⟨i, rfl, h1, h2, k⟩ := h
    have hr_is_integer_in : Room 2 _ := hr.mono (by decide)
    have hu := hu_of hr
    obtain ⟨tk, e_GREATEST_WRITTEN⟩ := T.i_GREATEST_WRITTEN
    refine ⟨_, PSs.nox (pss_one (ps_ret (pe_call G_is_integer_in hr_is_integer_in (by rfl) H_is_integer_in.gl H_is_integer_in.kp b_is_integer_in .nil pass0 (pa_cons (pv 0) (pa_cons (pe_un un_neg (pe_glob (v := .int 1000000000) rfl e_GREATEST_WRITTEN ⟨_, rfl⟩)) (pa_cons (pe_glob (v := .int 1000000000) rfl e_GREATEST_WRITTEN ⟨_, rfl⟩) pa_nil)))))), ?_⟩
    exact ⟨_, rfl, _, rfl, i, _, _, rfl, h1, h2, k⟩
theorem sc_is_name : FnScope ["thing", "mark"] ["thing"] (defScope s_is_name) := ⟨rfl, rfl, rfl, by decide +kernel, rfl, by decide +kernel, by decide +kernel⟩
theorem ok_is_name (T : Ctx w K mg) : Has P w K mg base 1 "is_name" ["thing"] spName := by
  obtain ⟨fd, F⟩ := T.D_is_name
  refine ⟨⟨fd, F.ok sc_is_name (fun vs H Q E h => ?_) (fun cdv A outer s H vs Q E hr h => ?_), F.bindsN fun _ _ _ _ _ _ us hl => match us, hl with | [_], _ => rfl⟩, F.kp, T.g_is_name⟩
  · obtain ⟨x, rfl, N, k⟩ := h; rfl
  · obtain ⟨x, rfl, N, k⟩ := h
    have hu := hu_of hr
    obtain ⟨tl, e_LETTERS⟩ := T.s_LETTERS
    obtain ⟨tm, e_MARKS⟩ := T.s_MARKS
    refine ⟨_, PSs.nox (pss_cons (ps_if (PW.pt (pw_or (pt_not (pt_val (pe_callB call_isi (by rfl) T.f_isinstance (by decide +kernel) (pa_cons (pv 0) (pa_cons (pe_bltn (v := .ty "str") (u := .type "str") rfl T.f_str (by decide +kernel) rfl) pa_nil))))) (pw_or1 (pt_not (pt_chain op_le op_le pe_int (pe_callB call_len_str (by rfl) T.f_len (by decide +kernel) (pa_cons (pv 0) pa_nil)) pe_int))))) (pss_one (ps_ret pe_bl)) pss_nil)
      (pss_one (ps_ret (pe_and (pe_cmpR op_in_sign (pe_item_str (pv 0) pe_int (fun _ _ => rfl)) (pe_glob (v := .str "abcdefghijklmnopqrstuvwxyz") rfl e_LETTERS ⟨_, rfl⟩) rfl) (pe_one (pe_callB (cr_all rfl) (by rfl) T.f_all (by decide +kernel) (pa_cons (pe_lc (own := [("mark", 1)]) (g := gName 1) (tt := tYes) rfl sc_is_name.nd (pi_str (pv 0)) (blkOk_by (N := ["thing", "mark"]) (sc := defScope s_is_name) (by decide +kernel)) (fun _ _ _ _ _ => (pg_name (i := 1) sc_is_name.nd rfl (Or.inl rfl))) (fun _ _ _ _ _ => pts_nil) (fun _ _ _ _ _ => (pe_cmpR op_in_sign (pv 1) (pe_glob (v := .str "abcdefghijklmnopqrstuvwxyz0123456789") rfl e_MARKS ⟨_, rfl⟩) rfl))) pa_nil))))))), ?_⟩
    obtain ⟨c0, hc0, mc0⟩ := N.one
    have hsz : x.length ≤ sizeLine := sz_of (Nat.le_trans (show x.cps.size ≤ 8 from N.le) (by decide))
    refine ⟨_, rfl, _, _, _, _, true, rfl, .ty _, .base (.str x), kit_ty (by decide +kernel), true, rfl, iteF ?_⟩
    refine ⟨_, rfl, _, rfl, hsz, _, _, rfl, rfl, _, rfl, ?_⟩
    refine ifT (decide_eq_true (show (1 : Int) ≤ ((x.cps.size : Nat) : Int) by have := N.pos; omega)) ⟨_, _, rfl, rfl, _, rfl, ?_⟩
    refine ifF (show (!decide (((x.cps.size : Nat) : Int) ≤ 8)) = false by rw [decide_eq_true (show ((x.cps.size : Nat) : Int) ≤ 8 by have := N.le; omega)]; rfl) ?_
    refine ⟨_, rfl, _, _, c0, rfl, rfl, by decide, by decide, by have := N.pos; exact Int.ofNat_lt.mpr this, hc0, _, _, rfl, rfl, _, rfl, ?_⟩
    refine ifT (decide_eq_true mc0) ?_
    refine ⟨_, rfl, _, rfl, fun D hD => ?_⟩
    refine lc_pure walk_str hD (fun _ => .bl true) (by have := N.le; omega) (fun _ _ => trivial) (fun i H1 y H2 hi s1 hy Qe qe => ?_) (fun H1 s1 h1 => ?_)
    · obtain ⟨rfl, c, hc, rfl⟩ := hy
      exact ⟨rfl, _, rfl, _, _, rfl, rfl, qT (decide_eq_true (N.all i c hc)) (qe _ (Same.refl _))⟩
    · refine ⟨_, (List.range x.cps.size).map (fun _ => true), rfl, SqL.of (by rw [h1, List.map_map]; rfl), qT all_true (k _ s1)⟩
theorem sc_is_kind : FnScope ["thing"] ["thing"] (defScope s_is_kind) := ⟨rfl, rfl, rfl, by decide +kernel, rfl, by decide +kernel, by decide +kernel⟩
theorem ok_is_kind (T : Ctx w K mg) : Has P w K mg base 1 "is_kind" ["thing"] spKind := by
  obtain ⟨fd, F⟩ := T.D_is_kind
  refine ⟨⟨fd, F.ok sc_is_kind (fun vs H Q E h => ?_) (fun cdv A outer s H vs Q E hr h => ?_), F.bindsN fun _ _ _ _ _ _ us hl => match us, hl with | [_], _ => rfl⟩, F.kp, T.g_is_kind⟩
  · obtain ⟨rfl, k⟩ := h; rfl
  · obtain ⟨rfl, k⟩ := h
    have hu := hu_of hr
    refine ⟨_, PSs.nox (pss_one (ps_ret (pe_and (pe_callB call_isi (by rfl) T.f_isinstance (by decide +kernel) (pa_cons (pv 0) (pa_cons (pe_bltn (v := .ty "str") (u := .type "str") rfl T.f_str (by decide +kernel) rfl) pa_nil))) (pe_one (pe_cmpR op_in_seq (pv 0) (pe_glob (v := .ref (He.ga K "KINDS")) rfl T.g_KINDS rfl) rfl))))), ?_⟩
    refine ⟨_, rfl, _, _, _, _, true, rfl, .ty _, .base (.str _), kit_ty (by decide +kernel), true, rfl, iteT ?_⟩
    exact ⟨_, rfl, _, _, rfl, .inr (T.kinds H), rfl, rfl, qT rfl k⟩
theorem sc_is_tuple_of : FnScope ["thing", "many"] ["thing", "many"] (defScope s_is_tuple_of) := ⟨rfl, rfl, rfl, by decide +kernel, rfl, by decide +kernel, by decide +kernel⟩
theorem ok_is_tuple_of (T : Ctx w K mg) : Has P w K mg base 1 "is_tuple_of" ["thing", "many"] spTupOf := by
  obtain ⟨fd, F⟩ := T.D_is_tuple_of
  refine ⟨⟨fd, F.ok sc_is_tuple_of (fun vs H Q E h => ?_) (fun cdv A outer s H vs Q E hr h => ?_), F.bindsN fun _ _ _ _ _ _ us hl => match us, hl with | [_, _], _ => rfl⟩, F.kp, T.g_is_tuple_of⟩
  · obtain ⟨a, xs, n, rfl, ha, hn, k⟩ := h; rfl
  · obtain ⟨a, xs, n, rfl, ha, hn, k⟩ := h
    have hu := hu_of hr
    refine ⟨_, PSs.nox (pss_one (ps_ret (pe_and (pe_callB call_isi (by rfl) T.f_isinstance (by decide +kernel) (pa_cons (pv 0) (pa_cons (pe_bltn (v := .ty "tuple") (u := .type "tuple") rfl T.f_tuple (by decide +kernel) rfl) pa_nil))) (pe_one (pe_cmpR op_eq (pe_callB call_len_seq (by rfl) T.f_len (by decide +kernel) (pa_cons (pv 0) pa_nil)) (pv 1) (nomark _)))))), ?_⟩
    refine ⟨_, rfl, _, _, _, _, true, rfl, .ty _, .base (.tup ha), kit_ty (by decide +kernel), true, rfl, iteT ?_⟩
    exact ⟨_, rfl, _, _, rfl, .inr (SqT.of ha), _, rfl, rfl, qT (decide_eq_true (by rw [hn])) k⟩
theorem sc_is_list_of : FnScope ["thing", "least", "most"] ["thing", "least", "most"] (defScope s_is_list_of) := ⟨rfl, rfl, rfl, by decide +kernel, rfl, by decide +kernel, by decide +kernel⟩
theorem ok_is_list_of (T : Ctx w K mg) : Has P w K mg base 1 "is_list_of" ["thing", "least", "most"] spListOf := by
  obtain ⟨fd, F⟩ := T.D_is_list_of
  refine ⟨⟨fd, F.ok sc_is_list_of (fun vs H Q E h => ?_) (fun cdv A outer s H vs Q E hr h => ?_), F.bindsN fun _ _ _ _ _ _ us hl => match us, hl with | [_, _, _], _ => rfl⟩, F.kp, T.g_is_list_of⟩
  · obtain ⟨a, xs, lo, hi, rfl, ha, h1, h2, k⟩ := h; rfl
  · obtain ⟨a, xs, lo, hi, rfl, ha, h1, h2, k⟩ := h
    have hu := hu_of hr
    refine ⟨_, PSs.nox (pss_one (ps_ret (pe_and (pe_callB call_isi (by rfl) T.f_isinstance (by decide +kernel) (pa_cons (pv 0) (pa_cons (pe_bltn (v := .ty "list") (u := .type "list") rfl T.f_list (by decide +kernel) rfl) pa_nil))) (pe_one (pe_chain op_le op_le (pv 1) (pe_callB call_len_seq (by rfl) T.f_len (by decide +kernel) (pa_cons (pv 0) pa_nil)) (pv 2)))))), ?_⟩
    refine ⟨_, rfl, _, _, _, _, true, rfl, .ty _, .base (.lst ha), kit_ty (by decide +kernel), true, rfl, iteT ?_⟩
    exact ⟨_, rfl, _, rfl, _, _, rfl, .inl (SqL.of ha), _, _, rfl, rfl, _, rfl, ifT (decide_eq_true h1) ⟨_, rfl, _, _, rfl, rfl, qT (decide_eq_true h2) k⟩⟩
theorem sc_is_word_tuple : FnScope ["thing"] ["thing"] (defScope s_is_word_tuple) := ⟨rfl, rfl, rfl, by decide +kernel, rfl, by decide +kernel, by decide +kernel⟩
theorem ok_is_word_tuple (T : Ctx w K mg) : Has P w K mg base 1 "is_word_tuple" ["thing"] spWord := by
  obtain ⟨fd, F⟩ := T.D_is_word_tuple
  refine ⟨⟨fd, F.ok sc_is_word_tuple (fun vs H Q E h => ?_) (fun cdv A outer s H vs Q E hr h => ?_), F.bindsN fun _ _ _ _ _ _ us hl => match us, hl with | [_], _ => rfl⟩, F.kp, T.g_is_word_tuple⟩
  · obtain ⟨a, x, xs, rfl, ha, k⟩ := h; rfl
  · obtain ⟨a, x, xs, rfl, ha, k⟩ := h
    have hu := hu_of hr
    refine ⟨_, PSs.nox (pss_one (ps_ret (pe_and (pe_callB call_isi (by rfl) T.f_isinstance (by decide +kernel) (pa_cons (pv 0) (pa_cons (pe_bltn (v := .ty "tuple") (u := .type "tuple") rfl T.f_tuple (by decide +kernel) rfl) pa_nil))) (pe_and (pe_cmpR op_gt (pe_callB call_len_seq (by rfl) T.f_len (by decide +kernel) (pa_cons (pv 0) pa_nil)) pe_int (nomark _)) (pe_one (pe_callB call_isi (by rfl) T.f_isinstance (by decide +kernel) (pa_cons (pe_ix ix_tup (pv 0) pe_int (fun _ _ => rfl)) (pa_cons (pe_bltn (v := .ty "str") (u := .type "str") rfl T.f_str (by decide +kernel) rfl) pa_nil)))))))), ?_⟩
    refine ⟨_, rfl, _, _, _, _, true, rfl, .ty _, .base (.tup ha), kit_ty (by decide +kernel), true, rfl, iteT ?_⟩
    refine ⟨_, rfl, _, _, rfl, .inr (SqT.of ha), _, _, rfl, rfl, _, rfl, ifT (decide_eq_true (by rw [List.length_cons]; omega)) ?_⟩
    exact ⟨_, rfl, _, _, _, _, rfl, rfl, SqT.of ha, at0, _, _, _, _, true, rfl, .ty _, .base (.str x), kit_ty (by decide +kernel), k⟩

end
end W1
set_option Elab.async false
set_option linter.all false
set_option maxRecDepth 100000
set_option maxHeartbeats 4000000
namespace W1
open PySem PySem.Spec PyProof.Rows L2
section
variable {P : Program} {w : World} {K : PySem.W.Frag} {mg : Str → Option Value} {base : Heap}

/-- a text or an int -/
inductive Fl : V → Prop where
  | str (x : Str) : Fl (.str x)
  | int (i : Int) : Fl (.int i)
def spFz0 : Sp := fun vs H Q _ => ∃ v, vs = [v] ∧ Fl v ∧ ∀ H', Same H H' → Q v H'
def spFz1 : Sp := fun vs H Q _ => ∃ a xs, vs = [.ref a] ∧ H a = some (.tup xs) ∧ (∀ x ∈ xs, Fl x) ∧ xs.length ≤ 100 ∧ ∀ p H', Same H H' → H' p = some (.tup xs) → Q (.ref p) H'
def spFz2 : Sp := fun vs H Q _ => ∃ (a : Addr) (ps : List Addr) (f : Nat → List V), vs = [.ref a] ∧ H a = some (.lst (ps.map V.ref)) ∧ (∀ (i : Nat) (p : Addr), ps[i]? = some p → H p = some (.tup (f i)) ∧ (f i).length ≤ 100 ∧ ∀ x ∈ f i, Fl x) ∧ ps.length ≤ 100 ∧
  ∀ (q : Addr) (qs : List Addr) (H' : Hp), Same H H' → TupP H' q (qs.map V.ref) → qs.length = ps.length → (∀ (i : Nat) (p : Addr), qs[i]? = some p → H' p = some (.tup (f i))) → Q (.ref q) H'
theorem kit2 {K : PySem.W.Frag} {t a b : String} {p q r : Bool} (h1 : kitB t a = some p) (h2 : kitB t b = some q) (e : r = (p || q)) : PySem.W.kitAny K (.type t) [.type a, .type b] = some r := by
  subst e
  refine kitAny_cons (kit_ty h1) (fun e => ?_) (fun e => by rw [e] <;> rfl)
  rw [e]
  exact kitAny_cons (kit_ty h2) (fun e2 => by rw [e2]; exact kitAny_nil) (fun e2 => by rw [e2] <;> rfl)
theorem sc_frozen : FnScope ["thing", "part"] ["thing"] (defScope s_frozen) := ⟨rfl, rfl, rfl, by decide +kernel, rfl, by decide +kernel, by decide +kernel⟩
theorem ok_frozen0 (T : Ctx w K mg) : Has P w K mg base 1 "frozen" ["thing"] spFz0 := by
  obtain ⟨fd, F⟩ := T.D_frozen
  refine ⟨⟨fd, F.ok sc_frozen (fun vs H Q E h => ?_) (fun cdv A outer s H vs Q E hr h => ?_), F.bindsN fun _ _ _ _ _ _ us hl => match us, hl with | [_], _ => rfl⟩, F.kp, T.g_frozen⟩
  · obtain ⟨v, rfl, F0, k⟩ := h; rfl
  · obtain ⟨v, rfl, F0, k⟩ := h
    have hu := hu_of hr
    refine ⟨_, PSs.nox (pss_cons (ps_if (pt_val (pe_callB call_isiT (by rfl) T.f_isinstance (by decide +kernel) (pa_cons (pv 0) (pa_cons (pe_tup (pa_cons (pe_bltn (v := .ty "list") (u := .type "list") rfl T.f_list (by decide +kernel) rfl) (pa_cons (pe_bltn (v := .ty "tuple") (u := .type "tuple") rfl T.f_tuple (by decide +kernel) rfl) pa_nil))) pa_nil)))) (pss_one ps_never) pss_nil)
      (pss_one (ps_ret (pv 0)))), ?_⟩
    refine ⟨_, rfl, sz_of (by decide), fun tp htp => ?_⟩
    cases F0 with
    | str x =>
      exact ⟨_, _, _, _, _, false, rfl, upd_same, .cons (.ty _) (.cons (.ty _) .nil), .base (.str x), kit2 (p := false) (q := false) (by decide +kernel) (by decide +kernel) rfl, _, rfl, iteF ⟨_, rfl, k _ (Same.new htp)⟩⟩
    | int x =>
      exact ⟨_, _, _, _, _, false, rfl, upd_same, .cons (.ty _) (.cons (.ty _) .nil), .base (.int x), kit2 (p := false) (q := false) (by decide +kernel) (by decide +kernel) rfl, _, rfl, iteF ⟨_, rfl, k _ (Same.new htp)⟩⟩
theorem ok_frozen1 (T : Ctx w K mg) (H_frozen : Has P w K mg base 1 "frozen" ["thing"] spFz0) : Has P w K mg base 2 "frozen" ["thing"] spFz1 := by
  obtain ⟨fd, F⟩ := T.D_frozen
  obtain ⟨fd_frozen, G_frozen, b_frozen⟩ := H_frozen.ex
  refine ⟨⟨fd, F.ok sc_frozen (fun vs H Q E h => ?_) (fun cdv A outer s H vs Q E hr h => ?_), F.bindsN fun _ _ _ _ _ _ us hl => match us, hl with | [_], _ => rfl⟩, F.kp, T.g_frozen⟩
  · obtain ⟨a, xs, rfl, ha, hf, hl, k⟩ := h; rfl
  · obtain ⟨a, xs, rfl, ha, hf, hl, k⟩ := h
    have hr_frozen : Room 1 _ := hr.mono (by decide)
    have hu := hu_of hr
    refine ⟨_, PSs.nox (pss_cons (ps_if (pt_val (pe_callB call_isiT (by rfl) T.f_isinstance (by decide +kernel) (pa_cons (pv 0) (pa_cons (pe_tup (pa_cons (pe_bltn (v := .ty "list") (u := .type "list") rfl T.f_list (by decide +kernel) rfl) (pa_cons (pe_bltn (v := .ty "tuple") (u := .type "tuple") rfl T.f_tuple (by decide +kernel) rfl) pa_nil))) pa_nil)))) (pss_one (ps_ret (pe_callTy call_tuple_of (by rfl) T.f_tuple (by decide +kernel) (pa_cons (pe_lc (own := [("part", 1)]) (g := gName 1) (tt := tYes) rfl sc_frozen.nd (pi_tup (pv 0)) (blkOk_by (N := ["thing", "part"]) (sc := defScope s_frozen) (by decide +kernel)) (fun _ _ _ _ _ => (pg_name (i := 1) sc_frozen.nd rfl (Or.inl rfl))) (fun _ _ _ _ _ => pts_nil) (fun _ _ _ _ _ => (pe_call G_frozen hr_frozen (by rfl) H_frozen.gl H_frozen.kp b_frozen .nil pass0 (pa_cons (pv 1) pa_nil)))) pa_nil)))) pss_nil)
      (pss_one (ps_ret (pv 0)))), ?_⟩
    refine ⟨_, rfl, sz_of (by decide), fun tp htp => ?_⟩
    have s1 : Same H (upd H tp (.tup [.ty "list", .ty "tuple"])) := Same.new htp
    refine ⟨_, _, _, _, _, true, rfl, upd_same, .cons (.ty _) (.cons (.ty _) .nil), .base (.tup (s1 _ _ ha)), kit2 (p := false) (q := true) (by decide +kernel) (by decide +kernel) rfl, _, rfl, iteT ?_⟩
    refine ⟨_, rfl, a, rfl, ⟨_, SqT.of (s1 _ _ ha)⟩, fun D hD => ?_⟩
    refine lc_pure (walk_tup (K := K) (a := a) (xs := xs)) hD (fun i => xs.getD i .non) (Nat.lt_of_le_of_lt hl (by decide)) (fun H2 s2 => SqT.of (s2 _ _ (s1 _ _ ha))) (fun i H2 y H3 hi s2 hy Qe qe => ?_) (fun H2 s2 h2 => ?_)
    · obtain ⟨rfl, hx⟩ := hy
      rw [getD_of hx] at qe
      exact ⟨rfl, _, rfl, y, rfl, hf y (List.mem_of_getElem? hx), fun H4 s4 => qe _ s4⟩
    · rw [map_range_getD] at h2
      exact ⟨D, xs, rfl, .inl ⟨SqL.of h2, fun l hl2 => k l _ ((s1.trans s2).trans (Same.new hl2)) upd_same⟩⟩
theorem ok_frozen2 (T : Ctx w K mg) (H_frozen : Has P w K mg base 2 "frozen" ["thing"] spFz1) : Has P w K mg base 3 "frozen" ["thing"] spFz2 := by
  obtain ⟨fd, F⟩ := T.D_frozen
  obtain ⟨fd_frozen, G_frozen, b_frozen⟩ := H_frozen.ex
  refine ⟨⟨fd, F.ok sc_frozen (fun vs H Q E h => ?_) (fun cdv A outer s H vs Q E hr h => ?_), F.bindsN fun _ _ _ _ _ _ us hl => match us, hl with | [_], _ => rfl⟩, F.kp, T.g_frozen⟩
  · obtain ⟨a, ps, f, rfl, ha, hf, hl, k⟩ := h; rfl
  · obtain ⟨a, ps, f, rfl, ha, hf, hl, k⟩ := h
    have hr_frozen : Room 2 _ := hr.mono (by decide)
    have hu := hu_of hr
    refine ⟨_, PSs.nox (pss_cons (ps_if (pt_val (pe_callB call_isiT (by rfl) T.f_isinstance (by decide +kernel) (pa_cons (pv 0) (pa_cons (pe_tup (pa_cons (pe_bltn (v := .ty "list") (u := .type "list") rfl T.f_list (by decide +kernel) rfl) (pa_cons (pe_bltn (v := .ty "tuple") (u := .type "tuple") rfl T.f_tuple (by decide +kernel) rfl) pa_nil))) pa_nil)))) (pss_one (ps_ret (pe_callTy call_tupleP (by rfl) T.f_tuple (by decide +kernel) (pa_cons (pe_lc (own := [("part", 1)]) (g := gName 1) (tt := tYes) rfl sc_frozen.nd (pi_list (pv 0)) (blkOk_by (N := ["thing", "part"]) (sc := defScope s_frozen) (by decide +kernel)) (fun _ _ _ _ _ => (pg_name (i := 1) sc_frozen.nd rfl (Or.inl rfl))) (fun _ _ _ _ _ => pts_nil) (fun _ _ _ _ _ => (pe_call G_frozen hr_frozen (by rfl) H_frozen.gl H_frozen.kp b_frozen .nil pass0 (pa_cons (pv 1) pa_nil)))) pa_nil)))) pss_nil)
      (pss_one (ps_ret (pv 0)))), ?_⟩
    refine ⟨_, rfl, sz_of (by decide), fun tp htp => ?_⟩
    have s1 : Same H (upd H tp (.tup [.ty "list", .ty "tuple"])) := Same.new htp
    refine ⟨_, _, _, _, _, true, rfl, upd_same, .cons (.ty _) (.cons (.ty _) .nil), .base (.lst (s1 _ _ ha)), kit2 (p := true) (q := false) (by decide +kernel) (by decide +kernel) rfl, _, rfl, iteT ?_⟩
    refine ⟨_, rfl, a, rfl, ⟨_, SqL.of (s1 _ _ ha)⟩, fun D hD => ?_⟩
    refine lc_tups (walk_list (K := K) (a := a) (xs := ps.map V.ref)) hD f (by rw [List.length_map]; exact Nat.lt_of_le_of_lt hl (by decide)) (fun H2 s2 => SqL.of (s2 _ _ (s1 _ _ ha))) (fun i H2 y H3 hi s2 hy Qe qe => ?_) (fun H2 qs s2 hq hqs h2 => ?_)
    · obtain ⟨rfl, hx⟩ := hy
      rw [List.getElem?_map] at hx
      cases e : ps[i]? with
      | none =>
        rw [e] at hx
        cases hx
      | some p =>
        rw [e] at hx
        have hy2 : y = V.ref p := (Option.some.inj hx).symm
        subst hy2
        obtain ⟨h3, h4, h5⟩ := hf i p e
        exact ⟨rfl, _, rfl, p, f i, rfl, s2 _ _ (s1 _ _ h3), h5, h4, fun q H4 s4 h6 => qe q _ s4 h6⟩
    · rw [List.length_map] at hq
      refine ⟨D, _, rfl, SqL.of h2, fun l o hl2 po => k l qs _ ((s1.trans s2).trans (Same.new hl2)) ⟨o, upd_same, po⟩ hq fun i p e => Same.new hl2 _ _ (hqs i p e)⟩
def spNamed : Sp := fun vs H Q _ => ∃ (a : Addr) (ps : List Addr) (ns : List Str) (m : Int), vs = [.ref a, .int m] ∧ H a = some (.lst (ps.map V.ref)) ∧ Pairs H ps ns ∧ (∀ x ∈ ns, Nam x) ∧ ns.Nodup ∧ (ns.length : Int) ≤ m ∧ ns.length ≤ 100 ∧ ∀ H', Same H H' → Q (.bl true) H' 
theorem sc_are_named_kinds : FnScope ["thing", "most", "names", "pair"] ["thing", "most"] (defScope s_are_named_kinds) := ⟨rfl, rfl, rfl, by decide +kernel, rfl, by decide +kernel, by decide +kernel⟩
theorem ok_are_named_kinds (T : Ctx w K mg) (H_is_list_of : Has P w K mg base 1 "is_list_of" ["thing", "least", "most"] spListOf) (H_is_tuple_of : Has P w K mg base 1 "is_tuple_of" ["thing", "many"] spTupOf) (H_is_name : Has P w K mg base 1 "is_name" ["thing"] spName) (H_is_kind : Has P w K mg base 1 "is_kind" ["thing"] spKind) : Has P w K mg base 2 "are_named_kinds" ["thing", "most"] spNamed := by
  obtain ⟨fd, F⟩ := T.D_are_named_kinds
  obtain ⟨fd_is_list_of, G_is_list_of, b_is_list_of⟩ := H_is_list_of.ex
  obtain ⟨fd_is_tuple_of, G_is_tuple_of, b_is_tuple_of⟩ := H_is_tuple_of.ex
  obtain ⟨fd_is_name, G_is_name, b_is_name⟩ := H_is_name.ex
  obtain ⟨fd_is_kind, G_is_kind, b_is_kind⟩ := H_is_kind.ex
  refine ⟨⟨fd, F.ok sc_are_named_kinds (fun vs H Q E h => ?_) (fun cdv A outer s H vs Q E hr h => ?_), F.bindsN fun _ _ _ _ _ _ us hl => match us, hl with | [_, _], _ => rfl⟩, F.kp, T.g_are_named_kinds⟩
  · obtain ⟨a, ps, ns, m, rfl, ha, hp, hN, hnd, hm, h100, k⟩ := h; rfl
  · obtain ⟨a, ps, ns, m, rfl, ha, hp, hN, hnd, hm, h100, k⟩ := h
    have hr_is_list_of : Room 1 _ := hr.mono (by decide)
    have hr_is_tuple_of : Room 1 _ := hr.mono (by decide)
    have hr_is_name : Room 1 _ := hr.mono (by decide)
    have hr_is_kind : Room 1 _ := hr.mono (by decide)
    have hu := hu_of hr
    refine ⟨_, PSs.nox (pss_cons (ps_if (pt_not (pt_val (pe_call G_is_list_of hr_is_list_of (by rfl) H_is_list_of.gl H_is_list_of.kp b_is_list_of .nil pass0 (pa_cons (pv 0) (pa_cons pe_int (pa_cons (pv 1) pa_nil)))))) (pss_one (ps_ret pe_bl)) pss_nil)
      (pss_cons (ps_set (i := 2) sc_are_named_kinds.nd rfl (Or.inl rfl) pe_dnewK)
      (pss_cons (ps_for PassesOwn.never rfl (pi_list (pv 0)) (pg_name (i := 3) sc_are_named_kinds.nd rfl (Or.inl rfl))
      (pss_cons (ps_if (PW.pt (pw_or (pt_not (pt_val (pe_call G_is_tuple_of hr_is_tuple_of (by rfl) H_is_tuple_of.gl H_is_tuple_of.kp b_is_tuple_of .nil pass0 (pa_cons (pv 3) (pa_cons pe_int pa_nil))))) (pw_or (pt_not (pt_val (pe_call G_is_name hr_is_name (by rfl) H_is_name.gl H_is_name.kp b_is_name .nil pass0 (pa_cons (pe_ix ix_tup (pv 3) pe_int (fun _ _ => rfl)) pa_nil)))) (pw_or1 (pt_not (pt_val (pe_call G_is_kind hr_is_kind (by rfl) H_is_kind.gl H_is_kind.kp b_is_kind .nil pass0 (pa_cons (pe_ix ix_tup (pv 3) pe_int (fun _ _ => rfl)) pa_nil)))))))) (pss_one (ps_ret pe_bl)) pss_nil)
      (pss_cons (ps_if (pt_cmp (pc_din hu (pe_ix ix_tup (pv 3) pe_int (fun _ _ => rfl)) (pv 2))) (pss_one (ps_ret pe_bl)) pss_nil)
      (pss_one (ps_dput hu (pv 2) (pe_ix ix_tup (pv 3) pe_int (fun _ _ => rfl)) pe_bl rfl)))))
      (pss_one (ps_ret pe_bl))))), ?_⟩
    have hlp : (ps.map V.ref).length = ns.length := by rw [List.length_map, hp.len]
    refine ⟨_, rfl, _, rfl, a, ps.map V.ref, 0, m, rfl, ha, by omega, by rw [hlp]; exact hm, _, rfl, iteF ?_⟩
    intro d hd
    have s1 : Same H (upd H d (.dK [])) := Same.new hd
    refine ⟨_, rfl, a, rfl, ⟨_, SqL.of (s1 _ _ ha)⟩, ?_⟩
    refine for_it (walk_list (K := K) (a := a) (xs := ps.map V.ref)) (fun i σ H1 => ∃ v : Option V, σ = [some (.ref a), some (.int m), some (.ref d), v] ∧ Same H H1 ∧ H1 d = some (.dK (kvT (ns.take i) fun _ => .bl true))) ⟨none, rfl, s1, upd_same⟩ (fun i σ H1 _ ⟨v, _, s2, _⟩ => SqL.of (s2 _ _ ha)) ?_ ?_
    · rintro i y σ H1 H2 hi ⟨v, rfl, s2, h2⟩ ⟨rfl, hy⟩
      obtain ⟨p, x, rfl, hpi, hni, hpt⟩ := hp.get hy
      have hx := s2 _ _ hpt
      have hnot := not_in_take hnd hni
      refine ⟨_, rfl, p, _, 2, rfl, hx, rfl, _, rfl, ?_⟩
      refine iteF ⟨_, rfl, _, _, _, _, rfl, rfl, SqT.of hx, at0, x, rfl, hN x (List.mem_of_getElem? hni), fun H3 s3 => ⟨_, rfl, iteF ?_⟩⟩
      have hx3 := s3 _ _ hx
      refine ⟨_, rfl, _, _, _, _, rfl, rfl, SqT.of hx3, at1, rfl, _, rfl, iteF ?_⟩
      have h3 := s3 _ _ h2
      refine ⟨_, rfl, _, _, _, _, rfl, rfl, SqT.of hx3, at0, _, rfl, d, _, rfl, DGet.k (k := Sum.inr x) h3, _, rfl, ?_⟩
      refine ifF (by rw [valV_kvT hnot]; rfl) ?_
      refine ⟨_, rfl, _, rfl, _, _, _, _, rfl, rfl, SqT.of hx3, at0, d, _, rfl, DPut.k (k := Sum.inr x) h3 (small1000 ?_), ?_⟩
      · unfold kvT
        rw [List.length_map, List.length_take]
        omega
      · refine ⟨_, rfl, Same.mut (s2.trans s3) hd, ?_⟩
        rw [upd_same, take_snoc hni]
        exact congrArg (fun l => some (HO.dK l)) (putK_kvT hnot)
    · rintro σ H1 ⟨v, rfl, s2, h2⟩
      exact k _ s2

end
end W1
set_option Elab.async false
set_option linter.all false
set_option maxRecDepth 100000
set_option maxHeartbeats 4000000
namespace W1
open PySem PySem.Spec PyProof.Rows L2 RZ
theorem walk_zipT {K : PySem.W.Frag} {a b : Addr} {xs ys : List V} {n : Nat} (hn : n = min xs.length ys.length) : Walk (ItzT K a b) n (fun H => SqT K H a xs ∧ SqT K H b ys) (YPair (fun i => xs[i]?) (fun i => ys[i]?)) := by
  subst hn
  refine ⟨fun i _ hi q => ?_, fun _ q => ⟨xs, ys, q.1, q.2, by omega⟩, fun i H v H' _ q y => ?_⟩
  · have h1 : i < xs.length := by omega
    have h2 : i < ys.length := by omega
    exact ⟨xs, ys, xs[i], ys[i], q.1, q.2, by simp [h1], by simp [h2]⟩
  · obtain ⟨T, x, z, h1, h2, h3, h4, h5⟩ := y
    exact ⟨T, x, z, h1, h2, h3, h4 xs q.1, h5 ys q.2⟩
/-! ### rows of a source, all words -/
inductive Rx where
  | num (x : Str) (n : Int) | nil (x : Str) | copy (x y : Str) | bin (k : Fin 4) (x y z : Str) | same (x y z : Str) | new (x c : Str) | get (x y f : Str) | put (x f y : Str) | call (x F : Str) (as : List Str) | see (x : Str) | ifz (x : Str) (r : Nat) | jump (r : Nat) | ret (x : Str)
def binW : Fin 4 → Str
  | 0 => "add" | 1 => "sub" | 2 => "times" | 3 => "less"
def Rx.word : Rx → Str
  | .num _ _ => "number" | .nil _ => "nil" | .copy _ _ => "copy" | .bin k _ _ _ => binW k | .same _ _ _ => "same" | .new _ _ => "new" | .get _ _ _ => "get" | .put _ _ _ => "put" | .call _ _ _ => "call" | .see _ => "see" | .ifz _ _ => "if" | .jump _ => "jump" | .ret _ => "return"
def Rx.roles : Rx → List Str
  | .num _ _ => ["sets", "number"] | .nil _ => ["sets"] | .copy _ _ => ["sets", "reads"] | .bin _ _ _ _ => ["sets", "reads", "reads"] | .same _ _ _ => ["sets", "reads", "reads"] | .new _ _ => ["sets", "class"] | .get _ _ _ => ["sets", "reads", "field"] | .put _ _ _ => ["reads", "field", "reads"]
  | .call _ _ _ => ["sets", "function", "many"] | .see _ => ["reads"] | .ifz _ _ => ["reads", "row"] | .jump _ => ["row"] | .ret _ => ["reads"]
/-- its parts; l stands for the list of a call -/
def Rx.parts (l : V) : Rx → List V
  | .num x n => [.str x, .int n] | .nil x => [.str x] | .copy x y => [.str x, .str y] | .bin _ x y z => [.str x, .str y, .str z] | .same x y z => [.str x, .str y, .str z] | .new x c => [.str x, .str c] | .get x y f => [.str x, .str y, .str f] | .put x f y => [.str x, .str f, .str y]
  | .call x F _ => [.str x, .str F, l] | .see x => [.str x] | .ifz x r => [.str x, .int r] | .jump r => [.int r] | .ret x => [.str x]
def Rx.sets : Rx → Option Str
  | .num x _ => some x | .nil x => some x | .copy x _ => some x | .bin _ x _ _ => some x | .same x _ _ => some x | .new x _ => some x | .get x _ _ => some x | .call x _ _ => some x | _ => none
def Rx.reads : Rx → List Str
  | .copy _ y => [y] | .bin _ _ y z => [y, z] | .same _ y z => [y, z] | .get _ y _ => [y] | .put x _ y => [x, y] | .call _ _ as => as | .see x => [x] | .ifz x _ => [x] | .ret x => [x] | _ => []
def Rx.goal : Rx → Option Nat
  | .ifz _ r => some r | .jump r => some r | _ => none
def Rx.args : Rx → Option (List Str)
  | .call _ _ as => some as | _ => none
theorem rx_roles_mem (r : Rx) : (r.word, r.roles) ∈ roles := by
  cases r with
  | bin k x y z =>
    have key : ∀ k : Fin 4, (binW k, (["sets", "reads", "reads"] : List Str)) ∈ roles := by decide +kernel
    exact key k
  | _ => unfold roles; simp [Rx.word, Rx.roles]
theorem Rx.lens (r : Rx) (l : V) : r.roles.length = (r.parts l).length := by cases r <;> rfl
/-- a row as it is handed in (a call with a list), or as it is kept (with a tuple) -/
def RowAt (kept : Bool) (H : Hp) (a : Addr) (r : Rx) : Prop := ∃ l : Addr, H a = some (.tup (.str r.word :: r.parts (.ref l))) ∧ ∀ as, r.args = some as → H l = some (if kept = true then .tup (as.map V.str) else .lst (as.map V.str))
theorem RowAt.mono {kept : Bool} {H H' : Hp} {a : Addr} {r : Rx} (h : RowAt kept H a r) (e : Same H H') : RowAt kept H' a r := by
  obtain ⟨l, h1, h2⟩ := h
  exact ⟨l, e _ _ h1, fun as q => e _ _ (h2 as q)⟩
/-- what a source tells of names: the kinds of fields, the classes, functions (kinds of parameters, kind of the result) -/
structure Sig where
  classes : List Str
  fields : List (Str × Str)
  funs : List (Str × List Str × Str)
/-- a row that is right by itself -/
def Rx.form (S : Sig) : Rx → Prop
  | .num x n => Nam x ∧ -1000000000 ≤ n ∧ n ≤ 1000000000 | .nil x => Nam x | .copy x y => Nam x ∧ Nam y | .bin _ x y z => Nam x ∧ Nam y ∧ Nam z | .same x y z => Nam x ∧ Nam y ∧ Nam z | .new x c => Nam x ∧ c ∈ S.classes
  | .get x y f => Nam x ∧ Nam y ∧ (S.fields.lookup f).isSome = true | .put x f y => Nam x ∧ (S.fields.lookup f).isSome = true ∧ Nam y | .call x F as => Nam x ∧ (S.funs.lookup F).isSome = true ∧ ∀ y ∈ as, Nam y
  | .see x => Nam x | .ifz x _ => Nam x | .jump _ => True | .ret x => Nam x
/-- .. and of the right kinds -/
def Rx.kinds (S : Sig) (kd : Str → Option Str) (res : Str) : Rx → Prop
  | .num x _ => kd x = some "number" | .nil x => kd x = some "object" | .copy x y => (kd x).isSome = true ∧ kd x = kd y | .bin _ x y z => kd x = some "number" ∧ kd y = some "number" ∧ kd z = some "number" | .same x y z => kd x = some "number" ∧ (kd y).isSome = true ∧ kd y = kd z | .new x _ => kd x = some "object"
  | .get x y f => kd y = some "object" ∧ (kd x).isSome = true ∧ kd x = S.fields.lookup f | .put x f y => kd x = some "object" ∧ (kd y).isSome = true ∧ kd y = S.fields.lookup f
  | .call x F as => ∃ ps q, S.funs.lookup F = some (ps, q) ∧ as.map kd = ps.map some ∧ kd x = some q
  | .see x => (kd x).isSome = true | .ifz x _ => kd x = some "number" | .jump _ => True | .ret x => kd x = some res
end W1
set_option Elab.async false
set_option linter.all false
set_option maxRecDepth 100000
set_option maxHeartbeats 4000000
namespace W1
open PySem PySem.Spec PyProof.Rows L2 RZ
section
variable {P : Program} {w : World} {K : PySem.W.Frag} {mg : Str → Option Value} {base : Heap}

/-- a Source while it is made, or made: its dicts -/
structure SrcG (K : PySem.W.Frag) (H : Hp) (p dx df dk du : Addr) (fs : List (Str × V)) (cs ks us : List (Key × V)) : Prop where
  ob : H p = some (.ins (He.ga K "Source") dx fs)
  f1 : fs.lookup ("_fields" : Str) = some (.ref df)
  f2 : fs.lookup ("_field_kinds" : Str) = some (.ref dk)
  f3 : fs.lookup ("_functions" : Str) = some (.ref du)
  nm : ∀ m ∈ (["function_at", "fields_of", "field_kind", "_take_rows", "_is_row_of", "_kinds_differ", "_take_classes", "_take_heads", "classes", "functions"] : List Str), fs.lookup m = none
  d1 : H df = some (.dK cs)
  d2 : H dk = some (.dK ks)
  d3 : H du = some (.dK us)
theorem SrcG.mono {H H' : Hp} {p dx df dk du : Addr} {fs : List (Str × V)} {cs ks us : List (Key × V)} (h : SrcG K H p dx df dk du fs cs ks us) (e : Same H H') : SrcG K H' p dx df dk du fs cs ks us := ⟨e _ _ h.ob, h.f1, h.f2, h.f3, h.nm, e _ _ h.d1, e _ _ h.d2, e _ _ h.d3⟩
def SrcH (K : PySem.W.Frag) (H : Hp) (p : Addr) (cs ks us : List (Key × V)) : Prop := ∃ dx df dk du fs, SrcG K H p dx df dk du fs cs ks us
theorem SrcH.mono {H H' : Hp} {p : Addr} {cs ks us : List (Key × V)} (h : SrcH K H p cs ks us) (e : Same H H') : SrcH K H' p cs ks us := by
  obtain ⟨dx, df, dk, du, fs, q⟩ := h
  exact ⟨dx, df, dk, du, fs, q.mono e⟩
def spFieldsOf (K : PySem.W.Frag) : Sp := fun vs H Q _ => ∃ p cs ks us x v, vs = [.ref p, .str x] ∧ SrcH K H p cs ks us ∧ valV cs (Sum.inr x : Key) = some v ∧ Q v H
def spFieldKind (K : PySem.W.Frag) : Sp := fun vs H Q _ => ∃ p cs ks us x v, vs = [.ref p, .str x] ∧ SrcH K H p cs ks us ∧ valV ks (Sum.inr x : Key) = some v ∧ Q v H
def spFunAt (K : PySem.W.Frag) : Sp := fun vs H Q _ => ∃ p cs ks us x v, vs = [.ref p, .str x] ∧ SrcH K H p cs ks us ∧ valV us (Sum.inr x : Key) = some v ∧ Q v H
def spNames : Sp := fun vs H Q _ => ∃ (a : Addr) (ns : List Str), vs = [.ref a] ∧ H a = some (.lst (ns.map V.str)) ∧ (∀ x ∈ ns, Nam x) ∧ ns.length ≤ 1000 ∧ ∀ H', Same H H' → Q (.bl true) H' 
theorem sc_Source_fields_of : FnScope ["self", "name"] ["self", "name"] (defScope s_Source_fields_of) := ⟨rfl, rfl, rfl, by decide +kernel, rfl, by decide +kernel, by decide +kernel⟩
theorem ok_Source_fields_of (T : Ctx w K mg) : HasM P w K mg base 1 "Source" "fields_of" ["self", "name"] (spFieldsOf K) := by
  obtain ⟨fd, F⟩ := T.D_Source_fields_of
  refine ⟨⟨fd, F.ok sc_Source_fields_of (fun vs H Q E h => ?_) (fun cdv A outer s H vs Q E hr h => ?_), F.bindsN fun _ _ _ _ _ _ us hl => match us, hl with | [_, _], _ => rfl⟩⟩
  · obtain ⟨p, cs, ks, us, x, v, rfl, S0, hv, k⟩ := h; rfl
  · obtain ⟨p, cs, ks, us, x, v, rfl, S0, hv, k⟩ := h
    have hu := hu_of hr
    refine ⟨_, PSs.nox (pss_one (ps_ret (pe_ifExp (pt_val (pe_callB call_isi (by rfl) T.f_isinstance (by decide +kernel) (pa_cons (pv 1) (pa_cons (pe_bltn (v := .ty "str") (u := .type "str") rfl T.f_str (by decide +kernel) rfl) pa_nil)))) (pe_dget1 hu (pe_fldK (K := K) rfl (pv 0) (by rfl)) (pv 1) ⟨rfl, rfl, rfl, rfl⟩) pe_non))), ?_⟩
    obtain ⟨dx, df, dk, du, fs, S⟩ := S0
    refine ⟨_, rfl, _, _, _, _, true, rfl, .ty _, .base (.str _), kit_ty (by decide +kernel), true, rfl, iteT ?_⟩
    refine ⟨_, rfl, p, _, dx, fs, _, rfl, S.ob, T.c_Source, T.n_Source_fields, S.f1, df, rfl, .inl ⟨_, .inl S.d1⟩, _, rfl, _, DGet.k (k := Sum.inr x) S.d1, ?_⟩
    rw [hv]
    exact k
theorem sc_Source_field_kind : FnScope ["self", "name"] ["self", "name"] (defScope s_Source_field_kind) := ⟨rfl, rfl, rfl, by decide +kernel, rfl, by decide +kernel, by decide +kernel⟩
theorem ok_Source_field_kind (T : Ctx w K mg) : HasM P w K mg base 1 "Source" "field_kind" ["self", "name"] (spFieldKind K) := by
  obtain ⟨fd, F⟩ := T.D_Source_field_kind
  refine ⟨⟨fd, F.ok sc_Source_field_kind (fun vs H Q E h => ?_) (fun cdv A outer s H vs Q E hr h => ?_), F.bindsN fun _ _ _ _ _ _ us hl => match us, hl with | [_, _], _ => rfl⟩⟩
  · obtain ⟨p, cs, ks, us, x, v, rfl, S0, hv, k⟩ := h; rfl
  · obtain ⟨p, cs, ks, us, x, v, rfl, S0, hv, k⟩ := h
    have hu := hu_of hr
    refine ⟨_, PSs.nox (pss_one (ps_ret (pe_ifExp (pt_val (pe_callB call_isi (by rfl) T.f_isinstance (by decide +kernel) (pa_cons (pv 1) (pa_cons (pe_bltn (v := .ty "str") (u := .type "str") rfl T.f_str (by decide +kernel) rfl) pa_nil)))) (pe_dget1 hu (pe_fldK (K := K) rfl (pv 0) (by rfl)) (pv 1) ⟨rfl, rfl, rfl, rfl⟩) pe_non))), ?_⟩
    obtain ⟨dx, df, dk, du, fs, S⟩ := S0
    refine ⟨_, rfl, _, _, _, _, true, rfl, .ty _, .base (.str _), kit_ty (by decide +kernel), true, rfl, iteT ?_⟩
    refine ⟨_, rfl, p, _, dx, fs, _, rfl, S.ob, T.c_Source, T.n_Source_field_kinds, S.f2, dk, rfl, .inl ⟨_, .inl S.d2⟩, _, rfl, _, DGet.k (k := Sum.inr x) S.d2, ?_⟩
    rw [hv]
    exact k
theorem sc_Source_function_at : FnScope ["self", "name"] ["self", "name"] (defScope s_Source_function_at) := ⟨rfl, rfl, rfl, by decide +kernel, rfl, by decide +kernel, by decide +kernel⟩
theorem ok_Source_function_at (T : Ctx w K mg) : HasM P w K mg base 1 "Source" "function_at" ["self", "name"] (spFunAt K) := by
  obtain ⟨fd, F⟩ := T.D_Source_function_at
  refine ⟨⟨fd, F.ok sc_Source_function_at (fun vs H Q E h => ?_) (fun cdv A outer s H vs Q E hr h => ?_), F.bindsN fun _ _ _ _ _ _ us hl => match us, hl with | [_, _], _ => rfl⟩⟩
  · obtain ⟨p, cs, ks, us, x, v, rfl, S0, hv, k⟩ := h; rfl
  · obtain ⟨p, cs, ks, us, x, v, rfl, S0, hv, k⟩ := h
    have hu := hu_of hr
    refine ⟨_, PSs.nox (pss_one (ps_ret (pe_ifExp (pt_val (pe_callB call_isi (by rfl) T.f_isinstance (by decide +kernel) (pa_cons (pv 1) (pa_cons (pe_bltn (v := .ty "str") (u := .type "str") rfl T.f_str (by decide +kernel) rfl) pa_nil)))) (pe_dget1 hu (pe_fldK (K := K) rfl (pv 0) (by rfl)) (pv 1) ⟨rfl, rfl, rfl, rfl⟩) pe_non))), ?_⟩
    obtain ⟨dx, df, dk, du, fs, S⟩ := S0
    refine ⟨_, rfl, _, _, _, _, true, rfl, .ty _, .base (.str _), kit_ty (by decide +kernel), true, rfl, iteT ?_⟩
    refine ⟨_, rfl, p, _, dx, fs, _, rfl, S.ob, T.c_Source, T.n_Source_functions, S.f3, du, rfl, .inl ⟨_, .inl S.d3⟩, _, rfl, _, DGet.k (k := Sum.inr x) S.d3, ?_⟩
    rw [hv]
    exact k
theorem sc_is_list_of_names : FnScope ["thing", "part"] ["thing"] (defScope s_is_list_of_names) := ⟨rfl, rfl, rfl, by decide +kernel, rfl, by decide +kernel, by decide +kernel⟩
theorem ok_is_list_of_names (T : Ctx w K mg) (H_is_name : Has P w K mg base 1 "is_name" ["thing"] spName) : Has P w K mg base 2 "is_list_of_names" ["thing"] spNames := by
  obtain ⟨fd, F⟩ := T.D_is_list_of_names
  obtain ⟨fd_is_name, G_is_name, b_is_name⟩ := H_is_name.ex
  refine ⟨⟨fd, F.ok sc_is_list_of_names (fun vs H Q E h => ?_) (fun cdv A outer s H vs Q E hr h => ?_), F.bindsN fun _ _ _ _ _ _ us hl => match us, hl with | [_], _ => rfl⟩, F.kp, T.g_is_list_of_names⟩
  · obtain ⟨a, ns, rfl, ha, hN, hl, k⟩ := h; rfl
  · obtain ⟨a, ns, rfl, ha, hN, hl, k⟩ := h
    have hr_is_name : Room 1 _ := hr.mono (by decide)
    have hu := hu_of hr
    refine ⟨_, PSs.nox (pss_one (ps_ret (pe_and (pe_callB call_isi (by rfl) T.f_isinstance (by decide +kernel) (pa_cons (pv 0) (pa_cons (pe_bltn (v := .ty "list") (u := .type "list") rfl T.f_list (by decide +kernel) rfl) pa_nil))) (pe_one (pe_callB (cr_all rfl) (by rfl) T.f_all (by decide +kernel) (pa_cons (pe_lc (own := [("part", 1)]) (g := gName 1) (tt := tYes) rfl sc_is_list_of_names.nd (pi_list (pv 0)) (blkOk_by (N := ["thing", "part"]) (sc := defScope s_is_list_of_names) (by decide +kernel)) (fun _ _ _ _ _ => (pg_name (i := 1) sc_is_list_of_names.nd rfl (Or.inl rfl))) (fun _ _ _ _ _ => pts_nil) (fun _ _ _ _ _ => (pe_call G_is_name hr_is_name (by rfl) H_is_name.gl H_is_name.kp b_is_name .nil pass0 (pa_cons (pv 1) pa_nil)))) pa_nil)))))), ?_⟩
    refine ⟨_, rfl, _, _, _, _, true, rfl, .ty _, .base (.lst ha), kit_ty (by decide +kernel), true, rfl, iteT ?_⟩
    refine ⟨_, rfl, a, rfl, ⟨_, SqL.of ha⟩, fun D hD => ?_⟩
    refine lc_pure (walk_list (K := K) (a := a) (xs := ns.map V.str)) hD (fun _ => .bl true) (by rw [List.length_map]; omega) (fun H1 s1 => SqL.of (s1 _ _ ha)) (fun i H1 y H2 hi s1 hy Qe qe => ?_) (fun H1 s1 h1 => ?_)
    · obtain ⟨rfl, hy⟩ := hy
      rw [List.getElem?_map] at hy
      cases e : ns[i]? with
      | none => rw [e] at hy; cases hy
      | some x =>
        rw [e] at hy
        obtain rfl := Option.some.inj hy
        exact ⟨rfl, _, rfl, x, rfl, hN x (List.mem_of_getElem? e), fun H' s' => qe H' s'⟩
    · exact ⟨D, (List.range (ns.map V.str).length).map (fun _ => true), rfl, SqL.of (by rw [h1, List.map_map]; rfl), qT all_true (k _ s1)⟩

end
end W1
set_option Elab.async false
set_option linter.all false
set_option maxRecDepth 100000
set_option maxHeartbeats 4000000
namespace W1
open PySem PySem.Spec PyProof.Rows L2 RZ
section
variable {P : Program} {w : World} {K : PySem.W.Frag} {mg : Str → Option Value} {base : Heap}

theorem slice1 {x : V} {xs : List V} : cutV (x :: xs) (some 1) none = xs ∧ ¬ (HT.sIx (x :: xs).length 0 (some 1) = 0 ∧ HT.sIx (x :: xs).length (x :: xs).length none = (x :: xs).length) := by
  have e1 : HT.sIx (x :: xs).length 0 (some 1) = 1 := by
    unfold HT.sIx
    simp
    try omega
  have e2 : HT.sIx (x :: xs).length (x :: xs).length none = (x :: xs).length := by
    unfold HT.sIx
    rfl
  refine ⟨?_, fun h => by rw [e1] at h; omega⟩
  unfold cutV
  rw [e1, e2]
  simp
theorem map_get {α : Type} {f : α → V} {l : List α} {i : Nat} {y : V} (h : (l.map f)[i]? = some y) : ∃ x, l[i]? = some x ∧ f x = y := by
  rw [List.getElem?_map] at h
  cases e : l[i]? with
  | none =>
    rw [e] at h
    cases h
  | some x =>
    rw [e] at h
    exact ⟨x, rfl, Option.some.inj h⟩
theorem Ctx.roleK (T : Ctx w K mg) {x : Str} {rs : List Str} (m : (x, rs) ∈ roles) : KDct K w (He.ga K "ROLES") x (.ref (rolA K x)) := by
  obtain ⟨es, n, D⟩ := T.rolesD
  exact ⟨es, n, _, D.at_, D.lit, (T.role m (fun _ => none)).1, rfl⟩
/-- what fills a role, in a source with these dicts -/
inductive FitsG (H : Hp) (cs ks us : List (Key × V)) : Str → V → Prop where
  | sets {x : Str} (h : Nam x) : FitsG H cs ks us "sets" (.str x)
  | reads {x : Str} (h : Nam x) : FitsG H cs ks us "reads" (.str x)
  | num {i : Int} (h1 : -1000000000 ≤ i) (h2 : i ≤ 1000000000) : FitsG H cs ks us "number" (.int i)
  | cls {x : Str} {v : V} (h : valV cs (Sum.inr x : Key) = some v) (n : v ≠ .non) : FitsG H cs ks us "class" (.str x)
  | fld {x : Str} {v : V} (h : valV ks (Sum.inr x : Key) = some v) (n : v ≠ .non) : FitsG H cs ks us "field" (.str x)
  | fn {x : Str} {v : V} (h : valV us (Sum.inr x : Key) = some v) (n : v ≠ .non) : FitsG H cs ks us "function" (.str x)
  | many {a : Addr} {ns : List Str} (h : H a = some (.lst (ns.map V.str))) (hN : ∀ x ∈ ns, Nam x) (hl : ns.length ≤ 1000) : FitsG H cs ks us "many" (.ref a)
  | row (i : Int) : FitsG H cs ks us "row" (.int i)
theorem FitsG.mono {H H' : Hp} {cs ks us : List (Key × V)} {x : Str} {v : V} (h : FitsG H cs ks us x v) (e : Same H H') : FitsG H' cs ks us x v := by
  cases h with
  | sets h => exact .sets h
  | reads h => exact .reads h
  | num h1 h2 => exact .num h1 h2
  | cls h n => exact .cls h n
  | fld h n => exact .fld h n
  | fn h n => exact .fn h n
  | many h a b => exact .many (e _ _ h) a b
  | row i => exact .row i
theorem notnone {v : V} (n : v ≠ .non) : (!decide (v = V.non)) = true := by
  rw [decide_eq_false n]
  rfl
def spFillsG (K : PySem.W.Frag) : Sp := fun vs H Q _ => ∃ p cs ks us role part, vs = [.ref p, .str role, part] ∧ SrcH K H p cs ks us ∧ FitsG H cs ks us role part ∧ ∀ H', Same H H' → Q (.bl true) H'
/-- a row that is handed in, right by itself in a source with these dicts -/
def FormG (H : Hp) (cs ks us : List (Key × V)) (l : V) (r : Rx) : Prop := ∀ (i : Nat) x v, r.roles[i]? = some x → (r.parts l)[i]? = some v → FitsG H cs ks us x v
def spIsRowG (K : PySem.W.Frag) : Sp := fun vs H Q _ => ∃ (p : Addr) (cs ks us : List (Key × V)) (a : Addr) (l : V) (r : Rx), vs = [.ref p, .ref a, .ref (He.ga K "ROW_WORDS")] ∧ SrcH K H p cs ks us ∧ H a = some (.tup (.str r.word :: r.parts l)) ∧ FormG H cs ks us l r ∧ ∀ H', Same H H' → Q (.bl true) H'
def oS : Option Str → V
  | some k => .str k
  | none => .non
def spSetsG : Sp := fun vs H Q _ => ∃ (a : Addr) (l : V) (r : Rx), vs = [.ref a] ∧ H a = some (.tup (.str r.word :: r.parts l)) ∧ Q (oS r.sets) H
theorem sc_fills : FnScope ["source", "role", "part"] ["source", "role", "part"] (defScope s_fills) := ⟨rfl, rfl, rfl, by decide +kernel, rfl, by decide +kernel, by decide +kernel⟩
theorem ok_fills (T : Ctx w K mg) (H_is_name : Has P w K mg base 1 "is_name" ["thing"] spName) (H_is_written_number : Has P w K mg base 3 "is_written_number" ["thing"] spWritten) (H_is_integer : Has P w K mg base 1 "is_integer" ["thing"] spIsInt) (H_Source_fields_of : HasM P w K mg base 1 "Source" "fields_of" ["self", "name"] (spFieldsOf K)) (H_Source_field_kind : HasM P w K mg base 1 "Source" "field_kind" ["self", "name"] (spFieldKind K)) (H_Source_function_at : HasM P w K mg base 1 "Source" "function_at" ["self", "name"] (spFunAt K)) (H_is_list_of_names : Has P w K mg base 2 "is_list_of_names" ["thing"] spNames) : Has P w K mg base 4 "_fills" ["source", "role", "part"] (spFillsG K) := by
  obtain ⟨fd, F⟩ := T.D_fills
  obtain ⟨fd_is_name, G_is_name, b_is_name⟩ := H_is_name.ex
  obtain ⟨fd_is_written_number, G_is_written_number, b_is_written_number⟩ := H_is_written_number.ex
  obtain ⟨fd_is_integer, G_is_integer, b_is_integer⟩ := H_is_integer.ex
  obtain ⟨fd_Source_fields_of, G_Source_fields_of, b_Source_fields_of⟩ := H_Source_fields_of.ex
  obtain ⟨fd_Source_field_kind, G_Source_field_kind, b_Source_field_kind⟩ := H_Source_field_kind.ex
  obtain ⟨fd_Source_function_at, G_Source_function_at, b_Source_function_at⟩ := H_Source_function_at.ex
  obtain ⟨fd_is_list_of_names, G_is_list_of_names, b_is_list_of_names⟩ := H_is_list_of_names.ex
  refine ⟨⟨fd, F.ok sc_fills (fun vs H Q E h => ?_) (fun cdv A outer s H vs Q E hr h => ?_), F.bindsN fun _ _ _ _ _ _ us hl => match us, hl with | [_, _, _], _ => rfl⟩, F.kp, T.g_fills⟩
  · obtain ⟨p, cs, ks, us, role, part, rfl, S0, F0, k⟩ := h; rfl
  · obtain ⟨p, cs, ks, us, role, part, rfl, S0, F0, k⟩ := h
    have hr_is_name : Room 1 _ := hr.mono (by decide)
    have hr_is_written_number : Room 3 _ := hr.mono (by decide)
    have hr_is_integer : Room 1 _ := hr.mono (by decide)
    have hr_Source_fields_of : Room 1 _ := hr.mono (by decide)
    have hr_Source_field_kind : Room 1 _ := hr.mono (by decide)
    have hr_Source_function_at : Room 1 _ := hr.mono (by decide)
    have hr_is_list_of_names : Room 2 _ := hr.mono (by decide)
    have hu := hu_of hr
    refine ⟨_, PSs.nox (pss_cons (ps_if (pt_cmpR op_in_seq (pv 1) (pe_tup (pa_cons pe_str (pa_cons pe_str pa_nil))) rfl) (pss_one (ps_ret (pe_call G_is_name hr_is_name (by rfl) H_is_name.gl H_is_name.kp b_is_name .nil pass0 (pa_cons (pv 2) pa_nil)))) pss_nil)
      (pss_cons (ps_if (pt_cmpR op_eq (pv 1) pe_str (nomark _)) (pss_one (ps_ret (pe_call G_is_written_number hr_is_written_number (by rfl) H_is_written_number.gl H_is_written_number.kp b_is_written_number .nil pass0 (pa_cons (pv 2) pa_nil)))) pss_nil)
      (pss_cons (ps_if (pt_cmpR op_eq (pv 1) pe_str (nomark _)) (pss_one (ps_ret (pe_cmpR op_notN (pe_meth (pv 0) T.c_Source T.m_Source_fields_of G_Source_fields_of hr_Source_fields_of b_Source_fields_of .nil pass0 (pa_cons (pv 2) pa_nil)) pe_non (nomark _)))) pss_nil)
      (pss_cons (ps_if (pt_cmpR op_eq (pv 1) pe_str (nomark _)) (pss_one (ps_ret (pe_cmpR op_notN (pe_meth (pv 0) T.c_Source T.m_Source_field_kind G_Source_field_kind hr_Source_field_kind b_Source_field_kind .nil pass0 (pa_cons (pv 2) pa_nil)) pe_non (nomark _)))) pss_nil)
      (pss_cons (ps_if (pt_cmpR op_eq (pv 1) pe_str (nomark _)) (pss_one (ps_ret (pe_cmpR op_notN (pe_meth (pv 0) T.c_Source T.m_Source_function_at G_Source_function_at hr_Source_function_at b_Source_function_at .nil pass0 (pa_cons (pv 2) pa_nil)) pe_non (nomark _)))) pss_nil)
      (pss_cons (ps_if (pt_cmpR op_eq (pv 1) pe_str (nomark _)) (pss_one (ps_ret (pe_call G_is_list_of_names hr_is_list_of_names (by rfl) H_is_list_of_names.gl H_is_list_of_names.kp b_is_list_of_names .nil pass0 (pa_cons (pv 2) pa_nil)))) pss_nil)
      (pss_cons (ps_if (pt_cmpR op_eq (pv 1) pe_str (nomark _)) (pss_one (ps_ret (pe_call G_is_integer hr_is_integer (by rfl) H_is_integer.gl H_is_integer.kp b_is_integer .nil pass0 (pa_cons (pv 2) pa_nil)))) pss_nil)
      (pss_one ps_never)))))))), ?_⟩
    obtain ⟨dx, df, dk, du, fs, S⟩ := id S0
    refine ⟨_, rfl, sz_of (by decide), fun t ht => ⟨t, _, rfl, .inr (SqT.of upd_same), rfl, rfl, ?_⟩⟩
    have s1 : Same H (upd H t (.tup [.str "sets", .str "reads"])) := Same.new ht
    cases F0 with
    | sets h => exact ⟨_, rfl, ifT rfl ⟨_, rfl, _, rfl, h, fun H' s' => k H' (s1.trans s')⟩⟩
    | reads h => exact ⟨_, rfl, ifT rfl ⟨_, rfl, _, rfl, h, fun H' s' => k H' (s1.trans s')⟩⟩
    | num h1 h2 => exact ⟨_, rfl, ifF rfl ⟨_, rfl, rfl, _, rfl, ifT rfl ⟨_, rfl, _, rfl, h1, h2, k _ s1⟩⟩⟩
    | cls h n => exact ⟨_, rfl, ifF rfl ⟨_, rfl, rfl, _, rfl, ifF rfl ⟨_, rfl, rfl, _, rfl, ifT rfl ⟨_, rfl, p, dx, fs, rfl, s1 _ _ S.ob, S.nm _ (by decide +kernel), _, rfl, p, cs, ks, us, _, _, rfl, S0.mono s1, h, rfl, qT (notnone n) (k _ s1)⟩⟩⟩⟩
    | fld h n => exact ⟨_, rfl, ifF rfl ⟨_, rfl, rfl, _, rfl, ifF rfl ⟨_, rfl, rfl, _, rfl, ifF rfl ⟨_, rfl, rfl, _, rfl, ifT rfl ⟨_, rfl, p, dx, fs, rfl, s1 _ _ S.ob, S.nm _ (by decide +kernel), _, rfl, p, cs, ks, us, _, _, rfl, S0.mono s1, h, rfl, qT (notnone n) (k _ s1)⟩⟩⟩⟩⟩
    | fn h n => exact ⟨_, rfl, ifF rfl ⟨_, rfl, rfl, _, rfl, ifF rfl ⟨_, rfl, rfl, _, rfl, ifF rfl ⟨_, rfl, rfl, _, rfl, ifF rfl ⟨_, rfl, rfl, _, rfl, ifT rfl ⟨_, rfl, p, dx, fs, rfl, s1 _ _ S.ob, S.nm _ (by decide +kernel), _, rfl, p, cs, ks, us, _, _, rfl, S0.mono s1, h, rfl, qT (notnone n) (k _ s1)⟩⟩⟩⟩⟩⟩
    | many h hN hl => exact ⟨_, rfl, ifF rfl ⟨_, rfl, rfl, _, rfl, ifF rfl ⟨_, rfl, rfl, _, rfl, ifF rfl ⟨_, rfl, rfl, _, rfl, ifF rfl ⟨_, rfl, rfl, _, rfl, ifF rfl ⟨_, rfl, rfl, _, rfl, ifT rfl ⟨_, rfl, _, _, rfl, s1 _ _ h, hN, hl, fun H' s' => k H' (s1.trans s')⟩⟩⟩⟩⟩⟩⟩
    | row i => exact ⟨_, rfl, ifF rfl ⟨_, rfl, rfl, _, rfl, ifF rfl ⟨_, rfl, rfl, _, rfl, ifF rfl ⟨_, rfl, rfl, _, rfl, ifF rfl ⟨_, rfl, rfl, _, rfl, ifF rfl ⟨_, rfl, rfl, _, rfl, ifF rfl ⟨_, rfl, rfl, _, rfl, ifT rfl ⟨_, rfl, i, rfl, k _ s1⟩⟩⟩⟩⟩⟩⟩⟩
theorem sc_is_row : FnScope ["source", "thing", "words", "roles", "role", "part"] ["source", "thing", "words"] (defScope s_is_row) := ⟨rfl, rfl, rfl, by decide +kernel, rfl, by decide +kernel, by decide +kernel⟩
theorem ok_is_row (T : Ctx w K mg) (H_is_word_tuple : Has P w K mg base 1 "is_word_tuple" ["thing"] spWord) (H_fills : Has P w K mg base 4 "_fills" ["source", "role", "part"] (spFillsG K)) : Has P w K mg base 5 "is_row" ["source", "thing", "words"] (spIsRowG K) := by
  obtain ⟨fd, F⟩ := T.D_is_row
  obtain ⟨fd_is_word_tuple, G_is_word_tuple, b_is_word_tuple⟩ := H_is_word_tuple.ex
  obtain ⟨fd_fills, G_fills, b_fills⟩ := H_fills.ex
  refine ⟨⟨fd, F.ok sc_is_row (fun vs H Q E h => ?_) (fun cdv A outer s H vs Q E hr h => ?_), F.bindsN fun _ _ _ _ _ _ us hl => match us, hl with | [_, _, _], _ => rfl⟩, F.kp, T.g_is_row⟩
  · obtain ⟨p, cs, ks, us, a, l, r, rfl, S0, ha, hb, k⟩ := h; rfl
  · obtain ⟨p, cs, ks, us, a, l, r, rfl, S0, ha, hb, k⟩ := h
    have hr_is_word_tuple : Room 1 _ := hr.mono (by decide)
    have hr_fills : Room 4 _ := hr.mono (by decide)
    have hu := hu_of hr
    refine ⟨_, PSs.nox (pss_cons (ps_if (PW.pt (pw_or (pt_not (pt_val (pe_call G_is_word_tuple hr_is_word_tuple (by rfl) H_is_word_tuple.gl H_is_word_tuple.kp b_is_word_tuple .nil pass0 (pa_cons (pv 1) pa_nil)))) (pw_or1 (pt_cmpR op_notIn_seq (pe_ix ix_tup (pv 1) pe_int (fun _ _ => rfl)) (pv 2) rfl)))) (pss_one (ps_ret pe_bl)) pss_nil)
      (pss_cons (ps_set (i := 3) sc_is_row.nd rfl (Or.inl rfl) (pe_ix ix_kdict (pe_glob (v := .ref (He.ga K "ROLES")) rfl T.g_ROLES rfl) (pe_ix ix_tup (pv 1) pe_int (fun _ _ => rfl)) (fun _ _ => rfl)))
      (pss_cons (ps_if (pt_cmpR op_ne (pe_callB call_len_seq (by rfl) T.f_len (by decide +kernel) (pa_cons (pv 1) pa_nil)) (pe_op op_add (pe_callB call_len_seq (by rfl) T.f_len (by decide +kernel) (pa_cons (pv 3) pa_nil)) pe_int) (nomark _)) (pss_one (ps_ret pe_bl)) pss_nil)
      (pss_one (ps_ret (pe_callB (cr_all rfl) (by rfl) T.f_all (by decide +kernel) (pa_cons (pe_lc (own := [("role", 4), ("part", 5)]) (g := gTup K 2 (gCons (gName 4) (gCons (gName 5) (gNil)))) (tt := tYes) rfl sc_is_row.nd (pi_zipA (by rfl) T.f_zip (pa_cons (pv 3) (pa_cons (pe_slice sl_tup (pv 1) (po_some pe_int) po_none) pa_nil))) (blkOk_by (N := ["source", "thing", "words", "roles", "role", "part"]) (sc := defScope s_is_row) (by decide +kernel)) (fun _ _ _ _ _ => (pg_tup rfl (pgs_cons (pg_name (i := 4) sc_is_row.nd rfl (Or.inl rfl)) (pgs_cons (pg_name (i := 5) sc_is_row.nd rfl (Or.inl rfl)) pgs_nil)))) (fun _ _ _ _ _ => pts_nil) (fun _ _ _ _ _ => (pe_call G_fills hr_fills (by rfl) H_fills.gl H_fills.kp b_fills .nil pass0 (pa_cons (pv 0) (pa_cons (pv 4) (pa_cons (pv 5) pa_nil)))))) pa_nil))))))), ?_⟩
    have hw : inV (V.str r.word) (v_ROW_WORDS.map (He.Dv.v K)) = true := by
      cases r with
      | bin kk x y z =>
        have key : ∀ kk : Fin 4, inV (V.str (binW kk)) (v_ROW_WORDS.map fun d => match d with | .str x => V.str x | _ => V.non) = true := by decide +kernel
        exact key kk
      | _ => rfl
    have hflat : (v_ROW_WORDS.map (He.Dv.v K)).all flatV = true := rfl
    have hlp : (r.parts l).length ≤ 3 := by cases r <;> simp [Rx.parts]
    refine ⟨_, rfl, a, r.word, r.parts l, rfl, ha, _, rfl, iteF ?_⟩
    refine ⟨_, rfl, _, _, _, _, rfl, rfl, SqT.of ha, at0, _, rfl, _, _, rfl, .inr (T.rowwords H), rfl, hflat, _, rfl, ifF ?_ ?_⟩
    · show (if true = true then !inV (V.str r.word) (v_ROW_WORDS.map (He.Dv.v K)) else inV (V.str r.word) (v_ROW_WORDS.map (He.Dv.v K))) = false
      rw [hw]
      rfl
    refine ⟨_, rfl, _, _, _, _, rfl, rfl, SqT.of ha, at0, _, _, _, rfl, rfl, T.roleK (rx_roles_mem r), ?_⟩
    have hro : ∀ H, SqT K H (rolA K r.word) (r.roles.map V.str) := fun H => (T.role (rx_roles_mem r) H).2
    refine ⟨_, rfl, _, _, rfl, .inr (SqT.of ha), _, rfl, _, _, rfl, .inr (hro H), _, _, rfl, rfl, rfl, _, rfl, ifF ?_ ?_⟩
    · show (!decide (V.int (((V.str r.word :: r.parts l).length : Nat) : Int) = V.int (((r.roles.map V.str).length : Nat) + 1 : Int))) = false
      rw [decide_eq_true]
      · rfl
      · rw [List.length_map, r.lens l]
        rfl
    refine ⟨_, rfl, _, rfl, 1, rfl, a, _, rfl, SqT.of ha, slice1.2, fun t ht => ?_⟩
    have s1 : Same H (upd H t (.tup (cutV (V.str r.word :: r.parts l) (some 1) none))) := Same.new ht
    have ht1 : (upd H t (.tup (cutV (V.str r.word :: r.parts l) (some 1) none))) t = some (.tup (r.parts l)) := by
      rw [upd_same]
      exact congrArg (fun l => some (HO.tup l)) slice1.1
    refine ⟨_, t, _, r.parts l, rfl, .inr ⟨hro _, SqT.of ht1, fun D hD => ?_⟩⟩
    refine lc_pure (walk_zipT (K := K) (xs := r.roles.map V.str) (ys := r.parts l) (n := (r.parts l).length) (by rw [List.length_map, r.lens l, Nat.min_self])) hD (fun _ => .bl true) (by omega) (fun H2 s2 => ⟨hro _, SqT.of (s2 _ _ ht1)⟩) (fun i H2 y H3 hi s2 hy Qe qe => ?_) (fun H2 s2 h2 => ?_)
    · obtain ⟨u, x, v, rfl, hu0, rfl, hx, hv⟩ := hy
      obtain ⟨role, e, rfl⟩ := map_get (show (r.roles.map V.str)[i]? = some x from hx)
      have s3 := s1.trans (s2.trans (Same.new (o := .tup [V.str role, v]) hu0))
      refine ⟨u, _, rfl, SqT.of upd_same, rfl, _, _, rfl, _, _, rfl, rfl, rfl, ?_⟩
      exact ⟨_, rfl, _, rfl, _, rfl, p, cs, ks, us, role, v, rfl, S0.mono s3, (hb i role v e hv).mono s3, fun H' s' => qe H' ((Same.new hu0).trans s')⟩
    · exact ⟨D, (List.range (r.parts l).length).map (fun _ => true), rfl, SqL.of (by rw [h2, List.map_map]; rfl), qT all_true (k _ (s1.trans s2))⟩
theorem sc_row_sets : FnScope ["row"] ["row"] (defScope s_row_sets) := ⟨rfl, rfl, rfl, by decide +kernel, rfl, by decide +kernel, by decide +kernel⟩
theorem ok_row_sets (T : Ctx w K mg) : Has P w K mg base 1 "row_sets" ["row"] spSetsG := by
  obtain ⟨fd, F⟩ := T.D_row_sets
  refine ⟨⟨fd, F.ok sc_row_sets (fun vs H Q E h => ?_) (fun cdv A outer s H vs Q E hr h => ?_), F.bindsN fun _ _ _ _ _ _ us hl => match us, hl with | [_], _ => rfl⟩, F.kp, T.g_row_sets⟩
  · obtain ⟨a, l, r, rfl, ha, k⟩ := h; rfl
  · obtain ⟨a, l, r, rfl, ha, k⟩ := h
    have hu := hu_of hr
    refine ⟨_, PSs.nox (pss_one (ps_ret (pe_ifExp (pt_cmpR op_eq (pe_ix ix_tup (pe_ix ix_kdict (pe_glob (v := .ref (He.ga K "ROLES")) rfl T.g_ROLES rfl) (pe_ix ix_tup (pv 0) pe_int (fun _ _ => rfl)) (fun _ _ => rfl)) pe_int (fun _ _ => rfl)) pe_str (nomark _)) (pe_ix ix_tup (pv 0) pe_int (fun _ _ => rfl)) pe_non))), ?_⟩
    have hro : ∀ H, SqT K H (rolA K r.word) (r.roles.map V.str) := fun H => (T.role (rx_roles_mem r) H).2
    refine ⟨_, rfl, _, _, _, _, rfl, rfl, SqT.of ha, at0, _, _, _, rfl, rfl, T.roleK (rx_roles_mem r), ?_⟩
    cases r <;> first
      | exact ⟨_, _, _, _, rfl, rfl, hro H, at0, rfl, _, rfl, ifT rfl ⟨_, rfl, _, _, _, _, rfl, rfl, SqT.of ha, at1, k⟩⟩
      | exact ⟨_, _, _, _, rfl, rfl, hro H, at0, rfl, _, rfl, ifF rfl k⟩

end
end W1
set_option Elab.async false
set_option linter.all false
set_option maxRecDepth 100000
set_option maxHeartbeats 4000000
namespace W1
open PySem PySem.Spec PyProof.Rows L2 RZ
section
variable {P : Program} {w : World} {K : PySem.W.Frag} {mg : Str → Option Value} {base : Heap}

/-- the parts that are read; as stands for the names of a call -/
def rdG (as : List V) : List Str → List V → List V
  | x :: rs, v :: vs => (if x = "reads" then [v] else if x = "many" then as else []) ++ rdG as rs vs
  | _, _ => []
theorem rdG_snoc {as : List V} : ∀ {rs : List Str} {vs : List V} {i : Nat} {x : Str} {v : V}, rs[i]? = some x → vs[i]? = some v → rdG as (rs.take (i + 1)) (vs.take (i + 1)) = rdG as (rs.take i) (vs.take i) ++ (if x = "reads" then [v] else if x = "many" then as else [])
  | [], vs, i, x, v, h, _ => by simp at h
  | a :: rs, [], i, x, v, _, h => by simp at h
  | a :: rs, b :: vs, 0, x, v, h1, h2 => by
    have e1 : a = x := Option.some.inj h1
    have e2 : b = v := Option.some.inj h2
    subst e1 e2
    show (if a = "reads" then [b] else if a = "many" then as else []) ++ rdG as [] [] = [] ++ _
    simp [rdG]
  | a :: rs, b :: vs, i + 1, x, v, h1, h2 => by
    have ih := rdG_snoc (as := as) (rs := rs) (vs := vs) (i := i) (x := x) (v := v) h1 h2
    show _ ++ rdG as (rs.take (i + 1)) (vs.take (i + 1)) = (_ ++ rdG as (rs.take i) (vs.take i)) ++ _
    rw [ih, List.append_assoc]
theorem rdG_len {as : List V} : ∀ (rs : List Str) (vs : List V), (rdG as rs vs).length ≤ rs.length * (as.length + 1)
  | [], vs => by simp [rdG]
  | a :: rs, [] => by simp [rdG]
  | a :: rs, b :: vs => by
    have ih := rdG_len (as := as) rs vs
    have h1 : (if a = "reads" then [b] else if a = "many" then as else []).length ≤ as.length + 1 := by
      split
      · simp
      · split <;> simp
    show (_ ++ rdG as rs vs).length ≤ (rs.length + 1) * (as.length + 1)
    rw [List.length_append, Nat.add_mul]
    omega
theorem Rx.rd (r : Rx) (l : V) (as : List V) (h : ∀ bs, r.args = some bs → as = bs.map V.str) : rdG as r.roles (r.parts l) = r.reads.map V.str := by
  have n1 : ¬ (("sets" : Str) = "reads") := by decide +kernel
  have n2 : ¬ (("row" : Str) = "reads") := by decide +kernel
  have n3 : ¬ (("number" : Str) = "reads") := by decide +kernel
  have n4 : ¬ (("class" : Str) = "reads") := by decide +kernel
  have n5 : ¬ (("field" : Str) = "reads") := by decide +kernel
  have n6 : ¬ (("function" : Str) = "reads") := by decide +kernel
  have n7 : ¬ (("many" : Str) = "reads") := by decide +kernel
  have m1 : ¬ (("sets" : Str) = "many") := by decide +kernel
  have m2 : ¬ (("row" : Str) = "many") := by decide +kernel
  have m3 : ¬ (("number" : Str) = "many") := by decide +kernel
  have m4 : ¬ (("class" : Str) = "many") := by decide +kernel
  have m5 : ¬ (("field" : Str) = "many") := by decide +kernel
  have m6 : ¬ (("function" : Str) = "many") := by decide +kernel
  cases r with
  | call x F bs => simp [Rx.roles, Rx.parts, Rx.reads, rdG, n1, n6, n7, m1, m6, h bs rfl]
  | _ => simp [Rx.roles, Rx.parts, Rx.reads, rdG, n1, n2, n3, n4, n5, m1, m2, m3, m4, m5]
/-- the names of a call, where its list stands -/
def Rx.namesOf (r : Rx) : List Str := r.args.getD []
theorem Rx.many_at {r : Rx} {l : V} {i : Nat} {v : V} (h1 : r.roles[i]? = some "many") (h2 : (r.parts l)[i]? = some v) : ∃ bs, r.args = some bs ∧ v = l := by
  have key : ∀ {xs : List Str}, ¬ (("many" : Str) ∈ xs) → xs[i]? = some "many" → False := fun hn h => hn (List.mem_of_getElem? h)
  cases r with
  | call x F bs =>
    refine ⟨bs, rfl, ?_⟩
    match i, h1, h2 with
    | 0, h1, _ => exact absurd (Option.some.inj h1) (by decide +kernel)
    | 1, h1, _ => exact absurd (Option.some.inj h1) (by decide +kernel)
    | 2, _, h2 => exact (Option.some.inj h2).symm
  | _ => exact (key (by simp [Rx.roles]; decide +kernel) h1).elim
def spReadsG : Sp := fun vs H Q _ => ∃ (a l : Addr) (r : Rx), vs = [.ref a] ∧ H a = some (.tup (.str r.word :: r.parts (.ref l))) ∧ (∀ bs, r.args = some bs → H l = some (.lst (bs.map V.str)) ∧ bs.length ≤ 1000) ∧ ∀ p H', Same H H' → H p = none → H' p = some (.lst (r.reads.map V.str)) → Q (.ref p) H' 
theorem sc_row_reads : FnScope ["row", "names", "role", "part"] ["row"] (defScope s_row_reads) := ⟨rfl, rfl, rfl, by decide +kernel, rfl, by decide +kernel, by decide +kernel⟩
theorem ok_row_reads (T : Ctx w K mg) : Has P w K mg base 1 "row_reads" ["row"] spReadsG := by
  obtain ⟨fd, F⟩ := T.D_row_reads
  refine ⟨⟨fd, F.ok sc_row_reads (fun vs H Q E h => ?_) (fun cdv A outer s H vs Q E hr h => ?_), F.bindsN fun _ _ _ _ _ _ us hl => match us, hl with | [_], _ => rfl⟩, F.kp, T.g_row_reads⟩
  · obtain ⟨a, m, r, rfl, ha, hm, k⟩ := h; rfl
  · obtain ⟨a, m, r, rfl, ha, hm, k⟩ := h
    have hu := hu_of hr
    refine ⟨_, PSs.nox (pss_cons (ps_set (i := 1) sc_row_reads.nd rfl (Or.inl rfl) (pe_lst pa_nil))
      (pss_cons (ps_for PassesOwn.never rfl (pi_zipA (by rfl) T.f_zip (pa_cons (pe_ix ix_kdict (pe_glob (v := .ref (He.ga K "ROLES")) rfl T.g_ROLES rfl) (pe_ix ix_tup (pv 0) pe_int (fun _ _ => rfl)) (fun _ _ => rfl)) (pa_cons (pe_slice sl_tup (pv 0) (po_some pe_int) po_none) pa_nil))) (pg_tup rfl (pgs_cons (pg_name (i := 2) sc_row_reads.nd rfl (Or.inl rfl)) (pgs_cons (pg_name (i := 3) sc_row_reads.nd rfl (Or.inl rfl)) pgs_nil)))
      (pss_one (ps_if (pt_cmpR op_eq (pv 2) pe_str (nomark _)) (pss_one (ps_expr (pe_bm PySem.F.plainAttrs_list PySem.F.slot_list_append PySem.F.type_list_append mt_append (pv 1) (pa_cons (pv 3) pa_nil)))) (pss_one (ps_if (pt_cmpR op_eq (pv 2) pe_str (nomark _)) (pss_one (ps_expr (pe_bm PySem.F.plainAttrs_list PySem.F.slot_list_extend PySem.F.type_list_extend mt_extend (pv 1) (pa_cons (pv 3) pa_nil)))) pss_nil)))))
      (pss_one (ps_ret (pv 1))))), ?_⟩
    have hro : ∀ H, SqT K H (rolA K r.word) (r.roles.map V.str) := fun H => (T.role (rx_roles_mem r) H).2
    have hlp : (r.parts (.ref m)).length ≤ 3 := by cases r <;> simp [Rx.parts]
    have hlr := r.lens (.ref m)
    refine ⟨sz_of (by decide), fun l hl => ?_⟩
    have s0 : Same H (upd H l (.lst [])) := Same.new hl
    refine ⟨_, rfl, _, _, _, _, rfl, rfl, SqT.of (s0 _ _ ha), at0, _, _, _, rfl, rfl, T.roleK (rx_roles_mem r), ?_⟩
    refine ⟨_, rfl, 1, rfl, a, _, rfl, SqT.of (s0 _ _ ha), slice1.2, fun t ht => ?_⟩
    have s1 : Same (upd H l (.lst [])) (upd (upd H l (.lst [])) t (.tup (cutV (V.str r.word :: r.parts (.ref m)) (some 1) none))) := Same.new ht
    have ht1 : (upd (upd H l (.lst [])) t (.tup (cutV (V.str r.word :: r.parts (.ref m)) (some 1) none))) t = some (.tup (r.parts (.ref m))) := by
      rw [upd_same]
      exact congrArg (fun l => some (HO.tup l)) slice1.1
    have hnl : r.namesOf.length ≤ 1000 := by
      unfold Rx.namesOf
      cases e : r.args with
      | none => simp
      | some bs => exact (hm bs e).2
    refine ⟨_, t, _, r.parts (.ref m), rfl, .inr ⟨hro _, SqT.of ht1, ?_⟩⟩
    refine for_it (walk_zipT (K := K) (xs := r.roles.map V.str) (ys := r.parts (.ref m)) (n := (r.parts (.ref m)).length) (by rw [List.length_map, hlr, Nat.min_self])) (fun i σ H1 => ∃ v1 v2 : Option V, σ = [some (.ref a), some (.ref l), v1, v2] ∧ Same H H1 ∧ H1 t = some (.tup (r.parts (.ref m))) ∧ H1 l = some (.lst (rdG (r.namesOf.map V.str) (r.roles.take i) ((r.parts (.ref m)).take i)))) ⟨none, none, rfl, s0.trans s1, ht1, s1 _ _ upd_same⟩ (fun i σ H1 _ ⟨_, _, _, _, h3, _⟩ => ⟨hro _, SqT.of h3⟩) ?_ ?_
    · rintro i y σ H1 H2 hi ⟨v1, v2, rfl, s2, h3, h4⟩ ⟨u, x, v, rfl, hu0, rfl, hx, hv⟩
      obtain ⟨role, e, rfl⟩ := map_get (show (r.roles.map V.str)[i]? = some x from hx)
      have hv : (r.parts (.ref m))[i]? = some v := hv
      have s3 : Same H1 (upd H1 u (.tup [V.str role, v])) := Same.new hu0
      have hsn := rdG_snoc (as := r.namesOf.map V.str) e hv
      have hsz : (rdG (r.namesOf.map V.str) (r.roles.take i) ((r.parts (.ref m)).take i)).length ≤ 3003 := by
        refine Nat.le_trans (rdG_len _ _) ?_
        rw [List.length_take, List.length_map]
        have h6 : min i r.roles.length ≤ 3 := by omega
        exact Nat.le_trans (Nat.mul_le_mul h6 (Nat.succ_le_succ hnl)) (by decide)
      have keep : ∀ {o : List V}, (upd (upd H1 u (.tup [V.str role, v])) l (.lst o)) t = some (.tup (r.parts (.ref m))) := fun {o} => by
        rw [upd_ne]
        · exact s3 _ _ h3
        · intro z
          rw [z, h4] at h3
          cases h3
      refine ⟨u, _, rfl, SqT.of upd_same, rfl, _, _, rfl, _, _, rfl, rfl, ?_⟩
      refine ⟨_, rfl, rfl, _, rfl, ?_⟩
      by_cases c : role = "reads"
      · rw [if_pos c] at hsn
        refine ifT (decide_eq_true (by rw [c])) ?_
        refine ⟨_, rfl, .inl ⟨rfl, _, SqL.of (s3 _ _ h4)⟩, _, rfl, l, _, _, rfl, rfl, s3 _ _ h4, sz_lt (by omega), ?_⟩
        exact ⟨_, _, rfl, Same.mut (s2.trans s3) hl, keep, by rw [upd_same, hsn]⟩
      · rw [if_neg c] at hsn
        refine ifF (decide_eq_false (fun z => c (V.str.inj z))) ?_
        refine ⟨_, rfl, rfl, _, rfl, ?_⟩
        by_cases c2 : role = "many"
        · subst c2
          obtain ⟨bs, hbs, rfl⟩ := Rx.many_at e hv
          rw [if_pos rfl] at hsn
          have hn : r.namesOf = bs := by
            unfold Rx.namesOf
            rw [hbs]
            rfl
          rw [hn] at hsn hsz h4
          refine ifT (decide_eq_true rfl) ?_
          have hml := s3 _ _ (s2 _ _ (hm bs hbs).1)
          refine ⟨_, rfl, .inl ⟨rfl, _, SqL.of (s3 _ _ h4)⟩, _, rfl, l, m, _, _, rfl, rfl, s3 _ _ h4, hml, sz_of (by have := (hm bs hbs).2; rw [List.length_map]; omega), ?_⟩
          refine ⟨_, _, rfl, Same.mut (s2.trans s3) hl, ?_, by rw [upd_same, hn, hsn]⟩
          rw [upd_ne]
          · exact s3 _ _ h3
          · intro z
            rw [z, h4] at h3
            cases h3
        · rw [if_neg c2, List.append_nil] at hsn
          refine ifF (decide_eq_false (fun z => c2 (V.str.inj z))) ?_
          refine ⟨_, _, rfl, s2.trans s3, s3 _ _ h3, ?_⟩
          rw [hsn]
          exact s3 _ _ h4
    · rintro σ H1 ⟨v1, v2, rfl, s2, h3, h4⟩
      refine ⟨_, rfl, k l _ s2 hl ?_⟩
      rw [h4, List.take_of_length_le (by rw [hlr]; exact Nat.le_refl _), List.take_length, r.rd _ _ (fun bs hb => by unfold Rx.namesOf; rw [hb]; rfl)]

end
end W1
set_option Elab.async false
set_option linter.all false
set_option maxRecDepth 100000
set_option maxHeartbeats 4000000
namespace W1
open PySem PySem.Spec PyProof.Rows L2 RZ
section
variable {P : Program} {w : World} {K : PySem.W.Frag} {mg : Str → Option Value} {base : Heap}

def Rx.names (r : Rx) : List Str := match r.sets with
  | some k => k :: r.reads
  | none => r.reads
def ArgsAt (H : Hp) (l : Addr) (r : Rx) : Prop := ∀ bs, r.args = some bs → H l = some (.lst (bs.map V.str)) ∧ bs.length ≤ 1000
theorem ArgsAt.mono {H H' : Hp} {l : Addr} {r : Rx} (h : ArgsAt H l r) (e : Same H H') : ArgsAt H' l r := fun bs q => ⟨e _ _ (h bs q).1, (h bs q).2⟩
def spNamesInG : Sp := fun vs H Q _ => ∃ (a l : Addr) (r : Rx), vs = [.ref a] ∧ H a = some (.tup (.str r.word :: r.parts (.ref l))) ∧ ArgsAt H l r ∧ ∀ p H', Same H H' → H' p = some (.lst (r.names.map V.str)) → Q (.ref p) H' 
theorem sc_names_in : FnScope ["row", "names", "name"] ["row"] (defScope s_names_in) := ⟨rfl, rfl, rfl, by decide +kernel, rfl, by decide +kernel, by decide +kernel⟩
theorem ok_names_in (T : Ctx w K mg) (H_row_reads : Has P w K mg base 1 "row_reads" ["row"] spReadsG) (H_row_sets : Has P w K mg base 1 "row_sets" ["row"] spSetsG) : Has P w K mg base 2 "_names_in" ["row"] spNamesInG := by
  obtain ⟨fd, F⟩ := T.D_names_in
  obtain ⟨fd_row_reads, G_row_reads, b_row_reads⟩ := H_row_reads.ex
  obtain ⟨fd_row_sets, G_row_sets, b_row_sets⟩ := H_row_sets.ex
  refine ⟨⟨fd, F.ok sc_names_in (fun vs H Q E h => ?_) (fun cdv A outer s H vs Q E hr h => ?_), F.bindsN fun _ _ _ _ _ _ us hl => match us, hl with | [_], _ => rfl⟩, F.kp, T.g_names_in⟩
  · obtain ⟨a, l, r, rfl, ha, hm, k⟩ := h; rfl
  · obtain ⟨a, l, r, rfl, ha, hm, k⟩ := h
    have hr_row_reads : Room 1 _ := hr.mono (by decide)
    have hr_row_sets : Room 1 _ := hr.mono (by decide)
    have hu := hu_of hr
    refine ⟨_, PSs.nox (pss_cons (ps_set (i := 1) sc_names_in.nd rfl (Or.inl rfl) (pe_call G_row_reads hr_row_reads (by rfl) H_row_reads.gl H_row_reads.kp b_row_reads .nil pass0 (pa_cons (pv 0) pa_nil)))
      (pss_cons (ps_set (i := 2) sc_names_in.nd rfl (Or.inl rfl) (pe_call G_row_sets hr_row_sets (by rfl) H_row_sets.gl H_row_sets.kp b_row_sets .nil pass0 (pa_cons (pv 0) pa_nil)))
      (pss_one (ps_ret (pe_ifExp (pt_cmpR op_isN (pv 2) pe_non (nomark _)) (pv 1) (pe_lst (pa_cons (pv 2) (StX.pa_star (pv 1) pa_nil)))))))), ?_⟩
    refine ⟨_, rfl, a, l, r, rfl, ha, hm, fun p H1 s1 _ hp => ?_⟩
    refine ⟨_, rfl, a, .ref l, r, rfl, s1 _ _ ha, ?_⟩
    refine ⟨_, rfl, rfl, _, rfl, ?_⟩
    have hrl : r.reads.length ≤ 1003 := by
      cases r with
      | call x F bs =>
        have := (hm bs rfl).2
        simp only [Rx.reads]
        omega
      | _ => simp [Rx.reads]
    cases e : r.sets with
    | none =>
      refine ifT rfl ⟨_, rfl, k p _ s1 ?_⟩
      rw [hp]
      unfold Rx.names
      rw [e]
    | some x =>
      refine ifF rfl ⟨_, rfl, _, rfl, _, _, rfl, .inr (SqL.of hp), ?_⟩
      refine ⟨sz_of ?_, fun q hq => k q _ (s1.trans (Same.new hq)) ?_⟩
      · simp only [List.length_append, List.length_cons, List.length_nil, List.length_map]
        omega
      · rw [upd_same]
        unfold Rx.names
        rw [e]
        simp [oS]
/-- a Function's head, where it stands -/
structure HeadG (K : PySem.W.Frag) (H : Hp) (fp dx pa : Addr) (fs : List (Str × V)) (ps : List Addr) (qs : List (Str × Str)) (res : Str) : Prop where
  ob : H fp = some (.ins (He.ga K "Function") dx fs)
  f1 : fs.lookup ("params" : Str) = some (.ref pa)
  f2 : fs.lookup ("result" : Str) = some (.str res)
  d1 : SqT K H pa (ps.map V.ref)
  len : ps.length = qs.length
  le : qs.length ≤ 100
  at_ : ∀ (i : Nat) p q, ps[i]? = some p → qs[i]? = some q → SqT K H p [.str q.1, .str q.2]
theorem HeadG.mono {H H' : Hp} {fp dx pa : Addr} {fs : List (Str × V)} {ps : List Addr} {qs : List (Str × Str)} {res : Str} (h : HeadG K H fp dx pa fs ps qs res) (e : Same H H') : HeadG K H' fp dx pa fs ps qs res :=
  ⟨e _ _ h.ob, h.f1, h.f2, Same.tup e h.d1, h.len, h.le, fun i p q a b => Same.tup e (h.at_ i p q a b)⟩
/-- the kinds of variables, as a dict tells them -/
def KindOf (kv : List (Key × V)) (x q : Str) : Prop := valV kv (Sum.inr x : Key) = some (.str q)
def spCallFits (K : PySem.W.Frag) : Sp := fun vs H Q _ => ∃ (fp dx pa a l d : Addr) (fs : List (Str × V)) (ps : List Addr) (qs : List (Str × Str)) (res x F : Str) (bs : List Str) (kv : List (Key × V)), vs = [.ref fp, .ref a, .ref d] ∧ HeadG K H fp dx pa fs ps qs res ∧ H a = some (.tup [.str "call", .str x, .str F, .ref l]) ∧ H l = some (.lst (bs.map V.str)) ∧ H d = some (.dK kv) ∧
  bs.length = qs.length ∧ (∀ (i : Nat) y q, bs[i]? = some y → qs[i]? = some q → KindOf kv y q.2) ∧ (∀ q ∈ qs, PyData.strOk q.2 = true) ∧ KindOf kv x res ∧ ∀ H', Same H H' → Q (.bl true) H'
theorem dpStr {H : Hp} {a : Addr} {ns : List Str} (h : H a = some (.lst (ns.map V.str))) : Dp K H (.ref a) (.list (ns.map PyData.str)) := by
  refine .lst (SqL.of h) ?_
  clear h
  induction ns with
  | nil => exact .nil
  | cons x l ih => exact .cons (.str _) ih
theorem strs_ok : ∀ {ns : List Str}, (∀ x ∈ ns, PyData.strOk x = true) → SeqAt.shaped (.list (ns.map PyData.str)) = true := by
  intro ns h
  have key : ∀ {ns : List Str}, (∀ x ∈ ns, PyData.strOk x = true) → PyData.canLayAll0 (ns.map PyData.str) = true ∧ PyData.depthAll (ns.map PyData.str) = 0 := by
    intro ns
    induction ns with
    | nil => exact fun _ => ⟨rfl, rfl⟩
    | cons a l ih =>
      intro h
      obtain ⟨h1, h2⟩ := ih fun k m => h k (List.mem_cons_of_mem _ m)
      rw [List.map_cons, PyData.canLayAll0, PyData.depthAll, h1, h2, PyData.canLay0, PyData.depth, h a List.mem_cons_self]
      exact ⟨rfl, rfl⟩
  unfold SeqAt.shaped
  rw [PyData.canLay0, PyData.depth, (key h).1, (key h).2]
  rfl
theorem sc_call_fits : FnScope ["function", "row", "kinds", "given", "name", "_", "kind"] ["function", "row", "kinds"] (defScope s_call_fits) := ⟨rfl, rfl, rfl, by decide +kernel, rfl, by decide +kernel, by decide +kernel⟩
theorem ok_call_fits (T : Ctx w K mg) : Has P w K mg base 1 "_call_fits" ["function", "row", "kinds"] (spCallFits K) := by
  obtain ⟨fd, F⟩ := T.D_call_fits
  refine ⟨⟨fd, F.ok sc_call_fits (fun vs H Q E h => ?_) (fun cdv A outer s H vs Q E hr h => ?_), F.bindsN fun _ _ _ _ _ _ us hl => match us, hl with | [_, _, _], _ => rfl⟩, F.kp, T.g_call_fits⟩
  · obtain ⟨fp, dx, pa, a, l, d, fs, ps, qs, res, x, F, bs, kv, rfl, hh, ha, hlst, hd, hbl, hk, hok, hx, k⟩ := h; rfl
  · obtain ⟨fp, dx, pa, a, l, d, fs, ps, qs, res, x, F, bs, kv, rfl, hh, ha, hlst, hd, hbl, hk, hok, hx, k⟩ := h
    have hu := hu_of hr
    refine ⟨_, PSs.nox (pss_cons (ps_setLc (i := 3) (own := [("name", 4)]) (g := gName 4) (tt := tYes) rfl sc_call_fits.nd rfl rfl (sw_true rfl rfl rfl (by decide +kernel)) (pi_list (pe_ix ix_tup (pv 1) pe_int (fun _ _ => rfl))) (blkOk_by (N := ["function", "row", "kinds", "given", "name", "_", "kind"]) (sc := defScope s_call_fits) (by decide +kernel)) (fun _ _ _ _ _ => (pg_name (i := 4) sc_call_fits.nd rfl (Or.inl rfl))) (fun _ _ _ _ _ => pts_nil) (fun _ _ _ _ _ => (pe_dget hu (pv 2) (pv 4) (fun _ _ => rfl))))
      (pss_one (ps_ret (pe_and (pe_cmpR (op_eqD hr.units) (pv 3) (pe_lc (own := [("_", 5), ("kind", 6)]) (g := gTup K 2 (gCons (gName 5) (gCons (gName 6) (gNil)))) (tt := tYes) rfl sc_call_fits.nd (pi_tup (pe_fldK (K := K) rfl (pv 0) (by rfl))) (blkOk_by (N := ["function", "row", "kinds", "given", "name", "_", "kind"]) (sc := defScope s_call_fits) (by decide +kernel)) (fun _ _ _ _ _ => (pg_tup rfl (pgs_cons (pg_name (i := 5) sc_call_fits.nd rfl (Or.inl rfl)) (pgs_cons (pg_name (i := 6) sc_call_fits.nd rfl (Or.inl rfl)) pgs_nil)))) (fun _ _ _ _ _ => pts_nil) (fun _ _ _ _ _ => (pv 6))) (nomark _)) (pe_one (pe_cmpR op_eq (pe_dget hu (pv 2) (pe_ix ix_tup (pv 1) pe_int (fun _ _ => rfl)) (fun _ _ => rfl)) (pe_fldK (K := K) rfl (pv 0) (by rfl)) (nomark _))))))), ?_⟩
    have dg : ∀ {y q : Str}, KindOf kv y q → ∀ H', Same H H' → DGet H' d (.str y) (some (.str q)) := fun hx H' s' => by
      rw [← hx]
      exact DGet.k (k := Sum.inr _) (s' _ _ hd)
    refine ⟨_, rfl, _, _, _, _, rfl, rfl, SqT.of ha, at3, l, rfl, ⟨_, SqL.of hlst⟩, fun D hD => ?_⟩
    refine lc_pure (walk_list (K := K) (a := l) (xs := bs.map V.str)) hD (fun i => .str (qs.getD i ("", "")).2) (by rw [List.length_map]; have := hh.le; omega) (fun H1 s1 => SqL.of (s1 _ _ hlst)) (fun i H1 y H2 hi s1 hy Qe qe => ?_) (fun H1 s1 h1 => ?_)
    · obtain ⟨rfl, hy⟩ := hy
      obtain ⟨x1, hx1, rfl⟩ := map_get hy
      have hiq : i < qs.length := by
        rw [List.length_map] at hi
        omega
      have hq : qs[i]? = some qs[i] := List.getElem?_eq_getElem hiq
      have eq1 : (qs.getD i ("", "")).2 = qs[i].2 := by
        rw [List.getD_eq_getElem?_getD, hq]
        rfl
      rw [eq1] at qe
      exact ⟨rfl, _, rfl, _, rfl, d, .str qs[i].2, rfl, dg (hk i x1 qs[i] hx1 hq) _ s1, qe _ (Same.refl _)⟩
    rw [List.length_map, hbl] at h1
    have hh1 := hh.mono s1
    refine ⟨_, rfl, _, rfl, fp, _, dx, fs, _, rfl, hh1.ob, T.c_Function, T.n_Function_params, hh1.f1, pa, rfl, ⟨_, hh1.d1⟩, fun E2 hE => ?_⟩
    refine lc_pure (walk_tup (K := K) (a := pa) (xs := ps.map V.ref)) hE (fun i => .str (qs.getD i ("", "")).2) (by rw [List.length_map, hh.len]; have := hh.le; omega) (fun H2 s2 => (hh1.mono s2).d1) (fun i H2 y H3 hi s2 hy Qe qe => ?_) (fun H2 s2 h2 => ?_)
    · obtain ⟨rfl, hy⟩ := hy
      obtain ⟨p1, hp1, rfl⟩ := map_get hy
      have hiq : i < qs.length := by
        rw [List.length_map, hh.len] at hi
        exact hi
      have hq : qs[i]? = some qs[i] := List.getElem?_eq_getElem hiq
      have eq1 : (qs.getD i ("", "")).2 = qs[i].2 := by
        rw [List.getD_eq_getElem?_getD, hq]
        rfl
      rw [eq1] at qe
      exact ⟨p1, _, rfl, (hh1.mono s2).at_ i p1 _ hp1 hq, rfl, _, _, rfl, _, _, rfl, rfl, rfl, _, rfl, qe _ (Same.refl _)⟩
    rw [List.length_map, hh.len] at h2
    have el : (List.range qs.length).map (fun i => V.str (qs.getD i ("", "")).2) = (qs.map Prod.snd).map V.str := by
      apply List.ext_getElem
      · simp
      · intro i h1 h2
        simp at h1
        simp [h1]
    rw [el] at h1 h2
    have hs : SeqAt.shaped (.list ((qs.map Prod.snd).map PyData.str)) = true := strs_ok fun x m => by
      obtain ⟨q, hq, rfl⟩ := List.mem_map.mp m
      exact hok q hq
    have s12 := s1.trans s2
    refine ⟨_, _, dpStr (s2 _ _ h1), dpStr h2, hs, hs, ?_⟩
    refine ⟨_, rfl, ?_⟩
    rw [SeqAt.eqv_refl _ (SeqAt.canLay_of_shaped hs)]
    refine iteT ?_
    exact ⟨_, rfl, _, rfl, _, _, _, _, rfl, rfl, SqT.of (s12 _ _ ha), at1, d, .str res, rfl, dg hx _ s12, _, rfl, fp, _, dx, fs, _, rfl, (hh1.mono s2).ob, T.c_Function, T.n_Function_result, hh.f2, rfl, qT (decide_eq_true rfl) (k _ s12)⟩

end
end W1
set_option Elab.async false
set_option linter.all false
set_option maxRecDepth 100000
set_option maxHeartbeats 4000000
namespace W1
open PySem PySem.Spec PyProof.Rows L2 RZ
section
variable {P : Program} {w : World} {K : PySem.W.Frag} {mg : Str → Option Value} {base : Heap}

/-- a row of the right kinds: field kinds ks, functions us, variables kv, the function's result -/
def KindsG (K : PySem.W.Frag) (H : Hp) (ks us kv : List (Key × V)) (res : Str) : Rx → Prop
  | .num x _ => KindOf kv x "number"
  | .bin _ x y z => KindOf kv x "number" ∧ KindOf kv y "number" ∧ KindOf kv z "number"
  | .ifz x _ => KindOf kv x "number"
  | .get x y f => ∃ q : Str, KindOf kv y "object" ∧ KindOf kv x q ∧ valV ks (Sum.inr f : Key) = some (.str q)
  | .put x f y => ∃ q : Str, KindOf kv x "object" ∧ KindOf kv y q ∧ valV ks (Sum.inr f : Key) = some (.str q)
  | .call x F bs => ∃ fp dx pa fs ps qs rs, valV us (Sum.inr F : Key) = some (.ref fp) ∧ HeadG K H fp dx pa fs ps qs rs ∧ bs.length = qs.length ∧ (∀ (i : Nat) y q, bs[i]? = some y → qs[i]? = some q → KindOf kv y q.2) ∧ (∀ q ∈ qs, PyData.strOk q.2 = true) ∧ KindOf kv x rs
  | .same x y z => ∃ q, KindOf kv x "number" ∧ KindOf kv y q ∧ KindOf kv z q
  | .copy x y => ∃ q, KindOf kv x q ∧ KindOf kv y q
  | .nil x => KindOf kv x "object" | .new x _ => KindOf kv x "object"
  | .ret x => KindOf kv x res
  | .jump _ => True | .see _ => True
def spFitG (K : PySem.W.Frag) : Sp := fun vs H Q _ => ∃ (p a l d : Addr) (cs ks us kv : List (Key × V)) (res : Str) (r : Rx), vs = [.ref p, .ref a, .ref d, .str res] ∧ SrcH K H p cs ks us ∧ H a = some (.tup (.str r.word :: r.parts (.ref l))) ∧ ArgsAt H l r ∧ H d = some (.dK kv) ∧ KindsG K H ks us kv res r ∧ ∀ H', Same H H' → Q (.bl true) H' 
theorem sc_row_kinds_fit : FnScope ["source", "row", "kinds", "result", "word", "name"] ["source", "row", "kinds", "result"] (defScope s_row_kinds_fit) := ⟨rfl, rfl, rfl, by decide +kernel, rfl, by decide +kernel, by decide +kernel⟩
theorem ok_row_kinds_fit (T : Ctx w K mg) (H_names_in : Has P w K mg base 2 "_names_in" ["row"] spNamesInG) (H_call_fits : Has P w K mg base 1 "_call_fits" ["function", "row", "kinds"] (spCallFits K)) (H_Source_field_kind : HasM P w K mg base 1 "Source" "field_kind" ["self", "name"] (spFieldKind K)) (H_Source_function_at : HasM P w K mg base 1 "Source" "function_at" ["self", "name"] (spFunAt K)) : Has P w K mg base 3 "row_kinds_fit" ["source", "row", "kinds", "result"] (spFitG K) := by
  obtain ⟨fd, F⟩ := T.D_row_kinds_fit
  obtain ⟨fd_names_in, G_names_in, b_names_in⟩ := H_names_in.ex
  obtain ⟨fd_call_fits, G_call_fits, b_call_fits⟩ := H_call_fits.ex
  obtain ⟨fd_Source_field_kind, G_Source_field_kind, b_Source_field_kind⟩ := H_Source_field_kind.ex
  obtain ⟨fd_Source_function_at, G_Source_function_at, b_Source_function_at⟩ := H_Source_function_at.ex
  refine ⟨⟨fd, F.ok sc_row_kinds_fit (fun vs H Q E h => ?_) (fun cdv A outer s H vs Q E hr h => ?_), F.bindsN fun _ _ _ _ _ _ us hl => match us, hl with | [_, _, _, _], _ => rfl⟩, F.kp, T.g_row_kinds_fit⟩
  · obtain ⟨p, a, l, d, cs, ks, us, kv, res, r, rfl, S0, ha, hm, hd, hk, k⟩ := h; rfl
  · obtain ⟨p, a, l, d, cs, ks, us, kv, res, r, rfl, S0, ha, hm, hd, hk, k⟩ := h
    have hr_names_in : Room 2 _ := hr.mono (by decide)
    have hr_call_fits : Room 1 _ := hr.mono (by decide)
    have hr_Source_field_kind : Room 1 _ := hr.mono (by decide)
    have hr_Source_function_at : Room 1 _ := hr.mono (by decide)
    have hu := hu_of hr
    refine ⟨_, PSs.nox (pss_cons (ps_set (i := 4) sc_row_kinds_fit.nd rfl (Or.inl rfl) (pe_ix ix_tup (pv 1) pe_int (fun _ _ => rfl)))
      (pss_cons (ps_if (pt_cmpR op_in_seq (pv 4) (pe_glob (v := .ref (He.ga K "NUMBER_WORDS")) rfl T.g_NUMBER_WORDS rfl) rfl) (pss_one (ps_ret (pe_callB (cr_all rfl) (by rfl) T.f_all (by decide +kernel) (pa_cons (pe_lc (own := [("name", 5)]) (g := gName 5) (tt := tYes) rfl sc_row_kinds_fit.nd (pi_list (pe_call G_names_in hr_names_in (by rfl) H_names_in.gl H_names_in.kp b_names_in .nil pass0 (pa_cons (pv 1) pa_nil))) (blkOk_by (N := ["source", "row", "kinds", "result", "word", "name"]) (sc := defScope s_row_kinds_fit) (by decide +kernel)) (fun _ _ _ _ _ => (pg_name (i := 5) sc_row_kinds_fit.nd rfl (Or.inl rfl))) (fun _ _ _ _ _ => pts_nil) (fun _ _ _ _ _ => (pe_cmpR op_eq (pe_dget hu (pv 2) (pv 5) (fun _ _ => rfl)) pe_str (nomark _)))) pa_nil)))) pss_nil)
      (pss_cons (ps_if (pt_cmpR op_eq (pv 4) pe_str (nomark _)) (pss_one (ps_ret (pe_and (pe_cmpR op_eq (pe_dget hu (pv 2) (pe_ix ix_tup (pv 1) pe_int (fun _ _ => rfl)) (fun _ _ => rfl)) pe_str (nomark _)) (pe_one (pe_cmpR op_eq (pe_dget hu (pv 2) (pe_ix ix_tup (pv 1) pe_int (fun _ _ => rfl)) (fun _ _ => rfl)) (pe_meth (pv 0) T.c_Source T.m_Source_field_kind G_Source_field_kind hr_Source_field_kind b_Source_field_kind .nil pass0 (pa_cons (pe_ix ix_tup (pv 1) pe_int (fun _ _ => rfl)) pa_nil)) (nomark _)))))) pss_nil)
      (pss_cons (ps_if (pt_cmpR op_eq (pv 4) pe_str (nomark _)) (pss_one (ps_ret (pe_and (pe_cmpR op_eq (pe_dget hu (pv 2) (pe_ix ix_tup (pv 1) pe_int (fun _ _ => rfl)) (fun _ _ => rfl)) pe_str (nomark _)) (pe_one (pe_cmpR op_eq (pe_dget hu (pv 2) (pe_ix ix_tup (pv 1) pe_int (fun _ _ => rfl)) (fun _ _ => rfl)) (pe_meth (pv 0) T.c_Source T.m_Source_field_kind G_Source_field_kind hr_Source_field_kind b_Source_field_kind .nil pass0 (pa_cons (pe_ix ix_tup (pv 1) pe_int (fun _ _ => rfl)) pa_nil)) (nomark _)))))) pss_nil)
      (pss_cons (ps_if (pt_cmpR op_eq (pv 4) pe_str (nomark _)) (pss_one (ps_ret (pe_call G_call_fits hr_call_fits (by rfl) H_call_fits.gl H_call_fits.kp b_call_fits .nil pass0 (pa_cons (pe_meth (pv 0) T.c_Source T.m_Source_function_at G_Source_function_at hr_Source_function_at b_Source_function_at .nil pass0 (pa_cons (pe_ix ix_tup (pv 1) pe_int (fun _ _ => rfl)) pa_nil)) (pa_cons (pv 1) (pa_cons (pv 2) pa_nil)))))) pss_nil)
      (pss_cons (ps_if (pt_cmpR op_eq (pv 4) pe_str (nomark _)) (pss_one (ps_ret (pe_and (pe_cmpR op_eq (pe_dget hu (pv 2) (pe_ix ix_tup (pv 1) pe_int (fun _ _ => rfl)) (fun _ _ => rfl)) pe_str (nomark _)) (pe_one (pe_cmpR op_eq (pe_dget hu (pv 2) (pe_ix ix_tup (pv 1) pe_int (fun _ _ => rfl)) (fun _ _ => rfl)) (pe_dget hu (pv 2) (pe_ix ix_tup (pv 1) pe_int (fun _ _ => rfl)) (fun _ _ => rfl)) (nomark _)))))) pss_nil)
      (pss_cons (ps_if (pt_cmpR op_eq (pv 4) pe_str (nomark _)) (pss_one (ps_ret (pe_cmpR op_eq (pe_dget hu (pv 2) (pe_ix ix_tup (pv 1) pe_int (fun _ _ => rfl)) (fun _ _ => rfl)) (pe_dget hu (pv 2) (pe_ix ix_tup (pv 1) pe_int (fun _ _ => rfl)) (fun _ _ => rfl)) (nomark _)))) pss_nil)
      (pss_cons (ps_if (pt_cmpR op_in_seq (pv 4) (pe_tup (pa_cons pe_str (pa_cons pe_str pa_nil))) rfl) (pss_one (ps_ret (pe_cmpR op_eq (pe_dget hu (pv 2) (pe_ix ix_tup (pv 1) pe_int (fun _ _ => rfl)) (fun _ _ => rfl)) pe_str (nomark _)))) pss_nil)
      (pss_one (ps_ret (pe_or (pe_cmpR op_ne (pv 4) pe_str (nomark _)) (pe_one (pe_cmpR op_eq (pe_dget hu (pv 2) (pe_ix ix_tup (pv 1) pe_int (fun _ _ => rfl)) (fun _ _ => rfl)) (pv 3) (nomark _)))))))))))))), ?_⟩
    obtain ⟨dx0, df, dk, du, fs0, S⟩ := id S0
    have dg : ∀ {y q : Str}, KindOf kv y q → ∀ H', Same H H' → DGet H' d (.str y) (some (.str q)) := fun hx H' s' => by
      rw [← hx]
      exact DGet.k (k := Sum.inr _) (s' _ _ hd)
    refine ⟨_, rfl, _, _, _, _, rfl, rfl, SqT.of ha, at0, ?_⟩
    refine ⟨_, rfl, _, _, rfl, .inr (T.numwords H), rfl, rfl, _, rfl, ?_⟩
    cases r with
    | num x n =>
      let r0 : Rx := .num x n
      have hn : ∀ x ∈ r0.names, KindOf kv x "number" := fun z m => by
        have e : z = x := by simpa [r0, Rx.names, Rx.sets, Rx.reads] using m
        rw [e]
        exact hk
      have hnl : r0.names.length ≤ 5 := by show _ ≤ 5; simp [r0, Rx.names, Rx.sets, Rx.reads]
      refine ifT rfl ?_
      refine ⟨_, rfl, a, l, r0, rfl, ha, hm, fun p1 H1 s1 hp => ⟨p1, rfl, ⟨_, SqL.of hp⟩, fun D hD => ?_⟩⟩
      refine lc_pure (walk_list (K := K) (a := p1) (xs := r0.names.map V.str)) hD (fun _ => .bl true) (by rw [List.length_map]; exact Nat.lt_of_le_of_lt hnl (by decide)) (fun H2 s2 => SqL.of (s2 _ _ hp)) (fun i H2 y H3 hi s2 hy Qe qe => ?_) (fun H2 s2 h2 => ?_)
      · obtain ⟨rfl, hy⟩ := hy
        obtain ⟨x1, hx1, rfl⟩ := map_get hy
        exact ⟨rfl, _, rfl, _, rfl, d, .str "number", rfl, dg (hn x1 (List.mem_of_getElem? hx1)) _ (s1.trans s2), rfl, qT (decide_eq_true rfl) (qe _ (Same.refl _))⟩
      · exact ⟨D, (List.range (r0.names.map V.str).length).map (fun _ => true), rfl, SqL.of (by rw [h2, List.map_map]; rfl), qT all_true (k _ (s1.trans s2))⟩
    | ifz x n =>
      let r0 : Rx := .ifz x n
      have hn : ∀ x ∈ r0.names, KindOf kv x "number" := fun z m => by
        have e : z = x := by simpa [r0, Rx.names, Rx.sets, Rx.reads] using m
        rw [e]
        exact hk
      have hnl : r0.names.length ≤ 5 := by show _ ≤ 5; simp [r0, Rx.names, Rx.sets, Rx.reads]
      refine ifT rfl ?_
      refine ⟨_, rfl, a, l, r0, rfl, ha, hm, fun p1 H1 s1 hp => ⟨p1, rfl, ⟨_, SqL.of hp⟩, fun D hD => ?_⟩⟩
      refine lc_pure (walk_list (K := K) (a := p1) (xs := r0.names.map V.str)) hD (fun _ => .bl true) (by rw [List.length_map]; exact Nat.lt_of_le_of_lt hnl (by decide)) (fun H2 s2 => SqL.of (s2 _ _ hp)) (fun i H2 y H3 hi s2 hy Qe qe => ?_) (fun H2 s2 h2 => ?_)
      · obtain ⟨rfl, hy⟩ := hy
        obtain ⟨x1, hx1, rfl⟩ := map_get hy
        exact ⟨rfl, _, rfl, _, rfl, d, .str "number", rfl, dg (hn x1 (List.mem_of_getElem? hx1)) _ (s1.trans s2), rfl, qT (decide_eq_true rfl) (qe _ (Same.refl _))⟩
      · exact ⟨D, (List.range (r0.names.map V.str).length).map (fun _ => true), rfl, SqL.of (by rw [h2, List.map_map]; rfl), qT all_true (k _ (s1.trans s2))⟩
    | bin kk x y z =>
      let r0 : Rx := .bin kk x y z
      have hn : ∀ x ∈ r0.names, KindOf kv x "number" := fun u m => by
        have e : u = x ∨ u = y ∨ u = z := by simpa [r0, Rx.names, Rx.sets, Rx.reads] using m
        obtain ⟨h1, h2, h3⟩ := hk
        rcases e with e | e | e
        · rw [e]; exact h1
        · rw [e]; exact h2
        · rw [e]; exact h3
      have hnl : r0.names.length ≤ 5 := by show _ ≤ 5; simp [r0, Rx.names, Rx.sets, Rx.reads]
      refine ifT (by
        have key : ∀ kk : Fin 4, inV (V.str (binW kk)) (v_NUMBER_WORDS.map fun d => match d with | .str x => V.str x | _ => V.non) = true := by decide +kernel
        exact key kk) ?_
      refine ⟨_, rfl, a, l, r0, rfl, ha, hm, fun p1 H1 s1 hp => ⟨p1, rfl, ⟨_, SqL.of hp⟩, fun D hD => ?_⟩⟩
      refine lc_pure (walk_list (K := K) (a := p1) (xs := r0.names.map V.str)) hD (fun _ => .bl true) (by rw [List.length_map]; exact Nat.lt_of_le_of_lt hnl (by decide)) (fun H2 s2 => SqL.of (s2 _ _ hp)) (fun i H2 y H3 hi s2 hy Qe qe => ?_) (fun H2 s2 h2 => ?_)
      · obtain ⟨rfl, hy⟩ := hy
        obtain ⟨x1, hx1, rfl⟩ := map_get hy
        exact ⟨rfl, _, rfl, _, rfl, d, .str "number", rfl, dg (hn x1 (List.mem_of_getElem? hx1)) _ (s1.trans s2), rfl, qT (decide_eq_true rfl) (qe _ (Same.refl _))⟩
      · exact ⟨D, (List.range (r0.names.map V.str).length).map (fun _ => true), rfl, SqL.of (by rw [h2, List.map_map]; rfl), qT all_true (k _ (s1.trans s2))⟩
    | get x y f =>
      obtain ⟨q, h1, h2, h3⟩ := hk
      refine ifF rfl ⟨_, rfl, rfl, _, rfl, ifT rfl ?_⟩
      exact ⟨_, rfl, _, rfl, _, _, _, _, rfl, rfl, SqT.of ha, at2, d, .str "object", rfl, dg h1 _ (Same.refl H), rfl, _, rfl, ifT (decide_eq_true rfl) ⟨_, rfl, _, rfl, _, _, _, _, rfl, rfl, SqT.of ha, at1, d, .str q, rfl, dg h2 _ (Same.refl H), _, rfl, p, dx0, fs0, rfl, S.ob, S.nm _ (by decide +kernel), _, rfl, _, _, _, _, rfl, rfl, SqT.of ha, at3, p, cs, ks, us, f, .str q, rfl, S0, h3, rfl, qT (decide_eq_true rfl) (k _ (Same.refl H))⟩⟩
    | put x f y =>
      obtain ⟨q, h1, h2, h3⟩ := hk
      refine ifF rfl ⟨_, rfl, rfl, _, rfl, ifF rfl ⟨_, rfl, rfl, _, rfl, ifT rfl ?_⟩⟩
      exact ⟨_, rfl, _, rfl, _, _, _, _, rfl, rfl, SqT.of ha, at1, d, .str "object", rfl, dg h1 _ (Same.refl H), rfl, _, rfl, ifT (decide_eq_true rfl) ⟨_, rfl, _, rfl, _, _, _, _, rfl, rfl, SqT.of ha, at3, d, .str q, rfl, dg h2 _ (Same.refl H), _, rfl, p, dx0, fs0, rfl, S.ob, S.nm _ (by decide +kernel), _, rfl, _, _, _, _, rfl, rfl, SqT.of ha, at2, p, cs, ks, us, f, .str q, rfl, S0, h3, rfl, qT (decide_eq_true rfl) (k _ (Same.refl H))⟩⟩
    | call x F bs =>
      obtain ⟨fp, dx, pa, fs, ps, qs, rs, h1, h2, h3, h4, h5, h6⟩ := hk
      refine ifF rfl ⟨_, rfl, rfl, _, rfl, ifF rfl ⟨_, rfl, rfl, _, rfl, ifF rfl ⟨_, rfl, rfl, _, rfl, ifT rfl ?_⟩⟩⟩
      exact ⟨_, rfl, p, dx0, fs0, rfl, S.ob, S.nm _ (by decide +kernel), _, rfl, _, _, _, _, rfl, rfl, SqT.of ha, at2, p, cs, ks, us, F, .ref fp, rfl, S0, h1, _, rfl, _, rfl, fp, dx, pa, a, l, d, fs, ps, qs, rs, x, F, bs, kv, rfl, h2, ha, (hm bs rfl).1, hd, h3, h4, h5, h6, k⟩
    | same x y z =>
      obtain ⟨q, h1, h2, h3⟩ := hk
      refine ifF rfl ⟨_, rfl, rfl, _, rfl, ifF rfl ⟨_, rfl, rfl, _, rfl, ifF rfl ⟨_, rfl, rfl, _, rfl, ifF rfl ⟨_, rfl, rfl, _, rfl, ifT rfl ?_⟩⟩⟩⟩
      exact ⟨_, rfl, _, rfl, _, _, _, _, rfl, rfl, SqT.of ha, at1, d, .str "number", rfl, dg h1 _ (Same.refl H), rfl, _, rfl, ifT (decide_eq_true rfl) ⟨_, rfl, _, rfl, _, _, _, _, rfl, rfl, SqT.of ha, at2, d, .str q, rfl, dg h2 _ (Same.refl H), _, rfl, _, rfl, _, _, _, _, rfl, rfl, SqT.of ha, at3, d, .str q, rfl, dg h3 _ (Same.refl H), rfl, qT (decide_eq_true rfl) (k _ (Same.refl H))⟩⟩
    | copy x y =>
      obtain ⟨q, h1, h2⟩ := hk
      refine ifF rfl ⟨_, rfl, rfl, _, rfl, ifF rfl ⟨_, rfl, rfl, _, rfl, ifF rfl ⟨_, rfl, rfl, _, rfl, ifF rfl ⟨_, rfl, rfl, _, rfl, ifF rfl ⟨_, rfl, rfl, _, rfl, ifT rfl ?_⟩⟩⟩⟩⟩
      exact ⟨_, rfl, _, rfl, _, _, _, _, rfl, rfl, SqT.of ha, at1, d, .str q, rfl, dg h1 _ (Same.refl H), _, rfl, _, rfl, _, _, _, _, rfl, rfl, SqT.of ha, at2, d, .str q, rfl, dg h2 _ (Same.refl H), rfl, qT (decide_eq_true rfl) (k _ (Same.refl H))⟩
    | nil x => 
      refine ifF rfl ⟨_, rfl, rfl, _, rfl, ifF rfl ⟨_, rfl, rfl, _, rfl, ifF rfl ⟨_, rfl, rfl, _, rfl, ifF rfl ⟨_, rfl, rfl, _, rfl, ifF rfl ⟨_, rfl, rfl, _, rfl, ifF rfl ?_⟩⟩⟩⟩⟩
      refine ⟨_, rfl, sz_of (by decide), fun t ht => ⟨t, _, rfl, .inr (SqT.of upd_same), rfl, rfl, _, rfl, ifT rfl ?_⟩⟩
      have s1 : Same H (upd H t (.tup [.str "nil", .str "new"])) := Same.new ht
      exact ⟨_, rfl, _, rfl, _, _, _, _, rfl, rfl, SqT.of (s1 _ _ ha), at1, d, .str "object", rfl, dg hk _ s1, rfl, qT (decide_eq_true rfl) (k _ s1)⟩
    | new x c => 
      refine ifF rfl ⟨_, rfl, rfl, _, rfl, ifF rfl ⟨_, rfl, rfl, _, rfl, ifF rfl ⟨_, rfl, rfl, _, rfl, ifF rfl ⟨_, rfl, rfl, _, rfl, ifF rfl ⟨_, rfl, rfl, _, rfl, ifF rfl ?_⟩⟩⟩⟩⟩
      refine ⟨_, rfl, sz_of (by decide), fun t ht => ⟨t, _, rfl, .inr (SqT.of upd_same), rfl, rfl, _, rfl, ifT rfl ?_⟩⟩
      have s1 : Same H (upd H t (.tup [.str "nil", .str "new"])) := Same.new ht
      exact ⟨_, rfl, _, rfl, _, _, _, _, rfl, rfl, SqT.of (s1 _ _ ha), at1, d, .str "object", rfl, dg hk _ s1, rfl, qT (decide_eq_true rfl) (k _ s1)⟩
    | ret x =>
      refine ifF rfl ⟨_, rfl, rfl, _, rfl, ifF rfl ⟨_, rfl, rfl, _, rfl, ifF rfl ⟨_, rfl, rfl, _, rfl, ifF rfl ⟨_, rfl, rfl, _, rfl, ifF rfl ⟨_, rfl, rfl, _, rfl, ifF rfl ?_⟩⟩⟩⟩⟩
      refine ⟨_, rfl, sz_of (by decide), fun t ht => ⟨t, _, rfl, .inr (SqT.of upd_same), rfl, rfl, _, rfl, ifF rfl ?_⟩⟩
      have s1 : Same H (upd H t (.tup [.str "nil", .str "new"])) := Same.new ht
      exact ⟨_, rfl, rfl, false, rfl, iteF ⟨_, rfl, _, rfl, _, _, _, _, rfl, rfl, SqT.of (s1 _ _ ha), at1, d, _, rfl, dg hk _ s1, _, rfl, rfl, qT (decide_eq_true rfl) (k _ s1)⟩⟩
    | see x => 
      refine ifF rfl ⟨_, rfl, rfl, _, rfl, ifF rfl ⟨_, rfl, rfl, _, rfl, ifF rfl ⟨_, rfl, rfl, _, rfl, ifF rfl ⟨_, rfl, rfl, _, rfl, ifF rfl ⟨_, rfl, rfl, _, rfl, ifF rfl ?_⟩⟩⟩⟩⟩
      refine ⟨_, rfl, sz_of (by decide), fun t ht => ⟨t, _, rfl, .inr (SqT.of upd_same), rfl, rfl, _, rfl, ifF rfl ?_⟩⟩
      have s1 : Same H (upd H t (.tup [.str "nil", .str "new"])) := Same.new ht
      exact ⟨_, rfl, rfl, true, rfl, iteT (k _ s1)⟩
    | jump x => 
      refine ifF rfl ⟨_, rfl, rfl, _, rfl, ifF rfl ⟨_, rfl, rfl, _, rfl, ifF rfl ⟨_, rfl, rfl, _, rfl, ifF rfl ⟨_, rfl, rfl, _, rfl, ifF rfl ⟨_, rfl, rfl, _, rfl, ifF rfl ?_⟩⟩⟩⟩⟩
      refine ⟨_, rfl, sz_of (by decide), fun t ht => ⟨t, _, rfl, .inr (SqT.of upd_same), rfl, rfl, _, rfl, ifF rfl ?_⟩⟩
      have s1 : Same H (upd H t (.tup [.str "nil", .str "new"])) := Same.new ht
      exact ⟨_, rfl, rfl, true, rfl, iteT (k _ s1)⟩

end
end W1
set_option Elab.async false
set_option linter.all false
set_option maxRecDepth 100000
set_option maxHeartbeats 4000000
namespace W1
open PySem PySem.Spec PyProof.Rows L2 RZ
section
variable {P : Program} {w : World} {K : PySem.W.Frag} {mg : Str → Option Value} {base : Heap}

/-- a comprehension whose elements are values as told, or new tuples -/
def Mix (c : Nat → Bool) (f : Nat → V) (g : Nat → List V) (i : Nat) (H : Hp) (v : V) : Prop := (c i = false ∧ v = f i) ∨ (c i = true ∧ ∃ q, v = .ref q ∧ H q = some (.tup (g i)))
theorem lc_mix {J : It} {n : Nat} {G : Hp → Prop} {Y : Nat → Hp → V → Hp → Prop} (w : Walk J n G Y) {gg : TG} {te : TE} {vs : List Nat} {σ : L2.St} {H0 : Hp} {D : Addr} {Qd : Hp → Prop} (hD : H0 D = none) (c : Nat → Bool) (f : Nat → V) (g : Nat → List V) (hn : n < 100000)
    (hG : ∀ H, Same H0 H → G H)
    (hs : ∀ i H x H', i < n → Same H0 H → Y i H x H' → ∀ Qe : VK, (∀ v H4, Same H H4 → Mix c f g i H4 v → Qe v H4) → gg x (wipe σ vs) H' fun σ2 H2 => wipe σ2 vs = wipe σ vs ∧ te σ2 H2 Qe)
    (hd : ∀ (H : Hp) (xs : List V), Same H0 H → xs.length = n → (∀ (i : Nat) v, xs[i]? = some v → Mix c f g i H v) → H D = some (.lst xs) → Qd H) :
    ∃ W : Nat → Nat → Hp → Prop, (∃ m, W 0 m (upd H0 D (.lst []))) ∧ ∀ i m H, W i m H →
      (J.stop i H ∧ Qd H) ∨ (J.go i H ∧ ∃ Nx : Hp → Prop, (∀ H', Nx H' → ∃ m', m' < m ∧ W (i + 1) m' H') ∧ ∀ x H', J.yld i H x H' → gg x (wipe σ vs) H' fun σ2 H2 => wipe σ2 vs = wipe σ vs ∧ tYes σ2 H2 fun b H3 =>
        if b = true then te σ2 H3 fun y H4 => ∃ acc, H4 D = some (.lst acc) ∧ acc.length < sizeLine ∧ Nx (upd H4 D (.lst (acc ++ [y]))) else Nx H3) := by
  refine lc_it w (fun i H => Same H0 H ∧ ∃ xs : List V, xs.length = i ∧ (∀ (j : Nat) v, xs[j]? = some v → Mix c f g j H v) ∧ H D = some (.lst xs)) ⟨Same.new hD, [], rfl, fun j v e => by simp at e, upd_same⟩ (fun i H _ p => hG H p.1) (fun i x H H' hi q y => ?_) (fun H q => ?_)
  · obtain ⟨s1, xs, hl, hx, hDD⟩ := q
    have q := hs i H x H' hi s1 y (fun y H4 => ∃ acc, H4 D = some (.lst acc) ∧ acc.length < sizeLine ∧ (Same H0 (upd H4 D (.lst (acc ++ [y]))) ∧ ∃ xs : List V, xs.length = i + 1 ∧ (∀ (j : Nat) v, xs[j]? = some v → Mix c f g j (upd H4 D (.lst (acc ++ [y]))) v) ∧ upd H4 D (.lst (acc ++ [y])) D = some (.lst xs))) (fun v H4 s4 mv => ?_)
    · exact q
    · have h4 := s4 _ _ hDD
      have stay : ∀ {j : Nat} {u : V}, Mix c f g j H4 u → Mix c f g j (upd H4 D (.lst (xs ++ [v]))) u := fun {j u} m => by
        rcases m with m | ⟨m1, q, m2, m3⟩
        · exact .inl m
        · refine .inr ⟨m1, q, m2, ?_⟩
          rw [upd_ne (ne_of m3 h4 (by intro z; cases z))]
          exact m3
      refine ⟨xs, h4, sz_lt (by omega), Same.mut (s1.trans s4) hD, xs ++ [v], by rw [List.length_append, hl]; rfl, fun j u e => stay ?_, upd_same⟩
      by_cases hj : j < xs.length
      · rw [List.getElem?_append_left hj] at e
        rcases hx j u e with m | ⟨m1, q, m2, m3⟩
        · exact .inl m
        · exact .inr ⟨m1, q, m2, s4 _ _ m3⟩
      · rw [List.getElem?_append_right (by omega)] at e
        have h2 := (List.getElem?_eq_some_iff.mp e).1
        simp at h2
        have ej : j = i := by omega
        have e0 : j - xs.length = 0 := by omega
        rw [e0] at e
        rw [← Option.some.inj e, ej]
        exact mv
  · obtain ⟨s1, xs, hl, hx, hDD⟩ := q
    exact hd H xs s1 hl hx hDD
def spFzL : Sp := fun vs H Q _ => ∃ a xs, vs = [.ref a] ∧ H a = some (.lst xs) ∧ (∀ x ∈ xs, Fl x) ∧ xs.length ≤ 1000 ∧ ∀ p H', Same H H' → H' p = some (.tup xs) → Q (.ref p) H'
/-- a text, an int, or a list of such -/
def spFzM : Sp := fun vs H Q E => spFz0 vs H Q E ∨ spFzL vs H Q E
theorem sc_frozenM : FnScope ["thing", "part"] ["thing"] (defScope s_frozen) := ⟨rfl, rfl, rfl, by decide +kernel, rfl, by decide +kernel, by decide +kernel⟩
theorem ok_frozenM (T : Ctx w K mg) (H_frozen : Has P w K mg base 1 "frozen" ["thing"] spFz0) : Has P w K mg base 2 "frozen" ["thing"] spFzM := by
  obtain ⟨fd, F⟩ := T.D_frozen
  obtain ⟨fd_frozen, G_frozen, b_frozen⟩ := H_frozen.ex
  refine ⟨⟨fd, F.ok sc_frozenM (fun vs H Q E h => ?_) (fun cdv A outer s H vs Q E hr h => ?_), F.bindsN fun _ _ _ _ _ _ us hl => match us, hl with | [_], _ => rfl⟩, F.kp, T.g_frozen⟩
  · rcases h with ⟨v, rfl, _⟩ | ⟨a, xs, rfl, _⟩ <;> rfl
  · obtain h := h
    have hr_frozen : Room 1 _ := hr.mono (by decide)
    have hu := hu_of hr
    refine ⟨_, PSs.nox (pss_cons (ps_if (pt_val (pe_callB call_isiT (by rfl) T.f_isinstance (by decide +kernel) (pa_cons (pv 0) (pa_cons (pe_tup (pa_cons (pe_bltn (v := .ty "list") (u := .type "list") rfl T.f_list (by decide +kernel) rfl) (pa_cons (pe_bltn (v := .ty "tuple") (u := .type "tuple") rfl T.f_tuple (by decide +kernel) rfl) pa_nil))) pa_nil)))) (pss_one (ps_ret (pe_callTy call_tuple_of (by rfl) T.f_tuple (by decide +kernel) (pa_cons (pe_lc (own := [("part", 1)]) (g := gName 1) (tt := tYes) rfl sc_frozenM.nd (pi_list (pv 0)) (blkOk_by (N := ["thing", "part"]) (sc := defScope s_frozen) (by decide +kernel)) (fun _ _ _ _ _ => (pg_name (i := 1) sc_frozenM.nd rfl (Or.inl rfl))) (fun _ _ _ _ _ => pts_nil) (fun _ _ _ _ _ => (pe_call G_frozen hr_frozen (by rfl) H_frozen.gl H_frozen.kp b_frozen .nil pass0 (pa_cons (pv 1) pa_nil)))) pa_nil)))) pss_nil)
      (pss_one (ps_ret (pv 0)))), ?_⟩
    rcases h with ⟨v, rfl, F0, k⟩ | ⟨a, xs, rfl, ha, hf, hl, k⟩
    · refine ⟨_, rfl, sz_of (by decide), fun tp htp => ?_⟩
      cases F0 with
      | str x =>
        exact ⟨_, _, _, _, _, false, rfl, upd_same, .cons (.ty _) (.cons (.ty _) .nil), .base (.str x), kit2 (p := false) (q := false) (by decide +kernel) (by decide +kernel) rfl, _, rfl, iteF ⟨_, rfl, k _ (Same.new htp)⟩⟩
      | int x =>
        exact ⟨_, _, _, _, _, false, rfl, upd_same, .cons (.ty _) (.cons (.ty _) .nil), .base (.int x), kit2 (p := false) (q := false) (by decide +kernel) (by decide +kernel) rfl, _, rfl, iteF ⟨_, rfl, k _ (Same.new htp)⟩⟩
    refine ⟨_, rfl, sz_of (by decide), fun tp htp => ?_⟩
    have s1 : Same H (upd H tp (.tup [.ty "list", .ty "tuple"])) := Same.new htp
    refine ⟨_, _, _, _, _, true, rfl, upd_same, .cons (.ty _) (.cons (.ty _) .nil), .base (.lst (s1 _ _ ha)), kit2 (p := true) (q := false) (by decide +kernel) (by decide +kernel) rfl, _, rfl, iteT ?_⟩
    refine ⟨_, rfl, a, rfl, ⟨_, SqL.of (s1 _ _ ha)⟩, fun D hD => ?_⟩
    refine lc_pure (walk_list (K := K) (a := a) (xs := xs)) hD (fun i => xs.getD i .non) (Nat.lt_of_le_of_lt hl (by decide)) (fun H2 s2 => SqL.of (s2 _ _ (s1 _ _ ha))) (fun i H2 y H3 hi s2 hy Qe qe => ?_) (fun H2 s2 h2 => ?_)
    · obtain ⟨rfl, hx⟩ := hy
      rw [getD_of hx] at qe
      exact ⟨rfl, _, rfl, y, rfl, hf y (List.mem_of_getElem? hx), fun H4 s4 => qe _ s4⟩
    · rw [map_range_getD] at h2
      exact ⟨D, xs, rfl, .inl ⟨SqL.of h2, fun l hl2 => k l _ ((s1.trans s2).trans (Same.new hl2)) upd_same⟩⟩

end
end W1
set_option Elab.async false
set_option linter.all false
set_option maxRecDepth 100000
set_option maxHeartbeats 4000000
namespace W1
open PySem PySem.Spec PyProof.Rows L2 RZ
section
variable {P : Program} {w : World} {K : PySem.W.Frag} {mg : Str → Option Value} {base : Heap}

theorem parts_at {r : Rx} {l : V} {i : Nat} {y : V} (h : (V.str r.word :: r.parts l)[i]? = some y) : (Fl y ∧ (r.args.isSome && (i == 3)) = false) ∨ (∃ bs, r.args = some bs ∧ i = 3 ∧ y = l) := by
  cases r with
  | call x F bs =>
    match i, h with
    | 0, h => obtain rfl := Option.some.inj h; exact .inl ⟨.str _, rfl⟩
    | 1, h => obtain rfl := Option.some.inj h; exact .inl ⟨.str _, rfl⟩
    | 2, h => obtain rfl := Option.some.inj h; exact .inl ⟨.str _, rfl⟩
    | 3, h => obtain rfl := Option.some.inj h; exact .inr ⟨bs, rfl, rfl, rfl⟩
    | n + 4, h => simp [Rx.parts] at h
  | _ =>
    refine .inl ⟨?_, rfl⟩
    have m := List.mem_of_getElem? h
    simp only [Rx.parts, List.mem_cons, List.not_mem_nil, or_false] at m
    rcases m with rfl | m
    · exact .str _
    · first
        | (subst m; first | exact .str _ | exact .int _)
        | (rcases m with rfl | rfl <;> first | exact .str _ | exact .int _)
        | (rcases m with rfl | rfl | rfl <;> first | exact .str _ | exact .int _)
theorem parts_same {r : Rx} {l l2 : V} (h : r.args = none) : r.parts l = r.parts l2 := by
  cases r <;> first | rfl | cases h
def spFzRow : Sp := fun vs H Q _ => ∃ (a l : Addr) (r : Rx), vs = [.ref a] ∧ H a = some (.tup (.str r.word :: r.parts (.ref l))) ∧ ArgsAt H l r ∧ ∀ p H', Same H H' → RowAt true H' p r → Q (.ref p) H' 
theorem sc_frozenR : FnScope ["thing", "part"] ["thing"] (defScope s_frozen) := ⟨rfl, rfl, rfl, by decide +kernel, rfl, by decide +kernel, by decide +kernel⟩
theorem ok_frozenR (T : Ctx w K mg) (H_frozen : Has P w K mg base 2 "frozen" ["thing"] spFzM) : Has P w K mg base 3 "frozen" ["thing"] spFzRow := by
  obtain ⟨fd, F⟩ := T.D_frozen
  obtain ⟨fd_frozen, G_frozen, b_frozen⟩ := H_frozen.ex
  refine ⟨⟨fd, F.ok sc_frozenR (fun vs H Q E h => ?_) (fun cdv A outer s H vs Q E hr h => ?_), F.bindsN fun _ _ _ _ _ _ us hl => match us, hl with | [_], _ => rfl⟩, F.kp, T.g_frozen⟩
  · obtain ⟨a, l, r, rfl, ha, hm, k⟩ := h; rfl
  · obtain ⟨a, l, r, rfl, ha, hm, k⟩ := h
    have hr_frozen : Room 2 _ := hr.mono (by decide)
    have hu := hu_of hr
    refine ⟨_, PSs.nox (pss_cons (ps_if (pt_val (pe_callB call_isiT (by rfl) T.f_isinstance (by decide +kernel) (pa_cons (pv 0) (pa_cons (pe_tup (pa_cons (pe_bltn (v := .ty "list") (u := .type "list") rfl T.f_list (by decide +kernel) rfl) (pa_cons (pe_bltn (v := .ty "tuple") (u := .type "tuple") rfl T.f_tuple (by decide +kernel) rfl) pa_nil))) pa_nil)))) (pss_one (ps_ret (pe_callTy call_tuple_of (by rfl) T.f_tuple (by decide +kernel) (pa_cons (pe_lc (own := [("part", 1)]) (g := gName 1) (tt := tYes) rfl sc_frozenR.nd (pi_tup (pv 0)) (blkOk_by (N := ["thing", "part"]) (sc := defScope s_frozen) (by decide +kernel)) (fun _ _ _ _ _ => (pg_name (i := 1) sc_frozenR.nd rfl (Or.inl rfl))) (fun _ _ _ _ _ => pts_nil) (fun _ _ _ _ _ => (pe_call G_frozen hr_frozen (by rfl) H_frozen.gl H_frozen.kp b_frozen .nil pass0 (pa_cons (pv 1) pa_nil)))) pa_nil)))) pss_nil)
      (pss_one (ps_ret (pv 0)))), ?_⟩
    refine ⟨_, rfl, sz_of (by decide), fun tp htp => ?_⟩
    have s1 : Same H (upd H tp (.tup [.ty "list", .ty "tuple"])) := Same.new htp
    refine ⟨_, _, _, _, _, true, rfl, upd_same, .cons (.ty _) (.cons (.ty _) .nil), .base (.tup (s1 _ _ ha)), kit2 (p := false) (q := true) (by decide +kernel) (by decide +kernel) rfl, _, rfl, iteT ?_⟩
    refine ⟨_, rfl, a, rfl, ⟨_, SqT.of (s1 _ _ ha)⟩, fun D hD => ?_⟩
    have hlp : (V.str r.word :: r.parts (.ref l)).length ≤ 4 := by cases r <;> simp [Rx.parts]
    refine lc_mix (walk_tup (K := K) (a := a) (xs := V.str r.word :: r.parts (.ref l))) hD (fun i => r.args.isSome && (i == 3)) (fun i => (V.str r.word :: r.parts (.ref l)).getD i .non) (fun _ => r.namesOf.map V.str) (by omega) (fun H2 s2 => SqT.of (s2 _ _ (s1 _ _ ha))) (fun i H2 y H3 hi s2 hy Qe qe => ?_) (fun H2 xs s2 hl hx h2 => ?_)
    · obtain ⟨rfl, hy⟩ := hy
      rcases parts_at hy with ⟨f1, c1⟩ | ⟨bs, hb, rfl, rfl⟩
      · exact ⟨rfl, _, rfl, .inl ⟨y, rfl, f1, fun H4 s4 => qe _ _ s4 (.inl ⟨c1, (getD_of hy).symm⟩)⟩⟩
      · obtain ⟨q1, q2⟩ := hm bs hb
        refine ⟨rfl, _, rfl, .inr ⟨l, bs.map V.str, rfl, s2 _ _ (s1 _ _ q1), fun x m => ?_, by rw [List.length_map]; exact q2, fun p H4 s4 hp => qe _ _ s4 (.inr ⟨by rw [hb]; rfl, p, rfl, ?_⟩)⟩⟩
        · obtain ⟨z, _, rfl⟩ := List.mem_map.mp m
          exact .str z
        · rw [hp]
          unfold Rx.namesOf
          rw [hb]
          rfl
    refine ⟨D, xs, rfl, .inl ⟨SqL.of h2, fun q hq => k q _ ((s1.trans s2).trans (Same.new hq)) ?_⟩⟩
    have same : ∀ (i : Nat) v, xs[i]? = some v → (r.args.isSome && (i == 3)) = false → v = (V.str r.word :: r.parts (.ref l)).getD i .non := fun i v e c => by
      rcases hx i v e with ⟨_, h⟩ | ⟨h, _⟩
      · exact h
      · have h2 : (r.args.isSome && (i == 3)) = true := h
        rw [c] at h2
        cases h2
    cases e : r.args with
    | none =>
      refine ⟨l, ?_, fun bs z => by rw [e] at z; cases z⟩
      rw [upd_same]
      have ex : xs = V.str r.word :: r.parts (.ref l) := by
        apply List.ext_getElem hl
        intro i h1 h3
        have := same i xs[i] (List.getElem?_eq_getElem h1) (by rw [e]; rfl)
        rw [this, List.getD_eq_getElem?_getD, List.getElem?_eq_getElem h3]
        rfl
      rw [ex]
    | some bs =>
      cases r with
      | call x F cs =>
        obtain rfl : cs = bs := Option.some.inj e
        have h4 : xs.length = 4 := hl
        match xs, h4 with
        | [a0, a1, a2, a3], _ =>
          have e0 := same 0 a0 rfl rfl
          have e1 := same 1 a1 rfl rfl
          have e2 := same 2 a2 rfl rfl
          rcases hx 3 a3 rfl with ⟨z, _⟩ | ⟨_, q3, e3, h3⟩
          · cases z
          · subst e0 e1 e2 e3
            exact ⟨q3, upd_same, fun bs2 z => by
              obtain rfl := Option.some.inj z
              exact Same.new hq _ _ h3⟩
      | _ => cases e

end
end W1
set_option Elab.async false
set_option linter.all false
set_option maxRecDepth 100000
set_option maxHeartbeats 4000000
namespace W1
open PySem PySem.Spec PyProof.Rows L2 RZ
section
variable {P : Program} {w : World} {K : PySem.W.Frag} {mg : Str → Option Value} {base : Heap}

theorem RowAt.put {H : Hp} {a D : Addr} {r : Rx} {xs ys : List V} (h : RowAt true H a r) (hD : H D = some (.lst xs)) : RowAt true (upd H D (.lst ys)) a r := by
  obtain ⟨l, h1, h2⟩ := h
  refine ⟨l, ?_, fun bs e => ?_⟩
  · rw [upd_ne (ne_of h1 hD (by intro z; cases z))]
    exact h1
  · have q := h2 bs e
    rw [if_pos rfl] at q ⊢
    rw [upd_ne (ne_of q hD (by intro z; cases z))]
    exact q
/-- a comprehension whose elements are kept rows -/
theorem lc_rows {J : It} {n : Nat} {G : Hp → Prop} {Y : Nat → Hp → V → Hp → Prop} (w : Walk J n G Y) {gg : TG} {te : TE} {vs : List Nat} {σ : L2.St} {H0 : Hp} {D : Addr} {Qd : Hp → Prop} (hD : H0 D = none) (rws : List Rx) (hn : n < 100000)
    (hG : ∀ H, Same H0 H → G H)
    (hs : ∀ i H x H', i < n → Same H0 H → Y i H x H' → ∀ Qe : VK, (∀ q H4, Same H H4 → (∀ r, rws[i]? = some r → RowAt true H4 q r) → Qe (.ref q) H4) → gg x (wipe σ vs) H' fun σ2 H2 => wipe σ2 vs = wipe σ vs ∧ te σ2 H2 Qe)
    (hd : ∀ (H : Hp) (qs : List Addr), Same H0 H → qs.length = n → (∀ (i : Nat) q r, qs[i]? = some q → rws[i]? = some r → RowAt true H q r) → H D = some (.lst (qs.map V.ref)) → Qd H) :
    ∃ W : Nat → Nat → Hp → Prop, (∃ m, W 0 m (upd H0 D (.lst []))) ∧ ∀ i m H, W i m H →
      (J.stop i H ∧ Qd H) ∨ (J.go i H ∧ ∃ Nx : Hp → Prop, (∀ H', Nx H' → ∃ m', m' < m ∧ W (i + 1) m' H') ∧ ∀ x H', J.yld i H x H' → gg x (wipe σ vs) H' fun σ2 H2 => wipe σ2 vs = wipe σ vs ∧ tYes σ2 H2 fun b H3 =>
        if b = true then te σ2 H3 fun y H4 => ∃ acc, H4 D = some (.lst acc) ∧ acc.length < sizeLine ∧ Nx (upd H4 D (.lst (acc ++ [y]))) else Nx H3) := by
  refine lc_it w (fun i H => Same H0 H ∧ ∃ qs : List Addr, qs.length = i ∧ (∀ (j : Nat) q r, qs[j]? = some q → rws[j]? = some r → RowAt true H q r) ∧ H D = some (.lst (qs.map V.ref))) ⟨Same.new hD, [], rfl, fun j q r e => by simp at e, upd_same⟩ (fun i H _ p => hG H p.1) (fun i x H H' hi q y => ?_) (fun H q => ?_)
  · obtain ⟨s1, qs, hl, hx, hDD⟩ := q
    have q := hs i H x H' hi s1 y (fun y H4 => ∃ acc, H4 D = some (.lst acc) ∧ acc.length < sizeLine ∧ (Same H0 (upd H4 D (.lst (acc ++ [y]))) ∧ ∃ qs : List Addr, qs.length = i + 1 ∧ (∀ (j : Nat) q r, qs[j]? = some q → rws[j]? = some r → RowAt true (upd H4 D (.lst (acc ++ [y]))) q r) ∧ upd H4 D (.lst (acc ++ [y])) D = some (.lst (qs.map V.ref)))) (fun q H4 s4 mv => ?_)
    · exact q
    · have h4 := s4 _ _ hDD
      refine ⟨_, h4, sz_lt (by rw [List.length_map]; omega), Same.mut (s1.trans s4) hD, qs ++ [q], by rw [List.length_append, hl]; rfl, fun j u r e er => RowAt.put ?_ h4, by rw [upd_same, List.map_append]; rfl⟩
      by_cases hj : j < qs.length
      · rw [List.getElem?_append_left hj] at e
        exact (hx j u r e er).mono s4
      · rw [List.getElem?_append_right (by omega)] at e
        have h2 := (List.getElem?_eq_some_iff.mp e).1
        simp at h2
        have ej : j = i := by omega
        have e0 : j - qs.length = 0 := by omega
        rw [e0] at e
        rw [← Option.some.inj e]
        exact mv r (by rw [← ej]; exact er)
  · obtain ⟨s1, xs, hl, hx, hDD⟩ := q
    exact hd H xs s1 hl hx hDD
/-- rows as they are handed in -/
structure RawRows (H : Hp) (rs : List Addr) (rws : List Rx) : Prop where
  len : rs.length = rws.length
  at_ : ∀ (i : Nat) a r, rs[i]? = some a → rws[i]? = some r → ∃ l, H a = some (.tup (.str r.word :: r.parts (.ref l))) ∧ ArgsAt H l r
theorem RawRows.mono {H H' : Hp} {rs : List Addr} {rws : List Rx} (h : RawRows H rs rws) (e : Same H H') : RawRows H' rs rws := ⟨h.len, fun i a r x y => by
  obtain ⟨l, q1, q2⟩ := h.at_ i a r x y
  exact ⟨l, e _ _ q1, q2.mono e⟩⟩
/-- rows as they are kept -/
structure KeptRows (H : Hp) (rs : List Addr) (rws : List Rx) : Prop where
  len : rs.length = rws.length
  at_ : ∀ (i : Nat) a r, rs[i]? = some a → rws[i]? = some r → RowAt true H a r
theorem KeptRows.mono {H H' : Hp} {rs : List Addr} {rws : List Rx} (h : KeptRows H rs rws) (e : Same H H') : KeptRows H' rs rws := ⟨h.len, fun i a r x y => (h.at_ i a r x y).mono e⟩
def spFzRows : Sp := fun vs H Q _ => ∃ (a : Addr) (rs : List Addr) (rws : List Rx), vs = [.ref a] ∧ H a = some (.lst (rs.map V.ref)) ∧ RawRows H rs rws ∧ rws.length ≤ 100 ∧ ∀ (q : Addr) (qs : List Addr) (H' : Hp), Same H H' → TupP H' q (qs.map V.ref) → KeptRows H' qs rws → Q (.ref q) H' 
theorem sc_frozenW : FnScope ["thing", "part"] ["thing"] (defScope s_frozen) := ⟨rfl, rfl, rfl, by decide +kernel, rfl, by decide +kernel, by decide +kernel⟩
theorem ok_frozenW (T : Ctx w K mg) (H_frozen : Has P w K mg base 3 "frozen" ["thing"] spFzRow) : Has P w K mg base 4 "frozen" ["thing"] spFzRows := by
  obtain ⟨fd, F⟩ := T.D_frozen
  obtain ⟨fd_frozen, G_frozen, b_frozen⟩ := H_frozen.ex
  refine ⟨⟨fd, F.ok sc_frozenW (fun vs H Q E h => ?_) (fun cdv A outer s H vs Q E hr h => ?_), F.bindsN fun _ _ _ _ _ _ us hl => match us, hl with | [_], _ => rfl⟩, F.kp, T.g_frozen⟩
  · obtain ⟨a, rs, rws, rfl, ha, hR, hl, k⟩ := h; rfl
  · obtain ⟨a, rs, rws, rfl, ha, hR, hl, k⟩ := h
    have hr_frozen : Room 3 _ := hr.mono (by decide)
    have hu := hu_of hr
    refine ⟨_, PSs.nox (pss_cons (ps_if (pt_val (pe_callB call_isiT (by rfl) T.f_isinstance (by decide +kernel) (pa_cons (pv 0) (pa_cons (pe_tup (pa_cons (pe_bltn (v := .ty "list") (u := .type "list") rfl T.f_list (by decide +kernel) rfl) (pa_cons (pe_bltn (v := .ty "tuple") (u := .type "tuple") rfl T.f_tuple (by decide +kernel) rfl) pa_nil))) pa_nil)))) (pss_one (ps_ret (pe_callTy call_tupleP (by rfl) T.f_tuple (by decide +kernel) (pa_cons (pe_lc (own := [("part", 1)]) (g := gName 1) (tt := tYes) rfl sc_frozenW.nd (pi_list (pv 0)) (blkOk_by (N := ["thing", "part"]) (sc := defScope s_frozen) (by decide +kernel)) (fun _ _ _ _ _ => (pg_name (i := 1) sc_frozenW.nd rfl (Or.inl rfl))) (fun _ _ _ _ _ => pts_nil) (fun _ _ _ _ _ => (pe_call G_frozen hr_frozen (by rfl) H_frozen.gl H_frozen.kp b_frozen .nil pass0 (pa_cons (pv 1) pa_nil)))) pa_nil)))) pss_nil)
      (pss_one (ps_ret (pv 0)))), ?_⟩
    refine ⟨_, rfl, sz_of (by decide), fun tp htp => ?_⟩
    have s1 : Same H (upd H tp (.tup [.ty "list", .ty "tuple"])) := Same.new htp
    refine ⟨_, _, _, _, _, true, rfl, upd_same, .cons (.ty _) (.cons (.ty _) .nil), .base (.lst (s1 _ _ ha)), kit2 (p := true) (q := false) (by decide +kernel) (by decide +kernel) rfl, _, rfl, iteT ?_⟩
    refine ⟨_, rfl, a, rfl, ⟨_, SqL.of (s1 _ _ ha)⟩, fun D hD => ?_⟩
    refine lc_rows (walk_list (K := K) (a := a) (xs := rs.map V.ref)) hD rws (by rw [List.length_map, hR.len]; omega) (fun H2 s2 => SqL.of (s2 _ _ (s1 _ _ ha))) (fun i H2 y H3 hi s2 hy Qe qe => ?_) (fun H2 qs s2 hq hqs h2 => ?_)
    · obtain ⟨rfl, hy⟩ := hy
      obtain ⟨p1, hp1, rfl⟩ := map_get hy
      have hir : i < rws.length := by
        rw [← hR.len]
        exact (List.getElem?_eq_some_iff.mp hp1).1
      have er : rws[i]? = some rws[i] := List.getElem?_eq_getElem hir
      obtain ⟨l, h3, h4⟩ := ((hR.mono s1).mono s2).at_ i p1 rws[i] hp1 er
      refine ⟨rfl, _, rfl, p1, l, rws[i], rfl, h3, h4, fun q H4 s4 hk => qe q _ s4 (fun r e => ?_)⟩
      rw [er] at e
      rw [← Option.some.inj e]
      exact hk
    · rw [List.length_map, hR.len] at hq
      refine ⟨D, _, rfl, SqL.of h2, fun l o hl2 po => k l qs _ ((s1.trans s2).trans (Same.new hl2)) ⟨o, upd_same, po⟩ ⟨hq, fun i p r e1 e2 => (hqs i p r e1 e2).mono (Same.new hl2)⟩⟩

end
end W1
set_option Elab.async false
set_option linter.all false
set_option maxRecDepth 100000
set_option maxHeartbeats 4000000
namespace W1
open PySem PySem.Spec PyProof.Rows L2 RZ
section
variable {P : Program} {w : World} {K : PySem.W.Frag} {mg : Str → Option Value} {base : Heap}

/-- list.extend of any tuple object -/
theorem extend_tupG (l : Addr) (xs : Array Value) (n : Nat) (b : Addr) (ys : Array Value) (n2 : Nat) (dd : Option Addr) (ss : Array (Option Value))
    (h0 : ¬(!xs.isEmpty && Builtin.List.listTooLong (xs.size + ys.size)) = true) (h1 : xs.size ≤ sizeLine) (h2 : xs.size + ys.size ≤ sizeLine + 1) :
    Meets (Builtin.«list.extend» ⟨[.ref l, .ref b], []⟩) (fun _ R s => s.heap.get? l = some { cls := .type "list", dict := none, data := .seq xs n, slots := #[] } ∧
      s.heap.get? b = some { cls := .type "tuple", dict := dd, data := .seq ys n2, slots := ss } ∧
      R (.ok (.ret Value.none)) { s with heap := s.heap.update l (Obj.mapSeq fun x => x ++ ys), toks := s.toks }) := by
  refine .of_wp fun prog w A R s h => ?_
  obtain ⟨hp, g, d, tk, os⟩ := s
  obtain ⟨hl, hb, h⟩ := h
  have f1 := AutoSeq1.idx_int
  have f2 := AutoSeq1.sub_tuple_tuple
  have f3 := AutoSeq1.sub_list_list
  have f4 := AutoSeq1.sub_tuple_list
  have f5 := AutoSeq1.sub_list_tuple
  have hz : (xs ++ ys).size ≤ sizeLine + 1 := by
    rw [Array.size_append]
    exact h2
  wp_walk using (wpAny_updateSeq hl rfl (hz := h1) (_hz' := hz)), wpAny_loadPart' hl, wpAny_loadPart' hb
  exact ⟨_, rfl, h⟩
def rExtendT (K : PySem.W.Frag) : V → List V → Hp → VK → Prop := fun x vs H Q => ∃ l b xs zs, x = .ref l ∧ vs = [.ref b] ∧ H l = some (.lst xs) ∧ SqT K H b zs ∧ xs.length + zs.length ≤ sizeLine ∧ Q .non (upd H l (.lst (xs ++ zs)))
theorem mt_extendT {X : Cx} : MtM X "list.extend" (rExtendT X.K) := by
  intro pins s σ H x vs v us Q I rx rv h
  obtain ⟨l, b, xs, zs, rfl, rfl, hH, hB, hz, q⟩ := h
  cases rx
  obtain ⟨u, rfl, ru⟩ := rv.one
  cases ru
  obtain ⟨z, its, n, r, hl, e⟩ := I.lstM hH
  obtain ⟨its2, r2, ⟨o, ho, hc, n2, hd⟩, hl2⟩ := I.tuple hB
  have e3 : xs.length = its.length := hl
  have e4 : zs.length = its2.length := r2.length
  have hsz : its.toArray.size + its2.toArray.size ≤ sizeLine := by rw [List.size_toArray, List.size_toArray]; omega
  have hlong : ¬ (!its.toArray.isEmpty && Builtin.List.listTooLong (its.toArray.size + its2.toArray.size)) = true := by
    rw [notLongL hsz, Bool.and_false]
    exact Bool.false_ne_true
  obtain ⟨oc, od, dt, osl⟩ := o
  subst hc hd
  refine call_meets F.slot_list_extend ⟨_, e, rfl⟩ F.entry_list_extend (F.args_list_extend_2 _ _)
    (extend_tupG l its.toArray n b its2.toArray n2 od osl hlong (by rw [List.size_toArray]; omega) (by omega)) ⟨e, ho, ?_⟩
  refine ⟨.non, _, I.lset (its' := its ++ its2) hH e (by simp) (r.append r2) ?_, rfl, q⟩
  rw [List.length_append]
  omega

end
end W1
set_option Elab.async false
set_option linter.all false
set_option maxRecDepth 100000
set_option maxHeartbeats 4000000
namespace W1
open PySem PySem.Spec PyProof.Rows L2 RZ
section
variable {P : Program} {w : World} {K : PySem.W.Frag} {mg : Str → Option Value} {base : Heap}

/-- row_reads, row_sets of rows as they are kept -/
def spReadsK : Sp := fun vs H Q _ => ∃ (a : Addr) (r : Rx), vs = [.ref a] ∧ RowAt true H a r ∧ r.reads.length ≤ 1000 ∧ ∀ p H', Same H H' → H p = none → H' p = some (.lst (r.reads.map V.str)) → Q (.ref p) H'
theorem Rx.args_le {r : Rx} {bs : List Str} (h : r.args = some bs) : bs = r.reads := by
  cases r with
  | call x F cs => exact (Option.some.inj h).symm
  | _ => cases h
theorem sc_row_readsK : FnScope ["row", "names", "role", "part"] ["row"] (defScope s_row_reads) := ⟨rfl, rfl, rfl, by decide +kernel, rfl, by decide +kernel, by decide +kernel⟩
theorem ok_row_readsK (T : Ctx w K mg) : Has P w K mg base 1 "row_reads" ["row"] spReadsK := by
  obtain ⟨fd, F⟩ := T.D_row_reads
  refine ⟨⟨fd, F.ok sc_row_readsK (fun vs H Q E h => ?_) (fun cdv A outer s H vs Q E hr h => ?_), F.bindsN fun _ _ _ _ _ _ us hl => match us, hl with | [_], _ => rfl⟩, F.kp, T.g_row_reads⟩
  · obtain ⟨a, r, rfl, hRow, hle, k⟩ := h; rfl
  · obtain ⟨a, r, rfl, hRow, hle, k⟩ := h
    have hu := hu_of hr
    refine ⟨_, PSs.nox (pss_cons (ps_set (i := 1) sc_row_readsK.nd rfl (Or.inl rfl) (pe_lst pa_nil))
      (pss_cons (ps_for PassesOwn.never rfl (pi_zipA (by rfl) T.f_zip (pa_cons (pe_ix ix_kdict (pe_glob (v := .ref (He.ga K "ROLES")) rfl T.g_ROLES rfl) (pe_ix ix_tup (pv 0) pe_int (fun _ _ => rfl)) (fun _ _ => rfl)) (pa_cons (pe_slice sl_tup (pv 0) (po_some pe_int) po_none) pa_nil))) (pg_tup rfl (pgs_cons (pg_name (i := 2) sc_row_readsK.nd rfl (Or.inl rfl)) (pgs_cons (pg_name (i := 3) sc_row_readsK.nd rfl (Or.inl rfl)) pgs_nil)))
      (pss_one (ps_if (pt_cmpR op_eq (pv 2) pe_str (nomark _)) (pss_one (ps_expr (pe_bm PySem.F.plainAttrs_list PySem.F.slot_list_append PySem.F.type_list_append mt_append (pv 1) (pa_cons (pv 3) pa_nil)))) (pss_one (ps_if (pt_cmpR op_eq (pv 2) pe_str (nomark _)) (pss_one (ps_expr (pe_bm PySem.F.plainAttrs_list PySem.F.slot_list_extend PySem.F.type_list_extend mt_extendT (pv 1) (pa_cons (pv 3) pa_nil)))) pss_nil)))))
      (pss_one (ps_ret (pv 1))))), ?_⟩
    obtain ⟨m, ha, hm0⟩ := hRow
    have hm : ∀ bs, r.args = some bs → H m = some (.tup (bs.map V.str)) ∧ bs.length ≤ 1000 := fun bs e => ⟨hm0 bs e, by rw [Rx.args_le e]; exact hle⟩
    have hro : ∀ H, SqT K H (rolA K r.word) (r.roles.map V.str) := fun H => (T.role (rx_roles_mem r) H).2
    have hlp : (r.parts (.ref m)).length ≤ 3 := by cases r <;> simp [Rx.parts]
    have hlr := r.lens (.ref m)
    refine ⟨sz_of (by decide), fun l hl => ?_⟩
    have s0 : Same H (upd H l (.lst [])) := Same.new hl
    refine ⟨_, rfl, _, _, _, _, rfl, rfl, SqT.of (s0 _ _ ha), at0, _, _, _, rfl, rfl, T.roleK (rx_roles_mem r), ?_⟩
    refine ⟨_, rfl, 1, rfl, a, _, rfl, SqT.of (s0 _ _ ha), slice1.2, fun t ht => ?_⟩
    have s1 : Same (upd H l (.lst [])) (upd (upd H l (.lst [])) t (.tup (cutV (V.str r.word :: r.parts (.ref m)) (some 1) none))) := Same.new ht
    have ht1 : (upd (upd H l (.lst [])) t (.tup (cutV (V.str r.word :: r.parts (.ref m)) (some 1) none))) t = some (.tup (r.parts (.ref m))) := by
      rw [upd_same]
      exact congrArg (fun l => some (HO.tup l)) slice1.1
    have hnl : r.namesOf.length ≤ 1000 := by
      unfold Rx.namesOf
      cases e : r.args with
      | none => simp
      | some bs => exact (hm bs e).2
    refine ⟨_, t, _, r.parts (.ref m), rfl, .inr ⟨hro _, SqT.of ht1, ?_⟩⟩
    refine for_it (walk_zipT (K := K) (xs := r.roles.map V.str) (ys := r.parts (.ref m)) (n := (r.parts (.ref m)).length) (by rw [List.length_map, hlr, Nat.min_self])) (fun i σ H1 => ∃ v1 v2 : Option V, σ = [some (.ref a), some (.ref l), v1, v2] ∧ Same H H1 ∧ H1 t = some (.tup (r.parts (.ref m))) ∧ H1 l = some (.lst (rdG (r.namesOf.map V.str) (r.roles.take i) ((r.parts (.ref m)).take i)))) ⟨none, none, rfl, s0.trans s1, ht1, s1 _ _ upd_same⟩ (fun i σ H1 _ ⟨_, _, _, _, h3, _⟩ => ⟨hro _, SqT.of h3⟩) ?_ ?_
    · rintro i y σ H1 H2 hi ⟨v1, v2, rfl, s2, h3, h4⟩ ⟨u, x, v, rfl, hu0, rfl, hx, hv⟩
      obtain ⟨role, e, rfl⟩ := map_get (show (r.roles.map V.str)[i]? = some x from hx)
      have hv : (r.parts (.ref m))[i]? = some v := hv
      have s3 : Same H1 (upd H1 u (.tup [V.str role, v])) := Same.new hu0
      have hsn := rdG_snoc (as := r.namesOf.map V.str) e hv
      have hsz : (rdG (r.namesOf.map V.str) (r.roles.take i) ((r.parts (.ref m)).take i)).length ≤ 3003 := by
        refine Nat.le_trans (rdG_len _ _) ?_
        rw [List.length_take, List.length_map]
        have h6 : min i r.roles.length ≤ 3 := by omega
        exact Nat.le_trans (Nat.mul_le_mul h6 (Nat.succ_le_succ hnl)) (by decide)
      have keep : ∀ {o : List V}, (upd (upd H1 u (.tup [V.str role, v])) l (.lst o)) t = some (.tup (r.parts (.ref m))) := fun {o} => by
        rw [upd_ne]
        · exact s3 _ _ h3
        · intro z
          rw [z, h4] at h3
          cases h3
      refine ⟨u, _, rfl, SqT.of upd_same, rfl, _, _, rfl, _, _, rfl, rfl, ?_⟩
      refine ⟨_, rfl, rfl, _, rfl, ?_⟩
      by_cases c : role = "reads"
      · rw [if_pos c] at hsn
        refine ifT (decide_eq_true (by rw [c])) ?_
        refine ⟨_, rfl, .inl ⟨rfl, _, SqL.of (s3 _ _ h4)⟩, _, rfl, l, _, _, rfl, rfl, s3 _ _ h4, sz_lt (by omega), ?_⟩
        exact ⟨_, _, rfl, Same.mut (s2.trans s3) hl, keep, by rw [upd_same, hsn]⟩
      · rw [if_neg c] at hsn
        refine ifF (decide_eq_false (fun z => c (V.str.inj z))) ?_
        refine ⟨_, rfl, rfl, _, rfl, ?_⟩
        by_cases c2 : role = "many"
        · subst c2
          obtain ⟨bs, hbs, rfl⟩ := Rx.many_at e hv
          rw [if_pos rfl] at hsn
          have hn : r.namesOf = bs := by
            unfold Rx.namesOf
            rw [hbs]
            rfl
          rw [hn] at hsn hsz h4
          refine ifT (decide_eq_true rfl) ?_
          have hml := s3 _ _ (s2 _ _ (hm bs hbs).1)
          refine ⟨_, rfl, .inl ⟨rfl, _, SqL.of (s3 _ _ h4)⟩, _, rfl, l, m, _, _, rfl, rfl, s3 _ _ h4, SqT.of hml, sz_of (by have := (hm bs hbs).2; rw [List.length_map]; omega), ?_⟩
          refine ⟨_, _, rfl, Same.mut (s2.trans s3) hl, ?_, by rw [upd_same, hn, hsn]⟩
          rw [upd_ne]
          · exact s3 _ _ h3
          · intro z
            rw [z, h4] at h3
            cases h3
        · rw [if_neg c2, List.append_nil] at hsn
          refine ifF (decide_eq_false (fun z => c2 (V.str.inj z))) ?_
          refine ⟨_, _, rfl, s2.trans s3, s3 _ _ h3, ?_⟩
          rw [hsn]
          exact s3 _ _ h4
    · rintro σ H1 ⟨v1, v2, rfl, s2, h3, h4⟩
      refine ⟨_, rfl, k l _ s2 hl ?_⟩
      rw [h4, List.take_of_length_le (by rw [hlr]; exact Nat.le_refl _), List.take_length, r.rd _ _ (fun bs hb => by unfold Rx.namesOf; rw [hb]; rfl)]

end
end W1
set_option Elab.async false
set_option linter.all false
set_option maxRecDepth 100000
set_option maxHeartbeats 4000000
namespace W1
open PySem PySem.Spec PyProof.Rows L2 RZ
section
variable {P : Program} {w : World} {K : PySem.W.Frag} {mg : Str → Option Value} {base : Heap}

theorem binNo : ∀ kk : Fin 4, inV (V.str (binW kk)) [.str "if", .str "jump"] = false := by decide +kernel
theorem KindsG.mono {H H' : Hp} {ks us kv : List (Key × V)} {res : Str} {r : Rx} (h : KindsG K H ks us kv res r) (e : Same H H') : KindsG K H' ks us kv res r := by
  cases r with
  | call x F bs =>
    obtain ⟨fp, dx, pa, fs, ps, qs, rs, h1, h2, h3⟩ := h
    exact ⟨fp, dx, pa, fs, ps, qs, rs, h1, h2.mono e, h3⟩
  | _ => exact h
/-- a Function's variables and result, where it stands -/
structure FnG (K : PySem.W.Frag) (H : Hp) (p dx va : Addr) (fs : List (Str × V)) (kv : List (Key × V)) (res : Str) : Prop where
  ob : H p = some (.ins (He.ga K "Function") dx fs)
  vars : fs.lookup ("variables" : Str) = some (.ref va)
  res : fs.lookup ("result" : Str) = some (.str res)
  vd : H va = some (.dK kv)
theorem FnG.mono {H H' : Hp} {p dx va : Addr} {fs : List (Str × V)} {kv : List (Key × V)} {res : Str} (h : FnG K H p dx va fs kv res) (e : Same H H') : FnG K H' p dx va fs kv res := ⟨e _ _ h.ob, h.vars, h.res, e _ _ h.vd⟩
def spIsRowOfG (K : PySem.W.Frag) : Sp := fun vs H Q _ => ∃ (p fp dx va a m0 : Addr) (fs : List (Str × V)) (cs ks us kv : List (Key × V)) (res : Str) (r : Rx) (m : Nat), vs = [.ref p, .ref fp, .ref a, .int m] ∧ SrcH K H p cs ks us ∧ FnG K H fp dx va fs kv res ∧ H a = some (.tup (.str r.word :: r.parts (.ref m0))) ∧ ArgsAt H m0 r ∧
  FormG H cs ks us (.ref m0) r ∧ KindsG K H ks us kv res r ∧ (∀ x ∈ r.names, ∃ v, valV kv (Sum.inr x : Key) = some v) ∧ (∀ g, r.goal = some g → g < m) ∧ ∀ H', Same H H' → Q (.bl true) H' 
theorem sc_Source_is_row_of : FnScope ["self", "function", "row", "many", "names", "name"] ["self", "function", "row", "many"] (defScope s_Source_is_row_of) := ⟨rfl, rfl, rfl, by decide +kernel, rfl, by decide +kernel, by decide +kernel⟩
theorem ok_Source_is_row_of (T : Ctx w K mg) (H_is_row : Has P w K mg base 5 "is_row" ["source", "thing", "words"] (spIsRowG K)) (H_row_sets : Has P w K mg base 1 "row_sets" ["row"] spSetsG) (H_row_reads : Has P w K mg base 1 "row_reads" ["row"] spReadsG) (H_row_kinds_fit : Has P w K mg base 3 "row_kinds_fit" ["source", "row", "kinds", "result"] (spFitG K)) : HasM P w K mg base 6 "Source" "_is_row_of" ["self", "function", "row", "many"] (spIsRowOfG K) := by
  obtain ⟨fd, F⟩ := T.D_Source_is_row_of
  obtain ⟨fd_is_row, G_is_row, b_is_row⟩ := H_is_row.ex
  obtain ⟨fd_row_sets, G_row_sets, b_row_sets⟩ := H_row_sets.ex
  obtain ⟨fd_row_reads, G_row_reads, b_row_reads⟩ := H_row_reads.ex
  obtain ⟨fd_row_kinds_fit, G_row_kinds_fit, b_row_kinds_fit⟩ := H_row_kinds_fit.ex
  refine ⟨⟨fd, F.ok sc_Source_is_row_of (fun vs H Q E h => ?_) (fun cdv A outer s H vs Q E hr h => ?_), F.bindsN fun _ _ _ _ _ _ us hl => match us, hl with | [_, _, _, _], _ => rfl⟩⟩
  · obtain ⟨p, fp, dx, va, a, m0, fs, cs, ks, us, kv, res, r, m, rfl, S0, F0, ha, hm, hb, hk, hn, hg, k⟩ := h; rfl
  · obtain ⟨p, fp, dx, va, a, m0, fs, cs, ks, us, kv, res, r, m, rfl, S0, F0, ha, hm, hb, hk, hn, hg, k⟩ := h
    have hr_is_row : Room 5 _ := hr.mono (by decide)
    have hr_row_sets : Room 1 _ := hr.mono (by decide)
    have hr_row_reads : Room 1 _ := hr.mono (by decide)
    have hr_row_kinds_fit : Room 3 _ := hr.mono (by decide)
    have hu := hu_of hr
    refine ⟨_, PSs.nox (pss_cons (ps_if (pt_not (pt_val (pe_call G_is_row hr_is_row (by rfl) H_is_row.gl H_is_row.kp b_is_row .nil pass0 (pa_cons (pv 0) (pa_cons (pv 2) (pa_cons (pe_glob (v := .ref (He.ga K "ROW_WORDS")) rfl T.g_ROW_WORDS rfl) pa_nil)))))) (pss_one (ps_ret pe_bl)) pss_nil)
      (pss_cons (ps_if (PW.pt (pw_and (pt_cmpR op_in_seq (pe_ix ix_tup (pv 2) pe_int (fun _ _ => rfl)) (pe_tup (pa_cons pe_str (pa_cons pe_str pa_nil))) rfl) (pw_and1 (pt_not (pt_chain op_le op_lt pe_int (pe_ix ix_tup (pv 2) (pe_un un_neg pe_int) (fun _ _ => rfl)) (pv 3)))))) (pss_one (ps_ret pe_bl)) pss_nil)
      (pss_cons (ps_set (i := 4) sc_Source_is_row_of.nd rfl (Or.inl rfl) (pe_lst (pa_cons (pe_call G_row_sets hr_row_sets (by rfl) H_row_sets.gl H_row_sets.kp b_row_sets .nil pass0 (pa_cons (pv 2) pa_nil)) pa_nil)))
      (pss_cons (ps_expr (pe_bm PySem.F.plainAttrs_list PySem.F.slot_list_extend PySem.F.type_list_extend mt_extend (pv 4) (pa_cons (pe_call G_row_reads hr_row_reads (by rfl) H_row_reads.gl H_row_reads.kp b_row_reads .nil pass0 (pa_cons (pv 2) pa_nil)) pa_nil)))
      (pss_cons (ps_if (pt_not (pt_val (pe_callB (cr_all rfl) (by rfl) T.f_all (by decide +kernel) (pa_cons (pe_lc (own := [("name", 5)]) (g := gName 5) (tt := tYes) rfl sc_Source_is_row_of.nd (pi_list (pv 4)) (blkOk_by (N := ["self", "function", "row", "many", "names", "name"]) (sc := defScope s_Source_is_row_of) (by decide +kernel)) (fun _ _ _ _ _ => (pg_name (i := 5) sc_Source_is_row_of.nd rfl (Or.inl rfl))) (fun _ _ _ _ _ => pts_nil) (fun _ _ _ _ _ => (pe_or (pe_cmpR op_isN (pv 5) pe_non (nomark _)) (pe_one (pe_cmp (pc_din hu (pv 5) (pe_fldK (K := K) rfl (pv 1) (by rfl))) (by rfl)))))) pa_nil)))) (pss_one (ps_ret pe_bl)) pss_nil)
      (pss_one (ps_ret (pe_call G_row_kinds_fit hr_row_kinds_fit (by rfl) H_row_kinds_fit.gl H_row_kinds_fit.kp b_row_kinds_fit .nil pass0 (pa_cons (pv 0) (pa_cons (pv 2) (pa_cons (pe_fldK (K := K) rfl (pv 1) (by rfl)) (pa_cons (pe_fldK (K := K) rfl (pv 1) (by rfl)) pa_nil)))))))))))), ?_⟩
    refine ⟨_, rfl, _, rfl, p, cs, ks, us, a, .ref m0, r, rfl, S0, ha, hb, fun H1 s1 => ⟨_, rfl, iteF ?_⟩⟩
    have ha1 := s1 _ _ ha
    have F1 := F0.mono s1
    have hrl : r.reads.length ≤ 1003 := by
      cases r with
      | call x F bs =>
        have := (hm bs rfl).2
        simp only [Rx.reads]
        omega
      | _ => simp [Rx.reads]
    refine ⟨_, rfl, _, _, _, _, rfl, rfl, SqT.of ha1, at0, ?_⟩
    refine ⟨sz_of (by decide), fun t ht => ⟨t, _, rfl, .inr (SqT.of upd_same), rfl, rfl, ?_⟩⟩
    have s2 : Same H1 (upd H1 t (.tup [.str "if", .str "jump"])) := Same.new ht
    cases e : r.goal with
    | none =>
      refine ⟨_, rfl, ifF ?_ ?_⟩
      · cases r <;> first | rfl | exact binNo _ | cases e
      refine iteF ?_
      have ha2 := s2 _ _ ha1
      refine ⟨_, rfl, a, .ref m0, r, rfl, ha2, sz_of (by show 1 ≤ 100000; decide), fun l hl => ?_⟩
      have s3 : Same (upd H1 t (.tup [.str "if", .str "jump"])) (upd (upd H1 t (.tup [.str "if", .str "jump"])) l (.lst [oS r.sets])) := Same.new hl
      refine ⟨_, rfl, .inl ⟨rfl, _, SqL.of upd_same⟩, _, rfl, a, m0, r, rfl, s3 _ _ ha2, hm.mono (s1.trans (s2.trans s3)), fun q H3 s4 _ hq => ?_⟩
      refine ⟨l, q, _, _, rfl, rfl, s4 _ _ upd_same, hq, sz_of ?_, ?_⟩
      · have := hrl
        simp only [List.length_map, List.length_cons, List.length_nil]
        omega
      have s5 : Same H1 (upd H3 l (.lst ([oS r.sets] ++ r.reads.map V.str))) := s2.trans (Same.mut (s3.trans s4) hl)
      refine ⟨_, rfl, l, rfl, ⟨_, SqL.of upd_same⟩, fun D hD => ?_⟩
      have hin : ∀ y ∈ ([oS r.sets] ++ r.reads.map V.str), y = .non ∨ ∃ x ∈ r.names, y = .str x := by
        intro y hy
        simp only [List.mem_append, List.mem_singleton, List.mem_map] at hy
        unfold Rx.names
        rcases hy with rfl | ⟨x, hx, rfl⟩
        · cases e : r.sets with
          | none => exact .inl rfl
          | some x => exact .inr ⟨x, List.mem_cons_self, rfl⟩
        · cases e : r.sets with
          | none => exact .inr ⟨x, hx, rfl⟩
          | some z => exact .inr ⟨x, List.mem_cons_of_mem _ hx, rfl⟩
      refine lc_pure (walk_list (K := K) (a := l) (xs := [oS r.sets] ++ r.reads.map V.str)) hD (fun _ => .bl true) ?_ (fun H4 s6 => SqL.of (s6 _ _ upd_same)) (fun i H4 y H5 hi s6 hy Qe qe => ?_) (fun H4 s6 h4 => ?_)
      · have := hrl
        simp only [List.length_append, List.length_map, List.length_cons, List.length_nil]
        omega
      · obtain ⟨rfl, hy⟩ := hy
        have F2 := F1.mono (s5.trans s6)
        rcases hin y (List.mem_of_getElem? hy) with rfl | ⟨x, hx, rfl⟩
        · exact ⟨rfl, _, rfl, rfl, _, rfl, iteT (qe _ (Same.refl _))⟩
        · obtain ⟨v, hv⟩ := hn x hx
          refine ⟨rfl, _, rfl, rfl, _, rfl, iteF ⟨_, rfl, _, rfl, fp, _, dx, fs, _, rfl, F2.ob, T.c_Function, T.n_Function_variables, F2.vars, va, some v, rfl, ?_, qe _ (Same.refl _)⟩⟩
          rw [← hv]
          exact DGet.k (k := Sum.inr x) F2.vd
      refine ⟨D, (List.range ([oS r.sets] ++ r.reads.map V.str).length).map (fun _ => true), rfl, SqL.of (by rw [h4, List.map_map]; rfl), _, rfl, ifF (show (!((List.range ([oS r.sets] ++ r.reads.map V.str).length).map (fun _ => true)).all id) = false by rw [all_true]; rfl) ?_⟩
      have F3 := F1.mono (s5.trans s6)
      refine ⟨_, rfl, _, rfl, _, rfl, fp, _, dx, fs, _, rfl, F3.ob, T.c_Function, T.n_Function_variables, F3.vars, _, rfl, fp, _, dx, fs, _, rfl, F3.ob, T.c_Function, T.n_Function_result, F3.res, p, a, m0, va, cs, ks, us, kv, res, r, rfl, S0.mono (s1.trans (s5.trans s6)), s6 _ _ (s5 _ _ ha1), hm.mono (s1.trans (s5.trans s6)), F3.vd, hk.mono (s1.trans (s5.trans s6)), fun H' s7 => k H' ((s1.trans (s5.trans s6)).trans s7)⟩
    | some gg =>
      have hgg := hg gg e
      have hat : atI (V.str r.word :: r.parts (.ref m0)) (-1) = some (.int gg) := by
        cases r with
        | ifz x z =>
          have e2 : z = gg := Option.some.inj e
          rw [← e2]
          exact atI_last [V.str "if", V.str x] (.int z)
        | jump z =>
          have e2 : z = gg := Option.some.inj e
          rw [← e2]
          exact atI_last [V.str "jump"] (.int z)
        | _ => cases e
      refine ⟨_, rfl, ifT ?_ ?_⟩
      · cases r <;> first | rfl | cases e
      refine ⟨_, rfl, 1, rfl, _, _, _, _, rfl, rfl, SqT.of (s2 _ _ ha1), hat, _, _, rfl, rfl, _, rfl, ifT (decide_eq_true (by omega)) ⟨_, rfl, _, _, rfl, rfl, _, rfl, ?_⟩⟩
      have eqq : (!decide ((gg : Int) < (m : Int))) = false := by
        rw [decide_eq_true (by omega)]
        rfl
      refine ifF eqq ?_
      have ha2 := s2 _ _ ha1
      refine ⟨_, rfl, a, .ref m0, r, rfl, ha2, sz_of (by show 1 ≤ 100000; decide), fun l hl => ?_⟩
      have s3 : Same (upd H1 t (.tup [.str "if", .str "jump"])) (upd (upd H1 t (.tup [.str "if", .str "jump"])) l (.lst [oS r.sets])) := Same.new hl
      refine ⟨_, rfl, .inl ⟨rfl, _, SqL.of upd_same⟩, _, rfl, a, m0, r, rfl, s3 _ _ ha2, hm.mono (s1.trans (s2.trans s3)), fun q H3 s4 _ hq => ?_⟩
      refine ⟨l, q, _, _, rfl, rfl, s4 _ _ upd_same, hq, sz_of ?_, ?_⟩
      · have := hrl
        simp only [List.length_map, List.length_cons, List.length_nil]
        omega
      have s5 : Same H1 (upd H3 l (.lst ([oS r.sets] ++ r.reads.map V.str))) := s2.trans (Same.mut (s3.trans s4) hl)
      refine ⟨_, rfl, l, rfl, ⟨_, SqL.of upd_same⟩, fun D hD => ?_⟩
      have hin : ∀ y ∈ ([oS r.sets] ++ r.reads.map V.str), y = .non ∨ ∃ x ∈ r.names, y = .str x := by
        intro y hy
        simp only [List.mem_append, List.mem_singleton, List.mem_map] at hy
        unfold Rx.names
        rcases hy with rfl | ⟨x, hx, rfl⟩
        · cases e : r.sets with
          | none => exact .inl rfl
          | some x => exact .inr ⟨x, List.mem_cons_self, rfl⟩
        · cases e : r.sets with
          | none => exact .inr ⟨x, hx, rfl⟩
          | some z => exact .inr ⟨x, List.mem_cons_of_mem _ hx, rfl⟩
      refine lc_pure (walk_list (K := K) (a := l) (xs := [oS r.sets] ++ r.reads.map V.str)) hD (fun _ => .bl true) ?_ (fun H4 s6 => SqL.of (s6 _ _ upd_same)) (fun i H4 y H5 hi s6 hy Qe qe => ?_) (fun H4 s6 h4 => ?_)
      · have := hrl
        simp only [List.length_append, List.length_map, List.length_cons, List.length_nil]
        omega
      · obtain ⟨rfl, hy⟩ := hy
        have F2 := F1.mono (s5.trans s6)
        rcases hin y (List.mem_of_getElem? hy) with rfl | ⟨x, hx, rfl⟩
        · exact ⟨rfl, _, rfl, rfl, _, rfl, iteT (qe _ (Same.refl _))⟩
        · obtain ⟨v, hv⟩ := hn x hx
          refine ⟨rfl, _, rfl, rfl, _, rfl, iteF ⟨_, rfl, _, rfl, fp, _, dx, fs, _, rfl, F2.ob, T.c_Function, T.n_Function_variables, F2.vars, va, some v, rfl, ?_, qe _ (Same.refl _)⟩⟩
          rw [← hv]
          exact DGet.k (k := Sum.inr x) F2.vd
      refine ⟨D, (List.range ([oS r.sets] ++ r.reads.map V.str).length).map (fun _ => true), rfl, SqL.of (by rw [h4, List.map_map]; rfl), _, rfl, ifF (show (!((List.range ([oS r.sets] ++ r.reads.map V.str).length).map (fun _ => true)).all id) = false by rw [all_true]; rfl) ?_⟩
      have F3 := F1.mono (s5.trans s6)
      refine ⟨_, rfl, _, rfl, _, rfl, fp, _, dx, fs, _, rfl, F3.ob, T.c_Function, T.n_Function_variables, F3.vars, _, rfl, fp, _, dx, fs, _, rfl, F3.ob, T.c_Function, T.n_Function_result, F3.res, p, a, m0, va, cs, ks, us, kv, res, r, rfl, S0.mono (s1.trans (s5.trans s6)), s6 _ _ (s5 _ _ ha1), hm.mono (s1.trans (s5.trans s6)), F3.vd, hk.mono (s1.trans (s5.trans s6)), fun H' s7 => k H' ((s1.trans (s5.trans s6)).trans s7)⟩

end
end W1
set_option Elab.async false
set_option linter.all false
set_option maxRecDepth 100000
set_option maxHeartbeats 4000000
namespace W1
open PySem PySem.Spec PyProof.Rows L2 RZ
section
variable {P : Program} {w : World} {K : PySem.W.Frag} {mg : Str → Option Value} {base : Heap}

/-- all but what stands at p is as it was -/
def But (p : Addr) (H H' : Hp) : Prop := ∀ b u, H b = some u → b ≠ p → H' b = some u
theorem But.refl (p : Addr) (H : Hp) : But p H H := fun _ _ h _ => h
theorem But.trans {p : Addr} {H H1 H2 : Hp} (a : But p H H1) (b : But p H1 H2) : But p H H2 := fun c u h n => b c u (a c u h n) n
theorem But.of {p : Addr} {H H' : Hp} (e : Same H H') : But p H H' := fun b u h _ => e b u h
theorem But.upd {p : Addr} {H : Hp} {o : HO} : But p H (upd H p o) := fun b u h n => by
  rw [upd_ne n]
  exact h
theorem FormG.mono {H H' : Hp} {cs ks us : List (Key × V)} {l : V} {r : Rx} (h : FormG H cs ks us l r) (e : Same H H') : FormG H' cs ks us l r := fun i x v a b => (h i x v a b).mono e
theorem KeptRows.tupfn {p C dx : Addr} {fs fs' : List (Str × V)} {H : Hp} {qs : List Addr} {rws : List Rx} (h : KeptRows H qs rws) (hp : H p = some (.ins C dx fs)) : KeptRows (L2.upd H p (.ins C dx fs')) qs rws :=
  ⟨h.len, fun i a r e1 e2 => by
    obtain ⟨l, h1, h2⟩ := h.at_ i a r e1 e2
    refine ⟨l, ?_, fun bs e => ?_⟩
    · rw [upd_ne (ne_of h1 hp (by intro z; cases z))]
      exact h1
    · have q := h2 bs e
      rw [if_pos rfl] at q ⊢
      rw [upd_ne (ne_of q hp (by intro z; cases z))]
      exact q⟩
def spTakeRG (K : PySem.W.Frag) : Sp := fun vs H Q _ => ∃ (p fp dy va ra : Addr) (kk : Int) (gs : List (Str × V)) (cs ks us kv : List (Key × V)) (res : Str) (rs : List Addr) (rws : List Rx), vs = [.ref p, .int kk, .ref fp, .ref ra] ∧ SrcH K H p cs ks us ∧ gs.length ≤ 900 ∧ FnG K H fp dy va gs kv res ∧ H ra = some (.lst (rs.map V.ref)) ∧ RawRows H rs rws ∧
  (∀ (i : Nat) a r l, rs[i]? = some a → rws[i]? = some r → H a = some (.tup (.str r.word :: r.parts (.ref l))) → FormG H cs ks us (.ref l) r) ∧ (∀ r ∈ rws, KindsG K H ks us kv res r ∧ (∀ x ∈ r.names, ∃ v, valV kv (Sum.inr x : Key) = some v) ∧ ∀ g, r.goal = some g → g < rws.length) ∧
  (∃ r0 rl, rws = r0 ++ [rl] ∧ (rl.word = ("jump" : Str) ∨ rl.word = ("return" : Str))) ∧ rws.length ≤ 40 ∧
  ∀ (H' : Hp) (q : Addr) (qs : List Addr), But fp H H' → FnG K H' fp dy va (putF "body" (.ref q) gs) kv res → TupP H' q (qs.map V.ref) → KeptRows H' qs rws → Q .non H' 
theorem sc_Source_take_rows : FnScope ["self", "k", "function", "rows", "r", "row"] ["self", "k", "function", "rows"] (defScope s_Source_take_rows) := ⟨rfl, rfl, rfl, by decide +kernel, rfl, by decide +kernel, by decide +kernel⟩
theorem ok_Source_take_rows (T : Ctx w K mg) (H_Source_is_row_of : HasM P w K mg base 6 "Source" "_is_row_of" ["self", "function", "row", "many"] (spIsRowOfG K)) (H_frozen : Has P w K mg base 4 "frozen" ["thing"] spFzRows) : HasM P w K mg base 7 "Source" "_take_rows" ["self", "k", "function", "rows"] (spTakeRG K) := by
  obtain ⟨fd, F⟩ := T.D_Source_take_rows
  obtain ⟨fd_Source_is_row_of, G_Source_is_row_of, b_Source_is_row_of⟩ := H_Source_is_row_of.ex
  obtain ⟨fd_frozen, G_frozen, b_frozen⟩ := H_frozen.ex
  refine ⟨⟨fd, F.ok sc_Source_take_rows (fun vs H Q E h => ?_) (fun cdv A outer s H vs Q E hr h => ?_), F.bindsN fun _ _ _ _ _ _ us hl => match us, hl with | [_, _, _, _], _ => rfl⟩⟩
  · obtain ⟨p, fp, dy, va, ra, kk, gs, cs, ks, us, kv, res, rs, rws, rfl, S0, few0, F0, hra, hR, hf, hok, hlast, hle, k⟩ := h; rfl
  · obtain ⟨p, fp, dy, va, ra, kk, gs, cs, ks, us, kv, res, rs, rws, rfl, S0, few0, F0, hra, hR, hf, hok, hlast, hle, k⟩ := h
    have hr_Source_is_row_of : Room 6 _ := hr.mono (by decide)
    have hr_frozen : Room 4 _ := hr.mono (by decide)
    have hu := hu_of hr
    refine ⟨_, PSs.nox (pss_cons (ps_for PassesOwn.never rfl (pi_enum (by rfl) T.f_enumerate (pa_cons (pv 3) pa_nil)) (pg_tup rfl (pgs_cons (pg_name (i := 4) sc_Source_take_rows.nd rfl (Or.inl rfl)) (pgs_cons (pg_name (i := 5) sc_Source_take_rows.nd rfl (Or.inl rfl)) pgs_nil)))
      (pss_one (ps_if (pt_not (pt_val (pe_meth (pv 0) T.c_Source T.m_Source_is_row_of G_Source_is_row_of hr_Source_is_row_of b_Source_is_row_of .nil pass0 (pa_cons (pv 2) (pa_cons (pv 5) (pa_cons (pe_callB call_len_seq (by rfl) T.f_len (by decide +kernel) (pa_cons (pv 3) pa_nil)) pa_nil)))))) (pss_one ps_never) pss_nil)))
      (pss_cons (ps_if (pt_cmpR op_notIn_seq (pe_ix ix_tup (pe_ix ix_list (pv 3) (pe_un un_neg pe_int) (fun _ _ => rfl)) pe_int (fun _ _ => rfl)) (pe_tup (pa_cons pe_str (pa_cons pe_str pa_nil))) rfl) (pss_one ps_never) pss_nil)
      (pss_one (ps_fld (pv 2) (pe_call G_frozen hr_frozen (by rfl) H_frozen.gl H_frozen.kp b_frozen .nil pass0 (pa_cons (pv 3) pa_nil)) rfl)))), ?_⟩
    obtain ⟨dx, df, dk, du, fs, S⟩ := id S0
    have hlr : rs.length = rws.length := hR.len
    have nra : ra ≠ fp := ne_of hra F0.ob (by intro z; cases z)
    refine ⟨_, rfl, ra, _, rfl, SqL.of hra, ?_⟩
    refine for_it (walk_enum (K := K) (a := ra) (xs := rs.map V.ref)) (fun i σ H1 => ∃ v1 v2 : Option V, σ = [some (.ref p), some (.int kk), some (.ref fp), some (.ref ra), v1, v2] ∧ Same H H1) ⟨none, none, rfl, Same.refl H⟩ (fun i σ H1 _ ⟨_, _, _, s1⟩ => SqL.of (s1 _ _ hra)) ?_ ?_
    · rintro i y σ H1 H2 hi ⟨v1, v2, rfl, s1⟩ ⟨u, a, b, rfl, hu0, rfl, h1, h2⟩
      have h2 : (rs.map V.ref)[i]? = some b := h2
      obtain rfl : V.int (i : Nat) = a := Option.some.inj h1
      obtain ⟨c, hc, rfl⟩ := map_get h2
      have hir : i < rws.length := by
        rw [← hlr]
        exact (List.getElem?_eq_some_iff.mp hc).1
      have hr1 : rws[i]? = some rws[i] := List.getElem?_eq_getElem hir
      obtain ⟨l, hca, hm⟩ := hR.at_ i c _ hc hr1
      have s2 : Same H1 (upd H1 u (.tup [.int (i : Nat), .ref c])) := Same.new hu0
      have s12 := s1.trans s2
      obtain ⟨q1, q2, q3⟩ := hok rws[i] (List.getElem_mem hir)
      refine ⟨u, _, rfl, SqT.of upd_same, rfl, _, _, rfl, _, _, rfl, rfl, ?_⟩
      refine ⟨_, rfl, p, dx, fs, rfl, s12 _ _ S.ob, S.nm _ (by decide +kernel), _, rfl, _, rfl, _, rfl, _, _, rfl, .inl (SqL.of (s12 _ _ hra)), ?_⟩
      refine ⟨p, fp, dy, va, c, l, gs, cs, ks, us, kv, res, rws[i], (rs.map V.ref).length, rfl, S0.mono s12, F0.mono s12, s12 _ _ hca, hm.mono s12, (hf i c _ l hc hr1 hca).mono s12, q1.mono s12, q2, fun g e => by rw [List.length_map, hlr]; exact q3 g e, fun H3 s3 => ⟨_, rfl, iteF ?_⟩⟩
      exact ⟨_, _, rfl, s12.trans s3⟩
    · rintro σ H1 ⟨v1, v2, rfl, s1⟩
      have hl2 := hlast
      obtain ⟨r0, rl, erl, hword⟩ := hl2
      have hrl : rws[r0.length]? = some rl := by
        rw [erl]
        simp
      have hl0 : rs.length = r0.length + 1 := by
        rw [hlr, erl]
        simp
      obtain ⟨c, hc⟩ : ∃ c, rs[r0.length]? = some c := ⟨rs[r0.length], List.getElem?_eq_getElem _⟩
      obtain ⟨l, hcl, _⟩ := hR.at_ _ c rl hc hrl
      have hat : atI (rs.map V.ref) (-1) = some (.ref c) := by
        have e1 : rs = rs.take r0.length ++ [c] := by
          have e2 := take_snoc hc
          rw [← e2, List.take_of_length_le (by omega)]
        rw [e1, List.map_append]
        exact atI_last _ _
      refine ⟨_, rfl, 1, rfl, _, _, _, _, rfl, rfl, SqL.of (s1 _ _ hra), hat, _, _, _, _, rfl, rfl, SqT.of (s1 _ _ hcl), at0, sz_of (by show 2 ≤ 100000; decide), fun t ht => ⟨t, _, rfl, .inr (SqT.of upd_same), rfl, rfl, _, rfl, ifF ?_ ?_⟩⟩
      · show (if true = true then !inV (V.str rl.word) [.str "jump", .str "return"] else inV (V.str rl.word) [.str "jump", .str "return"]) = false
        rcases hword with e | e <;> rw [e] <;> rfl
      have s2 : Same H1 (upd H1 t (.tup [.str "jump", .str "return"])) := Same.new ht
      have s12 := s1.trans s2
      refine ⟨_, rfl, ra, rs, rws, rfl, s12 _ _ hra, hR.mono s12, by omega, fun q qs H3 s3 tq hqs => ?_⟩
      have s13 := s12.trans s3
      refine ⟨_, rfl, fp, _, dy, _, rfl, s13 _ _ F0.ob, T.c_Function, T.n_Function_body, Nat.lt_of_le_of_lt few0 (by decide), ?_⟩
      refine k _ q qs ((But.of s13).trans But.upd) ⟨upd_same, ?_, ?_, ?_⟩ ?_ (hqs.tupfn (s13 _ _ F0.ob))
      · rw [lookup_putF, if_neg (by decide +kernel)]
        exact F0.vars
      · rw [lookup_putF, if_neg (by decide +kernel)]
        exact F0.res
      · rw [upd_ne (ne_of F0.vd F0.ob (by intro z; cases z))]
        exact s13 _ _ F0.vd
      · obtain ⟨ob, e, pl⟩ := tq
        exact ⟨ob, by rw [upd_ne (ne_of e (s13 _ _ F0.ob) (by intro z; cases z))]; exact e, pl⟩

end
end W1
set_option Elab.async false
set_option linter.all false
set_option maxRecDepth 100000
set_option maxHeartbeats 4000000
namespace W1
open PySem PySem.Spec PyProof.Rows L2
section
variable {P : Program} {w : World} {K : PySem.W.Frag} {mg : Str → Option Value} {base : Heap}

/-- pairs of a name and a kind -/
structure PairsG (H : Hp) (ps : List Addr) (qs : List (Str × Str)) : Prop where
  len : ps.length = qs.length
  at_ : ∀ (i : Nat) p q, ps[i]? = some p → qs[i]? = some q → H p = some (.tup [.str q.1, .str q.2])
theorem PairsG.mono {H H' : Hp} {ps : List Addr} {qs : List (Str × Str)} (h : PairsG H ps qs) (e : Same H H') : PairsG H' ps qs := ⟨h.len, fun i p x a b => e _ _ (h.at_ i p x a b)⟩
theorem PairsG.get {H : Hp} {ps : List Addr} {qs : List (Str × Str)} (h : PairsG H ps qs) {i : Nat} {y : V} (e : (ps.map V.ref)[i]? = some y) : ∃ p q, y = .ref p ∧ ps[i]? = some p ∧ qs[i]? = some q ∧ H p = some (.tup [.str q.1, .str q.2]) := by
  obtain ⟨p, hp, rfl⟩ := map_get e
  have hi : i < qs.length := by
    rw [← h.len]
    exact (List.getElem?_eq_some_iff.mp hp).1
  have hx : qs[i]? = some qs[i] := List.getElem?_eq_getElem hi
  exact ⟨p, _, rfl, hp, hx, h.at_ i p _ hp hx⟩
def IsKind (q : Str) : Prop := q = "number" ∨ q = "object"
def spKindG : Sp := fun vs H Q _ => ∃ q, vs = [.str q] ∧ IsKind q ∧ Q (.bl true) H
def spNamedG : Sp := fun vs H Q _ => ∃ (a : Addr) (ps : List Addr) (qs : List (Str × Str)) (m : Int), vs = [.ref a, .int m] ∧ H a = some (.lst (ps.map V.ref)) ∧ PairsG H ps qs ∧ (∀ q ∈ qs, Nam q.1 ∧ IsKind q.2) ∧ (qs.map Prod.fst).Nodup ∧ (qs.length : Int) ≤ m ∧ qs.length ≤ 100 ∧ ∀ H', Same H H' → Q (.bl true) H' 
theorem sc_is_kindG : FnScope ["thing"] ["thing"] (defScope s_is_kind) := ⟨rfl, rfl, rfl, by decide +kernel, rfl, by decide +kernel, by decide +kernel⟩
theorem ok_is_kindG (T : Ctx w K mg) : Has P w K mg base 1 "is_kind" ["thing"] spKindG := by
  obtain ⟨fd, F⟩ := T.D_is_kind
  refine ⟨⟨fd, F.ok sc_is_kindG (fun vs H Q E h => ?_) (fun cdv A outer s H vs Q E hr h => ?_), F.bindsN fun _ _ _ _ _ _ us hl => match us, hl with | [_], _ => rfl⟩, F.kp, T.g_is_kind⟩
  · obtain ⟨q, rfl, hq, k⟩ := h; rfl
  · obtain ⟨q, rfl, hq, k⟩ := h
    have hu := hu_of hr
    refine ⟨_, PSs.nox (pss_one (ps_ret (pe_and (pe_callB call_isi (by rfl) T.f_isinstance (by decide +kernel) (pa_cons (pv 0) (pa_cons (pe_bltn (v := .ty "str") (u := .type "str") rfl T.f_str (by decide +kernel) rfl) pa_nil))) (pe_one (pe_cmpR op_in_seq (pv 0) (pe_glob (v := .ref (He.ga K "KINDS")) rfl T.g_KINDS rfl) rfl))))), ?_⟩
    refine ⟨_, rfl, _, _, _, _, true, rfl, .ty _, .base (.str _), kit_ty (by decide +kernel), true, rfl, iteT ?_⟩
    refine ⟨_, rfl, _, _, rfl, .inr (T.kinds H), rfl, rfl, qT ?_ k⟩
    rcases hq with rfl | rfl <;> rfl
theorem sc_are_named_kindsG : FnScope ["thing", "most", "names", "pair"] ["thing", "most"] (defScope s_are_named_kinds) := ⟨rfl, rfl, rfl, by decide +kernel, rfl, by decide +kernel, by decide +kernel⟩
theorem ok_are_named_kindsG (T : Ctx w K mg) (H_is_list_of : Has P w K mg base 1 "is_list_of" ["thing", "least", "most"] spListOf) (H_is_tuple_of : Has P w K mg base 1 "is_tuple_of" ["thing", "many"] spTupOf) (H_is_name : Has P w K mg base 1 "is_name" ["thing"] spName) (H_is_kind : Has P w K mg base 1 "is_kind" ["thing"] spKindG) : Has P w K mg base 2 "are_named_kinds" ["thing", "most"] spNamedG := by
  obtain ⟨fd, F⟩ := T.D_are_named_kinds
  obtain ⟨fd_is_list_of, G_is_list_of, b_is_list_of⟩ := H_is_list_of.ex
  obtain ⟨fd_is_tuple_of, G_is_tuple_of, b_is_tuple_of⟩ := H_is_tuple_of.ex
  obtain ⟨fd_is_name, G_is_name, b_is_name⟩ := H_is_name.ex
  obtain ⟨fd_is_kind, G_is_kind, b_is_kind⟩ := H_is_kind.ex
  refine ⟨⟨fd, F.ok sc_are_named_kindsG (fun vs H Q E h => ?_) (fun cdv A outer s H vs Q E hr h => ?_), F.bindsN fun _ _ _ _ _ _ us hl => match us, hl with | [_, _], _ => rfl⟩, F.kp, T.g_are_named_kinds⟩
  · obtain ⟨a, ps, qs, m, rfl, ha, hp, hN, hnd, hm, h100, k⟩ := h; rfl
  · obtain ⟨a, ps, qs, m, rfl, ha, hp, hN, hnd, hm, h100, k⟩ := h
    have hr_is_list_of : Room 1 _ := hr.mono (by decide)
    have hr_is_tuple_of : Room 1 _ := hr.mono (by decide)
    have hr_is_name : Room 1 _ := hr.mono (by decide)
    have hr_is_kind : Room 1 _ := hr.mono (by decide)
    have hu := hu_of hr
    refine ⟨_, PSs.nox (pss_cons (ps_if (pt_not (pt_val (pe_call G_is_list_of hr_is_list_of (by rfl) H_is_list_of.gl H_is_list_of.kp b_is_list_of .nil pass0 (pa_cons (pv 0) (pa_cons pe_int (pa_cons (pv 1) pa_nil)))))) (pss_one (ps_ret pe_bl)) pss_nil)
      (pss_cons (ps_set (i := 2) sc_are_named_kindsG.nd rfl (Or.inl rfl) pe_dnewK)
      (pss_cons (ps_for PassesOwn.never rfl (pi_list (pv 0)) (pg_name (i := 3) sc_are_named_kindsG.nd rfl (Or.inl rfl))
      (pss_cons (ps_if (PW.pt (pw_or (pt_not (pt_val (pe_call G_is_tuple_of hr_is_tuple_of (by rfl) H_is_tuple_of.gl H_is_tuple_of.kp b_is_tuple_of .nil pass0 (pa_cons (pv 3) (pa_cons pe_int pa_nil))))) (pw_or (pt_not (pt_val (pe_call G_is_name hr_is_name (by rfl) H_is_name.gl H_is_name.kp b_is_name .nil pass0 (pa_cons (pe_ix ix_tup (pv 3) pe_int (fun _ _ => rfl)) pa_nil)))) (pw_or1 (pt_not (pt_val (pe_call G_is_kind hr_is_kind (by rfl) H_is_kind.gl H_is_kind.kp b_is_kind .nil pass0 (pa_cons (pe_ix ix_tup (pv 3) pe_int (fun _ _ => rfl)) pa_nil)))))))) (pss_one (ps_ret pe_bl)) pss_nil)
      (pss_cons (ps_if (pt_cmp (pc_din hu (pe_ix ix_tup (pv 3) pe_int (fun _ _ => rfl)) (pv 2))) (pss_one (ps_ret pe_bl)) pss_nil)
      (pss_one (ps_dput hu (pv 2) (pe_ix ix_tup (pv 3) pe_int (fun _ _ => rfl)) pe_bl rfl)))))
      (pss_one (ps_ret pe_bl))))), ?_⟩
    have hlp : (ps.map V.ref).length = qs.length := by rw [List.length_map, hp.len]
    refine ⟨_, rfl, _, rfl, a, ps.map V.ref, 0, m, rfl, ha, by omega, by rw [hlp]; exact hm, _, rfl, iteF ?_⟩
    intro d hd
    have s1 : Same H (upd H d (.dK [])) := Same.new hd
    refine ⟨_, rfl, a, rfl, ⟨_, SqL.of (s1 _ _ ha)⟩, ?_⟩
    refine for_it (walk_list (K := K) (a := a) (xs := ps.map V.ref)) (fun i σ H1 => ∃ v : Option V, σ = [some (.ref a), some (.int m), some (.ref d), v] ∧ Same H H1 ∧ H1 d = some (.dK (kvT ((qs.map Prod.fst).take i) fun _ => .bl true))) ⟨none, rfl, s1, upd_same⟩ (fun i σ H1 _ ⟨v, _, s2, _⟩ => SqL.of (s2 _ _ ha)) ?_ ?_
    · rintro i y σ H1 H2 hi ⟨v, rfl, s2, h2⟩ ⟨rfl, hy⟩
      obtain ⟨p, x, rfl, hpi, hni, hpt⟩ := hp.get hy
      have hx := s2 _ _ hpt
      have hni1 : (qs.map Prod.fst)[i]? = some x.1 := by
        rw [List.getElem?_map, hni]
        rfl
      have hnot := not_in_take hnd hni1
      obtain ⟨n1, n2⟩ := hN x (List.mem_of_getElem? hni)
      refine ⟨_, rfl, p, _, 2, rfl, hx, rfl, _, rfl, ?_⟩
      refine iteF ⟨_, rfl, _, _, _, _, rfl, rfl, SqT.of hx, at0, x.1, rfl, n1, fun H3 s3 => ⟨_, rfl, iteF ?_⟩⟩
      have hx3 := s3 _ _ hx
      refine ⟨_, rfl, _, _, _, _, rfl, rfl, SqT.of hx3, at1, x.2, rfl, n2, _, rfl, iteF ?_⟩
      have h3 := s3 _ _ h2
      refine ⟨_, rfl, _, _, _, _, rfl, rfl, SqT.of hx3, at0, _, rfl, d, _, rfl, DGet.k (k := Sum.inr x.1) h3, _, rfl, ?_⟩
      refine ifF (by rw [valV_kvT hnot]; rfl) ?_
      refine ⟨_, rfl, _, rfl, _, _, _, _, rfl, rfl, SqT.of hx3, at0, d, _, rfl, DPut.k (k := Sum.inr x.1) h3 (small1000 ?_), ?_⟩
      · unfold kvT
        rw [List.length_map, List.length_take, List.length_map]
        omega
      · refine ⟨_, rfl, Same.mut (s2.trans s3) hd, ?_⟩
        rw [upd_same, take_snoc hni1]
        exact congrArg (fun l => some (HO.dK l)) (putK_kvT hnot)
    · rintro σ H1 ⟨v, rfl, s2, h2⟩
      exact k _ s2

end
end W1
set_option Elab.async false
set_option linter.all false
set_option maxRecDepth 100000
set_option maxHeartbeats 4000000
namespace W1
open PySem PySem.Spec PyProof.Rows L2
section
variable {P : Program} {w : World} {K : PySem.W.Frag} {mg : Str → Option Value} {base : Heap}

theorem PairsG.append {H : Hp} {ps qs : List Addr} {ns ms : List (Str × Str)} (h : PairsG H ps ns) (h2 : PairsG H qs ms) : PairsG H (ps ++ qs) (ns ++ ms) := by
  refine ⟨by rw [List.length_append, List.length_append, h.len, h2.len], fun i p x a b => ?_⟩
  by_cases hi : i < ps.length
  · rw [List.getElem?_append_left hi] at a
    rw [List.getElem?_append_left (by rw [← h.len]; exact hi)] at b
    exact h.at_ i p x a b
  · rw [List.getElem?_append_right (by omega)] at a
    rw [List.getElem?_append_right (by rw [← h.len]; omega), ← h.len] at b
    exact h2.at_ _ p x a b
/-- a function as it is handed in, all but its rows -/
structure EntryG (H : Hp) (e pa oa ra : Addr) (nm res : Str) (ps qs : List Addr) (ns ms : List (Str × Str)) (rs : List V) : Prop where
  he : H e = some (.tup [.str nm, .ref pa, .ref oa, .str res, .ref ra])
  nf : Nam nm
  kd : IsKind res
  hpa : H pa = some (.lst (ps.map V.ref))
  p1 : PairsG H ps ns
  hoa : H oa = some (.lst (qs.map V.ref))
  p2 : PairsG H qs ms
  nam : ∀ q ∈ ns ++ ms, Nam q.1 ∧ IsKind q.2
  nd : ((ns ++ ms).map Prod.fst).Nodup
  l1 : ns.length ≤ 4
  l2 : ms.length ≤ 8
  hra : H ra = some (.lst rs)
  l3 : 1 ≤ rs.length
  l4 : rs.length ≤ 40
def spHeadG : Sp := fun vs H Q _ => ∃ (e pa oa ra : Addr) (nm res : Str) (ps qs : List Addr) (ns ms : List (Str × Str)) (rs : List V), vs = [.ref e] ∧ EntryG H e pa oa ra nm res ps qs ns ms rs ∧ ∀ H', Same H H' → Q (.bl true) H'
/-- a class as it is handed in -/
def spClassG : Sp := fun vs H Q _ => ∃ (e fa : Addr) (nm : Str) (ps : List Addr) (ns : List (Str × Str)), vs = [.ref e] ∧ H e = some (.tup [.str nm, .ref fa]) ∧ Nam nm ∧ H fa = some (.lst (ps.map V.ref)) ∧ PairsG H ps ns ∧ (∀ q ∈ ns, Nam q.1 ∧ IsKind q.2) ∧ (ns.map Prod.fst).Nodup ∧ ns.length ≤ 4 ∧ ∀ H', Same H H' → Q (.bl true) H' 
theorem sc_is_head : FnScope ["entry"] ["entry"] (defScope s_is_head) := ⟨rfl, rfl, rfl, by decide +kernel, rfl, by decide +kernel, by decide +kernel⟩
theorem ok_is_head (T : Ctx w K mg) (H_is_tuple_of : Has P w K mg base 1 "is_tuple_of" ["thing", "many"] spTupOf) (H_is_name : Has P w K mg base 1 "is_name" ["thing"] spName) (H_is_kind : Has P w K mg base 1 "is_kind" ["thing"] spKindG) (H_are_named_kinds : Has P w K mg base 2 "are_named_kinds" ["thing", "most"] spNamedG) (H_is_list_of : Has P w K mg base 1 "is_list_of" ["thing", "least", "most"] spListOf) : Has P w K mg base 3 "_is_head" ["entry"] spHeadG := by
  obtain ⟨fd, F⟩ := T.D_is_head
  obtain ⟨fd_is_tuple_of, G_is_tuple_of, b_is_tuple_of⟩ := H_is_tuple_of.ex
  obtain ⟨fd_is_name, G_is_name, b_is_name⟩ := H_is_name.ex
  obtain ⟨fd_is_kind, G_is_kind, b_is_kind⟩ := H_is_kind.ex
  obtain ⟨fd_are_named_kinds, G_are_named_kinds, b_are_named_kinds⟩ := H_are_named_kinds.ex
  obtain ⟨fd_is_list_of, G_is_list_of, b_is_list_of⟩ := H_is_list_of.ex
  refine ⟨⟨fd, F.ok sc_is_head (fun vs H Q E h => ?_) (fun cdv A outer s H vs Q E hr h => ?_), F.bindsN fun _ _ _ _ _ _ us hl => match us, hl with | [_], _ => rfl⟩, F.kp, T.g_is_head⟩
  · obtain ⟨e, pa, oa, ra, nm, res, ps, qs, ns, ms, rs, rfl, E0, k⟩ := h; rfl
  · obtain ⟨e, pa, oa, ra, nm, res, ps, qs, ns, ms, rs, rfl, E0, k⟩ := h
    have hr_is_tuple_of : Room 1 _ := hr.mono (by decide)
    have hr_is_name : Room 1 _ := hr.mono (by decide)
    have hr_is_kind : Room 1 _ := hr.mono (by decide)
    have hr_are_named_kinds : Room 2 _ := hr.mono (by decide)
    have hr_is_list_of : Room 1 _ := hr.mono (by decide)
    have hu := hu_of hr
    obtain ⟨t_MOST_PARAMETERS, e_MOST_PARAMETERS⟩ := T.i_MOST_PARAMETERS
    obtain ⟨t_MOST_OTHERS, e_MOST_OTHERS⟩ := T.i_MOST_OTHERS
    obtain ⟨t_MOST_ROWS, e_MOST_ROWS⟩ := T.i_MOST_ROWS
    refine ⟨_, PSs.nox (pss_cons (ps_if (PW.pt (pw_or (pt_not (pt_val (pe_call G_is_tuple_of hr_is_tuple_of (by rfl) H_is_tuple_of.gl H_is_tuple_of.kp b_is_tuple_of .nil pass0 (pa_cons (pv 0) (pa_cons pe_int pa_nil))))) (pw_or (pt_not (pt_val (pe_call G_is_name hr_is_name (by rfl) H_is_name.gl H_is_name.kp b_is_name .nil pass0 (pa_cons (pe_ix ix_tup (pv 0) pe_int (fun _ _ => rfl)) pa_nil)))) (pw_or1 (pt_not (pt_val (pe_call G_is_kind hr_is_kind (by rfl) H_is_kind.gl H_is_kind.kp b_is_kind .nil pass0 (pa_cons (pe_ix ix_tup (pv 0) pe_int (fun _ _ => rfl)) pa_nil)))))))) (pss_one (ps_ret pe_bl)) pss_nil)
      (pss_cons (ps_if (PW.pt (pw_or (pt_not (pt_val (pe_call G_are_named_kinds hr_are_named_kinds (by rfl) H_are_named_kinds.gl H_are_named_kinds.kp b_are_named_kinds .nil pass0 (pa_cons (pe_ix ix_tup (pv 0) pe_int (fun _ _ => rfl)) (pa_cons (pe_glob (v := .int 4) rfl e_MOST_PARAMETERS ⟨_, rfl⟩) pa_nil))))) (pw_or1 (pt_not (pt_val (pe_call G_are_named_kinds hr_are_named_kinds (by rfl) H_are_named_kinds.gl H_are_named_kinds.kp b_are_named_kinds .nil pass0 (pa_cons (pe_ix ix_tup (pv 0) pe_int (fun _ _ => rfl)) (pa_cons (pe_glob (v := .int 8) rfl e_MOST_OTHERS ⟨_, rfl⟩) pa_nil)))))))) (pss_one (ps_ret pe_bl)) pss_nil)
      (pss_cons (ps_if (pt_not (pt_val (pe_call G_are_named_kinds hr_are_named_kinds (by rfl) H_are_named_kinds.gl H_are_named_kinds.kp b_are_named_kinds .nil pass0 (pa_cons (pe_op op_cat (pe_ix ix_tup (pv 0) pe_int (fun _ _ => rfl)) (pe_ix ix_tup (pv 0) pe_int (fun _ _ => rfl))) (pa_cons (pe_op op_add (pe_glob (v := .int 4) rfl e_MOST_PARAMETERS ⟨_, rfl⟩) (pe_glob (v := .int 8) rfl e_MOST_OTHERS ⟨_, rfl⟩)) pa_nil))))) (pss_one (ps_ret pe_bl)) pss_nil)
      (pss_one (ps_ret (pe_call G_is_list_of hr_is_list_of (by rfl) H_is_list_of.gl H_is_list_of.kp b_is_list_of .nil pass0 (pa_cons (pe_ix ix_tup (pv 0) pe_int (fun _ _ => rfl)) (pa_cons pe_int (pa_cons (pe_glob (v := .int 40) rfl e_MOST_ROWS ⟨_, rfl⟩) pa_nil))))))))), ?_⟩
    obtain ⟨he, nf, kd, hpa, hp1, hoa, hp2, hN, hnd, l1, l2, hra, l3, l4⟩ := E0
    have hnd0 := hnd
    rw [List.map_append] at hnd0
    have hnd1 := (List.nodup_append.mp hnd0).1
    have hnd2 := (List.nodup_append.mp hnd0).2.1
    refine ⟨_, rfl, e, _, 5, rfl, he, rfl, _, rfl, iteF ?_⟩
    refine ⟨_, rfl, _, _, _, _, rfl, rfl, SqT.of he, at0, nm, rfl, nf, fun H1 s1 => ⟨_, rfl, iteF ?_⟩⟩
    refine ⟨_, rfl, _, _, _, _, rfl, rfl, SqT.of (s1 _ _ he), at3, res, rfl, kd, _, rfl, iteF ?_⟩
    refine ⟨_, rfl, _, _, _, _, rfl, rfl, SqT.of (s1 _ _ he), at1, pa, ps, ns, 4, rfl, s1 _ _ hpa, hp1.mono s1, fun x m => hN x (List.mem_append_left _ m), hnd1, by omega, by omega, fun H2 s2 => ⟨_, rfl, iteF ?_⟩⟩
    have s12 := s1.trans s2
    refine ⟨_, rfl, _, _, _, _, rfl, rfl, SqT.of (s12 _ _ he), at2, oa, qs, ms, 8, rfl, s12 _ _ hoa, hp2.mono s12, fun x m => hN x (List.mem_append_right _ m), hnd2, by omega, by omega, fun H3 s3 => ⟨_, rfl, iteF ?_⟩⟩
    have s13 := s12.trans s3
    refine ⟨_, rfl, _, _, _, _, rfl, rfl, SqT.of (s13 _ _ he), at1, _, rfl, _, _, _, _, rfl, rfl, SqT.of (s13 _ _ he), at2, ?_⟩
    have hl1 : ps.length = ns.length := hp1.len
    have hl2 : qs.length = ms.length := hp2.len
    refine ⟨pa, oa, _, _, rfl, rfl, s13 _ _ hpa, s13 _ _ hoa, sz_of (by rw [List.length_map, List.length_map]; omega), fun c hc => ?_⟩
    have s4 := Same.new (o := .lst (ps.map V.ref ++ qs.map V.ref)) hc
    refine ⟨_, _, rfl, rfl, c, ps ++ qs, ns ++ ms, 12, rfl, by rw [upd_same, List.map_append], (hp1.append hp2).mono (s13.trans s4), hN, hnd, by rw [List.length_append]; omega, by rw [List.length_append]; omega, fun H5 s5 => ⟨_, rfl, iteF ?_⟩⟩
    have s15 := (s13.trans s4).trans s5
    exact ⟨_, rfl, _, _, _, _, rfl, rfl, SqT.of (s15 _ _ he), at4, ra, rs, 1, 40, rfl, s15 _ _ hra, by omega, by omega, k _ s15⟩
theorem sc_is_class : FnScope ["entry"] ["entry"] (defScope s_is_class) := ⟨rfl, rfl, rfl, by decide +kernel, rfl, by decide +kernel, by decide +kernel⟩
theorem ok_is_class (T : Ctx w K mg) (H_is_tuple_of : Has P w K mg base 1 "is_tuple_of" ["thing", "many"] spTupOf) (H_is_name : Has P w K mg base 1 "is_name" ["thing"] spName) (H_are_named_kinds : Has P w K mg base 2 "are_named_kinds" ["thing", "most"] spNamedG) : Has P w K mg base 3 "_is_class" ["entry"] spClassG := by
  obtain ⟨fd, F⟩ := T.D_is_class
  obtain ⟨fd_is_tuple_of, G_is_tuple_of, b_is_tuple_of⟩ := H_is_tuple_of.ex
  obtain ⟨fd_is_name, G_is_name, b_is_name⟩ := H_is_name.ex
  obtain ⟨fd_are_named_kinds, G_are_named_kinds, b_are_named_kinds⟩ := H_are_named_kinds.ex
  refine ⟨⟨fd, F.ok sc_is_class (fun vs H Q E h => ?_) (fun cdv A outer s H vs Q E hr h => ?_), F.bindsN fun _ _ _ _ _ _ us hl => match us, hl with | [_], _ => rfl⟩, F.kp, T.g_is_class⟩
  · obtain ⟨e, fa, nm, ps, ns, rfl, he, nf, hfa, hp, hN, hnd, hl, k⟩ := h; rfl
  · obtain ⟨e, fa, nm, ps, ns, rfl, he, nf, hfa, hp, hN, hnd, hl, k⟩ := h
    have hr_is_tuple_of : Room 1 _ := hr.mono (by decide)
    have hr_is_name : Room 1 _ := hr.mono (by decide)
    have hr_are_named_kinds : Room 2 _ := hr.mono (by decide)
    have hu := hu_of hr
    obtain ⟨t_MOST_FIELDS, e_MOST_FIELDS⟩ := T.i_MOST_FIELDS
    refine ⟨_, PSs.nox (pss_one (ps_ret (pe_and (pe_call G_is_tuple_of hr_is_tuple_of (by rfl) H_is_tuple_of.gl H_is_tuple_of.kp b_is_tuple_of .nil pass0 (pa_cons (pv 0) (pa_cons pe_int pa_nil))) (pe_and (pe_call G_is_name hr_is_name (by rfl) H_is_name.gl H_is_name.kp b_is_name .nil pass0 (pa_cons (pe_ix ix_tup (pv 0) pe_int (fun _ _ => rfl)) pa_nil)) (pe_one (pe_call G_are_named_kinds hr_are_named_kinds (by rfl) H_are_named_kinds.gl H_are_named_kinds.kp b_are_named_kinds .nil pass0 (pa_cons (pe_ix ix_tup (pv 0) pe_int (fun _ _ => rfl)) (pa_cons (pe_glob (v := .int 4) rfl e_MOST_FIELDS ⟨_, rfl⟩) pa_nil)))))))), ?_⟩
    refine ⟨_, rfl, e, _, 2, rfl, he, rfl, _, rfl, iteT ?_⟩
    refine ⟨_, rfl, _, _, _, _, rfl, rfl, SqT.of he, at0, nm, rfl, nf, fun H1 s1 => ⟨_, rfl, iteT ?_⟩⟩
    exact ⟨_, rfl, _, _, _, _, rfl, rfl, SqT.of (s1 _ _ he), at1, fa, ps, ns, 4, rfl, s1 _ _ hfa, hp.mono s1, hN, hnd, by omega, by omega, fun H2 s2 => k _ (s1.trans s2)⟩

end
end W1
set_option Elab.async false
set_option linter.all false
set_option maxRecDepth 100000
set_option maxHeartbeats 4000000
namespace W1
open PySem PySem.Spec PyProof.Rows L2 RZ
section
variable {P : Program} {w : World} {K : PySem.W.Frag} {mg : Str → Option Value} {base : Heap}

/-- pairs as a dict -/
def kvP (ns : List (Str × Str)) : List (Key × V) := ns.map fun n => (Sum.inr n.1, V.str n.2)
theorem valV_kvP {x : Str} : ∀ {l : List (Str × Str)}, x ∉ l.map Prod.fst → valV (kvP l) (Sum.inr x : Key) = none
  | [], _ => rfl
  | a :: l, h => by
    have h1 : ¬ a.1 = x := fun z => h (by rw [← z]; exact List.mem_cons_self)
    have ih := valV_kvP (x := x) (l := l) fun m => h (List.mem_cons_of_mem _ m)
    unfold kvP at ih ⊢
    unfold valV at ih ⊢
    rw [List.map_cons, List.find?_cons_of_neg (by simpa using h1)]
    exact ih
theorem valV_kvP_in {q : Str × Str} : ∀ {l : List (Str × Str)}, (l.map Prod.fst).Nodup → q ∈ l → valV (kvP l) (Sum.inr q.1 : Key) = some (.str q.2)
  | [], _, m => by cases m
  | a :: l, nd, m => by
    obtain ⟨n1, n2⟩ := List.nodup_cons.mp (show (a.1 :: l.map Prod.fst).Nodup from nd)
    unfold kvP
    unfold valV
    rw [List.map_cons]
    by_cases c : a.1 = q.1
    · rw [List.find?_cons_of_pos (by simpa using c)]
      have e : a = q := by
        rcases List.mem_cons.mp m with m | m
        · exact m.symm
        · exact absurd (by rw [c]; exact List.mem_map.mpr ⟨q, m, rfl⟩) n1
      rw [e]
      rfl
    · rw [List.find?_cons_of_neg (by simpa using c)]
      have m2 : q ∈ l := by
        rcases List.mem_cons.mp m with m | m
        · exact absurd (by rw [m]) c
        · exact m
      exact valV_kvP_in n2 m2
theorem putK_new {k : Key} {v : V} {l : List (Key × V)} (h : ∀ q ∈ l, q.1 ≠ k) : putK l k v = l ++ [(k, v)] := by
  unfold putK
  rw [if_neg]
  intro z
  obtain ⟨q, m, e⟩ := List.any_eq_true.mp z
  exact h q m (of_decide_eq_true e)
theorem putK_kvP {q : Str × Str} {l : List (Str × Str)} (h : q.1 ∉ l.map Prod.fst) : putK (kvP l) (Sum.inr q.1 : Key) (.str q.2) = kvP (l ++ [q]) := by
  unfold kvP
  rw [List.map_append]
  refine putK_new fun r m e => h ?_
  obtain ⟨a, ma, rfl⟩ := List.mem_map.mp m
  exact List.mem_map.mpr ⟨a, ma, Sum.inr.inj e⟩
theorem pairFG {H : Hp} {ps : List Addr} {ns : List (Str × Str)} (h : PairsG H ps ns) : ∀ (i : Nat) (p : Addr), ps[i]? = some p → H p = some (.tup [.str (ns.getD i ("", "")).1, .str (ns.getD i ("", "")).2]) ∧ ([V.str (ns.getD i ("", "")).1, .str (ns.getD i ("", "")).2] : List V).length ≤ 100 ∧ ∀ x ∈ ([V.str (ns.getD i ("", "")).1, .str (ns.getD i ("", "")).2] : List V), Fl x := by
  intro i p e
  have hi : i < ns.length := by
    rw [← h.len]
    exact (List.getElem?_eq_some_iff.mp e).1
  refine ⟨?_, by simp, fun x m => ?_⟩
  · have q := h.at_ i p ns[i] e (List.getElem?_eq_getElem hi)
    rw [q, List.getD_eq_getElem?_getD, List.getElem?_eq_getElem hi]
    rfl
  · simp at m
    rcases m with rfl | rfl
    · exact .str _
    · exact .str _
theorem fPairG {H : Hp} {qs : List Addr} {ns : List (Str × Str)} (hl : qs.length = ns.length) (h : ∀ (i : Nat) (p : Addr), qs[i]? = some p → H p = some (.tup [.str (ns.getD i ("", "")).1, .str (ns.getD i ("", "")).2])) : PairsG H qs ns := by
  refine ⟨hl, fun i p x e1 e2 => ?_⟩
  rw [h i p e1, List.getD_eq_getElem?_getD, e2]
  rfl
def spDiff (K : PySem.W.Frag) : Sp := fun vs H Q _ => ∃ (p fa : Addr) (cs ks us : List (Key × V)) (ps : List Addr) (ns : List (Str × Str)), vs = [.ref p, .ref fa] ∧ SrcH K H p cs ks us ∧ H fa = some (.lst (ps.map V.ref)) ∧ PairsG H ps ns ∧ (∀ q ∈ ns, valV ks (Sum.inr q.1 : Key) = none ∨ valV ks (Sum.inr q.1 : Key) = some (.str q.2)) ∧ ns.length ≤ 100 ∧ ∀ H', Same H H' → Q (.bl false) H'
theorem any_false {n : Nat} : ((List.range n).map fun _ => false).any id = false := by
  rw [List.any_map]
  exact List.any_eq_false.mpr fun x _ => by simp
/-- all but what stands at the places of l -/
def ButL (l : List Addr) (H H' : Hp) : Prop := ∀ b u, H b = some u → b ∉ l → H' b = some u
/-- a class as it is handed in, with its fields -/
def ClsG (H : Hp) (e : Addr) (c : Str × List (Str × Str)) : Prop := ∃ (fa : Addr) (ps : List Addr), H e = some (.tup [.str c.1, .ref fa]) ∧ H fa = some (.lst (ps.map V.ref)) ∧ PairsG H ps c.2
theorem ClsG.mono {H H' : Hp} {e : Addr} {c : Str × List (Str × Str)} (h : ClsG H e c) (s : Same H H') : ClsG H' e c := by
  obtain ⟨fa, ps, h1, h2, h3⟩ := h
  exact ⟨fa, ps, s _ _ h1, s _ _ h2, h3.mono s⟩
def csM (cl : List (Str × List (Str × Str))) (qs : List Addr) : List (Key × V) := (cl.zip qs).map fun q => (Sum.inr q.1.1, V.ref q.2)
def ksF (ks : List (Key × V)) (ns : List (Str × Str)) : List (Key × V) := ns.foldl (fun ks q => putK ks (Sum.inr q.1) (.str q.2)) ks
def ksM (cl : List (Str × List (Str × Str))) : List (Key × V) := cl.foldl (fun ks c => ksF ks c.2) []
theorem putK_len (ks : List (Key × V)) (k : Key) (v : V) : (putK ks k v).length ≤ ks.length + 1 := by
  unfold putK
  split
  · rw [List.length_map]
    omega
  · rw [List.length_append]
    exact Nat.le_refl _
theorem ksF_len (ns : List (Str × Str)) : ∀ ks : List (Key × V), (ksF ks ns).length ≤ ks.length + ns.length := by
  induction ns with
  | nil => exact fun ks => Nat.le_refl _
  | cons a l ih =>
    intro ks
    have h1 := ih (putK ks (Sum.inr a.1) (.str a.2))
    have h2 := putK_len ks (Sum.inr a.1) (.str a.2)
    show (ksF (putK ks (Sum.inr a.1) (.str a.2)) l).length ≤ _
    rw [List.length_cons]
    omega
theorem ksF_snoc (ks : List (Key × V)) (ns : List (Str × Str)) (q : Str × Str) : ksF ks (ns ++ [q]) = putK (ksF ks ns) (Sum.inr q.1) (.str q.2) := by
  unfold ksF
  rw [List.foldl_append]
  rfl
theorem ksM_snoc (cl : List (Str × List (Str × Str))) (c : Str × List (Str × Str)) : ksM (cl ++ [c]) = ksF (ksM cl) c.2 := by
  unfold ksM
  rw [List.foldl_append]
  rfl
theorem ksM_len : ∀ (cl : List (Str × List (Str × Str))) (ks : List (Key × V)), (∀ c ∈ cl, c.2.length ≤ 4) → (cl.foldl (fun ks c => ksF ks c.2) ks).length ≤ ks.length + 4 * cl.length
  | [], ks, _ => by simp
  | c :: cl, ks, h => by
    have h1 := ksM_len cl (ksF ks c.2) fun d m => h d (List.mem_cons_of_mem _ m)
    have h2 := ksF_len c.2 ks
    have h3 := h c List.mem_cons_self
    rw [List.foldl_cons, List.length_cons]
    omega
theorem cs_ne {cl : List (Str × List (Str × Str))} {qs : List Addr} {i : Nat} {c : Str × List (Str × Str)} (nd : (cl.map Prod.fst).Nodup) (h : cl[i]? = some c) : ∀ q ∈ csM (cl.take i) qs, q.1 ≠ (Sum.inr c.1 : Key) := by
  intro q m e
  unfold csM at m
  obtain ⟨r, mr, rfl⟩ := List.mem_map.mp m
  have m1 := (List.of_mem_zip mr).1
  have e1 : r.1.1 = c.1 := Sum.inr.inj e
  have q1 : (cl.map Prod.fst)[i]? = some c.1 := by
    rw [List.getElem?_map, h]
    rfl
  refine not_in_take nd q1 ?_
  rw [← List.map_take, ← e1]
  exact List.mem_map.mpr ⟨r.1, m1, rfl⟩
theorem cs_snoc {cl : List (Str × List (Str × Str))} {qs : List Addr} {i : Nat} {c : Str × List (Str × Str)} {x : Addr} (h : cl[i]? = some c) (hl : qs.length = i) : csM (cl.take (i + 1)) (qs ++ [x]) = csM (cl.take i) qs ++ [(Sum.inr c.1, V.ref x)] := by
  unfold csM
  rw [take_snoc h, List.zip_append (by
    rw [List.length_take, hl]
    have := (List.getElem?_eq_some_iff.mp h).1
    omega), List.map_append]
  rfl
theorem valV_newC {k : Key} : ∀ {l : List (Key × V)}, (∀ q ∈ l, q.1 ≠ k) → valV l k = none
  | [], _ => rfl
  | a :: l, h => by
    have ih := valV_newC (k := k) (l := l) fun q m => h q (List.mem_cons_of_mem _ m)
    unfold valV at ih ⊢
    rw [List.find?_cons_of_neg (by simpa using h a List.mem_cons_self)]
    exact ih
/-- classes that are right, by themselves and beside one another -/
structure ClsOk (cl : List (Str × List (Str × Str))) : Prop where
  nd : (cl.map Prod.fst).Nodup
  one : ∀ c ∈ cl, Nam c.1 ∧ (∀ q ∈ c.2, Nam q.1 ∧ IsKind q.2) ∧ (c.2.map Prod.fst).Nodup ∧ c.2.length ≤ 4
  l6 : cl.length ≤ 6
  fit : ∀ (i : Nat) c, cl[i]? = some c → ∀ q ∈ c.2, valV (ksM (cl.take i)) (Sum.inr q.1 : Key) = none ∨ valV (ksM (cl.take i)) (Sum.inr q.1 : Key) = some (.str q.2)
/-- what is changed in place: dicts and instances -/
def Loose (u : HO) : Prop := (∃ z, u = .dK z) ∨ ∃ C d fs, u = .ins C d fs
def KeepN (H H' : Hp) : Prop := ∀ b u, H b = some u → ¬ Loose u → H' b = some u
theorem KeepN.of {H H' : Hp} (e : Same H H') : KeepN H H' := fun b u h _ => e b u h
theorem KeepN.trans {H H1 H2 : Hp} (a : KeepN H H1) (b : KeepN H1 H2) : KeepN H H2 := fun c u h n => b c u (a c u h n) n
theorem KeepN.butL {H H' : Hp} {l : List Addr} (hl : ∀ d ∈ l, ∀ u, H d = some u → Loose u) (b : ButL l H H') : KeepN H H' := fun a u h n => b a u h fun m => n (hl a m u h)
theorem KeepN.but {H H' : Hp} {p C dx : Addr} {fs : List (Str × V)} (hp : H p = some (.ins C dx fs)) (b : But p H H') : KeepN H H' := fun a u h n => b a u h fun z => n (.inr ⟨C, dx, fs, by rw [z, hp] at h; exact (Option.some.inj h).symm⟩)
theorem loose_tup {xs : List V} : ¬ Loose (.tup xs) := fun z => by
  rcases z with ⟨_, z⟩ | ⟨_, _, _, z⟩ <;> cases z
theorem loose_frz {o : Obj} {u : HO} : ¬ Loose (.frz o u) := fun z => by
  rcases z with ⟨_, z⟩ | ⟨_, _, _, z⟩ <;> cases z
theorem TupP.keepN {H H' : Hp} {a : Addr} {xs : List V} (h : TupP H a xs) (k : KeepN H H') : TupP H' a xs := by
  obtain ⟨o, e, q⟩ := h
  exact ⟨o, k _ _ e loose_frz, q⟩
theorem PairsG.keepN {H H' : Hp} {ps : List Addr} {qs : List (Str × Str)} (h : PairsG H ps qs) (k : KeepN H H') : PairsG H' ps qs := ⟨h.len, fun i p x a b => k _ _ (h.at_ i p x a b) loose_tup⟩
/-- the fields of classes, as they are kept -/
def ClsA (H : Hp) (cl : List (Str × List (Str × Str))) (qs : List Addr) : Prop := ∀ (i : Nat) c x, cl[i]? = some c → qs[i]? = some x → ∃ ps : List Addr, TupP H x (ps.map V.ref) ∧ PairsG H ps c.2
theorem ClsA.keepN {H H' : Hp} {cl : List (Str × List (Str × Str))} {qs : List Addr} (h : ClsA H cl qs) (k : KeepN H H') : ClsA H' cl qs := fun i c x a b => by
  obtain ⟨ps, h1, h2⟩ := h i c x a b
  exact ⟨ps, h1.keepN k, h2.keepN k⟩
theorem ClsA.snoc {H : Hp} {cl : List (Str × List (Str × Str))} {qs : List Addr} {i : Nat} {c : Str × List (Str × Str)} {q : Addr} {ps : List Addr} (h : ClsA H cl qs) (hl : qs.length = i) (hc : cl[i]? = some c) (h1 : TupP H q (ps.map V.ref)) (h2 : PairsG H ps c.2) : ClsA H cl (qs ++ [q]) := fun j d x a b => by
  by_cases hj : j < i
  · rw [List.getElem?_append_left (by omega)] at b
    exact h j d x a b
  · by_cases e : j = i
    · subst e
      rw [List.getElem?_append_right (by omega), hl, Nat.sub_self] at b
      rw [hc] at a
      rw [← Option.some.inj a, ← show q = x from Option.some.inj b]
      exact ⟨ps, h1, h2⟩
    · rw [List.getElem?_append_right (by omega)] at b
      have := (List.getElem?_eq_some_iff.mp b).1
      rw [List.length_singleton] at this
      omega
structure ClsK (H : Hp) (cl : List (Str × List (Str × Str))) (qs : List Addr) : Prop where
  len : qs.length = cl.length
  at_ : ClsA H cl qs
theorem ClsK.keepN {H H' : Hp} {cl : List (Str × List (Str × Str))} {qs : List Addr} (h : ClsK H cl qs) (k : KeepN H H') : ClsK H' cl qs := ⟨h.len, h.at_.keepN k⟩
def spTakeCM (K : PySem.W.Frag) : Sp := fun vs H Q _ => ∃ (p ca dx df dk du : Addr) (fs : List (Str × V)) (us : List (Key × V)) (cl : List (Str × List (Str × Str))) (es : List Addr), vs = [.ref p, .ref ca] ∧ SrcG K H p dx df dk du fs [] [] us ∧ df ≠ dk ∧ du ≠ df ∧ du ≠ dk ∧ H ca = some (.lst (es.map V.ref)) ∧ es.length = cl.length ∧
  (∀ (i : Nat) e c, es[i]? = some e → cl[i]? = some c → ClsG H e c) ∧ ClsOk cl ∧ ∀ (H' : Hp) (qs : List Addr), ButL [df, dk] H H' → ClsK H' cl qs → H' df = some (.dK (csM cl qs)) → H' dk = some (.dK (ksM cl)) → Q .non H' 
theorem sc_Source_kinds_differ : FnScope ["self", "fields", "field", "kind"] ["self", "fields"] (defScope s_Source_kinds_differ) := ⟨rfl, rfl, rfl, by decide +kernel, rfl, by decide +kernel, by decide +kernel⟩
theorem ok_Source_kinds_differ (T : Ctx w K mg) : HasM P w K mg base 1 "Source" "_kinds_differ" ["self", "fields"] (spDiff K) := by
  obtain ⟨fd, F⟩ := T.D_Source_kinds_differ
  refine ⟨⟨fd, F.ok sc_Source_kinds_differ (fun vs H Q E h => ?_) (fun cdv A outer s H vs Q E hr h => ?_), F.bindsN fun _ _ _ _ _ _ us hl => match us, hl with | [_, _], _ => rfl⟩⟩
  · obtain ⟨p, fa, cs, ks, us, ps, ns, rfl, S0, hfa, hp, hk, hl, k⟩ := h; rfl
  · obtain ⟨p, fa, cs, ks, us, ps, ns, rfl, S0, hfa, hp, hk, hl, k⟩ := h
    have hu := hu_of hr
    refine ⟨_, PSs.nox (pss_one (ps_ret (pe_callB (cr_any rfl) (by rfl) T.f_any (by decide +kernel) (pa_cons (pe_lc (own := [("field", 2), ("kind", 3)]) (g := gTup K 2 (gCons (gName 2) (gCons (gName 3) (gNil)))) (tt := tYes) rfl sc_Source_kinds_differ.nd (pi_list (pv 1)) (blkOk_by (N := ["self", "fields", "field", "kind"]) (sc := defScope s_Source_kinds_differ) (by decide +kernel)) (fun _ _ _ _ _ => (pg_tup rfl (pgs_cons (pg_name (i := 2) sc_Source_kinds_differ.nd rfl (Or.inl rfl)) (pgs_cons (pg_name (i := 3) sc_Source_kinds_differ.nd rfl (Or.inl rfl)) pgs_nil)))) (fun _ _ _ _ _ => pts_nil) (fun _ _ _ _ _ => (pe_cmpR op_ne (pe_dget2 hu (pe_fldK (K := K) rfl (pv 0) (by rfl)) (pv 2) (pv 3) ⟨rfl, rfl, rfl, rfl⟩) (pv 3) (nomark _)))) pa_nil)))), ?_⟩
    obtain ⟨dx, df, dk, du, fs, S⟩ := S0
    refine ⟨_, rfl, fa, rfl, ⟨_, SqL.of hfa⟩, fun D hD => ?_⟩
    refine lc_pure (walk_list (K := K) (a := fa) (xs := ps.map V.ref)) hD (fun _ => .bl false) (by rw [List.length_map, hp.len]; omega) (fun H1 s1 => SqL.of (s1 _ _ hfa)) (fun i H1 y H2 hi s1 hy Qe qe => ?_) (fun H1 s1 h1 => ?_)
    · obtain ⟨rfl, hy⟩ := hy
      obtain ⟨p1, x, rfl, hp1, hx, hpt⟩ := (hp.mono s1).get hy
      have S1 := S.mono s1
      refine ⟨p1, _, rfl, SqT.of hpt, rfl, _, _, rfl, _, _, rfl, rfl, rfl, ?_⟩
      refine ⟨_, rfl, p, _, dx, fs, _, rfl, S1.ob, T.c_Source, T.n_Source_field_kinds, S1.f2, dk, rfl, .inl ⟨_, .inl S1.d2⟩, _, rfl, _, rfl, _, DGet.k (k := Sum.inr x.1) S1.d2, ?_⟩
      have e : (valV ks (Sum.inr x.1 : Key)).getD (.str x.2) = .str x.2 := by
        rcases hk x (List.mem_of_getElem? hx) with e | e <;> rw [e] <;> rfl
      rw [e]
      exact ⟨_, rfl, rfl, qF (by simp) (qe _ (Same.refl _))⟩
    · exact ⟨D, (List.range (ps.map V.ref).length).map (fun _ => false), rfl, SqL.of (by rw [h1, List.map_map]; rfl), qF any_false (k _ s1)⟩
theorem sc_Source_take_classes : FnScope ["self", "classes", "k", "entry", "field", "kind"] ["self", "classes"] (defScope s_Source_take_classes) := ⟨rfl, rfl, rfl, by decide +kernel, rfl, by decide +kernel, by decide +kernel⟩
theorem ok_Source_take_classes (T : Ctx w K mg) (H_is_list_of : Has P w K mg base 1 "is_list_of" ["thing", "least", "most"] spListOf) (H_is_class : Has P w K mg base 3 "_is_class" ["entry"] spClassG) (H_Source_kinds_differ : HasM P w K mg base 1 "Source" "_kinds_differ" ["self", "fields"] (spDiff K)) (H_frozen : Has P w K mg base 3 "frozen" ["thing"] spFz2) : HasM P w K mg base 4 "Source" "_take_classes" ["self", "classes"] (spTakeCM K) := by
  obtain ⟨fd, F⟩ := T.D_Source_take_classes
  obtain ⟨fd_is_list_of, G_is_list_of, b_is_list_of⟩ := H_is_list_of.ex
  obtain ⟨fd_is_class, G_is_class, b_is_class⟩ := H_is_class.ex
  obtain ⟨fd_Source_kinds_differ, G_Source_kinds_differ, b_Source_kinds_differ⟩ := H_Source_kinds_differ.ex
  obtain ⟨fd_frozen, G_frozen, b_frozen⟩ := H_frozen.ex
  refine ⟨⟨fd, F.ok sc_Source_take_classes (fun vs H Q E h => ?_) (fun cdv A outer s H vs Q E hr h => ?_), F.bindsN fun _ _ _ _ _ _ us hl => match us, hl with | [_, _], _ => rfl⟩⟩
  · obtain ⟨p, ca, dx, df, dk, du, fs, us, cl, es, rfl, S, hdd, hu1, hu2, hca, hel, hE, O, k⟩ := h; rfl
  · obtain ⟨p, ca, dx, df, dk, du, fs, us, cl, es, rfl, S, hdd, hu1, hu2, hca, hel, hE, O, k⟩ := h
    have hr_is_list_of : Room 1 _ := hr.mono (by decide)
    have hr_is_class : Room 3 _ := hr.mono (by decide)
    have hr_Source_kinds_differ : Room 1 _ := hr.mono (by decide)
    have hr_frozen : Room 3 _ := hr.mono (by decide)
    have hu := hu_of hr
    obtain ⟨t_c, e_MOST_CLASSES⟩ := T.i_MOST_CLASSES
    refine ⟨_, PSs.nox (pss_cons (ps_if (pt_not (pt_val (pe_call G_is_list_of hr_is_list_of (by rfl) H_is_list_of.gl H_is_list_of.kp b_is_list_of .nil pass0 (pa_cons (pv 1) (pa_cons pe_int (pa_cons (pe_glob (v := .int 6) rfl e_MOST_CLASSES ⟨_, rfl⟩) pa_nil)))))) (pss_one ps_never) pss_nil)
      (pss_one (ps_for PassesOwn.never rfl (pi_enum (by rfl) T.f_enumerate (pa_cons (pv 1) pa_nil)) (pg_tup rfl (pgs_cons (pg_name (i := 2) sc_Source_take_classes.nd rfl (Or.inl rfl)) (pgs_cons (pg_name (i := 3) sc_Source_take_classes.nd rfl (Or.inl rfl)) pgs_nil)))
      (pss_cons (ps_if (PW.pt (pw_or (pt_not (pt_val (pe_call G_is_class hr_is_class (by rfl) H_is_class.gl H_is_class.kp b_is_class .nil pass0 (pa_cons (pv 3) pa_nil)))) (pw_or (pt_cmp (pc_din hu (pe_ix ix_tup (pv 3) pe_int (fun _ _ => rfl)) (pe_fldK (K := K) rfl (pv 0) (by rfl)))) (pw_or1 (pt_val (pe_meth (pv 0) T.c_Source T.m_Source_kinds_differ G_Source_kinds_differ hr_Source_kinds_differ b_Source_kinds_differ .nil pass0 (pa_cons (pe_ix ix_tup (pv 3) pe_int (fun _ _ => rfl)) pa_nil))))))) (pss_one ps_never) pss_nil)
      (pss_cons (ps_dput hu (pe_fldK (K := K) rfl (pv 0) (by rfl)) (pe_ix ix_tup (pv 3) pe_int (fun _ _ => rfl)) (pe_call G_frozen hr_frozen (by rfl) H_frozen.gl H_frozen.kp b_frozen .nil pass0 (pa_cons (pe_ix ix_tup (pv 3) pe_int (fun _ _ => rfl)) pa_nil)) rfl)
      (pss_one (ps_for PassesOwn.never rfl (pi_list (pe_ix ix_tup (pv 3) pe_int (fun _ _ => rfl))) (pg_tup rfl (pgs_cons (pg_name (i := 4) sc_Source_take_classes.nd rfl (Or.inl rfl)) (pgs_cons (pg_name (i := 5) sc_Source_take_classes.nd rfl (Or.inl rfl)) pgs_nil)))
      (pss_one (ps_dput hu (pe_fldK (K := K) rfl (pv 0) (by rfl)) (pv 4) (pv 5) rfl))))))))), ?_⟩
    have hlr : (es.map V.ref).length = cl.length := by rw [List.length_map, hel]
    have ne : ∀ {b : Addr} {u : HO}, H b = some u → (∀ z, u ≠ .dK z) → b ∉ [df, dk] := fun q n m => by
      rcases List.mem_cons.mp m with m | m
      · rw [m, S.d1] at q
        exact n _ (Option.some.inj q).symm
      · rw [List.mem_singleton.mp m, S.d2] at q
        exact n _ (Option.some.inj q).symm
    have l6 := O.l6
    have lens : ∀ c ∈ cl, c.2.length ≤ 4 := fun c m => (O.one c m).2.2.2
    refine ⟨_, rfl, ca, _, 0, 6, rfl, hca, by omega, by omega, _, rfl, iteF ?_⟩
    refine ⟨_, rfl, ca, _, rfl, SqL.of hca, ?_⟩
    refine for_it (walk_enum (K := K) (a := ca) (xs := es.map V.ref)) (fun i σ H1 => ∃ v2 v3 v4 v5 : Option V, σ = [some (.ref p), some (.ref ca), v2, v3, v4, v5] ∧ ButL [df, dk] H H1 ∧ ∃ qs : List Addr, qs.length = i ∧ ClsA H1 cl qs ∧ H1 df = some (.dK (csM (cl.take i) qs)) ∧ H1 dk = some (.dK (ksM (cl.take i)))) ⟨none, none, none, none, rfl, fun b u q _ => q, [], rfl, (fun _ _ _ _ z => by cases z), S.d1, S.d2⟩ (fun i σ H1 _ ⟨_, _, _, _, _, b1, _⟩ => SqL.of (b1 _ _ hca (ne hca (by intro z w; cases w)))) ?_ ?_
    · rintro i y σ H1 H2 hi ⟨v2, v3, v4, v5, rfl, b1, qs, ql, hA, h1f, h1k⟩ ⟨u, a, b, rfl, hu0, rfl, h1, h2⟩
      have h2 : (es.map V.ref)[i]? = some b := h2
      obtain rfl : V.int (i : Nat) = a := Option.some.inj h1
      obtain ⟨e, hc, rfl⟩ := map_get h2
      have hif : i < cl.length := by rw [hlr] at hi; exact hi
      have hA2 : ∀ {H' : Hp} {q : Addr} {qq : List Addr}, ClsA H' cl qs → TupP H' q (qq.map V.ref) → PairsG H' qq cl[i].2 → ClsA H' cl (qs ++ [q]) := fun h h1 h2 => h.snoc ql (List.getElem?_eq_getElem hif) h1 h2
      have hf : cl[i]? = some cl[i] := List.getElem?_eq_getElem hif
      obtain ⟨hC, hN, hnd, hl⟩ := O.one _ (List.mem_of_getElem? hf)
      have fit := O.fit i _ hf
      have hE0 := hE i e _ hc hf
      have hnm : ∀ q ∈ csM (cl.take i) qs, q.1 ≠ (Sum.inr cl[i].1 : Key) := cs_ne O.nd hf
      have hsn : ∀ x : Addr, csM (cl.take (i + 1)) (qs ++ [x]) = csM (cl.take i) qs ++ [(Sum.inr cl[i].1, V.ref x)] := fun x => cs_snoc hf ql
      have hks : ksM (cl.take (i + 1)) = ksF (ksM (cl.take i)) cl[i].2 := by rw [take_snoc hf, ksM_snoc]
      have kl : (ksM (cl.take i)).length ≤ 24 := by
        have h := ksM_len (cl.take i) [] fun c m => lens c (List.take_subset _ _ m)
        unfold ksM
        rw [List.length_take] at h
        rw [List.length_nil] at h
        omega
      have cll : (csM (cl.take i) qs).length ≤ 6 := by
        unfold csM
        rw [List.length_map, List.length_zip]
        omega
      generalize cl[i] = c0 at *
      obtain ⟨C, ns⟩ := c0
      obtain ⟨fa, ps, he, hfa, hp⟩ := hE0
      have hp : PairsG H ps ns := hp
      have hl : ns.length ≤ 4 := hl
      have s1 : Same H1 (upd H1 u (.tup [.int (i : Nat), .ref e])) := Same.new hu0
      have keep1 : ∀ {b : Addr} {o : HO}, H b = some o → (∀ z, o ≠ .dK z) → H1 b = some o := fun q n => b1 _ _ q (ne q n)
      have he1 := keep1 he (by intro z w; cases w)
      have hfa1 := keep1 hfa (by intro z w; cases w)
      have hp1 : PairsG H1 ps ns := ⟨hp.len, fun j x q e1 e2 => keep1 (hp.at_ j x q e1 e2) (by intro z w; cases w)⟩
      have ob1 := keep1 S.ob (by intro z w; cases w)
      have d31 : H1 du = some (.dK us) := b1 _ _ S.d3 (fun m => by
        rcases List.mem_cons.mp m with m | m
        · exact hu1 m
        · exact hu2 (List.mem_singleton.mp m))
      have S1 : SrcG K H1 p dx df dk du fs (csM (cl.take i) qs) (ksM (cl.take i)) us := ⟨ob1, S.f1, S.f2, S.f3, S.nm, h1f, h1k, d31⟩
      refine ⟨u, _, rfl, SqT.of upd_same, rfl, _, _, rfl, _, _, rfl, rfl, ?_⟩
      refine ⟨_, rfl, e, fa, C, ps, ns, rfl, s1 _ _ he1, hC, s1 _ _ hfa1, hp1.mono s1, hN, hnd, hl, fun H3 s3 => ⟨_, rfl, iteF ?_⟩⟩
      have s13 := s1.trans s3
      have he3 := s13 _ _ he1
      have ob3 := s13 _ _ ob1
      have f3 := s13 _ _ h1f
      have k3 := s13 _ _ h1k
      have g3 := DGet.k (k := Sum.inr C) f3
      rw [valV_newC hnm] at g3
      refine ⟨_, rfl, _, _, _, _, rfl, rfl, SqT.of he3, at0, _, rfl, p, _, dx, fs, _, rfl, ob3, T.c_Source, T.n_Source_fields, S.f1, df, none, rfl, g3, _, rfl, iteF ?_⟩
      refine ⟨_, rfl, p, dx, fs, rfl, ob3, S.nm _ (by decide +kernel), _, rfl, _, _, _, _, rfl, rfl, SqT.of he3, at1, ?_⟩
      refine ⟨p, fa, _, _, us, ps, ns, rfl, ⟨dx, df, dk, du, fs, S1.mono s13⟩, s13 _ _ hfa1, hp1.mono s13, fit, by omega, fun H4 s4 => ⟨_, rfl, iteF ?_⟩⟩
      have s14 := s13.trans s4
      have he4 := s14 _ _ he1
      refine ⟨_, rfl, _, _, _, _, rfl, rfl, SqT.of he4, at1, fa, ps, _, rfl, s14 _ _ hfa1, pairFG (hp1.mono s14), by rw [hp1.len]; omega, fun q qq H5 s5 tq hq fq => ?_⟩
      have s15 := s14.trans s5
      have S5 := S1.mono s15
      have he5 := s15 _ _ he1
      refine ⟨_, rfl, p, _, dx, fs, _, rfl, S5.ob, T.c_Source, T.n_Source_fields, S5.f1, _, rfl, _, _, _, _, rfl, rfl, SqT.of he5, at0, df, _, rfl, DPut.k (k := Sum.inr C) S5.d1 (sz_lt (by omega)), ?_⟩
      rw [putK_new hnm, ← hsn q]
      have b6 : ButL [df, dk] H1 (upd H5 df (.dK (csM (cl.take (i + 1)) (qs ++ [q])))) := fun b u q n => by
        rw [upd_ne (fun z => n (by rw [z]; exact List.mem_cons_self))]
        exact s15 _ _ q
      have hd6 : upd H5 df (.dK (csM (cl.take (i + 1)) (qs ++ [q]))) dk = some (.dK (ksM (cl.take i))) := by
        rw [upd_ne (Ne.symm hdd)]
        exact S5.d2
      have ne1 : ∀ {b : Addr} {u : HO}, H1 b = some u → (∀ z, u ≠ .dK z) → b ∉ [df, dk] := fun q n m => by
        rcases List.mem_cons.mp m with m | m
        · rw [m, h1f] at q
          exact n _ (Option.some.inj q).symm
        · rw [List.mem_singleton.mp m, h1k] at q
          exact n _ (Option.some.inj q).symm
      have n15 := hA.keepN (KeepN.of s15)
      have b56 : ButL [df, dk] H5 (upd H5 df (.dK (csM (cl.take (i + 1)) (qs ++ [q])))) := fun b u w n => by
        rw [upd_ne (fun z => n (by rw [z]; exact List.mem_cons_self))]
        exact w
      have c5 := hA2 n15 tq (fPairG (hq.trans hp1.len) fq)
      have he6 := b6 _ _ he1 (ne1 he1 (by intro z w; cases w))
      have hfa6 := b6 _ _ hfa1 (ne1 hfa1 (by intro z w; cases w))
      refine ⟨_, rfl, _, _, _, _, rfl, rfl, SqT.of he6, at1, fa, rfl, ⟨_, SqL.of hfa6⟩, ?_⟩
      have hd7 : upd H5 df (.dK (csM (cl.take (i + 1)) (qs ++ [q]))) df = some (.dK (csM (cl.take (i + 1)) (qs ++ [q]))) := upd_same
      generalize upd H5 df (.dK (csM (cl.take (i + 1)) (qs ++ [q]))) = H6 at *
      refine for_it (walk_list (K := K) (a := fa) (xs := ps.map V.ref)) (fun j σ H1' => ∃ v1 v2 : Option V, σ = [some (.ref p), some (.ref ca), some (.int (i : Nat)), some (.ref e), v1, v2] ∧ ButL [df, dk] H1 H1' ∧ ButL [df, dk] H5 H1' ∧ H1' df = some (.dK (csM (cl.take (i + 1)) (qs ++ [q]))) ∧ H1' dk = some (.dK (ksF (ksM (cl.take i)) (ns.take j)))) ⟨v4, v5, rfl, b6, b56, hd7, hd6⟩ (fun j σ H1' _ ⟨_, _, _, b7, _⟩ => SqL.of (b7 _ _ hfa1 (ne1 hfa1 (by intro z w; cases w)))) ?_ ?_
      · rintro j y σ H7 H8 hj ⟨v1, v2, rfl, b7, b57, h7, k7⟩ ⟨rfl, hy⟩
        obtain ⟨p1, hp2, rfl⟩ := map_get hy
        have hin : j < ns.length := by
          rw [List.length_map, hp1.len] at hj
          exact hj
        have hx : ns[j]? = some ns[j] := List.getElem?_eq_getElem hin
        have hpt := hp1.at_ j p1 _ hp2 hx
        have hpt7 := b7 _ _ hpt (ne1 hpt (by intro z w; cases w))
        have ob7 := b7 _ _ ob1 (ne1 ob1 (by intro z w; cases w))
        refine ⟨p1, _, rfl, SqT.of hpt7, rfl, _, _, rfl, _, _, rfl, rfl, ?_⟩
        refine ⟨_, rfl, _, rfl, p, _, dx, fs, _, rfl, ob7, T.c_Source, T.n_Source_field_kinds, S.f2, _, rfl, dk, _, rfl, DPut.k (k := Sum.inr ns[j].1) k7 (sz_lt ?_), ?_⟩
        · have h := ksF_len (ns.take j) (ksM (cl.take i))
          rw [List.length_take] at h
          omega
        refine ⟨_, _, rfl, fun b u q n => ?_, fun b u q n => ?_, ?_, ?_⟩
        · rw [upd_ne (fun z => n (by rw [z]; exact List.mem_cons_of_mem _ (List.mem_singleton_self _)))]
          exact b7 _ _ q n
        · rw [upd_ne (fun z => n (by rw [z]; exact List.mem_cons_of_mem _ (List.mem_singleton_self _)))]
          exact b57 _ _ q n
        · rw [upd_ne hdd]
          exact h7
        · rw [upd_same, take_snoc hx, ksF_snoc]
      · rintro σ H7 ⟨v1, v2, rfl, b7, b57, h7, k7⟩
        rw [List.length_map, hp1.len, List.take_length] at k7
        refine ⟨_, _, _, _, rfl, fun b u q n => b7 _ _ (b1 _ _ q n) n, qs ++ [q], by rw [List.length_append, ql]; rfl, c5.keepN (.butL (fun d m u e => ?_) b57), h7, ?_⟩
        · rcases List.mem_cons.mp m with m | m
          · rw [m, S5.d1] at e
            exact .inl ⟨_, (Option.some.inj e).symm⟩
          · rw [List.mem_singleton.mp m, S5.d2] at e
            exact .inl ⟨_, (Option.some.inj e).symm⟩
        rw [hks]
        exact k7
    · rintro σ H1 ⟨v2, v3, v4, v5, rfl, b1, qs, ql, hA, h1f, h1k⟩
      rw [hlr] at ql
      rw [hlr, List.take_length] at h1f h1k
      exact k H1 qs b1 ⟨ql, hA⟩ h1f h1k

end
end W1
set_option Elab.async false
set_option linter.all false
set_option maxRecDepth 100000
set_option maxHeartbeats 4000000
namespace W1
open PySem PySem.Spec PyProof.Rows L2 RZ
section
variable {P : Program} {w : World} {K : PySem.W.Frag} {mg : Str → Option Value} {base : Heap}

/-- t + u of plain tuples, whichever is empty -/
def rCatPA : R2 := fun x y H Q => ∃ (a b : Addr) (xs ys : List V), x = .ref a ∧ y = .ref b ∧ TupP H a xs ∧ TupP H b ys ∧ xs.length + ys.length ≤ sizeLine ∧ ∀ (c : Addr) (H' : Hp), Same H H' → TupP H' c (xs ++ ys) → Q (.ref c) H'
theorem op_catPA {X : Cx} : OpR X (binaryOp .Add) rCatPA := by
  intro pins s σ H x y v u Q I rx ry h
  obtain ⟨a, b, xs, ys, rfl, rfl, ta, tb, hz, q⟩ := h
  have ha : SqT X.K H a xs := ta.sq
  have hb : SqT X.K H b ys := tb.sq
  cases rx
  cases ry
  obtain ⟨its, r1, p1, _⟩ := I.tuple ha
  obtain ⟨its2, r2, p2, _⟩ := I.tuple hb
  by_cases hx : xs = []
  · have e : its = [] := r1.nil_iff.mpr hx
    subst e
    refine cat_tup0 p1 p2 ⟨.ref b, H, I, rfl, q b H (Same.refl H) ?_⟩
    rw [hx]
    exact tb
  · refine HT.cat_tup p1 p2 (fun z => hx (r1.nil_iff.mp z)) (fun z => ⟨.ref a, H, I, rfl, q a H (Same.refl H) (by rw [r2.nil_iff.mp z, List.append_nil]; exact ta)⟩) (fun z => ?_) (by rw [← r1.length, ← r2.length]; exact hz)
    have hf := I.hok.fresh (Nat.le_refl s.heap.objs.size)
    refine ⟨.ref s.heap.objs.size, _, I.laid (t' := s.toks) (o := .frz { cls := .type "tuple", data := .seq (its ++ its2).toArray } (.tup (xs ++ ys))) (fun b ob q => Heap.get?_push_of_some _ q) (Nat.le_refl _) ?_, rfl, q _ _ (Same.new hf) ⟨_, upd_same, rfl, rfl⟩⟩
    exact ⟨Heap.get?_push_size _ rfl, by rw [List.length_append]; exact hz, _, r1.append r2, IsTup.new _ _⟩
theorem mergeK_kvP : ∀ (l2 l1 : List (Str × Str)), ((l1 ++ l2).map Prod.fst).Nodup → mergeK (kvP l1) (kvP l2) = kvP (l1 ++ l2)
  | [], l1, _ => by
    rw [List.append_nil]
    rfl
  | a :: r, l1, h => by
    have e : l1 ++ a :: r = (l1 ++ [a]) ++ r := by simp
    have h1 : a.1 ∉ l1.map Prod.fst := fun m => by
      rw [List.map_append, List.map_cons] at h
      have := List.nodup_append.mp h
      exact this.2.2 a.1 m a.1 (List.mem_cons_self) rfl
    show mergeK (putK (kvP l1) (Sum.inr a.1 : Key) (.str a.2)) (kvP r) = _
    rw [putK_kvP h1, e]
    exact mergeK_kvP r (l1 ++ [a]) (by rw [← e]; exact h)
theorem pairsG_paired {H : Hp} : ∀ {qs : List Addr} {ns : List (Str × Str)}, PairsG H qs ns → Paired (fun p (kv : Key × V) => SqT K H p [kV kv.1, kv.2]) qs (kvP ns)
  | [], [], _ => .nil
  | [], b :: ns, h => by have := h.len; simp at this
  | a :: qs, [], h => by have := h.len; simp at this
  | a :: qs, b :: ns, h => .cons (SqT.of (h.at_ 0 a b rfl rfl)) (pairsG_paired (qs := qs) (ns := ns) ⟨by have := h.len; simpa using this, fun i p x e1 e2 => h.at_ (i + 1) p x (by simpa using e1) (by simpa using e2)⟩)
theorem But.tupP {p a C dx : Addr} {fs : List (Str × V)} {H H' : Hp} {xs : List V} (b : But p H H') (hp : H p = some (.ins C dx fs)) (h : TupP H a xs) : TupP H' a xs := by
  obtain ⟨o, e, q⟩ := h
  exact ⟨o, b _ _ e (ne_of e hp (by intro z; cases z)), q⟩
theorem But.pairsG {p C dx : Addr} {fs : List (Str × V)} {H H' : Hp} {as : List Addr} {xs : List (Str × Str)} (b : But p H H') (hp : H p = some (.ins C dx fs)) (h : PairsG H as xs) : PairsG H' as xs :=
  ⟨h.len, fun i q x e1 e2 => b _ _ (h.at_ i q x e1 e2) (ne_of (h.at_ i q x e1 e2) hp (by intro z; cases z))⟩
theorem putF_le (f : Str) (v : V) : ∀ fs : List (Str × V), (putF f v fs).length ≤ fs.length + 1
  | [] => Nat.le_refl _
  | (g, u) :: r => by
    show (if g = f then (g, v) :: r else (g, u) :: putF f v r).length ≤ _
    split
    · simp
    · rw [List.length_cons, List.length_cons]
      have := putF_le f v r
      omega
theorem pl1 {f : Str} {v : V} {fs : List (Str × V)} {n : Nat} (h : fs.length ≤ n) : (putF f v fs).length ≤ n + 1 := Nat.le_trans (putF_le f v fs) (Nat.succ_le_succ h)
theorem pf0 : ([] : List (Str × V)).length ≤ 0 := Nat.le_refl _
theorem few {fs : List (Str × V)} {n : Nat} (h : fs.length ≤ n) (hn : n < 900 := by decide) : fs.length < 1000 := by omega
theorem few8 {fs : List (Str × V)} {n : Nat} (h : fs.length ≤ n) (hn : n ≤ 900 := by decide) : fs.length ≤ 900 := by omega
/-- its name and its other variables, as they are kept -/
def OthG (H : Hp) (fs : List (Str × V)) (nm : Str) (ms : List (Str × Str)) : Prop := fs.lookup ("name" : Str) = some (.str nm) ∧ ∃ (oa : Addr) (qs : List Addr), fs.lookup ("others" : Str) = some (.ref oa) ∧ TupP H oa (qs.map V.ref) ∧ PairsG H qs ms
theorem OthG.keepN {H H' : Hp} {fs : List (Str × V)} {nm : Str} {ms : List (Str × Str)} (h : OthG H fs nm ms) (k : KeepN H H') : OthG H' fs nm ms := by
  obtain ⟨h1, oa, qs, h2, h3, h4⟩ := h
  exact ⟨h1, oa, qs, h2, h3.keepN k, h4.keepN k⟩
/-- a Function, all but its rows -/
structure FunG (K : PySem.W.Frag) (H : Hp) (p dx pa va : Addr) (fs : List (Str × V)) (ps : List Addr) (ns ms : List (Str × Str)) (res nm : Str) : Prop where
  ob : H p = some (.ins (He.ga K "Function") dx fs)
  f1 : fs.lookup ("params" : Str) = some (.ref pa)
  f2 : fs.lookup ("result" : Str) = some (.str res)
  f3 : fs.lookup ("variables" : Str) = some (.ref va)
  nohas : fs.lookup ("has_row" : Str) = none ∧ fs.lookup ("called_at" : Str) = none
  few : fs.length ≤ 900
  d1 : TupP H pa (ps.map V.ref)
  pr : PairsG H ps ns
  vd : H va = some (.dK (kvP (ns ++ ms)))
  ot : OthG H fs nm ms
theorem FunG.mono {H H' : Hp} {p dx pa va : Addr} {fs : List (Str × V)} {ps : List Addr} {ns ms : List (Str × Str)} {res nm : Str} (h : FunG K H p dx pa va fs ps ns ms res nm) (e : Same H H') : FunG K H' p dx pa va fs ps ns ms res nm :=
  ⟨e _ _ h.ob, h.f1, h.f2, h.f3, h.nohas, h.few, h.d1.mono e, h.pr.mono e, e _ _ h.vd, h.ot.keepN (.of e)⟩
def spFnInitG (K : PySem.W.Frag) : Sp := fun vs H Q _ => ∃ (p dx pa oa : Addr) (nm res : Str) (ps qs : List Addr) (ns ms : List (Str × Str)), vs = [.ref p, .str nm, .ref pa, .ref oa, .str res] ∧ H p = some (.ins (He.ga K "Function") dx []) ∧
  H pa = some (.lst (ps.map V.ref)) ∧ PairsG H ps ns ∧ H oa = some (.lst (qs.map V.ref)) ∧ PairsG H qs ms ∧ ((ns ++ ms).map Prod.fst).Nodup ∧ ns.length ≤ 4 ∧ ms.length ≤ 8 ∧
  ∀ (H' : Hp) (ta va : Addr) (fs : List (Str × V)) (ps' : List Addr), But p H H' → FunG K H' p dx ta va fs ps' ns ms res nm → H va = none → Q .non H' 
theorem sc_Function_init : FnScope ["self", "name", "params", "others", "result"] ["self", "name", "params", "others", "result"] (defScope s_Function_init) := ⟨rfl, rfl, rfl, by decide +kernel, rfl, by decide +kernel, by decide +kernel⟩
theorem ok_Function_init (T : Ctx w K mg) (H_frozen : Has P w K mg base 3 "frozen" ["thing"] spFz2) : HasM P w K mg base 4 "Function" "__init__" ["self", "name", "params", "others", "result"] (spFnInitG K) := by
  obtain ⟨fd, F⟩ := T.D_Function_init
  obtain ⟨fd_frozen, G_frozen, b_frozen⟩ := H_frozen.ex
  refine ⟨⟨fd, F.ok sc_Function_init (fun vs H Q E h => ?_) (fun cdv A outer s H vs Q E hr h => ?_), F.bindsN fun _ _ _ _ _ _ us hl => match us, hl with | [_, _, _, _, _], _ => rfl⟩⟩
  · obtain ⟨p, dx, pa, oa, nm, res, ps, qs, ns, ms, rfl, hp, hpa, hp1, hoa, hp2, hnd, l1, l2, k⟩ := h; rfl
  · obtain ⟨p, dx, pa, oa, nm, res, ps, qs, ns, ms, rfl, hp, hpa, hp1, hoa, hp2, hnd, l1, l2, k⟩ := h
    have hr_frozen : Room 3 _ := hr.mono (by decide)
    have hu := hu_of hr
    refine ⟨_, PSs.nox (pss_cons (ps_fld (pv 0) (pv 1) rfl)
      (pss_cons (ps_fld (pv 0) (pe_call G_frozen hr_frozen (by rfl) H_frozen.gl H_frozen.kp b_frozen .nil pass0 (pa_cons (pv 2) pa_nil)) rfl)
      (pss_cons (ps_fld (pv 0) (pe_call G_frozen hr_frozen (by rfl) H_frozen.gl H_frozen.kp b_frozen .nil pass0 (pa_cons (pv 3) pa_nil)) rfl)
      (pss_cons (ps_fld (pv 0) (pv 4) rfl)
      (pss_cons (ps_fld (pv 0) (pe_callTy (call_dictT rfl) (by rfl) T.f_dict (by decide +kernel) (pa_cons (pe_op op_catPA (pe_fldK (K := K) rfl (pv 0) (by rfl)) (pe_fldK (K := K) rfl (pv 0) (by rfl))) pa_nil)) rfl)
      (pss_one (ps_fld (pv 0) (pe_tup pa_nil) rfl))))))), ?_⟩
    have npa : pa ≠ p := ne_of hpa hp (by intro z; cases z)
    have noa : oa ≠ p := ne_of hoa hp (by intro z; cases z)
    have hl1 : ps.length = ns.length := hp1.len
    have hl2 : qs.length = ms.length := hp2.len
    refine ⟨_, rfl, _, rfl, p, _, dx, _, rfl, hp, T.c_Function, T.n_Function_name, few pf0, ?_⟩
    have b1 : But p H (upd H p (.ins (He.ga K "Function") dx (putF "name" (.str nm) []))) := But.upd
    refine ⟨_, rfl, pa, ps, _, rfl, b1 _ _ hpa npa, pairFG (b1.pairsG hp hp1), by omega, fun q1 qs1 H2 s2 t1 h1 f1 => ?_⟩
    refine ⟨_, rfl, p, _, dx, _, rfl, s2 _ _ upd_same, T.c_Function, T.n_Function_params, few (pl1 pf0), ?_⟩
    have b2 : But p H H2 := b1.trans (But.of s2)
    have hp2' := s2 _ _ (upd_same (H := H) (a := p))
    have b3 : But p H2 (upd H2 p (.ins (He.ga K "Function") dx (putF "params" (.ref q1) (putF "name" (.str nm) [])))) := But.upd
    have b13 := b2.trans b3
    refine ⟨_, rfl, oa, qs, _, rfl, b13 _ _ hoa noa, pairFG (b13.pairsG hp hp2), by omega, fun q2 qs2 H4 s4 t2 h2 f2 => ?_⟩
    refine ⟨_, rfl, p, _, dx, _, rfl, s4 _ _ upd_same, T.c_Function, T.n_Function_others, few (pl1 (pl1 pf0)), ?_⟩
    have hp4 := s4 _ _ (upd_same (H := H2) (a := p))
    have b4 : But p H2 H4 := b3.trans (But.of s4)
    refine ⟨_, rfl, _, rfl, p, _, dx, _, rfl, upd_same, T.c_Function, T.n_Function_result, few (pl1 (pl1 (pl1 pf0))), ?_⟩
    refine ⟨_, rfl, p, _, dx, _, _, rfl, upd_same, T.c_Function, T.n_Function_params, rfl, _, rfl, p, _, dx, _, _, rfl, upd_same, T.c_Function, T.n_Function_others, rfl, ?_⟩
    refine ⟨q1, q2, _, _, rfl, rfl, But.tupP (b4.trans (But.upd.trans But.upd)) hp2' t1, But.tupP (But.upd.trans But.upd) hp4 t2, by rw [List.length_map, List.length_map]; exact sz_of (by omega), fun c H6 s6 tc => ?_⟩
    have t6 : TupP H6 q1 (qs1.map V.ref) := But.tupP ((b4.trans (But.upd.trans But.upd)).trans (But.of s6)) hp2' t1
    have pq1 : PairsG H6 qs1 ns := But.pairsG ((b4.trans (But.upd.trans But.upd)).trans (But.of s6)) hp2' (fPairG (h1.trans hl1) f1)
    have pq2 : PairsG H6 qs2 ms := But.pairsG ((But.upd.trans But.upd).trans (But.of s6)) hp4 (fPairG (h2.trans hl2) f2)
    refine ⟨c, qs1 ++ qs2, kvP (ns ++ ms), rfl, (by rw [List.map_append]; exact tc), pairsG_paired (pq1.append pq2), fun d hd => ?_⟩
    have hp6 := s6 p _ upd_same
    refine ⟨_, rfl, p, _, dx, _, rfl, Same.new hd _ _ hp6, T.c_Function, T.n_Function_variables, few (pl1 (pl1 (pl1 (pl1 pf0)))), ?_⟩
    refine ⟨sz_of (by decide), fun t ht => ?_⟩
    refine ⟨_, rfl, p, _, dx, _, rfl, Same.new ht _ _ upd_same, T.c_Function, T.n_Function_body, few (pl1 (pl1 (pl1 (pl1 (pl1 pf0))))), ?_⟩
    have ndp : d ≠ p := (ne_of_none hp6 hd).symm
    have ndt : d ≠ t := fun z => by
      rw [← z, upd_ne ndp, upd_same] at ht
      cases ht
    have b6 : But p H H6 := b2.trans (b4.trans ((But.upd.trans But.upd).trans (But.of s6)))
    have hq1p : q1 ≠ p := by
      obtain ⟨oo, e, _⟩ := t1
      exact ne_of e hp2' (by intro z; cases z)
    have dnone : H d = none := by
      cases z : H d with
      | none => rfl
      | some u => exact absurd (b6 _ _ z ndp) (by rw [hd]; intro z; cases z)
    refine k _ q1 d _ qs1 (b6.trans ((But.of (Same.new hd)).trans (But.upd.trans ((But.of (Same.new ht)).trans But.upd)))) ⟨upd_same, rfl, rfl, rfl, ⟨rfl, rfl⟩, few8 (pl1 (pl1 (pl1 (pl1 (pl1 (pl1 pf0)))))), But.tupP ((But.of (Same.new hd)).trans (But.upd.trans ((But.of (Same.new ht)).trans But.upd))) hp6 t6, But.pairsG ((But.of (Same.new hd)).trans (But.upd.trans ((But.of (Same.new ht)).trans But.upd))) hp6 pq1, ?_, rfl, q2, qs2, rfl, But.tupP ((But.of (Same.new hd)).trans (But.upd.trans ((But.of (Same.new ht)).trans But.upd))) hp6 (But.tupP ((But.upd.trans But.upd).trans (But.of s6)) hp4 t2), But.pairsG ((But.of (Same.new hd)).trans (But.upd.trans ((But.of (Same.new ht)).trans But.upd))) hp6 pq2⟩ dnone
    · rw [upd_ne ndp, upd_ne ndt, upd_ne ndp, upd_same]
      exact congrArg (fun l => some (HO.dK l)) (mergeK_kvP _ [] hnd)

end
end W1
set_option Elab.async false
set_option linter.all false
set_option maxRecDepth 100000
set_option maxHeartbeats 4000000
namespace W1
open PySem PySem.Spec PyProof.Rows L2 RZ
section
variable {P : Program} {w : World} {K : PySem.W.Frag} {mg : Str → Option Value} {base : Heap}

/-- a function, as plain data -/
structure FdT where
  nm : Str
  res : Str
  ns : List (Str × Str)
  ms : List (Str × Str)
  rws : List Rx
/-- tuples and lists stay -/
def KeepTL (H H' : Hp) : Prop := (∀ b xs, H b = some (.tup xs) → H' b = some (.tup xs)) ∧ ∀ b xs, H b = some (.lst xs) → H' b = some (.lst xs)
theorem KeepTL.of {H H' : Hp} (e : Same H H') : KeepTL H H' := ⟨fun b xs h => e _ _ h, fun b xs h => e _ _ h⟩
theorem KeepTL.butD {H H' : Hp} {d : Addr} {ks : List (Key × V)} (hd : H d = some (.dK ks)) (b : ButL [d] H H') : KeepTL H H' :=
  ⟨fun a xs h => b _ _ h (fun m => by rw [List.mem_singleton.mp m, hd] at h; cases h), fun a xs h => b _ _ h (fun m => by rw [List.mem_singleton.mp m, hd] at h; cases h)⟩
theorem PairsG.keep {H H' : Hp} {ps : List Addr} {qs : List (Str × Str)} (h : PairsG H ps qs) (e : KeepTL H H') : PairsG H' ps qs := ⟨h.len, fun i p x a b => e.1 _ _ (h.at_ i p x a b)⟩
theorem EntryG.keep {H H' : Hp} {e pa oa ra : Addr} {nm res : Str} {ps qs : List Addr} {ns ms : List (Str × Str)} {rs : List V} (h : EntryG H e pa oa ra nm res ps qs ns ms rs) (k : KeepTL H H') : EntryG H' e pa oa ra nm res ps qs ns ms rs :=
  ⟨k.1 _ _ h.he, h.nf, h.kd, k.2 _ _ h.hpa, h.p1.keep k, k.2 _ _ h.hoa, h.p2.keep k, h.nam, h.nd, h.l1, h.l2, k.2 _ _ h.hra, h.l3, h.l4⟩
def EntryAt (H : Hp) (e : Addr) (f : FdT) : Prop := ∃ (pa oa ra : Addr) (ps qs : List Addr) (rs : List V), EntryG H e pa oa ra f.nm f.res ps qs f.ns f.ms rs
theorem EntryAt.keep {H H' : Hp} {e : Addr} {f : FdT} (h : EntryAt H e f) (k : KeepTL H H') : EntryAt H' e f := by
  obtain ⟨pa, oa, ra, ps, qs, rs, q⟩ := h
  exact ⟨pa, oa, ra, ps, qs, rs, q.keep k⟩
def usOf (fds : List FdT) (fps : List Addr) : List (Key × V) := (fds.zip fps).map fun q => (Sum.inr q.1.nm, V.ref q.2)
theorem valV_new {k : Key} : ∀ {l : List (Key × V)}, (∀ q ∈ l, q.1 ≠ k) → valV l k = none
  | [], _ => rfl
  | a :: l, h => by
    have ih := valV_new (k := k) (l := l) fun q m => h q (List.mem_cons_of_mem _ m)
    unfold valV at ih ⊢
    rw [List.find?_cons_of_neg (by simpa using h a List.mem_cons_self)]
    exact ih
theorem us_ne {fds : List FdT} {fps : List Addr} {i : Nat} {f : FdT} (nd : (fds.map FdT.nm).Nodup) (h : fds[i]? = some f) : ∀ q ∈ usOf (fds.take i) fps, q.1 ≠ (Sum.inr f.nm : Key) := by
  intro q m e
  unfold usOf at m
  obtain ⟨r, mr, rfl⟩ := List.mem_map.mp m
  have m1 := (List.of_mem_zip mr).1
  have e1 : r.1.nm = f.nm := Sum.inr.inj e
  have q1 : (fds.map FdT.nm)[i]? = some f.nm := by
    rw [List.getElem?_map, h]
    rfl
  refine not_in_take nd q1 ?_
  rw [← List.map_take, ← e1]
  exact List.mem_map.mpr ⟨r.1, m1, rfl⟩
theorem us_snoc {fds : List FdT} {fps : List Addr} {i : Nat} {f : FdT} {x : Addr} (h : fds[i]? = some f) (hl : fps.length = i) : usOf (fds.take (i + 1)) (fps ++ [x]) = usOf (fds.take i) fps ++ [(Sum.inr f.nm, V.ref x)] := by
  unfold usOf
  rw [take_snoc h, List.zip_append (by
    rw [List.length_take, hl]
    have := (List.getElem?_eq_some_iff.mp h).1
    omega), List.map_append]
  rfl
theorem us_at {fds : List FdT} {fps : List Addr} {i : Nat} {f : FdT} {x : Addr} (nd : (fds.map FdT.nm).Nodup) (h : fds[i]? = some f) (hx : fps[i]? = some x) : valV (usOf fds fps) (Sum.inr f.nm : Key) = some (.ref x) := by
  induction fds generalizing fps i with
  | nil => simp at h
  | cons a l ih =>
    cases fps with
    | nil => simp at hx
    | cons y fps =>
      obtain ⟨n1, n2⟩ := List.nodup_cons.mp (show (a.nm :: l.map FdT.nm).Nodup from nd)
      cases i with
      | zero =>
        have e1 : a = f := Option.some.inj h
        have e2 : y = x := Option.some.inj hx
        unfold usOf valV
        rw [List.zip_cons_cons, List.map_cons, List.find?_cons_of_pos (by simp [e1]), e2]
        rfl
      | succ i =>
        have h' : l[i]? = some f := by simpa using h
        have hx' : fps[i]? = some x := by simpa using hx
        have k := ih n2 h' hx'
        have c : ¬ a.nm = f.nm := fun z => n1 (by rw [z]; exact List.mem_map.mpr ⟨f, List.mem_of_getElem? h', rfl⟩)
        unfold usOf valV at k ⊢
        rw [List.zip_cons_cons, List.map_cons, List.find?_cons_of_neg (by simpa using c)]
        exact k
/-- the functions made, all but their rows -/
def Heads (K : PySem.W.Frag) (H : Hp) (du : Addr) (fds : List FdT) (fps : List Addr) : Prop := ∀ (j : Nat) (f : FdT) (a : Addr), fds[j]? = some f → fps[j]? = some a → ∃ (dx pa va : Addr) (fs : List (Str × V)) (ps : List Addr), va ≠ du ∧ FunG K H a dx pa va fs ps f.ns f.ms f.res f.nm
theorem FunG.butD {H H' : Hp} {d : Addr} {ks : List (Key × V)} {p dx pa va : Addr} {fs : List (Str × V)} {ps : List Addr} {ns ms : List (Str × Str)} {res nm : Str} (h : FunG K H p dx pa va fs ps ns ms res nm) (hd : H d = some (.dK ks)) (hv : va ≠ d) (b : ButL [d] H H') : FunG K H' p dx pa va fs ps ns ms res nm := by
  have n : ∀ {a : Addr} {u : HO}, H a = some u → a ≠ d → H' a = some u := fun q z => b _ _ q fun m => z (List.mem_singleton.mp m)
  obtain ⟨o, e, pl⟩ := h.d1
  exact ⟨n h.ob (ne_of h.ob hd (by intro z; cases z)), h.f1, h.f2, h.f3, h.nohas, h.few, ⟨o, n e (ne_of e hd (by intro z; cases z)), pl⟩, h.pr.keep (.butD hd b), n h.vd hv, h.ot.keepN (.butL (fun c m u e => .inl ⟨ks, by rw [List.mem_singleton.mp m, hd] at e; exact (Option.some.inj e).symm⟩) b)⟩
def spTakeHG (K : PySem.W.Frag) : Sp := fun vs H Q _ => ∃ (p dx df dk du fa : Addr) (fs : List (Str × V)) (cs ks : List (Key × V)) (es : List Addr) (fds : List FdT), vs = [.ref p, .ref fa] ∧ SrcG K H p dx df dk du fs cs ks [] ∧ H fa = some (.lst (es.map V.ref)) ∧ es.length = fds.length ∧ (∀ (i : Nat) e f, es[i]? = some e → fds[i]? = some f → EntryAt H e f) ∧ (fds.map FdT.nm).Nodup ∧ 1 ≤ fds.length ∧ fds.length ≤ 6 ∧
  ∀ (H' : Hp) (fps : List Addr), ButL [du] H H' → fps.length = fds.length → Heads K H' du fds fps → (∀ a ∈ fps, H a = none) → fps.Nodup → H' du = some (.dK (usOf fds fps)) → Q .non H' 
theorem sc_Source_take_heads : FnScope ["self", "functions", "k", "entry"] ["self", "functions"] (defScope s_Source_take_heads) := ⟨rfl, rfl, rfl, by decide +kernel, rfl, by decide +kernel, by decide +kernel⟩
theorem ok_Source_take_heads (T : Ctx w K mg) (H_is_list_of : Has P w K mg base 1 "is_list_of" ["thing", "least", "most"] spListOf) (H_is_head : Has P w K mg base 3 "_is_head" ["entry"] spHeadG) (H_Function_init : HasM P w K mg base 4 "Function" "__init__" ["self", "name", "params", "others", "result"] (spFnInitG K)) : HasM P w K mg base 6 "Source" "_take_heads" ["self", "functions"] (spTakeHG K) := by
  obtain ⟨fd, F⟩ := T.D_Source_take_heads
  obtain ⟨fd_is_list_of, G_is_list_of, b_is_list_of⟩ := H_is_list_of.ex
  obtain ⟨fd_is_head, G_is_head, b_is_head⟩ := H_is_head.ex
  obtain ⟨fd_Function_init, G_Function_init, b_Function_init⟩ := H_Function_init.ex
  refine ⟨⟨fd, F.ok sc_Source_take_heads (fun vs H Q E h => ?_) (fun cdv A outer s H vs Q E hr h => ?_), F.bindsN fun _ _ _ _ _ _ us hl => match us, hl with | [_, _], _ => rfl⟩⟩
  · obtain ⟨p, dx, df, dk, du, fa, fs, cs, ks, es, fds, rfl, S, hfa, hel, hE, hN, hl1, hl6, k⟩ := h; rfl
  · obtain ⟨p, dx, df, dk, du, fa, fs, cs, ks, es, fds, rfl, S, hfa, hel, hE, hN, hl1, hl6, k⟩ := h
    have hr_is_list_of : Room 1 _ := hr.mono (by decide)
    have hr_is_head : Room 3 _ := hr.mono (by decide)
    have hr_Function_init : Room 5 _ := hr.mono (by decide)
    have hu := hu_of hr
    obtain ⟨t_c, e_MOST_FUNCTIONS⟩ := T.i_MOST_FUNCTIONS
    refine ⟨_, PSs.nox (pss_cons (ps_if (pt_not (pt_val (pe_call G_is_list_of hr_is_list_of (by rfl) H_is_list_of.gl H_is_list_of.kp b_is_list_of .nil pass0 (pa_cons (pv 1) (pa_cons pe_int (pa_cons (pe_glob (v := .int 6) rfl e_MOST_FUNCTIONS ⟨_, rfl⟩) pa_nil)))))) (pss_one ps_never) pss_nil)
      (pss_one (ps_for PassesOwn.never rfl (pi_enum (by rfl) T.f_enumerate (pa_cons (pv 1) pa_nil)) (pg_tup rfl (pgs_cons (pg_name (i := 2) sc_Source_take_heads.nd rfl (Or.inl rfl)) (pgs_cons (pg_name (i := 3) sc_Source_take_heads.nd rfl (Or.inl rfl)) pgs_nil)))
      (pss_cons (ps_if (PW.pt (pw_or (pt_not (pt_val (pe_call G_is_head hr_is_head (by rfl) H_is_head.gl H_is_head.kp b_is_head .nil pass0 (pa_cons (pv 3) pa_nil)))) (pw_or1 (pt_cmp (pc_din hu (pe_ix ix_tup (pv 3) pe_int (fun _ _ => rfl)) (pe_fldK (K := K) rfl (pv 0) (by rfl))))))) (pss_one ps_never) pss_nil)
      (pss_one (ps_dput hu (pe_fldK (K := K) rfl (pv 0) (by rfl)) (pe_ix ix_tup (pv 3) pe_int (fun _ _ => rfl)) (pe_make T.k_Function G_Function_init hr_Function_init rfl T.g_Function b_Function_init .nil pass0 (pa_cons (pe_ix ix_tup (pv 3) pe_int (fun _ _ => rfl)) (pa_cons (pe_ix ix_tup (pv 3) pe_int (fun _ _ => rfl)) (pa_cons (pe_ix ix_tup (pv 3) pe_int (fun _ _ => rfl)) (pa_cons (pe_ix ix_tup (pv 3) pe_int (fun _ _ => rfl)) pa_nil))))) rfl)))))), ?_⟩
    have hlr : (es.map V.ref).length = fds.length := by rw [List.length_map, hel]
    have nd : ∀ {b : Addr} {u : HO}, H b = some u → (∀ z, u ≠ .dK z) → b ∉ [du] := fun q n m => by
      rw [List.mem_singleton.mp m, S.d3] at q
      exact n _ (Option.some.inj q).symm
    refine ⟨_, rfl, fa, _, 1, 6, rfl, hfa, by omega, by omega, _, rfl, iteF ?_⟩
    refine ⟨_, rfl, fa, _, rfl, SqL.of hfa, ?_⟩
    refine for_it (walk_enum (K := K) (a := fa) (xs := es.map V.ref)) (fun i σ H1 => ∃ v1 v2 : Option V, σ = [some (.ref p), some (.ref fa), v1, v2] ∧ ButL [du] H H1 ∧ ∃ fps : List Addr, fps.length = i ∧ H1 du = some (.dK (usOf (fds.take i) fps)) ∧ Heads K H1 du (fds.take i) fps ∧ (∀ a ∈ fps, H a = none ∧ ∃ u, H1 a = some u) ∧ fps.Nodup) ⟨none, none, rfl, fun b u q _ => q, [], rfl, S.d3, fun j f a e _ => by simp at e, (fun a m => by cases m), List.nodup_nil⟩ (fun i σ H1 _ ⟨_, _, _, b1, _⟩ => SqL.of (b1 _ _ hfa (nd hfa (by intro z w; cases w)))) ?_ ?_
    · rintro i y σ H1 H2 hi ⟨v1, v2, rfl, b1, fps, fl, h1d, hH, hfr, hnd⟩ ⟨u, a, b, rfl, hu0, rfl, h1, h2⟩
      have h2 : (es.map V.ref)[i]? = some b := h2
      obtain rfl : V.int (i : Nat) = a := Option.some.inj h1
      obtain ⟨e, hc, rfl⟩ := map_get h2
      have hif : i < fds.length := by rw [hlr] at hi; exact hi
      have hf : fds[i]? = some fds[i] := List.getElem?_eq_getElem hif
      obtain ⟨pa, oa, ra, ps, qs, rs, E0⟩ := hE i e _ hc hf
      have E1 := E0.keep (.butD S.d3 b1)
      have s1 : Same H1 (upd H1 u (.tup [.int (i : Nat), .ref e])) := Same.new hu0
      refine ⟨u, _, rfl, SqT.of upd_same, rfl, _, _, rfl, _, _, rfl, rfl, ?_⟩
      have A1 := E1.keep (.of s1)
      refine ⟨_, rfl, e, pa, oa, ra, fds[i].nm, fds[i].res, ps, qs, fds[i].ns, fds[i].ms, rs, rfl, A1, fun H3 s3 => ⟨_, rfl, iteF ?_⟩⟩
      have s13 := s1.trans s3
      have A3 := E1.keep (.of s13)
      have hp1 := b1 _ _ S.ob (nd S.ob (by intro z w; cases w))
      have ob3 := s13 _ _ hp1
      have d3 := s13 _ _ h1d
      refine ⟨_, rfl, _, _, _, _, rfl, rfl, SqT.of A3.he, at0, _, rfl, p, _, dx, fs, _, rfl, ob3, T.c_Source, T.n_Source_functions, S.f3, du, none, rfl, ?_, _, rfl, iteF ?_⟩
      · have q := DGet.k (k := Sum.inr fds[i].nm) d3
        rw [valV_new (us_ne hN hf)] at q
        exact q
      -- Function(..)
      refine ⟨_, rfl, _, _, _, _, rfl, rfl, SqT.of A3.he, at0, _, rfl, _, _, _, _, rfl, rfl, SqT.of A3.he, at1, _, rfl, _, _, _, _, rfl, rfl, SqT.of A3.he, at2, _, rfl, _, _, _, _, rfl, rfl, SqT.of A3.he, at3, fun x dy nx ny nxy => ?_⟩
      have s4 : Same H3 (upd (upd H3 dy (.own x)) x (.ins (He.ga K "Function") dy [])) := (Same.new ny).trans (Same.new (by rw [upd_ne nxy.symm]; exact nx))
      have A4 := A3.keep (.of s4)
      refine ⟨x, dy, pa, oa, fds[i].nm, fds[i].res, ps, qs, fds[i].ns, fds[i].ms, rfl, upd_same, A4.hpa, A4.p1, A4.hoa, A4.p2, A4.nd, A4.l1, A4.l2, fun H5 ta va gs ps' b5 F5 hva => ⟨rfl, ?_⟩⟩
      have s15 : Same H1 H5 := fun b o q => b5 b o (s4 _ _ (s13 _ _ q)) (ne_of_none (s13 _ _ q) nx)
      have A5 := E1.keep (.of s15)
      have d5 := s15 _ _ h1d
      have vne : va ≠ du := fun z => by
        rw [z, s4 _ _ d3] at hva
        cases hva
      have nxf : x ≠ du := fun z => by
        rw [z, d3] at nx
        cases nx
      refine ⟨_, rfl, p, _, dx, fs, _, rfl, s15 _ _ hp1, T.c_Source, T.n_Source_functions, S.f3, _, rfl, _, _, _, _, rfl, rfl, SqT.of A5.he, at0, du, _, rfl, DPut.k (k := Sum.inr fds[i].nm) d5 ?_, ?_⟩
      · unfold usOf
        rw [List.length_map, List.length_zip, fl]
        exact sz_lt (by omega)
      have b6 : ButL [du] H5 (upd H5 du (.dK (putK (usOf (fds.take i) fps) (Sum.inr fds[i].nm : Key) (.ref x)))) := fun b u q n => by
        rw [upd_ne (fun z => n (by rw [z]; exact List.mem_singleton_self _))]
        exact q
      refine ⟨_, _, rfl, fun b u q n => b6 _ _ (s15 _ _ (b1 _ _ q n)) n, fps ++ [x], by rw [List.length_append, fl]; rfl, ?_, ?_, ?_, ?_⟩
      · rw [upd_same, us_snoc hf fl, putK_new (us_ne hN hf)]
      · intro j f a e1 e2
        by_cases hj : j < i
        · rw [List.getElem?_append_left (by omega)] at e2
          rw [List.getElem?_take, if_pos (by omega)] at e1
          obtain ⟨dx', pa', va', fs', ps'', vn', F⟩ := hH j f a (by rw [List.getElem?_take, if_pos hj]; exact e1) e2
          exact ⟨dx', pa', va', fs', ps'', vn', (F.mono s15).butD d5 vn' b6⟩
        · by_cases hj2 : j = i
          · subst hj2
            rw [List.getElem?_append_right (by omega), fl, Nat.sub_self] at e2
            have e3 : x = a := Option.some.inj e2
            rw [List.getElem?_take, if_pos (by omega), hf] at e1
            have e4 : fds[j] = f := Option.some.inj e1
            rw [← e3, ← e4]
            exact ⟨dy, ta, va, gs, ps', vne, F5.butD d5 vne b6⟩
          · rw [List.getElem?_append_right (by omega)] at e2
            have := (List.getElem?_eq_some_iff.mp e2).1
            rw [List.length_singleton] at this
            omega
      · intro a m
        rcases List.mem_append.mp m with m | m
        · obtain ⟨q1, u', q2⟩ := hfr a m
          by_cases z : a = du
          · exact ⟨q1, by rw [z]; exact ⟨_, upd_same⟩⟩
          · exact ⟨q1, u', b6 _ _ (s15 _ _ q2) (fun w => z (List.mem_singleton.mp w))⟩
        · rw [List.mem_singleton.mp m]
          refine ⟨?_, _, b6 _ _ F5.ob (fun w => nxf (List.mem_singleton.mp w))⟩
          cases z : H x with
          | none => rfl
          | some o =>
            have := s13 _ _ (b1 _ _ z (fun w => nxf (List.mem_singleton.mp w)))
            rw [nx] at this
            cases this
      · refine List.nodup_append.mpr ⟨hnd, List.nodup_cons.mpr ⟨by simp, List.nodup_nil⟩, fun a ma b mb z => ?_⟩
        rw [List.mem_singleton.mp mb] at z
        obtain ⟨_, u', q2⟩ := hfr a ma
        have := s13 _ _ q2
        rw [z, nx] at this
        cases this
    · rintro σ H1 ⟨v1, v2, rfl, b1, fps, fl, h1d, hH, hfr, hnd⟩
      rw [hlr] at fl
      rw [hlr, List.take_length] at h1d hH
      exact k H1 fps b1 fl hH (fun a m => (hfr a m).1) hnd h1d

end
end W1
set_option Elab.async false
set_option linter.all false
set_option maxRecDepth 100000
set_option maxHeartbeats 4000000
namespace W1
open PySem PySem.Spec PyProof.Rows L2 RZ
section
variable {P : Program} {w : World} {K : PySem.W.Frag} {mg : Str → Option Value} {base : Heap}

abbrev ClsT := List (Str × List (Str × Str))
/-- rows whose goals are there, the last of which does not go on -/
structure OkG (rws : List Rx) : Prop where
  ok : ∀ r ∈ rws, ∀ g, r.goal = some g → g < rws.length
  last : ∃ r0 rl, rws = r0 ++ [rl] ∧ (rl.word = ("jump" : Str) ∨ rl.word = ("return" : Str))
  le : rws.length ≤ 40
theorem cs_at {cl : ClsT} {qs : List Addr} {i : Nat} {c : Str × List (Str × Str)} {x : Addr} (nd : (cl.map Prod.fst).Nodup) (h : cl[i]? = some c) (hx : qs[i]? = some x) : valV (csM cl qs) (Sum.inr c.1 : Key) = some (.ref x) := by
  induction cl generalizing qs i with
  | nil => simp at h
  | cons a l ih =>
    cases qs with
    | nil => simp at hx
    | cons y qs =>
      obtain ⟨n1, n2⟩ := List.nodup_cons.mp (show (a.1 :: l.map Prod.fst).Nodup from nd)
      cases i with
      | zero =>
        have e1 : a = c := Option.some.inj h
        have e2 : y = x := Option.some.inj hx
        unfold csM valV
        rw [List.zip_cons_cons, List.map_cons, List.find?_cons_of_pos (by simp [e1]), e2]
        rfl
      | succ i =>
        have h2 : l[i]? = some c := by simpa using h
        have hx2 : qs[i]? = some x := by simpa using hx
        have k := ih n2 h2 hx2
        have cc : ¬ a.1 = c.1 := fun z => n1 (by rw [z]; exact List.mem_map.mpr ⟨c, List.mem_of_getElem? h2, rfl⟩)
        unfold csM valV at k ⊢
        rw [List.zip_cons_cons, List.map_cons, List.find?_cons_of_neg (by simpa using cc)]
        exact k
/-- a variable of a function with its kind -/
def KO (f : FdT) (x q : Str) : Prop := (x, q) ∈ f.ns ++ f.ms
/-- a row that fits a function of a source -/
def RowOk (cl : ClsT) (fds : List FdT) (f : FdT) : Rx → Prop
  | .num x n => KO f x "number" ∧ -1000000000 ≤ n ∧ n ≤ 1000000000
  | .nil x => KO f x "object"
  | .copy x y => ∃ q, KO f x q ∧ KO f y q
  | .bin _ x y z => KO f x "number" ∧ KO f y "number" ∧ KO f z "number"
  | .same x y z => ∃ q, KO f x "number" ∧ KO f y q ∧ KO f z q
  | .new x c => KO f x "object" ∧ c ∈ cl.map Prod.fst
  | .get x y g => ∃ q, KO f y "object" ∧ KO f x q ∧ valV (ksM cl) (Sum.inr g : Key) = some (.str q)
  | .put x g y => ∃ q, KO f x "object" ∧ KO f y q ∧ valV (ksM cl) (Sum.inr g : Key) = some (.str q)
  | .call x F as => ∃ (j : Nat) (g : FdT), fds[j]? = some g ∧ g.nm = F ∧ as.length = g.ns.length ∧ (∀ (i : Nat) y q, as[i]? = some y → g.ns[i]? = some q → KO f y q.2) ∧ KO f x g.res
  | .see x => ∃ q, KO f x q
  | .ifz x _ => KO f x "number"
  | .jump _ => True
  | .ret x => KO f x f.res
structure FdOk (cl : ClsT) (fds : List FdT) (f : FdT) : Prop where
  nf : Nam f.nm
  kd : IsKind f.res
  nam : ∀ q ∈ f.ns ++ f.ms, Nam q.1 ∧ IsKind q.2
  nd : ((f.ns ++ f.ms).map Prod.fst).Nodup
  l1 : f.ns.length ≤ 4
  l2 : f.ms.length ≤ 8
  rows : ∀ r ∈ f.rws, RowOk cl fds f r
  ok : OkG f.rws
theorem FdOk.kind {cl : ClsT} {fds : List FdT} {f : FdT} (h : FdOk cl fds f) {x q : Str} (m : KO f x q) : KindOf (kvP (f.ns ++ f.ms)) x q := valV_kvP_in (q := (x, q)) h.nd m
theorem FdOk.name {cl : ClsT} {fds : List FdT} {f : FdT} (h : FdOk cl fds f) {x q : Str} (m : KO f x q) : Nam x := (h.nam (x, q) m).1
theorem args_kind {f g : FdT} {as : List Str} (hl : as.length = g.ns.length) (hk : ∀ (i : Nat) y q, as[i]? = some y → g.ns[i]? = some q → KO f y q.2) : ∀ y ∈ as, ∃ q, KO f y q := by
  intro y m
  obtain ⟨i, hi, e⟩ := List.getElem_of_mem m
  have e1 : as[i]? = some y := by rw [List.getElem?_eq_getElem hi, e]
  have hi2 : i < g.ns.length := by omega
  exact ⟨_, hk i y _ e1 (List.getElem?_eq_getElem hi2)⟩
theorem form_of {R : Str → V → Prop} : ∀ {rs : List Str} {vs : List V}, Paired R rs vs → ∀ (i : Nat) x v, rs[i]? = some x → vs[i]? = some v → R x v
  | _, _, .nil, i, x, v, h, _ => by simp at h
  | _, _, .cons h t, 0, x, v, e1, e2 => by
    rw [← Option.some.inj e1, ← Option.some.inj e2]
    exact h
  | _, _, .cons h t, i + 1, x, v, e1, e2 => form_of t i x v (by simpa using e1) (by simpa using e2)
theorem FdOk.form {cl : ClsT} {fds : List FdT} {f : FdT} {fps : List Addr} {H : Hp} {qs : List Addr} {l : Addr} (h : FdOk cl fds f) (hN : (fds.map FdT.nm).Nodup) (hl : fps.length = fds.length) (hF : (cl.map Prod.fst).Nodup) (hq : qs.length = cl.length) {r : Rx} (hr : RowOk cl fds f r) (hA : ArgsAt H l r) :
    FormG H (csM cl qs) (ksM cl) (usOf fds fps) (.ref l) r := by
  have fld : ∀ {g q : Str}, valV (ksM cl) (Sum.inr g : Key) = some (.str q) → FitsG H (csM cl qs) (ksM cl) (usOf fds fps) "field" (.str g) := fun {g q} m => .fld (v := .str q) m (by intro z; cases z)
  unfold FormG
  cases r with
  | num x n => exact form_of (.cons (.sets (h.name hr.1)) (.cons (.num hr.2.1 hr.2.2) .nil))
  | nil x => exact form_of (.cons (.sets (h.name hr)) .nil)
  | copy x y =>
    obtain ⟨q, h1, h2⟩ := hr
    exact form_of (.cons (.sets (h.name h1)) (.cons (.reads (h.name h2)) .nil))
  | bin kk x y z => exact form_of (.cons (.sets (h.name hr.1)) (.cons (.reads (h.name hr.2.1)) (.cons (.reads (h.name hr.2.2)) .nil)))
  | same x y z =>
    obtain ⟨q, h1, h2, h3⟩ := hr
    exact form_of (.cons (.sets (h.name h1)) (.cons (.reads (h.name h2)) (.cons (.reads (h.name h3)) .nil)))
  | new x c =>
    obtain ⟨h1, h2⟩ := hr
    obtain ⟨d, md, rfl⟩ := List.mem_map.mp h2
    obtain ⟨i, hi, rfl⟩ := List.getElem_of_mem md
    have hi2 : i < qs.length := by omega
    exact form_of (.cons (.sets (h.name h1)) (.cons (.cls (cs_at hF (List.getElem?_eq_getElem hi) (List.getElem?_eq_getElem hi2)) (by intro z; cases z)) .nil))
  | get x y g =>
    obtain ⟨q, h1, h2, h3⟩ := hr
    exact form_of (.cons (.sets (h.name h2)) (.cons (.reads (h.name h1)) (.cons (fld h3) .nil)))
  | put x g y =>
    obtain ⟨q, h1, h2, h3⟩ := hr
    exact form_of (.cons (.reads (h.name h1)) (.cons (fld h3) (.cons (.reads (h.name h2)) .nil)))
  | call x F as =>
    obtain ⟨j, g, h1, h2, h3, h4, h5⟩ := hr
    obtain ⟨a1, a2⟩ := hA as rfl
    obtain ⟨a, ha⟩ : ∃ a, fps[j]? = some a := ⟨fps[j]'(by rw [hl]; exact (List.getElem?_eq_some_iff.mp h1).1), List.getElem?_eq_getElem _⟩
    have e : valV (usOf fds fps) (Sum.inr F : Key) = some (.ref a) := by
      rw [← h2]
      exact us_at hN h1 ha
    refine form_of (.cons (.sets (h.name h5)) (.cons (.fn e (by intro z; cases z)) (.cons (.many a1 (fun y m => ?_) a2) .nil)))
    obtain ⟨q, hq⟩ := args_kind h3 h4 y m
    exact h.name hq
  | see x =>
    obtain ⟨q, h1⟩ := hr
    exact form_of (.cons (.reads (h.name h1)) .nil)
  | ifz x r => exact form_of (.cons (.reads (h.name hr)) (.cons (.row _) .nil))
  | jump r => exact form_of (.cons (.row _) .nil)
  | ret x => exact form_of (.cons (.reads (h.name hr)) .nil)
theorem kind_str {q : Str} (h : IsKind q) : PyData.strOk q = true := by
  rcases h with rfl | rfl <;> decide +kernel
theorem FdOk.kinds {cl : ClsT} {fds : List FdT} {f : FdT} {fps : List Addr} {H : Hp} (h : FdOk cl fds f) (hN : (fds.map FdT.nm).Nodup) (hK : ∀ g ∈ fds, FdOk cl fds g)
    (hH : ∀ (j : Nat) (g : FdT), fds[j]? = some g → ∃ a dx pa fs ps, fps[j]? = some a ∧ HeadG K H a dx pa fs ps g.ns g.res) {r : Rx} (hr : RowOk cl fds f r) :
    KindsG K H (ksM cl) (usOf fds fps) (kvP (f.ns ++ f.ms)) f.res r := by
  have fld : ∀ {g q : Str}, valV (ksM cl) (Sum.inr g : Key) = some (.str q) → valV (ksM cl) (Sum.inr g : Key) = some (.str q) := fun {g q} m => m
  cases r with
  | num x n => exact h.kind hr.1
  | nil x => exact h.kind hr
  | copy x y =>
    obtain ⟨q, h1, h2⟩ := hr
    exact ⟨q, h.kind h1, h.kind h2⟩
  | bin kk x y z => exact ⟨h.kind hr.1, h.kind hr.2.1, h.kind hr.2.2⟩
  | same x y z =>
    obtain ⟨q, h1, h2, h3⟩ := hr
    exact ⟨q, h.kind h1, h.kind h2, h.kind h3⟩
  | new x c => exact h.kind hr.1
  | get x y g =>
    obtain ⟨q, h1, h2, h3⟩ := hr
    exact ⟨q, h.kind h1, h.kind h2, fld h3⟩
  | put x g y =>
    obtain ⟨q, h1, h2, h3⟩ := hr
    exact ⟨q, h.kind h1, h.kind h2, fld h3⟩
  | call x F as =>
    obtain ⟨j, g, h1, h2, h3, h4, h5⟩ := hr
    obtain ⟨a, dx, pa, fs, ps, ha, hg⟩ := hH j g h1
    refine ⟨a, dx, pa, fs, ps, g.ns, g.res, ?_, hg, h3, fun i y q e1 e2 => h.kind (h4 i y q e1 e2), fun q m => kind_str ((hK g (List.mem_of_getElem? h1)).nam q (List.mem_append_left _ m)).2, h.kind h5⟩
    rw [← h2]
    exact us_at hN h1 ha
  | see x => trivial
  | ifz x r => exact h.kind hr
  | jump r => trivial
  | ret x => exact h.kind hr
theorem FdOk.names {cl : ClsT} {fds : List FdT} {f : FdT} (h : FdOk cl fds f) {r : Rx} (hr : RowOk cl fds f r) : ∀ x ∈ r.names, ∃ v, valV (kvP (f.ns ++ f.ms)) (Sum.inr x : Key) = some v := by
  have key : ∀ x ∈ r.names, ∃ q, KO f x q := by
    intro x m
    cases r with
    | num y n =>
      simp only [Rx.names, Rx.sets, Rx.reads, List.mem_cons, List.not_mem_nil, or_false] at m
      exact ⟨_, m ▸ hr.1⟩
    | nil y =>
      simp only [Rx.names, Rx.sets, Rx.reads, List.mem_cons, List.not_mem_nil, or_false] at m
      exact ⟨_, m ▸ hr⟩
    | copy y z =>
      obtain ⟨q, h1, h2⟩ := hr
      simp only [Rx.names, Rx.sets, Rx.reads, List.mem_cons, List.not_mem_nil, or_false] at m
      rcases m with m | m
      · exact ⟨_, m ▸ h1⟩
      · exact ⟨_, m ▸ h2⟩
    | bin kk y z t =>
      obtain ⟨h1, h2, h3⟩ := hr
      simp only [Rx.names, Rx.sets, Rx.reads, List.mem_cons, List.not_mem_nil, or_false] at m
      rcases m with m | m | m
      · exact ⟨_, m ▸ h1⟩
      · exact ⟨_, m ▸ h2⟩
      · exact ⟨_, m ▸ h3⟩
    | same y z t =>
      obtain ⟨q, h1, h2, h3⟩ := hr
      simp only [Rx.names, Rx.sets, Rx.reads, List.mem_cons, List.not_mem_nil, or_false] at m
      rcases m with m | m | m
      · exact ⟨_, m ▸ h1⟩
      · exact ⟨_, m ▸ h2⟩
      · exact ⟨_, m ▸ h3⟩
    | new y c =>
      simp only [Rx.names, Rx.sets, Rx.reads, List.mem_cons, List.not_mem_nil, or_false] at m
      exact ⟨_, m ▸ hr.1⟩
    | get y z g =>
      obtain ⟨q, h1, h2, h3⟩ := hr
      simp only [Rx.names, Rx.sets, Rx.reads, List.mem_cons, List.not_mem_nil, or_false] at m
      rcases m with m | m
      · exact ⟨_, m ▸ h2⟩
      · exact ⟨_, m ▸ h1⟩
    | put y g z =>
      obtain ⟨q, h1, h2, h3⟩ := hr
      simp only [Rx.names, Rx.sets, Rx.reads, List.mem_cons, List.not_mem_nil, or_false] at m
      rcases m with m | m
      · exact ⟨_, m ▸ h1⟩
      · exact ⟨_, m ▸ h2⟩
    | call y F as =>
      obtain ⟨j, g, h1, h2, h3, h4, h5⟩ := hr
      simp only [Rx.names, Rx.sets, Rx.reads, List.mem_cons] at m
      rcases m with m | m
      · exact ⟨_, m ▸ h5⟩
      · exact args_kind h3 h4 x m
    | see y =>
      obtain ⟨q, h1⟩ := hr
      simp only [Rx.names, Rx.sets, Rx.reads, List.mem_cons, List.not_mem_nil, or_false] at m
      exact ⟨_, m ▸ h1⟩
    | ifz y g =>
      simp only [Rx.names, Rx.sets, Rx.reads, List.mem_cons, List.not_mem_nil, or_false] at m
      exact ⟨_, m ▸ hr⟩
    | jump g =>
      simp only [Rx.names, Rx.sets, Rx.reads, List.not_mem_nil] at m
    | ret y =>
      simp only [Rx.names, Rx.sets, Rx.reads, List.mem_cons, List.not_mem_nil, or_false] at m
      exact ⟨_, m ▸ hr⟩
  intro x m
  obtain ⟨q, hq⟩ := key x m
  exact ⟨_, h.kind hq⟩
/-- a Function with its rows -/
structure FunB (K : PySem.W.Frag) (H : Hp) (p dx pa va ba : Addr) (fs : List (Str × V)) (ps rs : List Addr) (f : FdT) : Prop where
  ob : H p = some (.ins (He.ga K "Function") dx fs)
  f1 : fs.lookup ("params" : Str) = some (.ref pa)
  f2 : fs.lookup ("result" : Str) = some (.str f.res)
  f3 : fs.lookup ("variables" : Str) = some (.ref va)
  f4 : fs.lookup ("body" : Str) = some (.ref ba)
  nohas : fs.lookup ("has_row" : Str) = none ∧ fs.lookup ("called_at" : Str) = none
  d1 : TupP H pa (ps.map V.ref)
  pr : PairsG H ps f.ns
  vd : H va = some (.dK (kvP (f.ns ++ f.ms)))
  tb : TupP H ba (rs.map V.ref)
  kr : KeptRows H rs f.rws
  ot : OthG H fs f.nm f.ms
theorem KeptRows.keep {H H' : Hp} {rs : List Addr} {rws : List Rx} (h : KeptRows H rs rws) (e : KeepTL H H') : KeptRows H' rs rws := ⟨h.len, fun i a r x y => by
  obtain ⟨l, h1, h2⟩ := h.at_ i a r x y
  exact ⟨l, e.1 _ _ h1, fun bs q => by
    have k := h2 bs q
    rw [if_pos rfl] at k ⊢
    exact e.1 _ _ k⟩⟩
theorem KeepTL.butF {H H' : Hp} {p C dx : Addr} {fs : List (Str × V)} (hp : H p = some (.ins C dx fs)) (b : But p H H') : KeepTL H H' :=
  ⟨fun a xs h => b _ _ h (ne_of h hp (by intro z; cases z)), fun a xs h => b _ _ h (ne_of h hp (by intro z; cases z))⟩
theorem FunB.mono {H H' : Hp} {p dx pa va ba : Addr} {fs : List (Str × V)} {ps rs : List Addr} {f : FdT} (h : FunB K H p dx pa va ba fs ps rs f) (e : Same H H') : FunB K H' p dx pa va ba fs ps rs f :=
  ⟨e _ _ h.ob, h.f1, h.f2, h.f3, h.f4, h.nohas, h.d1.mono e, h.pr.mono e, e _ _ h.vd, h.tb.mono e, h.kr.mono e, h.ot.keepN (.of e)⟩
theorem FunB.but {H H' : Hp} {p dx pa va ba b C dy : Addr} {fs gs : List (Str × V)} {ps rs : List Addr} {f : FdT} (h : FunB K H p dx pa va ba fs ps rs f) (hb : H b = some (.ins C dy gs)) (hn : p ≠ b) (e : But b H H') : FunB K H' p dx pa va ba fs ps rs f :=
  ⟨e _ _ h.ob hn, h.f1, h.f2, h.f3, h.f4, h.nohas, e.tupP hb h.d1, e.pairsG hb h.pr, e _ _ h.vd (ne_of h.vd hb (by intro z; cases z)), e.tupP hb h.tb, h.kr.keep (.butF hb e), h.ot.keepN (.but hb e)⟩
theorem FunG.but {H H' : Hp} {p dx pa va b C dy : Addr} {fs gs : List (Str × V)} {ps : List Addr} {ns ms : List (Str × Str)} {res nm : Str} (h : FunG K H p dx pa va fs ps ns ms res nm) (hb : H b = some (.ins C dy gs)) (hn : p ≠ b) (e : But b H H') : FunG K H' p dx pa va fs ps ns ms res nm :=
  ⟨e _ _ h.ob hn, h.f1, h.f2, h.f3, h.nohas, h.few, e.tupP hb h.d1, e.pairsG hb h.pr, e _ _ h.vd (ne_of h.vd hb (by intro z; cases z)), h.ot.keepN (.but hb e)⟩
theorem FunG.head {H : Hp} {p dx pa va : Addr} {fs : List (Str × V)} {ps : List Addr} {ns ms : List (Str × Str)} {res nm : Str} (h : FunG K H p dx pa va fs ps ns ms res nm) (hl : ns.length ≤ 4) : HeadG K H p dx pa fs ps ns res :=
  ⟨h.ob, h.f1, h.f2, h.d1.sq, h.pr.len, by omega, fun i a q e1 e2 => SqT.of (h.pr.at_ i a q e1 e2)⟩
theorem FunB.head {H : Hp} {p dx pa va ba : Addr} {fs : List (Str × V)} {ps rs : List Addr} {f : FdT} (h : FunB K H p dx pa va ba fs ps rs f) (hl : f.ns.length ≤ 4) : HeadG K H p dx pa fs ps f.ns f.res :=
  ⟨h.ob, h.f1, h.f2, h.d1.sq, h.pr.len, by omega, fun i a q e1 e2 => SqT.of (h.pr.at_ i a q e1 e2)⟩
/-- a Source of one class and these functions -/
def SrcX (K : PySem.W.Frag) (H : Hp) (p : Addr) (cl : ClsT) (fds : List FdT) : Prop := ∃ (fps qs : List Addr), ClsK H cl qs ∧ SrcH K H p (csM cl qs) (ksM cl) (usOf fds fps) ∧ fps.length = fds.length ∧
  ∀ (j : Nat) (f : FdT) (a : Addr), fds[j]? = some f → fps[j]? = some a → ∃ (dx pa va ba : Addr) (fs : List (Str × V)) (ps rs : List Addr), FunB K H a dx pa va ba fs ps rs f
theorem SrcX.mono {H H' : Hp} {p : Addr} {cl : ClsT} {fds : List FdT} (h : SrcX K H p cl fds) (e : Same H H') : SrcX K H' p cl fds := by
  obtain ⟨fps, qs, hq, h1, h2, h3⟩ := h
  refine ⟨fps, qs, hq.keepN (.of e), h1.mono e, h2, fun j f a e1 e2 => ?_⟩
  obtain ⟨dx, pa, va, ba, fs, ps, rs, q⟩ := h3 j f a e1 e2
  exact ⟨dx, pa, va, ba, fs, ps, rs, q.mono e⟩

end
end W1
set_option Elab.async false
set_option linter.all false
set_option maxRecDepth 100000
set_option maxHeartbeats 4000000
namespace W1
open PySem PySem.Spec PyProof.Rows L2 RZ
section
variable {P : Program} {w : World} {K : PySem.W.Frag} {mg : Str → Option Value} {base : Heap}

theorem KeepTL.trans {H H1 H2 : Hp} (a : KeepTL H H1) (b : KeepTL H1 H2) : KeepTL H H2 := ⟨fun c xs h => b.1 _ _ (a.1 _ _ h), fun c xs h => b.2 _ _ (a.2 _ _ h)⟩
theorem KeepTL.butL {H H' : Hp} {l : List Addr} (hl : ∀ d ∈ l, ∀ xs, H d ≠ some (.tup xs) ∧ H d ≠ some (.lst xs)) (b : ButL l H H') : KeepTL H H' :=
  ⟨fun a xs h => b _ _ h fun m => (hl a m xs).1 h, fun a xs h => b _ _ h fun m => (hl a m xs).2 h⟩
theorem ClsG.keep {H H' : Hp} {e : Addr} {c : Str × List (Str × Str)} (h : ClsG H e c) (k : KeepTL H H') : ClsG H' e c := by
  obtain ⟨fa, ps, h1, h2, h3⟩ := h
  exact ⟨fa, ps, k.1 _ _ h1, k.2 _ _ h2, h3.keep k⟩
theorem RawRows.keep {H H' : Hp} {rs : List Addr} {rws : List Rx} (h : RawRows H rs rws) (e : KeepTL H H') : RawRows H' rs rws := ⟨h.len, fun i a r x y => by
  obtain ⟨l, q1, q2⟩ := h.at_ i a r x y
  exact ⟨l, e.1 _ _ q1, fun bs z => ⟨e.2 _ _ (q2 bs z).1, (q2 bs z).2⟩⟩⟩
/-- a function as it is handed in, with its rows -/
def EntryR (H : Hp) (e : Addr) (f : FdT) : Prop := ∃ (pa oa ra : Addr) (ps qs rs : List Addr), EntryG H e pa oa ra f.nm f.res ps qs f.ns f.ms (rs.map V.ref) ∧ RawRows H rs f.rws
theorem EntryR.keep {H H' : Hp} {e : Addr} {f : FdT} (h : EntryR H e f) (k : KeepTL H H') : EntryR H' e f := by
  obtain ⟨pa, oa, ra, ps, qs, rs, q, r⟩ := h
  exact ⟨pa, oa, ra, ps, qs, rs, q.keep k, r.keep k⟩
theorem EntryR.entry {H : Hp} {e : Addr} {f : FdT} (h : EntryR H e f) : EntryAt H e f := by
  obtain ⟨pa, oa, ra, ps, qs, rs, q, r⟩ := h
  exact ⟨pa, oa, ra, ps, qs, _, q⟩
/-- classes and functions as they are handed in -/
structure RawSrc (H : Hp) (ca fa : Addr) (cl : ClsT) (fds : List FdT) : Prop where
  cs : ∃ es : List Addr, H ca = some (.lst (es.map V.ref)) ∧ es.length = cl.length ∧ ∀ (i : Nat) e c, es[i]? = some e → cl[i]? = some c → ClsG H e c
  oc : ClsOk cl
  fn : ∃ es : List Addr, H fa = some (.lst (es.map V.ref)) ∧ es.length = fds.length ∧ ∀ (i : Nat) e f, es[i]? = some e → fds[i]? = some f → EntryR H e f
  nn : (fds.map FdT.nm).Nodup
  l1 : 1 ≤ fds.length
  l6 : fds.length ≤ 6
  ok : ∀ f ∈ fds, FdOk cl fds f
theorem RawSrc.keep {H H' : Hp} {ca fa : Addr} {cl : ClsT} {fds : List FdT} (h : RawSrc H ca fa cl fds) (k : KeepTL H H') : RawSrc H' ca fa cl fds := by
  obtain ⟨⟨cs, c1, c2, c3⟩, h1, ⟨es, f1, f2, f3⟩, h5, h6, h7, h8⟩ := h
  exact ⟨⟨cs, k.2 _ _ c1, c2, fun i e c a b => (c3 i e c a b).keep k⟩, h1, ⟨es, k.2 _ _ f1, f2, fun i e f a b => (f3 i e f a b).keep k⟩, h5, h6, h7, h8⟩
def spSrcInitG (K : PySem.W.Frag) : Sp := fun vs H Q _ => ∃ (p dx ca fa : Addr) (cl : ClsT) (fds : List FdT), vs = [.ref p, .ref ca, .ref fa] ∧ H p = some (.ins (He.ga K "Source") dx []) ∧ RawSrc H ca fa cl fds ∧ ∀ H', But p H H' → SrcX K H' p cl fds → Q .non H' 
theorem sc_Source_init : FnScope ["self", "classes", "functions", "k", "entry"] ["self", "classes", "functions"] (defScope s_Source_init) := ⟨rfl, rfl, rfl, by decide +kernel, rfl, by decide +kernel, by decide +kernel⟩
theorem ok_Source_init (T : Ctx w K mg) (H_Source_take_classes : HasM P w K mg base 4 "Source" "_take_classes" ["self", "classes"] (spTakeCM K)) (H_Source_take_heads : HasM P w K mg base 6 "Source" "_take_heads" ["self", "functions"] (spTakeHG K)) (H_Source_take_rows : HasM P w K mg base 7 "Source" "_take_rows" ["self", "k", "function", "rows"] (spTakeRG K)) : HasM P w K mg base 8 "Source" "__init__" ["self", "classes", "functions"] (spSrcInitG K) := by
  obtain ⟨fd, F⟩ := T.D_Source_init
  obtain ⟨fd_Source_take_classes, G_Source_take_classes, b_Source_take_classes⟩ := H_Source_take_classes.ex
  obtain ⟨fd_Source_take_heads, G_Source_take_heads, b_Source_take_heads⟩ := H_Source_take_heads.ex
  obtain ⟨fd_Source_take_rows, G_Source_take_rows, b_Source_take_rows⟩ := H_Source_take_rows.ex
  refine ⟨⟨fd, F.ok sc_Source_init (fun vs H Q E h => ?_) (fun cdv A outer s H vs Q E hr h => ?_), F.bindsN fun _ _ _ _ _ _ us hl => match us, hl with | [_, _, _], _ => rfl⟩⟩
  · obtain ⟨p, dx, ca, fa, cl, fds, rfl, hp, HR, k⟩ := h; rfl
  · obtain ⟨p, dx, ca, fa, cl, fds, rfl, hp, HR, k⟩ := h
    have hr_Source_take_classes : Room 4 _ := hr.mono (by decide)
    have hr_Source_take_heads : Room 6 _ := hr.mono (by decide)
    have hr_Source_take_rows : Room 7 _ := hr.mono (by decide)
    have hu := hu_of hr
    refine ⟨_, PSs.nox (pss_cons (ps_fld (pv 0) pe_dnewK rfl)
      (pss_cons (ps_fld (pv 0) pe_dnewK rfl)
      (pss_cons (ps_fld (pv 0) pe_dnewK rfl)
      (pss_cons (ps_expr (pe_meth (pv 0) T.c_Source T.m_Source_take_classes G_Source_take_classes hr_Source_take_classes b_Source_take_classes .nil pass0 (pa_cons (pv 1) pa_nil)))
      (pss_cons (ps_expr (pe_meth (pv 0) T.c_Source T.m_Source_take_heads G_Source_take_heads hr_Source_take_heads b_Source_take_heads .nil pass0 (pa_cons (pv 2) pa_nil)))
      (pss_one (ps_for PassesOwn.never rfl (pi_enum (by rfl) T.f_enumerate (pa_cons (pv 2) pa_nil)) (pg_tup rfl (pgs_cons (pg_name (i := 3) sc_Source_init.nd rfl (Or.inl rfl)) (pgs_cons (pg_name (i := 4) sc_Source_init.nd rfl (Or.inl rfl)) pgs_nil)))
      (pss_one (ps_expr (pe_meth (pv 0) T.c_Source T.m_Source_take_rows G_Source_take_rows hr_Source_take_rows b_Source_take_rows .nil pass0 (pa_cons (pv 3) (pa_cons (pe_dget hu (pe_fldK (K := K) rfl (pv 0) (by rfl)) (pe_ix ix_tup (pv 4) pe_int (fun _ _ => rfl)) (fun _ _ => rfl)) (pa_cons (pe_ix ix_tup (pv 4) pe_int (fun _ _ => rfl)) pa_nil))))))))))))), ?_⟩
    intro d1 hd1
    have nd1 : d1 ≠ p := (ne_of_none hp hd1).symm
    refine ⟨_, rfl, p, _, dx, _, rfl, Same.new hd1 _ _ hp, T.c_Source, T.n_Source_field_kinds, few pf0, ?_⟩
    have b1 : But p H (upd (upd H d1 (.dK [])) p (.ins (He.ga K "Source") dx (putF "_field_kinds" (.ref d1) []))) := (But.of (Same.new hd1)).trans But.upd
    intro d2 hd2
    have nd2 : d2 ≠ p := fun z => by rw [z, upd_same] at hd2; cases hd2
    have n21 : d2 ≠ d1 := fun z => by rw [z, upd_ne nd1, upd_same] at hd2; cases hd2
    refine ⟨_, rfl, p, _, dx, _, rfl, Same.new hd2 _ _ upd_same, T.c_Source, T.n_Source_fields, few (pl1 pf0), ?_⟩
    have b2 := b1.trans ((But.of (Same.new (o := .dK []) hd2)).trans (But.upd (o := .ins (He.ga K "Source") dx (putF "_fields" (.ref d2) (putF "_field_kinds" (.ref d1) [])))))
    intro d3 hd3
    have nd3 : d3 ≠ p := fun z => by rw [z, upd_same] at hd3; cases hd3
    have n32 : d3 ≠ d2 := fun z => by rw [z, upd_ne nd2, upd_same] at hd3; cases hd3
    have n31 : d3 ≠ d1 := fun z => by rw [z, upd_ne nd1, upd_ne n21.symm, upd_ne nd1, upd_same] at hd3; cases hd3
    refine ⟨_, rfl, p, _, dx, _, rfl, Same.new hd3 _ _ upd_same, T.c_Source, T.n_Source_functions, few (pl1 (pl1 pf0)), ?_⟩
    have b3 := b2.trans ((But.of (Same.new (o := .dK []) hd3)).trans (But.upd (o := .ins (He.ga K "Source") dx (putF "_functions" (.ref d3) (putF "_fields" (.ref d2) (putF "_field_kinds" (.ref d1) []))))))
    generalize hH3 : upd (upd (upd (upd (upd (upd H d1 (.dK [])) p (.ins (He.ga K "Source") dx (putF "_field_kinds" (.ref d1) []))) d2 (.dK [])) p (.ins (He.ga K "Source") dx (putF "_fields" (.ref d2) (putF "_field_kinds" (.ref d1) [])))) d3 (.dK [])) p (.ins (He.ga K "Source") dx (putF "_functions" (.ref d3) (putF "_fields" (.ref d2) (putF "_field_kinds" (.ref d1) [])))) = H3 at b3 ⊢
    have S3 : SrcG K H3 p dx d2 d1 d3 (putF "_functions" (.ref d3) (putF "_fields" (.ref d2) (putF "_field_kinds" (.ref d1) []))) [] [] [] := by
      subst hH3
      refine ⟨upd_same, rfl, rfl, rfl, fun m hm => ?_, ?_, ?_, ?_⟩
      · simp only [List.mem_cons, List.not_mem_nil, or_false] at hm
        rcases hm with rfl | rfl | rfl | rfl | rfl | rfl | rfl | rfl | rfl | rfl <;> rfl
      · rw [upd_ne nd2, upd_ne n32.symm, upd_ne nd2, upd_same]
      · rw [upd_ne nd1, upd_ne n31.symm, upd_ne nd1, upd_ne n21.symm, upd_ne nd1, upd_same]
      · rw [upd_ne nd3, upd_same]
    generalize putF "_functions" (V.ref d3) (putF "_fields" (.ref d2) (putF "_field_kinds" (.ref d1) [])) = fs at S3
    have k3 : KeepTL H H3 := .butF hp b3
    have R3 := HR.keep k3
    clear hH3 b1 b2
    obtain ⟨ces, c1, c2, c3⟩ := R3.cs
    obtain ⟨es, f1, f2, f3⟩ := R3.fn
    refine ⟨_, rfl, p, dx, _, rfl, S3.ob, S3.nm _ (by decide +kernel), _, rfl, ?_⟩
    refine ⟨p, ca, dx, d2, d1, d3, fs, [], cl, ces, rfl, S3, n21, n32, n31, c1, c2, c3, HR.oc, fun H4 qs b4 hqs df4 dk4 => ?_⟩
    have k4 : KeepTL H3 H4 := .butL (fun d m xs => by
      rcases List.mem_cons.mp m with m | m
      · rw [m, S3.d1]
        exact ⟨(by intro z; cases z), (by intro z; cases z)⟩
      · rw [List.mem_singleton.mp m, S3.d2]
        exact ⟨(by intro z; cases z), (by intro z; cases z)⟩) b4
    have nin : ∀ {b : Addr}, b ≠ d2 → b ≠ d1 → b ∉ [d2, d1] := fun h1 h2 m => by
      rcases List.mem_cons.mp m with m | m
      · exact h1 m
      · exact h2 (List.mem_singleton.mp m)
    have S4 : SrcG K H4 p dx d2 d1 d3 fs (csM cl qs) (ksM cl) [] := ⟨b4 _ _ S3.ob (nin nd2.symm nd1.symm), S3.f1, S3.f2, S3.f3, S3.nm, df4, dk4, b4 _ _ S3.d3 (nin n32 n31)⟩
    refine ⟨_, rfl, p, dx, _, rfl, S4.ob, S4.nm _ (by decide +kernel), _, rfl, ?_⟩
    refine ⟨p, dx, d2, d1, d3, fa, fs, _, _, es, fds, rfl, S4, k4.2 _ _ f1, f2, fun i e f a b => ((f3 i e f a b).keep k4).entry, HR.nn, HR.l1, HR.l6, fun H5 fps b5 fl hH hfr hnd d5 => ?_⟩
    have k5 : KeepTL H4 H5 := .butD S4.d3 b5
    have n45 : KeepN H4 H5 := .butL (fun d m u e => by
      rw [List.mem_singleton.mp m, S4.d3] at e
      exact .inl ⟨_, (Option.some.inj e).symm⟩) b5
    have n5 : ∀ {b : Addr}, b ≠ d3 → b ∉ [d3] := fun h m => h (List.mem_singleton.mp m)
    have fin : ∀ a ∈ fps, ∃ (dy pa va : Addr) (gs : List (Str × V)) (ps' : List Addr) (f : FdT), FunG K H5 a dy pa va gs ps' f.ns f.ms f.res f.nm := fun a m => by
      obtain ⟨j, hj, e⟩ := List.getElem_of_mem m
      have e1 : fps[j]? = some a := by rw [List.getElem?_eq_getElem hj, e]
      have hj2 : j < fds.length := by omega
      obtain ⟨dy, pa, va, gs, ps', _, F⟩ := hH j _ a (List.getElem?_eq_getElem hj2) e1
      exact ⟨dy, pa, va, gs, ps', _, F⟩
    have nfp : ∀ {b : Addr} {u : HO}, H5 b = some u → (∀ dz gz, u ≠ .ins (He.ga K "Function") dz gz) → b ∉ fps := fun q n m => by
      obtain ⟨dy, pa, va, gs, ps', f, F⟩ := fin _ m
      rw [F.ob] at q
      exact n _ _ (Option.some.inj q).symm
    have p4 : H4 p = some (.ins (He.ga K "Source") dx fs) := S4.ob
    have npf : p ∉ fps := fun m => by
      have q := hfr p m
      rw [p4] at q
      cases q
    have S5 : SrcG K H5 p dx d2 d1 d3 fs (csM cl qs) (ksM cl) (usOf fds fps) := ⟨b5 _ _ S4.ob (n5 nd3.symm), S4.f1, S4.f2, S4.f3, S4.nm, b5 _ _ S4.d1 (n5 n32.symm), b5 _ _ S4.d2 (n5 n31.symm), d5⟩
    have k35 := k4.trans k5
    have fa5 := k35.2 _ _ f1
    have hlr : (es.map V.ref).length = fds.length := by rw [List.length_map, f2]
    refine ⟨_, rfl, fa, _, rfl, SqL.of fa5, ?_⟩
    refine for_it (walk_enum (K := K) (a := fa) (xs := es.map V.ref)) (fun i σ H1 => ∃ v1 v2 : Option V, σ = [some (.ref p), some (.ref ca), some (.ref fa), v1, v2] ∧ ButL fps H5 H1 ∧ (∀ (j : Nat) f a, fds[j]? = some f → fps[j]? = some a → j < i → ∃ (dy pa va ba : Addr) (gs : List (Str × V)) (ps' rs' : List Addr), FunB K H1 a dy pa va ba gs ps' rs' f) ∧
      (∀ (j : Nat) f a, fds[j]? = some f → fps[j]? = some a → i ≤ j → ∃ (dy pa va : Addr) (gs : List (Str × V)) (ps' : List Addr), FunG K H1 a dy pa va gs ps' f.ns f.ms f.res f.nm)) ⟨none, none, rfl, fun b u q _ => q, fun j f a _ _ h => absurd h (Nat.not_lt_zero j), fun j f a e1 e2 _ => by
        obtain ⟨dy, pa, va, gs, ps', _, F⟩ := hH j f a e1 e2
        exact ⟨dy, pa, va, gs, ps', F⟩⟩ (fun i σ H1 _ ⟨_, _, _, b6, _⟩ => SqL.of (b6 _ _ fa5 (nfp fa5 (by intro _ _ z; cases z)))) ?_ ?_
    · rintro i y σ H1 H2 hi ⟨v1, v2, rfl, b6, hB, hG⟩ ⟨u, a, b, rfl, hu0, rfl, h1, h2⟩
      have h2 : (es.map V.ref)[i]? = some b := h2
      obtain rfl : V.int (i : Nat) = a := Option.some.inj h1
      obtain ⟨e, hc, rfl⟩ := map_get h2
      have hif : i < fds.length := by rw [hlr] at hi; exact hi
      have hf : fds[i]? = some fds[i] := List.getElem?_eq_getElem hif
      have hip : i < fps.length := by omega
      have ha : fps[i]? = some fps[i] := List.getElem?_eq_getElem hip
      have hfm : fds[i] ∈ fds := List.getElem_mem hif
      have k6 : KeepTL H5 H1 := .butL (fun d m xs => by
        obtain ⟨dy, pa, va, gs, ps', f, F⟩ := fin _ m
        rw [F.ob]
        exact ⟨(by intro z; cases z), (by intro z; cases z)⟩) b6
      obtain ⟨pa, oa, ra, pp, qq, rs, E3, RR3⟩ := f3 i e _ hc hf
      have k36 := k35.trans k6
      have E1 := E3.keep k36
      have RR1 := RR3.keep k36
      have s1 : Same H1 (upd H1 u (.tup [.int (i : Nat), .ref e])) := Same.new hu0
      have S1 : SrcG K H1 p dx d2 d1 d3 fs (csM cl qs) (ksM cl) (usOf fds fps) := ⟨b6 _ _ S5.ob npf, S5.f1, S5.f2, S5.f3, S5.nm, b6 _ _ S5.d1 (nfp S5.d1 (by intro _ _ z; cases z)), b6 _ _ S5.d2 (nfp S5.d2 (by intro _ _ z; cases z)), b6 _ _ S5.d3 (nfp S5.d3 (by intro _ _ z; cases z))⟩
      have S2 := S1.mono s1
      have E2 := E1.keep (.of s1)
      have RR2 := RR1.mono s1
      obtain ⟨dy, ta, va, gs, ps', F0⟩ := hG i _ _ hf ha (Nat.le_refl _)
      have F2 := F0.mono s1
      have O := HR.ok _ hfm
      have hLen : rs.length = fds[i].rws.length := RR1.len
      refine ⟨u, _, rfl, SqT.of upd_same, rfl, _, _, rfl, _, _, rfl, rfl, ?_⟩
      refine ⟨_, rfl, p, dx, _, rfl, S2.ob, S2.nm _ (by decide +kernel), _, rfl, _, rfl, p, _, dx, _, _, rfl, S2.ob, T.c_Source, T.n_Source_functions, S2.f3, _, rfl, _, _, _, _, rfl, rfl, SqT.of E2.he, at0, d3, .ref fps[i], rfl, ?_, ?_⟩
      · have q := DGet.k (k := Sum.inr fds[i].nm) S2.d3
        rw [us_at HR.nn hf ha] at q
        exact q
      refine ⟨_, rfl, _, _, _, _, rfl, rfl, SqT.of E2.he, at4, ?_⟩
      have hHead : ∀ (j : Nat) (g : FdT), fds[j]? = some g → ∃ a dx pa fs ps, fps[j]? = some a ∧ HeadG K (upd H1 u (.tup [.int (i : Nat), .ref e])) a dx pa fs ps g.ns g.res := fun j g ej => by
        have hj : j < fps.length := by
          have := (List.getElem?_eq_some_iff.mp ej).1
          omega
        have aj : fps[j]? = some fps[j] := List.getElem?_eq_getElem hj
        have lj := (HR.ok g (List.mem_of_getElem? ej)).l1
        by_cases c : j < i
        · obtain ⟨dz, pz, vz, bz, gz, psz, rsz, Fz⟩ := hB j g _ ej aj c
          exact ⟨_, _, _, _, _, aj, (Fz.mono s1).head lj⟩
        · obtain ⟨dz, pz, vz, gz, psz, Fz⟩ := hG j g _ ej aj (by omega)
          exact ⟨_, _, _, _, _, aj, (Fz.mono s1).head lj⟩
      refine ⟨p, fps[i], dy, va, ra, (i : Nat), gs, _, _, _, _, _, rs, fds[i].rws, rfl, ⟨dx, d2, d1, d3, fs, S2⟩, F2.few, ⟨F2.ob, F2.f3, F2.f2, F2.vd⟩, E2.hra, RR2, fun j c r l e1 e2 e3 => ?_, fun r m => ⟨O.kinds HR.nn HR.ok hHead (O.rows r m), O.names (O.rows r m), O.ok.ok r m⟩, O.ok.last, O.ok.le, fun H7 q qs b7 F7 t7 q7 => ?_⟩
      · obtain ⟨l2, q1, q2⟩ := RR2.at_ j c r e1 e2
        refine O.form HR.nn fl HR.oc.nd hqs.len (O.rows r (List.mem_of_getElem? e2)) fun bs hb => ?_
        have el : l2 = l ∨ r.args = none := by
          cases r with
          | call x F as =>
            left
            rw [q1] at e3
            have := (HO.tup.inj (Option.some.inj e3))
            simp [Rx.parts] at this
            exact this
          | _ => exact .inr rfl
        rcases el with rfl | el
        · exact q2 bs hb
        · rw [el] at hb
          cases hb
      · have ob2 := F2.ob
        refine ⟨_, _, rfl, fun b u q n => ?_, fun j f a e1 e2 hj => ?_, fun j f a e1 e2 hj => ?_⟩
        · exact b7 _ _ (s1 _ _ (b6 _ _ q n)) fun z => n (by rw [z]; exact List.getElem_mem hip)
        · by_cases c : j = i
          · subst c
            rw [hf] at e1
            rw [ha] at e2
            have ef := Option.some.inj e1
            have ea := Option.some.inj e2
            subst ef
            subst ea
            refine ⟨dy, ta, va, q, _, ps', qs, F7.ob, ?_, F7.res, F7.vars, ?_, ?_, b7.tupP ob2 F2.d1, b7.pairsG ob2 F2.pr, F7.vd, t7, q7, ?_⟩
            · rw [lookup_putF, if_neg (by decide +kernel)]
              exact F2.f1
            · rw [lookup_putF, if_pos rfl]
            · rw [lookup_putF, lookup_putF, if_neg (by decide +kernel), if_neg (by decide +kernel)]
              exact F2.nohas
            · obtain ⟨o1, oa', qs', o2, o3⟩ := (F2.ot.keepN (.but ob2 b7))
              exact ⟨by rw [lookup_putF, if_neg (by decide +kernel)]; exact o1, oa', qs', by rw [lookup_putF, if_neg (by decide +kernel)]; exact o2, o3⟩
          · obtain ⟨dz, pz, vz, bz, gz, psz, rsz, Fz⟩ := hB j f a e1 e2 (by omega)
            refine ⟨dz, pz, vz, bz, gz, psz, rsz, (Fz.mono s1).but ob2 (fun z => c ?_) b7⟩
            exact (List.getElem?_inj (List.getElem?_eq_some_iff.mp e2).1 hnd).mp (by rw [e2, z, ha])
        · obtain ⟨dz, pz, vz, gz, psz, Fz⟩ := hG j f a e1 e2 (by omega)
          refine ⟨dz, pz, vz, gz, psz, (Fz.mono s1).but ob2 (fun z => ?_) b7⟩
          have := (List.getElem?_inj (List.getElem?_eq_some_iff.mp e2).1 hnd).mp (show fps[j]? = fps[i]? by rw [e2, z, ha])
          omega
    · rintro σ H1 ⟨v1, v2, rfl, b6, hB, hG⟩
      rw [hlr] at hB
      have S1 : SrcG K H1 p dx d2 d1 d3 fs (csM cl qs) (ksM cl) (usOf fds fps) := ⟨b6 _ _ S5.ob npf, S5.f1, S5.f2, S5.f3, S5.nm, b6 _ _ S5.d1 (nfp S5.d1 (by intro _ _ z; cases z)), b6 _ _ S5.d2 (nfp S5.d2 (by intro _ _ z; cases z)), b6 _ _ S5.d3 (nfp S5.d3 (by intro _ _ z; cases z))⟩
      have n56 : KeepN H5 H1 := .butL (fun d m u e => by
        obtain ⟨dy, pa, va, gs, ps', f, F⟩ := fin _ m
        rw [F.ob] at e
        exact .inr ⟨_, _, _, (Option.some.inj e).symm⟩) b6
      refine k H1 (fun b o q n => ?_) ⟨fps, qs, (hqs.keepN n45).keepN n56, ⟨dx, d2, d1, d3, fs, S1⟩, fl, fun j f a e1 e2 => hB j f a e1 e2 (List.getElem?_eq_some_iff.mp e1).1⟩
      have old : ∀ {d : Addr}, H d = none → b ≠ d := fun hd z => by
        rw [z, hd] at q
        cases q
      have q3 := b3 _ _ q n
      have m1 : b ≠ d1 := old hd1
      have m2 : b ≠ d2 := fun z => by
        rw [upd_ne nd2] at hd2
        by_cases w : d2 = d1
        · exact n21 w
        · rw [upd_ne w] at hd2
          exact old hd2 z
      have m3 : b ≠ d3 := fun z => by
        rw [upd_ne nd3, upd_ne n32, upd_ne nd3, upd_ne n31] at hd3
        exact old hd3 z
      have q4 := b4 _ _ q3 (nin m2 m1)
      have q5 := b5 _ _ q4 (n5 m3)
      exact b6 _ _ q5 fun m => by
        have := hfr b m
        rw [q4] at this
        cases this

end
end W1
set_option Elab.async false
set_option linter.all false
set_option maxRecDepth 100000
set_option maxHeartbeats 4000000
namespace W1
open PySem PySem.Spec PyProof.Rows L2 RZ
section
variable {P : Program} {w : World} {K : PySem.W.Frag} {mg : Str → Option Value} {base : Heap}
theorem none_of {H H' : Hp} {b : Addr} (e : Same H H') (h : H' b = none) : H b = none := by
  cases c : H b with
  | none => rfl
  | some o =>
    rw [e _ _ c] at h
    cases h

theorem call_isiK {X : Cx} {K : PySem.W.Frag} (hk : X.K = K) : CallR X (.builtin "isinstance") (rIsi K) := by
  subst hk
  exact call_isi
theorem call_list_ofK {X : Cx} {K : PySem.W.Frag} (hk : X.K = K) : CallR X (.type "list") (fun xs H Q => ∃ p ys, xs = [.ref p] ∧ (SqL K H p ys ∨ SqT K H p ys) ∧ ∀ l, H l = none → Q (.ref l) (upd H l (.lst ys))) := by
  subst hk
  exact call_list_of
/-! ### what a source tells of itself -/
/-- tuples stay, and the lists of which Z speaks -/
def KeepZ (Z : Addr → Prop) (H H' : Hp) : Prop := (∀ b xs, H b = some (.tup xs) → H' b = some (.tup xs)) ∧ ∀ b xs, Z b → H b = some (.lst xs) → H' b = some (.lst xs)
theorem KeepZ.of {Z : Addr → Prop} {H H' : Hp} (e : Same H H') : KeepZ Z H H' := ⟨fun b xs h => e _ _ h, fun b xs _ h => e _ _ h⟩
theorem KeepZ.but {H H' : Hp} {D : Addr} {xs : List V} (hD : H D = some (.lst xs)) (b : But D H H') : KeepZ (· ≠ D) H H' := ⟨fun c ys h => b _ _ h (ne_of h hD (by intro z; cases z)), fun c ys n h => b _ _ h n⟩
theorem PairsG.keepZ {Z : Addr → Prop} {H H' : Hp} {ps : List Addr} {qs : List (Str × Str)} (h : PairsG H ps qs) (k : KeepZ Z H H') : PairsG H' ps qs := ⟨h.len, fun i p x a b => k.1 _ _ (h.at_ i p x a b)⟩
def RowT (Z : Addr → Prop) (H : Hp) (a : Addr) (r : Rx) : Prop := ∃ l : Addr, H a = some (.tup (.str r.word :: r.parts (.ref l))) ∧ ∀ bs, r.args = some bs → Z l ∧ H l = some (.lst (bs.map V.str))
theorem RowT.to {Z Y : Addr → Prop} {H H' : Hp} {a : Addr} {r : Rx} (h : RowT Z H a r) (f : ∀ b, Z b → Y b) (k : KeepZ Z H H') : RowT Y H' a r := by
  obtain ⟨l, h1, h2⟩ := h
  exact ⟨l, k.1 _ _ h1, fun bs e => ⟨f _ (h2 bs e).1, k.2 _ _ (h2 bs e).1 (h2 bs e).2⟩⟩
structure RowsT (Z : Addr → Prop) (H : Hp) (rs : List Addr) (rws : List Rx) : Prop where
  len : rs.length = rws.length
  at_ : ∀ (i : Nat) a r, rs[i]? = some a → rws[i]? = some r → RowT Z H a r
theorem RowsT.to {Z Y : Addr → Prop} {H H' : Hp} {rs : List Addr} {rws : List Rx} (h : RowsT Z H rs rws) (f : ∀ b, Z b → Y b) (k : KeepZ Z H H') : RowsT Y H' rs rws := ⟨h.len, fun i a r x y => (h.at_ i a r x y).to f k⟩
def EntryT (Z : Addr → Prop) (H : Hp) (e : Addr) (f : FdT) : Prop := ∃ (pa oa ra : Addr) (ps qs rs : List Addr), H e = some (.tup [.str f.nm, .ref pa, .ref oa, .str f.res, .ref ra]) ∧ (Z pa ∧ Z oa ∧ Z ra) ∧ H pa = some (.lst (ps.map V.ref)) ∧ PairsG H ps f.ns ∧ H oa = some (.lst (qs.map V.ref)) ∧ PairsG H qs f.ms ∧ H ra = some (.lst (rs.map V.ref)) ∧ RowsT Z H rs f.rws
theorem EntryT.to {Z Y : Addr → Prop} {H H' : Hp} {e : Addr} {f : FdT} (h : EntryT Z H e f) (g : ∀ b, Z b → Y b) (k : KeepZ Z H H') : EntryT Y H' e f := by
  obtain ⟨pa, oa, ra, ps, qs, rs, h1, ⟨z1, z2, z3⟩, h2, h3, h4, h5, h6, h7⟩ := h
  exact ⟨pa, oa, ra, ps, qs, rs, k.1 _ _ h1, ⟨g _ z1, g _ z2, g _ z3⟩, k.2 _ _ z1 h2, h3.keepZ k, k.2 _ _ z2 h4, h5.keepZ k, k.2 _ _ z3 h6, h7.to g k⟩
def ClsZ (Z : Addr → Prop) (H : Hp) (e : Addr) (c : Str × List (Str × Str)) : Prop := ∃ (la : Addr) (ps : List Addr), H e = some (.tup [.str c.1, .ref la]) ∧ Z la ∧ H la = some (.lst (ps.map V.ref)) ∧ PairsG H ps c.2
theorem ClsZ.to {Z Y : Addr → Prop} {H H' : Hp} {e : Addr} {c : Str × List (Str × Str)} (h : ClsZ Z H e c) (g : ∀ b, Z b → Y b) (k : KeepZ Z H H') : ClsZ Y H' e c := by
  obtain ⟨la, ps, h1, z, h2, h3⟩ := h
  exact ⟨la, ps, k.1 _ _ h1, g _ z, k.2 _ _ z h2, h3.keepZ k⟩
def Tru (_ : Addr) : Prop := True
/-- a list of things, each of which R speaks -/
def LstR (α : Type) (R : Hp → Addr → α → Prop) (H : Hp) (a : Addr) (xs : List α) : Prop := ∃ es : List Addr, H a = some (.lst (es.map V.ref)) ∧ es.length = xs.length ∧ ∀ (i : Nat) e x, es[i]? = some e → xs[i]? = some x → R H e x
abbrev TCls := LstR (Str × List (Str × Str)) (ClsZ Tru)
abbrev TFns := LstR FdT (EntryT Tru)
theorem refs_of {R : Nat → Addr → Prop} : ∀ {xs : List V}, (∀ (i : Nat) v, xs[i]? = some v → ∃ e, v = .ref e ∧ R i e) → ∃ es : List Addr, xs = es.map V.ref ∧ ∀ (i : Nat) e, es[i]? = some e → R i e := by
  intro xs
  induction xs generalizing R with
  | nil => exact fun _ => ⟨[], rfl, fun i e h => by simp at h⟩
  | cons x xs ih =>
    intro h
    obtain ⟨e, rfl, r⟩ := h 0 x rfl
    obtain ⟨es, rfl, q⟩ := ih (R := fun i e => R (i + 1) e) fun i v hv => h (i + 1) v (by simpa using hv)
    refine ⟨e :: es, rfl, fun i u hu => ?_⟩
    cases i with
    | zero =>
      rw [← show e = u from Option.some.inj hu]
      exact r
    | succ i => exact q i u (by simpa using hu)
/-- a comprehension whose elements keep what R says, whatever becomes of the list itself -/
theorem lc_any {J : It} {n : Nat} {G : Hp → Prop} {Y : Nat → Hp → V → Hp → Prop} (w : Walk J n G Y) {gg : TG} {te : TE} {vs : List Nat} {σ : L2.St} {H0 : Hp} {D : Addr} {Qd : Hp → Prop} (hD : H0 D = none) (R : Nat → Hp → V → Prop) (hn : n < 100000)
    (stab : ∀ i H H' v xs, H D = some (.lst xs) → But D H H' → R i H v → R i H' v) (hG : ∀ H, Same H0 H → G H)
    (hs : ∀ i H x H' xs, i < n → Same H0 H → H D = some (.lst xs) → Y i H x H' → ∀ Qe : VK, (∀ v H4, Same H H4 → R i H4 v → Qe v H4) → gg x (wipe σ vs) H' fun σ2 H2 => wipe σ2 vs = wipe σ vs ∧ te σ2 H2 Qe)
    (hd : ∀ (H : Hp) (xs : List V), Same H0 H → xs.length = n → (∀ (i : Nat) v, xs[i]? = some v → R i H v) → H D = some (.lst xs) → Qd H) :
    ∃ W : Nat → Nat → Hp → Prop, (∃ m, W 0 m (upd H0 D (.lst []))) ∧ ∀ i m H, W i m H →
      (J.stop i H ∧ Qd H) ∨ (J.go i H ∧ ∃ Nx : Hp → Prop, (∀ H', Nx H' → ∃ m', m' < m ∧ W (i + 1) m' H') ∧ ∀ x H', J.yld i H x H' → gg x (wipe σ vs) H' fun σ2 H2 => wipe σ2 vs = wipe σ vs ∧ tYes σ2 H2 fun b H3 =>
        if b = true then te σ2 H3 fun y H4 => ∃ acc, H4 D = some (.lst acc) ∧ acc.length < sizeLine ∧ Nx (upd H4 D (.lst (acc ++ [y]))) else Nx H3) := by
  refine lc_it w (fun i H => Same H0 H ∧ ∃ xs : List V, xs.length = i ∧ (∀ (j : Nat) v, xs[j]? = some v → R j H v) ∧ H D = some (.lst xs)) ⟨Same.new hD, [], rfl, fun j v e => by simp at e, upd_same⟩ (fun i H _ p => hG H p.1) (fun i x H H' hi q y => ?_) (fun H q => ?_)
  · obtain ⟨s1, xs, hl, hx, hDD⟩ := q
    have q := hs i H x H' xs hi s1 hDD y (fun y H4 => ∃ acc, H4 D = some (.lst acc) ∧ acc.length < sizeLine ∧ (Same H0 (upd H4 D (.lst (acc ++ [y]))) ∧ ∃ xs : List V, xs.length = i + 1 ∧ (∀ (j : Nat) v, xs[j]? = some v → R j (upd H4 D (.lst (acc ++ [y]))) v) ∧ upd H4 D (.lst (acc ++ [y])) D = some (.lst xs))) (fun v H4 s4 mv => ?_)
    · exact q
    · have h4 := s4 _ _ hDD
      refine ⟨xs, h4, sz_lt (by omega), Same.mut (s1.trans s4) hD, xs ++ [v], by rw [List.length_append, hl]; rfl, fun j u e => stab j H4 _ u xs h4 But.upd ?_, upd_same⟩
      by_cases hj : j < xs.length
      · rw [List.getElem?_append_left hj] at e
        exact stab j H H4 u xs hDD (But.of s4) (hx j u e)
      · rw [List.getElem?_append_right (by omega)] at e
        have h2 := (List.getElem?_eq_some_iff.mp e).1
        simp at h2
        have ej : j = i := by omega
        have e0 : j - xs.length = 0 := by omega
        rw [e0] at e
        rw [← Option.some.inj e, ej]
        exact mv
  · obtain ⟨s1, xs, hl, hx, hDD⟩ := q
    exact hd H xs s1 hl hx hDD
/-- the part of a row as it is told -/
def PartT (H0 : Hp) (D : Addr) (r : Rx) (l : V) (i : Nat) (H : Hp) (v : V) : Prop := ((r.args.isSome && (i == 3)) = false ∧ v = (V.str r.word :: r.parts l).getD i .non) ∨ ((r.args.isSome && (i == 3)) = true ∧ ∃ q, v = .ref q ∧ q ≠ D ∧ H0 q = none ∧ H q = some (.lst (r.namesOf.map V.str)))
def spToldRow : Sp := fun vs H Q _ => ∃ (a : Addr) (r : Rx), vs = [.ref a] ∧ RowAt true H a r ∧ ∀ p H', Same H H' → RowT (fun b => H b = none) H' p r → Q (.ref p) H' 
theorem sc_told_row : FnScope ["row", "part"] ["row"] (defScope s_told_row) := ⟨rfl, rfl, rfl, by decide +kernel, rfl, by decide +kernel, by decide +kernel⟩
theorem ok_told_row (T : Ctx w K mg) : Has P w K mg base 1 "told_row" ["row"] spToldRow := by
  obtain ⟨fd, F⟩ := T.D_told_row
  refine ⟨⟨fd, F.ok sc_told_row (fun vs H Q E h => ?_) (fun cdv A outer s H vs Q E hr h => ?_), F.bindsN fun _ _ _ _ _ _ us hl => match us, hl with | [_], _ => rfl⟩, F.kp, T.g_told_row⟩
  · obtain ⟨a, r, rfl, hR, k⟩ := h; rfl
  · obtain ⟨a, r, rfl, hR, k⟩ := h
    have hu := hu_of hr
    refine ⟨_, PSs.nox (pss_one (ps_ret (pe_callTy call_tuple_of (by rfl) T.f_tuple (by decide +kernel) (pa_cons (pe_lc (own := [("part", 1)]) (g := gName 1) (tt := tYes) rfl sc_told_row.nd (pi_tup (pv 0)) (blkOk_by (N := ["row", "part"]) (sc := defScope s_told_row) (by decide +kernel)) (fun _ _ _ _ _ => (pg_name (i := 1) sc_told_row.nd rfl (Or.inl rfl))) (fun _ _ _ _ _ => pts_nil) (fun _ _ _ _ _ => (pe_ifExp (pt_val (pe_callB (call_isiK (K := K) rfl) (by rfl) T.f_isinstance (by decide +kernel) (pa_cons (pv 1) (pa_cons (pe_bltn (v := .ty "tuple") (u := .type "tuple") rfl T.f_tuple (by decide +kernel) rfl) pa_nil)))) (pe_callTy (call_list_ofK (K := K) rfl) (by rfl) T.f_list (by decide +kernel) (pa_cons (pv 1) pa_nil)) (pv 1)))) pa_nil)))), ?_⟩
    obtain ⟨l, ha, hm⟩ := hR
    refine ⟨_, rfl, a, rfl, ⟨_, SqT.of ha⟩, fun D hD => ?_⟩
    have hlp : (V.str r.word :: r.parts (.ref l)).length ≤ 4 := by cases r <;> simp [Rx.parts]
    refine lc_any (walk_tup (K := K) (a := a) (xs := V.str r.word :: r.parts (.ref l))) hD (fun i H1 v => PartT H D r (.ref l) i H1 v) (by omega) (fun i H1 H2 v xs h1 b h => ?_) (fun H2 s2 => SqT.of (s2 _ _ ha)) (fun i H2 y H3 xs hi s2 hDl hy Qe qe => ?_) (fun H2 xs s2 hl hx h2 => ?_)
    · rcases h with h | ⟨c, q, e, n, n0, h⟩
      · exact .inl h
      · exact .inr ⟨c, q, e, n, n0, b _ _ h n⟩
    · obtain ⟨rfl, hy⟩ := hy
      rcases parts_at hy with ⟨f1, c1⟩ | ⟨bs, hb, rfl, rfl⟩
      · have hy2 := (getD_of hy).symm
        cases f1 with
        | str x => exact ⟨rfl, _, rfl, _, _, _, _, false, rfl, .ty _, .base (.str x), kit_ty (by decide +kernel), false, rfl, iteF ⟨_, rfl, qe _ _ (Same.refl _) (.inl ⟨c1, hy2⟩)⟩⟩
        | int x => exact ⟨rfl, _, rfl, _, _, _, _, false, rfl, .ty _, .base (.int x), kit_ty (by decide +kernel), false, rfl, iteF ⟨_, rfl, qe _ _ (Same.refl _) (.inl ⟨c1, hy2⟩)⟩⟩
      · have q1 := hm bs hb
        rw [if_pos rfl] at q1
        have q2 := s2 _ _ q1
        refine ⟨rfl, _, rfl, _, _, _, _, true, rfl, .ty _, .base (.tup q2), kit_ty (by decide +kernel), true, rfl, iteT ⟨_, rfl, l, bs.map V.str, rfl, .inr (SqT.of q2), fun q hq => qe _ _ (Same.new hq) (.inr ⟨by rw [hb]; rfl, q, rfl, fun z => ?_, none_of s2 hq, ?_⟩)⟩⟩
        · rw [z, hDl] at hq
          cases hq
        · rw [upd_same]
          unfold Rx.namesOf
          rw [hb]
          rfl
    refine ⟨D, xs, rfl, .inl ⟨SqL.of h2, fun q hq => k q _ (s2.trans (Same.new hq)) ?_⟩⟩
    have same : ∀ (i : Nat) v, xs[i]? = some v → (r.args.isSome && (i == 3)) = false → v = (V.str r.word :: r.parts (.ref l)).getD i .non := fun i v e c => by
      rcases hx i v e with ⟨_, h⟩ | ⟨h, _⟩
      · exact h
      · rw [c] at h
        cases h
    cases e : r.args with
    | none =>
      refine ⟨l, ?_, fun bs z => by rw [e] at z; cases z⟩
      rw [upd_same]
      have ex : xs = V.str r.word :: r.parts (.ref l) := by
        apply List.ext_getElem hl
        intro i h1 h3
        have := same i xs[i] (List.getElem?_eq_getElem h1) (by rw [e]; rfl)
        rw [this, List.getD_eq_getElem?_getD, List.getElem?_eq_getElem h3]
        rfl
      rw [ex]
    | some bs =>
      cases r with
      | call x F cs =>
        obtain rfl : cs = bs := Option.some.inj e
        have h4 : xs.length = 4 := hl
        match xs, h4 with
        | [a0, a1, a2, a3], _ =>
          have e0 := same 0 a0 rfl rfl
          have e1 := same 1 a1 rfl rfl
          have e2 := same 2 a2 rfl rfl
          rcases hx 3 a3 rfl with ⟨z, _⟩ | ⟨_, q3, e3, _, n0, h3⟩
          · cases z
          · subst e0 e1 e2 e3
            exact ⟨q3, upd_same, fun bs2 z => by
              obtain rfl := Option.some.inj z
              exact ⟨n0, Same.new hq _ _ h3⟩⟩
      | _ => cases e

end
end W1
set_option Elab.async false
set_option linter.all false
set_option maxRecDepth 100000
set_option maxHeartbeats 4000000
namespace W1
open PySem PySem.Spec PyProof.Rows L2 RZ
section
variable {P : Program} {w : World} {K : PySem.W.Frag} {mg : Str → Option Value} {base : Heap}

theorem KeepZ.butZ {Z : Addr → Prop} {H H' : Hp} {D : Addr} {xs : List V} (hD : H D = some (.lst xs)) (hz : ∀ b, Z b → b ≠ D) (b : But D H H') : KeepZ Z H H' := ⟨fun c ys h => b _ _ h (ne_of h hD (by intro z; cases z)), fun c ys n h => b _ _ h (hz _ n)⟩
theorem KeepZ.free {Z : Addr → Prop} {H : Hp} {d : Addr} {od : Obj} {u u2 : HO} (hd : H d = some (.frz od u)) : KeepZ Z H (upd H d u2) := ⟨fun c ys h => by rw [upd_ne (ne_of h hd (by intro z; cases z))]; exact h, fun c ys n h => by rw [upd_ne (ne_of h hd (by intro z; cases z))]; exact h⟩
theorem Same.locked {H H2 : Hp} {d : Addr} {od : Obj} {u : HO} (hd : H d = some u) (s : Same (upd H d (.frz od u)) H2) : Same H (upd H2 d u) := fun b v e => by
  by_cases z : b = d
  · rw [z, hd] at e
    rw [z, upd_same]
    exact e
  · rw [upd_ne z]
    exact s _ _ (by rw [upd_ne z]; exact e)
theorem csM_get {cl : List (Str × List (Str × Str))} {qs : List Addr} {i : Nat} {k : Key} {v : V} (h : (csM cl qs)[i]? = some (k, v)) : ∃ c q, cl[i]? = some c ∧ qs[i]? = some q ∧ k = Sum.inr c.1 ∧ v = .ref q := by
  unfold csM at h
  rw [List.getElem?_map] at h
  cases e : (cl.zip qs)[i]? with
  | none => rw [e] at h; cases h
  | some z =>
    rw [e] at h
    have h2 := Option.some.inj h
    obtain ⟨h3, h4⟩ := List.getElem?_zip_eq_some.mp e
    exact ⟨z.1, z.2, h3, h4, (Prod.mk.inj h2).1.symm, (Prod.mk.inj h2).2.symm⟩
theorem usOf_get {fds : List FdT} {qs : List Addr} {i : Nat} {k : Key} {v : V} (h : (usOf fds qs)[i]? = some (k, v)) : ∃ f q, fds[i]? = some f ∧ qs[i]? = some q ∧ k = Sum.inr f.nm ∧ v = .ref q := by
  unfold usOf at h
  rw [List.getElem?_map] at h
  cases e : (fds.zip qs)[i]? with
  | none => rw [e] at h; cases h
  | some z =>
    rw [e] at h
    have h2 := Option.some.inj h
    obtain ⟨h3, h4⟩ := List.getElem?_zip_eq_some.mp e
    exact ⟨z.1, z.2, h3, h4, (Prod.mk.inj h2).1.symm, (Prod.mk.inj h2).2.symm⟩
/-- a function, all but its variables -/
structure FunV (K : PySem.W.Frag) (H : Hp) (p dx pa va ba : Addr) (fs : List (Str × V)) (ps rs : List Addr) (f : FdT) : Prop where
  ob : H p = some (.ins (He.ga K "Function") dx fs)
  f1 : fs.lookup ("params" : Str) = some (.ref pa)
  f2 : fs.lookup ("result" : Str) = some (.str f.res)
  f4 : fs.lookup ("body" : Str) = some (.ref ba)
  d1 : TupP H pa (ps.map V.ref)
  pr : PairsG H ps f.ns
  tb : TupP H ba (rs.map V.ref)
  kr : KeptRows H rs f.rws
  ot : OthG H fs f.nm f.ms
theorem FunB.v {H : Hp} {p dx pa va ba : Addr} {fs : List (Str × V)} {ps rs : List Addr} {f : FdT} (h : FunB K H p dx pa va ba fs ps rs f) : FunV K H p dx pa va ba fs ps rs f := ⟨h.ob, h.f1, h.f2, h.f4, h.d1, h.pr, h.tb, h.kr, h.ot⟩
theorem FunV.mono {H H' : Hp} {p dx pa va ba : Addr} {fs : List (Str × V)} {ps rs : List Addr} {f : FdT} (h : FunV K H p dx pa va ba fs ps rs f) (e : Same H H') : FunV K H' p dx pa va ba fs ps rs f :=
  ⟨e _ _ h.ob, h.f1, h.f2, h.f4, h.d1.mono e, h.pr.mono e, h.tb.mono e, h.kr.mono e, h.ot.keepN (.of e)⟩
theorem FunV.lock {H : Hp} {p dx pa va ba d : Addr} {od : Obj} {kvs : List (Key × V)} {fs : List (Str × V)} {ps rs : List Addr} {f : FdT} (h : FunV K H p dx pa va ba fs ps rs f) (hd : H d = some (.dK kvs)) : FunV K (upd H d (.frz od (.dK kvs))) p dx pa va ba fs ps rs f := by
  have kN : KeepN H (upd H d (.frz od (.dK kvs))) := fun b u e n => by
    rw [upd_ne (fun z => n (.inl ⟨kvs, by rw [z, hd] at e; exact (Option.some.inj e).symm⟩))]
    exact e
  refine ⟨by rw [upd_ne (ne_of h.ob hd (by intro z; cases z))]; exact h.ob, h.f1, h.f2, h.f4, h.d1.keepN kN, h.pr.keepN kN, h.tb.keepN kN, ⟨h.kr.len, fun i a r x y => ?_⟩, h.ot.keepN kN⟩
  obtain ⟨l, h1, h2⟩ := h.kr.at_ i a r x y
  refine ⟨l, kN _ _ h1 loose_tup, fun bs q => ?_⟩
  have z := h2 bs q
  rw [if_pos rfl] at z ⊢
  exact kN _ _ z loose_tup
def spToldFn (K : PySem.W.Frag) : Sp := fun vs H Q _ => ∃ (a dx pa va ba : Addr) (fs : List (Str × V)) (ps rs : List Addr) (f : FdT), vs = [.ref a] ∧ FunV K H a dx pa va ba fs ps rs f ∧ f.rws.length ≤ 100 ∧ ∀ e H', Same H H' → EntryT (fun b => H b = none) H' e f → Q (.ref e) H'
/-- what is asked of a source that tells of itself -/
structure TellS (cl : ClsT) (fds : List FdT) : Prop where
  nc : (cl.map Prod.fst).Nodup
  nf : (fds.map FdT.nm).Nodup
  lc : cl.length ≤ 6
  lf : fds.length ≤ 6
  lr : ∀ f ∈ fds, f.rws.length ≤ 40
def spClasses (K : PySem.W.Frag) : Sp := fun vs H Q _ => ∃ (p : Addr) (cl : ClsT) (fds : List FdT), vs = [.ref p] ∧ SrcX K H p cl fds ∧ TellS cl fds ∧ ∀ a H', Same H H' → TCls H' a cl → Q (.ref a) H'
def spFunctions (K : PySem.W.Frag) : Sp := fun vs H Q _ => ∃ (p : Addr) (cl : ClsT) (fds : List FdT), vs = [.ref p] ∧ SrcX K H p cl fds ∧ TellS cl fds ∧ ∀ a H', Same H H' → H a = none → LstR FdT (EntryT (fun b => H b = none)) H' a fds → Q (.ref a) H' 
theorem sc_told_function : FnScope ["function", "rows", "row"] ["function"] (defScope s_told_function) := ⟨rfl, rfl, rfl, by decide +kernel, rfl, by decide +kernel, by decide +kernel⟩
theorem ok_told_function (T : Ctx w K mg) (H_told_row : Has P w K mg base 1 "told_row" ["row"] spToldRow) : Has P w K mg base 2 "_told_function" ["function"] (spToldFn K) := by
  obtain ⟨fd, F⟩ := T.D_told_function
  obtain ⟨fd_told_row, G_told_row, b_told_row⟩ := H_told_row.ex
  refine ⟨⟨fd, F.ok sc_told_function (fun vs H Q E h => ?_) (fun cdv A outer s H vs Q E hr h => ?_), F.bindsN fun _ _ _ _ _ _ us hl => match us, hl with | [_], _ => rfl⟩, F.kp, T.g_told_function⟩
  · obtain ⟨a, dx, pa, va, ba, fs, ps, rs, f, rfl, FB, hr1, k⟩ := h; rfl
  · obtain ⟨a, dx, pa, va, ba, fs, ps, rs, f, rfl, FB, hr1, k⟩ := h
    have hr_told_row : Room 1 _ := hr.mono (by decide)
    have hu := hu_of hr
    refine ⟨_, PSs.nox (pss_cons (ps_setLc (i := 1) (own := [("row", 2)]) (g := gName 2) (tt := tYes) rfl sc_told_function.nd rfl rfl (sw_true rfl rfl rfl (by decide +kernel)) (pi_tup (pe_fldK (K := K) rfl (pv 0) (by rfl))) (blkOk_by (N := ["function", "rows", "row"]) (sc := defScope s_told_function) (by decide +kernel)) (fun _ _ _ _ _ => (pg_name (i := 2) sc_told_function.nd rfl (Or.inl rfl))) (fun _ _ _ _ _ => pts_nil) (fun _ _ _ _ _ => (pe_call G_told_row hr_told_row (by rfl) H_told_row.gl H_told_row.kp b_told_row .nil pass0 (pa_cons (pv 2) pa_nil))))
      (pss_one (ps_ret (pe_tup (pa_cons (pe_fldK (K := K) rfl (pv 0) (by rfl)) (pa_cons (pe_callTy call_list_of (by rfl) T.f_list (by decide +kernel) (pa_cons (pe_fldK (K := K) rfl (pv 0) (by rfl)) pa_nil)) (pa_cons (pe_callTy call_list_of (by rfl) T.f_list (by decide +kernel) (pa_cons (pe_fldK (K := K) rfl (pv 0) (by rfl)) pa_nil)) (pa_cons (pe_fldK (K := K) rfl (pv 0) (by rfl)) (pa_cons (pv 1) pa_nil))))))))), ?_⟩
    refine ⟨_, rfl, a, _, dx, fs, _, rfl, FB.ob, T.c_Function, T.n_Function_body, FB.f4, ba, rfl, ⟨_, FB.tb.sq⟩, fun D hD => ?_⟩
    refine lc_any (walk_tup (K := K) (a := ba) (xs := rs.map V.ref)) hD (fun i H1 v => ∃ e, v = .ref e ∧ ∀ r, f.rws[i]? = some r → RowT (fun b => b ≠ D ∧ H b = none) H1 e r) (by rw [List.length_map, FB.kr.len]; omega) (fun i H1 H2 v xs h1 b h => ?_) (fun H2 s2 => (FB.tb.mono s2).sq) (fun i H2 y H3 xs hi s2 hDl hy Qe qe => ?_) (fun H2 xs s2 hl hx h2 => ?_)
    · obtain ⟨e, rfl, h⟩ := h
      exact ⟨e, rfl, fun r er => (h r er).to (fun _ z => z) (.butZ h1 (fun _ z => z.1) b)⟩
    · obtain ⟨rfl, hy⟩ := hy
      obtain ⟨p1, hp1, rfl⟩ := map_get hy
      have hir : i < f.rws.length := by
        rw [← FB.kr.len]
        exact (List.getElem?_eq_some_iff.mp hp1).1
      have er : f.rws[i]? = some f.rws[i] := List.getElem?_eq_getElem hir
      refine ⟨rfl, _, rfl, p1, f.rws[i], rfl, (FB.kr.at_ i p1 _ hp1 er).mono s2, fun q H4 s4 hk => qe _ _ s4 ⟨q, rfl, fun r e => ?_⟩⟩
      rw [er] at e
      rw [← Option.some.inj e]
      refine hk.to (fun b z => ⟨fun w => ?_, none_of s2 z⟩) (.of (Same.refl _))
      rw [w, hDl] at z
      cases z
    obtain ⟨ts, rfl, hts⟩ := refs_of hx
    have F2 := FB.mono s2
    obtain ⟨o1, oa, qs, o2, o3, o4⟩ := F2.ot
    refine ⟨_, rfl, a, _, dx, fs, _, rfl, F2.ob, T.c_Function, T.n_Function_name, o1, ?_⟩
    refine ⟨_, rfl, a, _, dx, fs, _, rfl, F2.ob, T.c_Function, T.n_Function_params, F2.f1, pa, ps.map V.ref, rfl, .inr F2.d1.sq, fun l1 hl1 => ?_⟩
    have s3 := Same.new (o := .lst (ps.map V.ref)) hl1
    have F3 := F2.mono s3
    refine ⟨_, rfl, a, _, dx, fs, _, rfl, F3.ob, T.c_Function, T.n_Function_others, o2, oa, qs.map V.ref, rfl, .inr (o3.mono s3).sq, fun l2 hl2 => ?_⟩
    have s4 := Same.new (o := .lst (qs.map V.ref)) hl2
    have F4 := F3.mono s4
    have s34 := s3.trans s4
    refine ⟨_, rfl, a, _, dx, fs, _, rfl, F4.ob, T.c_Function, T.n_Function_result, F4.f2, _, rfl, sz_of (by show 5 ≤ 100000; decide), fun e he => ?_⟩
    have s5 := Same.new (o := .tup [.str f.nm, .ref l1, .ref l2, .str f.res, .ref D]) he
    have s25 := s34.trans s5
    refine k e _ (s2.trans s25) ⟨l1, l2, D, ps, qs, ts, upd_same, ⟨none_of s2 hl1, none_of s2 (none_of s3 hl2), hD⟩, (s4.trans s5) _ _ upd_same, F2.pr.mono s25, s5 _ _ upd_same, o4.mono s25, s25 _ _ h2, ⟨by rw [List.length_map] at hl; rw [hl, List.length_map, FB.kr.len], fun i t r e1 e2 => ?_⟩⟩
    exact (hts i t e1 r e2).to (fun _ z => z.2) (.of s25)
theorem sc_Source_classes : FnScope ["self", "name"] ["self"] (defScope s_Source_classes) := ⟨rfl, rfl, rfl, by decide +kernel, rfl, by decide +kernel, by decide +kernel⟩
theorem ok_Source_classes (T : Ctx w K mg) : HasM P w K mg base 1 "Source" "classes" ["self"] (spClasses K) := by
  obtain ⟨fd, F⟩ := T.D_Source_classes
  refine ⟨⟨fd, F.ok sc_Source_classes (fun vs H Q E h => ?_) (fun cdv A outer s H vs Q E hr h => ?_), F.bindsN fun _ _ _ _ _ _ us hl => match us, hl with | [_], _ => rfl⟩⟩
  · obtain ⟨p, cl, fds, rfl, X, TS, k⟩ := h; rfl
  · obtain ⟨p, cl, fds, rfl, X, TS, k⟩ := h
    have hu := hu_of hr
    refine ⟨_, PSs.nox (pss_one (ps_ret (pe_lock (pe_lc (own := [("name", 1)]) (g := gName 1) (tt := tYes) rfl sc_Source_classes.nd (pi_keys (pe_fldK (K := K) rfl (pv 0) (by rfl))) (blkOk_by (N := ["self", "name"]) (sc := defScope s_Source_classes) (by decide +kernel)) (fun _ _ _ _ _ => (pg_name (i := 1) sc_Source_classes.nd rfl (Or.inl rfl))) (fun _ _ _ _ _ => pts_nil) (fun _ _ _ _ _ => (pe_tup (pa_cons (pv 1) (pa_cons (pe_callTy (call_list_ofK (K := K) rfl) (by rfl) T.f_list (by decide +kernel) (pa_cons (pe_dget hu (pe_fldK (K := K) rfl (pv 0) (by rfl)) (pv 1) (fun _ _ => rfl)) pa_nil)) pa_nil)))))))), ?_⟩
    obtain ⟨fps, qs, hq, ⟨dx, df, dk, du, fs, S⟩, hfl, hF⟩ := X
    refine ⟨df, .dK (csM cl qs), S.d1, trivial, fun od => ?_⟩
    have obl : upd H df (.frz od (.dK (csM cl qs))) p = some (.ins (He.ga K "Source") dx fs) := by
      rw [upd_ne (ne_of S.ob S.d1 (by intro z; cases z))]
      exact S.ob
    have hdl : upd H df (.frz od (.dK (csM cl qs))) df = some (.frz od (.dK (csM cl qs))) := upd_same
    have kN : KeepN H (upd H df (.frz od (.dK (csM cl qs)))) := fun b u e n => by
      rw [upd_ne (fun z => n (.inl ⟨csM cl qs, by rw [z, S.d1] at e; exact (Option.some.inj e).symm⟩))]
      exact e
    have hql := hq.keepN kN
    refine ⟨_, rfl, p, _, dx, fs, _, rfl, obl, T.c_Source, T.n_Source_fields, S.f1, df, od, rfl, .inl ⟨_, hdl, fun D hD => ?_⟩⟩
    have hlen : (csM cl qs).length = cl.length := by
      unfold csM
      rw [List.length_map, List.length_zip, hq.len, Nat.min_self]
    have lc := TS.lc
    generalize hHl : upd H df (.frz od (.dK (csM cl qs))) = Hl at *
    refine lc_any (walk_keys (d := df) (o := od) (kvs := csM cl qs)) hD (fun i H1 v => ∃ e, v = .ref e ∧ ∀ c, cl[i]? = some c → ClsZ (fun b => b ≠ D) H1 e c) (by omega) (fun i H1 H2 v xs h1 b h => ?_) (fun H2 s2 => s2 _ _ hdl) (fun i H2 y H3 xs hi s2 hDl hy Qe qe => ?_) (fun H2 xs s2 hl hx h2 => ?_)
    · obtain ⟨e, rfl, h⟩ := h
      exact ⟨e, rfl, fun c ec => (h c ec).to (fun _ z => z) (.butZ h1 (fun _ z => z) b)⟩
    · obtain ⟨rfl, kk, v, hkv, rfl⟩ := hy
      obtain ⟨c, q, hc, hqi, rfl, rfl⟩ := csM_get hkv
      obtain ⟨ps, tq, pq⟩ := (hql.at_ i c q hc hqi)
      have tq2 := tq.mono s2
      refine ⟨rfl, _, rfl, _, rfl, p, _, dx, fs, _, rfl, s2 _ _ obl, T.c_Source, T.n_Source_fields, S.f1, _, rfl, df, .ref q, rfl, .inl ⟨_, Sum.inr c.1, .inr ⟨od, s2 _ _ hdl⟩, rfl, (cs_at TS.nc hc hqi).symm⟩, q, ps.map V.ref, rfl, .inr tq2.sq, fun l1 hl1 => ?_⟩
      have s3 := Same.new (o := .lst (ps.map V.ref)) hl1
      refine ⟨sz_of (by show 2 ≤ 100000; decide), fun e he => ?_⟩
      have s4 := Same.new (o := .tup [.str c.1, .ref l1]) he
      refine qe _ _ (s3.trans s4) ⟨e, rfl, fun c2 ec => ?_⟩
      rw [hc] at ec
      rw [← Option.some.inj ec]
      refine ⟨l1, ps, upd_same, fun z => ?_, s4 _ _ upd_same, (pq.mono s2).mono (s3.trans s4)⟩
      rw [z, hDl] at hl1
      cases hl1
    obtain ⟨ts, rfl, hts⟩ := refs_of hx
    rw [List.length_map, hlen] at hl
    refine ⟨s2 _ _ hdl, k D _ (Same.locked S.d1 (by rw [hHl]; exact s2)) ⟨ts, ?_, hl, fun i e c e1 e2 => (hts i e e1 c e2).to (fun _ _ => trivial) (.free (s2 _ _ hdl))⟩⟩
    rw [upd_ne (ne_of h2 (s2 _ _ hdl) (by intro z; cases z))]
    exact h2
theorem sc_Source_functions : FnScope ["self", "name"] ["self"] (defScope s_Source_functions) := ⟨rfl, rfl, rfl, by decide +kernel, rfl, by decide +kernel, by decide +kernel⟩
theorem ok_Source_functions (T : Ctx w K mg) (H_told_function : Has P w K mg base 2 "_told_function" ["function"] (spToldFn K)) : HasM P w K mg base 3 "Source" "functions" ["self"] (spFunctions K) := by
  obtain ⟨fd, F⟩ := T.D_Source_functions
  obtain ⟨fd_told_function, G_told_function, b_told_function⟩ := H_told_function.ex
  refine ⟨⟨fd, F.ok sc_Source_functions (fun vs H Q E h => ?_) (fun cdv A outer s H vs Q E hr h => ?_), F.bindsN fun _ _ _ _ _ _ us hl => match us, hl with | [_], _ => rfl⟩⟩
  · obtain ⟨p, cl, fds, rfl, X, TS, k⟩ := h; rfl
  · obtain ⟨p, cl, fds, rfl, X, TS, k⟩ := h
    have hr_told_function : Room 2 _ := hr.mono (by decide)
    have hu := hu_of hr
    refine ⟨_, PSs.nox (pss_one (ps_ret (pe_lock (pe_lc (own := [("name", 1)]) (g := gName 1) (tt := tYes) rfl sc_Source_functions.nd (pi_keys (pe_fldK (K := K) rfl (pv 0) (by rfl))) (blkOk_by (N := ["self", "name"]) (sc := defScope s_Source_functions) (by decide +kernel)) (fun _ _ _ _ _ => (pg_name (i := 1) sc_Source_functions.nd rfl (Or.inl rfl))) (fun _ _ _ _ _ => pts_nil) (fun _ _ _ _ _ => (pe_call G_told_function hr_told_function (by rfl) H_told_function.gl H_told_function.kp b_told_function .nil pass0 (pa_cons (pe_dget hu (pe_fldK (K := K) rfl (pv 0) (by rfl)) (pv 1) (fun _ _ => rfl)) pa_nil))))))), ?_⟩
    obtain ⟨fps, qs, hq, ⟨dx, df, dk, du, fs, S⟩, hfl, hF⟩ := X
    refine ⟨du, .dK (usOf fds fps), S.d3, trivial, fun od => ?_⟩
    have obl : upd H du (.frz od (.dK (usOf fds fps))) p = some (.ins (He.ga K "Source") dx fs) := by
      rw [upd_ne (ne_of S.ob S.d3 (by intro z; cases z))]
      exact S.ob
    have hdl : upd H du (.frz od (.dK (usOf fds fps))) du = some (.frz od (.dK (usOf fds fps))) := upd_same
    have hF2 : ∀ (j : Nat) (f : FdT) (a : Addr), fds[j]? = some f → fps[j]? = some a → ∃ (dx pa va ba : Addr) (fs : List (Str × V)) (ps rs : List Addr), FunV K (upd H du (.frz od (.dK (usOf fds fps)))) a dx pa va ba fs ps rs f := fun j f a e1 e2 => by
      obtain ⟨dx, pa, va, ba, fs, ps, rs, FB⟩ := hF j f a e1 e2
      exact ⟨dx, pa, va, ba, fs, ps, rs, FB.v.lock S.d3⟩
    refine ⟨_, rfl, p, _, dx, fs, _, rfl, obl, T.c_Source, T.n_Source_functions, S.f3, du, od, rfl, .inl ⟨_, hdl, fun D hD => ?_⟩⟩
    have hlen : (usOf fds fps).length = fds.length := by
      unfold usOf
      rw [List.length_map, List.length_zip, hfl, Nat.min_self]
    have lf := TS.lf
    have hlow : ∀ {b : Addr}, upd H du (.frz od (.dK (usOf fds fps))) b = none → H b = none := fun {b} z => by
      by_cases w : b = du
      · rw [w, upd_same] at z
        cases z
      · rw [upd_ne w] at z
        exact z
    generalize hHl : upd H du (.frz od (.dK (usOf fds fps))) = Hl at *
    refine lc_any (walk_keys (d := du) (o := od) (kvs := usOf fds fps)) hD (fun i H1 v => ∃ e, v = .ref e ∧ ∀ f, fds[i]? = some f → EntryT (fun b => b ≠ D ∧ H b = none) H1 e f) (by omega) (fun i H1 H2 v xs h1 b h => ?_) (fun H2 s2 => s2 _ _ hdl) (fun i H2 y H3 xs hi s2 hDl hy Qe qe => ?_) (fun H2 xs s2 hl hx h2 => ?_)
    · obtain ⟨e, rfl, h⟩ := h
      exact ⟨e, rfl, fun c ec => (h c ec).to (fun _ z => z) (.butZ h1 (fun _ z => z.1) b)⟩
    · obtain ⟨rfl, kk, v, hkv, rfl⟩ := hy
      obtain ⟨f, q, hc, hqi, rfl, rfl⟩ := usOf_get hkv
      obtain ⟨dy, pa, va, ba, gs, ps, rs, FV⟩ := hF2 i f q hc hqi
      have lr := TS.lr f (List.mem_of_getElem? hc)
      refine ⟨rfl, _, rfl, p, _, dx, fs, _, rfl, s2 _ _ obl, T.c_Source, T.n_Source_functions, S.f3, _, rfl, du, .ref q, rfl, .inl ⟨_, Sum.inr f.nm, .inr ⟨od, s2 _ _ hdl⟩, rfl, (us_at TS.nf hc hqi).symm⟩, ?_⟩
      refine ⟨q, dy, pa, va, ba, gs, ps, rs, f, rfl, FV.mono s2, by omega, fun e H4 s4 E4 => qe _ _ s4 ⟨e, rfl, fun f2 ef => ?_⟩⟩
      rw [hc] at ef
      rw [← Option.some.inj ef]
      refine E4.to (fun b z => ⟨fun w => ?_, hlow (none_of s2 z)⟩) (.of (Same.refl _))
      rw [w, hDl] at z
      cases z
    obtain ⟨ts, rfl, hts⟩ := refs_of hx
    rw [List.length_map, hlen] at hl
    refine ⟨s2 _ _ hdl, k D _ (Same.locked S.d3 (by rw [hHl]; exact s2)) (hlow hD) ⟨ts, ?_, hl, fun i e c e1 e2 => (hts i e e1 c e2).to (fun _ z => z.2) (.free (s2 _ _ hdl))⟩⟩
    rw [upd_ne (ne_of h2 (s2 _ _ hdl) (by intro z; cases z))]
    exact h2

end
end W1
set_option Elab.async false
set_option linter.all false
set_option maxRecDepth 100000
set_option maxHeartbeats 4000000
namespace AE
open PySem PySem.Spec PyProof.Rows PySem.W PySem.Calls PySem.HandSPX
open Builtin Builtin.ObjectAttr
section
variable {prog : Program} {w : World} {A : Around} {E : Value → Shared → Prop} {R : Result → Shared → Prop} {hp : Heap} {g : Array GenState} {d : Drawn} {t : Nat} {os : OsState}
/-- a further field of such an error: its dict is there -/
theorem ae_osa2 {K : Frag} {name : Str} {tk : Tok} {v : Value} {x C dx : Addr} {fv : Array Value} {m0 : Str → Option Value} {nl : List Str} (T : AeC K C) (X : K.In hp)
    (hx : hp.get? x = some { cls := .ref C, dict := some dx, data := .fields fv }) (hns : hp.Ns1 dx m0) (hw : Within m0 nl) (hz : nl.length ≤ 1000) (ha : findIn K (.ref C) name = some none)
    (k : ∀ (G : Heap) (tk' : Nat), (∀ b o, b ≠ dx → hp.get? b = some o → G.get? b = some o) → G.Ns1 dx (fun z => if z = name then some v else m0 z) → R (.ok (.ret .none)) ⟨G, g, d, tk', os⟩) :
    codeAny (model prog w) A (.call (.builtin "object.__setattr__") ⟨[.ref x, .str name tk, v], []⟩) R ⟨hp, g, d, t, os⟩ := by
  obtain ⟨oD, _, _, hoD, _, _⟩ := hns.count hw
  have I : InstAt hp x { cls := .ref C, dict := some dx, data := .fields fv } C (some oD) := ⟨hx, rfl, rfl, hoD⟩
  obtain ⟨cd, hcd, hh⟩ := any_some T.hd
  have Lc : Looks (model prog w) hp (classData C) cd := looks_clsIn X hcd
  refine osa_openX F.store_ArithmeticError X I T.ov (r := none) (by unfold takerIn; rw [ha]; rfl) fun b => ?_
  show wpAny _ _ (storeInOwnDict (.ref x) (.ref C) (.str name tk) name v b) _ _ _
  obtain ⟨nm, bs, mro, ns, qn, hd, sn, sb, ab, col, del⟩ := cd
  have hh : hd = true := hh
  subst hh
  unfold storeInOwnDict ownDictForStores
  repeat first
    | with_reducible refine PySem.OEX.store_in_old hns hw hz ?_
    | with_reducible refine wpAny_loadPart_at hx ?_
    | with_reducible refine Lc.at ?_
    | wp_step
  intro G t2 hG hs
  exact k G t2 (fun b o nb q => (hs.2 b nb).trans q) hG
end
end AE
namespace AE
open PySem PySem.Spec PyProof.Rows L2
section
variable {X : Cx} {pins : List (Addr × Obj)} {σ : L2.St} {H : Hp} {s : Shared} {a C dx : Addr} {f : Str} {y : V} {u : Value} {Q : Unit → Shared → Prop} {E : Value → Shared → Prop} {A : Around} {fs : List (Str × V)}
theorem ae_more (T : AeC X.K C) (I : Inv X pins σ H s) (e : H a = some (exo a C (some dx))) (ed : H dx = some (exd dx fs)) (hl : fs.length ≤ 900) (hno : PySem.W.findIn X.K (.ref C) f = some none) (ry : RelV y u)
    (k : ∀ s', Inv X pins σ (upd H dx (exd dx ((f, y) :: fs))) s' → Q () s') : wpAny (model X.prog X.w) A (setAttr (.ref a) f u) Q E s := by
  obtain ⟨t1, ho⟩ := exo_at I.hok e
  obtain ⟨mA, hns, rel⟩ := exd_at I.hok ed
  have hw := within_of rel
  obtain ⟨hp, g, d, t, os⟩ := s
  obtain ⟨oD, _, _, hoD, _, _⟩ := hns.count hw
  refine PySem.W.set_plain I.kIn (od := some oD) ⟨ho, rfl, rfl, hoD⟩ T.sa (ae_osa2 T I.kIn ho hns hw (by rw [List.length_map]; omega) hno fun G t2 keep hn => ?_)
  have there : ∃ o, G.get? dx = some o := by
    obtain ⟨o, _, _, z, _⟩ := hn
    exact ⟨o, z⟩
  refine k _ (I.write (t' := t2) (x := dx) (e := dx) (o := exd dx ((f, y) :: fs)) ?_ (.inl rfl) keep there (exd_ok hn (relO_put ry rel)))
  rw [ed]
  exact True.intro
end
/-- self.f = e, a further field of an error that is made -/
def tAst2 (K : PySem.W.Frag) (f : Str) (to te : TE) : TS := fun D σ H => te σ H fun y H1 => to σ H1 fun x H2 => ∃ (a C dx : Addr) (fs : List (Str × V)), x = .ref a ∧ AeC K C ∧ PySem.W.findIn K (.ref C) f = some none ∧ H2 a = some (exo a C (some dx)) ∧ H2 dx = some (exd dx fs) ∧ fs.length ≤ 900 ∧
  D.nx σ (upd H2 dx (exd dx ((f, y) :: fs)))
theorem ps_ast2 {X : Cx} {o e : Expr} {to te : TE} {f : Str} {p pos : Pos} (ho : PE X o to) (he : PE X e te) (hs : swapsWith e (some (.Attribute o f p)) pos.line X.env = pure false := by rfl) : PS X (.Assign [.Attribute o f p] e pos) (tAst2 X.K f to te) := by
  refine ⟨fun pins s σ H D I h => plainObj_wpAny_Assign_Attribute (thn (he.run pins s σ H _ I h) fun v s1 ⟨y, H1, I1, r1, q1⟩ => thn (ho.run pins s1 σ H1 _ I1 q1) fun u s2 q2 => ?_) hs⟩
  obtain ⟨x, H2, I2, r2, a, C, dx, fs, rfl, T, hno, ea, ed, hl, q⟩ := q2
  obtain rfl : u = Value.ref a := r2
  exact ae_more T I2 ea ed hl hno r1 fun s' J => ⟨σ, _, J, q⟩
end AE
/-! isinstance of a caught error that has its dict -/
namespace AE
open PySem PySem.Spec PySem.Calls PyProof.Rows PySem.W
section
variable {prog : Program} {w : World} {A : Around} {E : Value → Shared → Prop} {s : Shared} {K : Frag} {x D : Addr} {ox od : Obj}
theorem cls_of (C : L2.ExcC K D) (X : K.In s.heap) (I : InstAt s.heap x ox D (some od)) {Q : Option Value → Shared → Prop} (h : Q (some (.ref D)) { s with toks := s.toks + 1 }) : wpAny (model prog w) A (getAttr? (.ref x) "__class__") Q E s := by
  have fo : findObj K D (some od) "__class__" = some (.bind (.builtin "getset_descriptor.__get__") (.builtin "object.__class__")) := by
    obtain ⟨cd, hc, _⟩ := any_some C.hd
    exact findObj_data (by rw [hc]; rfl) C.ha C.hn C.ht
  obtain ⟨hp, g, d, t, os⟩ := s
  have ty := I.type (M := model prog w)
  have l1 := looks_findIn (M := model prog w) X C.hg
  have l2 := looks_findIn (M := model prog w) X C.hk
  have l3 := looks_find (M := model prog w) X I fo
  have sub : Looks (model prog w) hp (isInstance (.ref x) (.type "BaseException")) true := ty.andThen (looks_subIn X C.hs)
  have n0 : (false && onTheHeap (Value.builtin "BaseException.__getattribute__")) = false := rfl
  have n2 : (Value.builtin "BaseException.__getattribute__" == Value.builtin "object.__getattribute__") = false := by decide +kernel
  have n1 : ¬ (onTheHeap (Value.ref D) && Value.builtin "BaseException.__getattribute__" == Value.builtin "object.__getattribute__") = true := by
    rw [n2]
    exact Bool.false_ne_true
  unfold getAttr? getAttrBy? getAttrBy
  refine wpAny_bind (wpAny_mkText (wpAny_bind (wpAny_attempt (wpAny_holding (wpAny_bind (ty.at (wpAny_bind (l1.at ?_))))))))
  show wpAny _ _ (if (onTheHeap (Value.ref D) && Value.builtin "BaseException.__getattribute__" == Value.builtin "object.__getattribute__") = true then _ else _) _ _ _
  rw [if_neg n1]
  unfold getAttrByItsOwn hookBefore
  refine wpAny_bind ?_
  have on : onTheHeap (Value.ref D) = true := rfl
  rw [if_pos on]
  refine l2.at (wpAny_bind (wpAny_attempt (wpAny_holding ?_)))
  unfold callGetattribute
  rw [n0, if_neg Bool.false_ne_true]
  unfold boundAndCalled
  rw [PySem.F.excAttr_ValueError.ga.bind (.ref x)]
  refine wpAny_bind (wpAny_pure ?_)
  show wpAny _ _ (call (.builtin "BaseException.__getattribute__") [.ref x, .str "__class__" t]) _ _ _
  refine wpAny_call (codeAny_call_builtin PySem.F.excAttr_ValueError.ga.plain PySem.F.entry_bexc_ga (@check_slot (model prog w) _ _ ⟨hp, g, d, t + 1, os⟩ "BaseException.__getattribute__" "BaseException" "__getattribute__" (.ref x) [.str "__class__" t] [] _ (by decide +kernel) (by decide +kernel) sub (PySem.F.args_bexc_ga (.ref x) (.str "__class__" t)) ?_))
  unfold Builtin.«object.__getattribute__»
  refine wpAny_bind (wpAny_of_eq (a := ((Value.ref x : Value), [Value.str "__class__" t])) (by first | rfl | (simp only [slotArgs]; rfl)) (wpAny_bind (wpAny_pure (wpAny_bind (ty.at (wpAny_bind (l3.at ?_)))))))
  show wpAny _ _ (holding [Value.builtin "object.__class__"] (call (.builtin "getset_descriptor.__get__") [.builtin "object.__class__", .ref x, .ref D]) >>= ret) _ _ _
  refine wpAny_bind (wpAny_holding (wpAny_call (class_get (s := ⟨hp, g, d, t + 1, os⟩) (ox := ox) (od := some od) X I C.hm (wpAny_pure ?_))))
  show wpAny _ _ (handedOut (.ref D)) _ _ _
  rw [handedOut_of (v := .ref D) rfl]
  first
    | exact wpAny_pure (wpAny_pure h)
    | exact wpAny_pure h
    | exact wpAny_pure (wpAny_bind (wpAny_pure (wpAny_pure h)))
theorem kit_of (C : L2.ExcC K D) : KitX K (.ref x) (.ref D) (fun h => InstAt h x ox D (some od)) where
  ty := fun _ _ _ I => I.type
  it := fun _ _ X _ => by
    obtain ⟨cd, hc, _⟩ := any_some C.hd
    unfold clsIn at hc
    split at hc
    · rename_i ho
      intro A' Q' E' s' k q
      unfold isType loadHead
      exact wpAny_bind (wpAny_loadPart (k _ _ (X _ _ ho)) (wpAny_pure q))
    · cases hc
  ne := fun h tp dd its n sl X htp => by
    obtain ⟨cd, hc, _⟩ := any_some C.hd
    refine Bool.eq_false_iff.mpr fun q => ?_
    have e : D = tp := Value.ref.inj (beq_iff_eq.mp q)
    subst e
    unfold clsIn at hc
    split at hc
    · rename_i ho
      exact nomatch (X _ _ ho).symm.trans htp
    · cases hc
  ca := fun X I k => cls_of C X I k
end
end AE
namespace AE
open PySem PySem.Spec PyProof.Rows L2
/-- isinstance(e, c) in a suite that holds the error e with its dict -/
theorem call_isD {X : Cx} {a D dd : Addr} {oe : Obj} {pn : List (Addr × Obj)} {fs : List (Str × V)} (C : ExcC X.K D) (hz : Zc (.ref D) (some dd) oe) (hf : ∃ vs, oe.data = .fields vs) :
    CallR (X.suite a ((a, oe) :: pn)) (.builtin "isinstance") (fun xs H Q => H dd = some (.xd fs) ∧ rIsE X.K D a xs H Q) := by
  intro pins s σ H xs us Q I r h
  obtain ⟨hd, c, cv, b, rfl, hcv, e, q⟩ := h
  have ha := I.hok dd _ hd
  obtain ⟨mA, hns, hr⟩ := ha
  obtain ⟨od, ho, _⟩ := lookIn_ns hns
  match us, r with
  | [_, _], .cons rx (.cons rt .nil) =>
    cases rx
    have ec := hcv _ rt
    subst ec
    obtain ⟨hget, _⟩ := I.pin (a, oe) (List.mem_append_left _ List.mem_cons_self)
    obtain ⟨vs, hv⟩ := hf
    have J : PySem.W.InstAt s.heap a oe D (some od) := ⟨hget, hz.1, by unfold PySem.W.notCls; rw [hv] <;> rfl, by rw [hz.2]; exact ho⟩
    exact PySem.W.kia_one (kit_of C) I.kIn J e (fun z => nomatch z) fun tk => ⟨.bl b, H, I.kept (t' := tk) fun _ _ z => z, rfl, q⟩
end AE
set_option Elab.async false
set_option linter.all false
set_option maxRecDepth 100000
set_option maxHeartbeats 4000000
namespace GD
open PySem PySem.Spec PyProof.Rows L2
/-- repr of data, where no guard stands around -/
def rReprD (K : PySem.W.Frag) : List V → Hp → VK → Prop := fun xs H Q => ∃ (x : V) (d : PyData), xs = [x] ∧ Dp K H x d ∧ d.showable = true ∧ d.hasDict = false ∧ d.shown.length ≤ sizeLine ∧ d.depth ≤ 64 ∧ (∀ i : Int, x = .int i → i.natAbs.log2 < 1920) ∧ Q (.str d.shown) H
theorem call_reprD {X : Cx} (hgd : X.A.guards = some []) (hu : X.A.units + 100 < cLine) : CallR X (.builtin "repr") (rReprD X.K) := by
  intro pins s σ H xs us Q I r h
  obtain ⟨x, d, rfl, hd, hs, hn, hz, hdp, hi, q⟩ := h
  obtain ⟨u, rfl, ru⟩ := vals1 r
  cases hd with
  | non =>
    cases ru
    exact PySem.P.repr_of_none ⟨.str _, H, I.tok _, ⟨_, rfl⟩, q⟩
  | bl b =>
    cases ru
    have e : (PyData.bool b).shown = (if b then "True" else "False" : Str) := by cases b <;> rfl
    rw [e] at q
    exact PySem.P.repr_of_bool ⟨.str _, H, I.tok _, ⟨_, rfl⟩, q⟩
  | int i =>
    obtain ⟨t, rfl⟩ := ru
    exact PySem.P.repr_of_int (hi i rfl) ⟨.str _, H, I.tok _, ⟨_, rfl⟩, q⟩
  | str z =>
    obtain ⟨t, rfl⟩ := ru
    exact PySem.P.repr_of_str ⟨.str _, H, I.tok _, ⟨_, rfl⟩, q⟩ hz
  | lst h1 h2 =>
    obtain ⟨as, rd⟩ := Dp.reads I _ _ _ (.lst h1 h2) ru
    cases ru
    exact repr_of_reads' rd hs (PyData.noDict_hsm hn) hgd (by omega) (fun _ _ e => e) (fun h' u tk hk => ⟨.str _, H, I.kept (t' := tk) hk, ⟨_, rfl⟩, q⟩) hz
  | tup h1 h2 =>
    obtain ⟨as, rd⟩ := Dp.reads I _ _ _ (.tup h1 h2) ru
    cases ru
    exact repr_of_reads' rd hs (PyData.noDict_hsm hn) hgd (by omega) (fun _ _ e => e) (fun h' u tk hk => ⟨.str _, H, I.kept (t' := tk) hk, ⟨_, rfl⟩, q⟩) hz
end GD
set_option Elab.async false
set_option linter.all false
set_option maxRecDepth 100000
set_option maxHeartbeats 4000000
namespace GD
open PySem PySem.Spec PyProof.Rows L2
/-- a def that keeps its promise where no guard stands around -/
structure OkG (P : Program) (w : World) (K : PySem.W.Frag) (mg : Str → Option Value) (base : Heap) (k : Nat) (f : Addr) (fd : FuncData) (ps : List Str) (sp : Sp) : Prop where
  len : ∀ vs H Q E, sp vs H Q E → vs.length = ps.length
  run : ∀ (A : Around) (outer : List Env) (s : Shared) (H : Hp) (args : Args) (us : List Value) (vs : List V) (Q : VK) (E : XK),
    Room k A → A.guards = some [] → Env0 P w K mg base A outer s H → BindsTo s fd args (ps.zip us) → Vals vs us → sp vs H Q E → codeAny (model P w) A (.call (.ref f) args) (CR CX0 outer P w H s Q E) s
section
variable {P : Program} {w : World} {K : PySem.W.Frag} {mg : Str → Option Value} {base : Heap} {k : Nat} {f : Addr} {fd : FuncData} {ps : List Str} {sp : Sp}
theorem OkG.of (F : FnOk P w K mg base CX0 k f fd ps sp) : OkG P w K mg base k f fd ps sp :=
  ⟨F.len, fun A outer s H args us vs Q E hr _ => F.run A outer s H args us vs Q E hr⟩
end
section
variable {P : Program} {w : World} {K : PySem.W.Frag} {mg : Str → Option Value} {base : Heap} {x qual : Str} {params : Arguments} {body : List Stmt} {scope : Scope} {dvs : List V} {kws : List (Str × V)} {f : Addr} {fd : FuncData}
/-- .. by its body's walk -/
theorem okG {N ps : List Str} {k : Nat} {sp : Sp} (F : FunD K x qual params body scope dvs kws f fd) (S : FnScope N ps scope) (len : ∀ vs H Q E, sp vs H Q E → vs.length = ps.length)
    (walk : ∀ (cdv : Value) (A : Around) (outer : List Env) (s : Shared) (H : Hp) (vs : List V) (Q : VK) (E : XK), A.guards = some [] → Room k (A.deeper (envOfC qual scope s.heap.objs.size f cdv)) → sp vs H Q E →
      ∃ t, PSs (cxOf CX0 P w K mg base N qual scope f cdv A outer s H E) body t ∧ t { nx := fun _ H' => Q .non H', rt := Q } (start N vs) H) : OkG P w K mg base (k + 1) f fd ps sp := by
  obtain ⟨oc, od, dV, kV, doc, pm, an, cdv, ct, osl, rfl, lk, hcd, _, _⟩ := F.ex
  refine ⟨len, fun A outer s H args us vs Q E hr gd en bd rv h => ?_⟩
  have inK : K.In s.heap := en.mod.kin.keeps fun b o z => (en.bs b o z).1
  have nolim : s.heap.NoLimit := en.mod.nolimit.keeps fun b o z => (en.bs b o z).1
  have kinds : ∀ y ∈ ps.zip us, scope.names.lookup y.1 = some .local ∨ (scope.names.lookup y.1 = some .cell ∧ ((cellsFrom (s.heap.objs.size + 1) scope.names []).lookup y.1).isSome = true) := by
    rintro ⟨n, v⟩ m
    rcases S.par n (List.of_mem_zip m).1 with c | c
    · exact .inl c
    · exact .inr ⟨c, PySem.W.cellsFrom_some _ _ _ (.inl c)⟩
  refine codeAny_call_function hr.depth (inK _ _ lk) rfl S.co S.gen rfl (PySem.W.codeRec_of inK hcd) (bd _ _ _ _ (wpAny_newFunctionEnv_cells S.kind kinds fun env ee s1 fresh => ?_))
  subst ee
  refine ⟨nolim.keeps fresh.toInCall.keep, codeAny_func ?_⟩
  obtain ⟨t, ht, q⟩ := walk cdv A outer s H vs Q E gd (hr.deeper _) h
  have J := inv_start (CX := CX0) (E := E) S hr.hd en (len _ _ _ _ h) rv fresh
  refine wpAny_mono (ht.run [] s1 (start N vs) H _ J q) (fun fl s2 z => ?_) fun er s2 z => z
  cases fl with
  | ret u =>
    obtain ⟨v, σ2, H2, I2, r2, q2⟩ := z
    exact ⟨v, H2, I2.os, I2.bare, I2.base, I2.hok, r2, q2⟩
  | next =>
    obtain ⟨σ2, H2, I2, q2⟩ := z
    exact ⟨.non, H2, I2.os, I2.bare, I2.base, I2.hok, rfl, q2⟩
  | brk =>
    obtain ⟨σ2, H2, I2, q2⟩ := z
    exact q2.elim
  | cont =>
    obtain ⟨σ2, H2, I2, q2⟩ := z
    exact q2.elim
end
section
variable {X : Cx} {k : Nat} {f : Addr} {fd : FuncData} {ps : List Str} {sp : Sp} {E : XK} {x : Str} {p pos : Pos} {e : Expr} {es : List Expr} {t : TA}
theorem runG {pins : List (Addr × Obj)} {σ : L2.St} {H : Hp} {s : Shared} {Q : VK} {us : List Value} {vs : List V} (F : OkG X.prog X.w X.K X.mg X.base k f fd ps sp) (hr : Room k X.A) (gd : X.A.guards = some []) (hb : Binds X.K fd ps []) (hx : Passes CX0 X E)
    (I : Inv X pins σ H s) (r : Vals vs us) (h : sp vs H Q E) : wpAny (model X.prog X.w) X.A (call (.ref f) us) (EP X pins σ Q) X.xe s := by
  have l : (us ++ []).length = ps.length := by
    rw [List.append_nil, ← r.length]
    exact F.len _ _ _ _ h
  have b := hb s us I.kIn l
  rw [List.append_nil] at b
  refine wpAny_call (codeAny_mono (F.run X.A X.stack s H ⟨us, []⟩ us vs Q E hr gd I.env0 b r h) fun z s2 q => ?_)
  match z, q with
  | .error er, q => exact hx pins σ H s er s2 I q
  | .ok (.ret u), q => exact I.after q
  | .ok .next, q => exact q.elim
  | .ok .brk, q => exact q.elim
  | .ok .cont, q => exact q.elim
theorem pe_callG (F : OkG X.prog X.w X.K X.mg X.base k f fd ps sp) (hr : Room k X.A) (gd : X.A.guards = some []) (hg : Gl X x) (hm : X.mg x = some (.ref f)) (hk : PySem.W.keepIn X.K (.ref f) = true) (hb : Binds X.K fd ps []) (hx : Passes CX0 X E) (ha : PA X (e :: es) t)
    (hdb : (x == ("__debug__" : Str)) = false := by decide) (he : starEach (e :: es) X.env = (false, eval e X.env) :: starEach es X.env := by rfl) (hpl : (backTo pos (starEach es X.env)).any (·.1) = false := by rfl) : PE X (.Call (.Name x p) (e :: es) [] pos) (tCall sp [] E t) :=
  ⟨fun pins s σ H Q I h => wpAny_Call_Name_kw (ld_glob I hg hm (PySem.W.callWith_K (h₀ := X.base) I.ok.mod.kin hk (thn (ha.run pos pins s σ H _ I h) fun us s1 ⟨vs, H1, I1, r, q⟩ => ⟨I1.kIn, by
    have z : sp (vs ++ []) H1 Q E := q
    rw [List.append_nil] at z
    exact runG F hr gd hb hx I1 r z⟩) he hpl) hdb)⟩
end
end GD
set_option Elab.async false
set_option linter.all false
set_option maxRecDepth 100000
set_option maxHeartbeats 4000000
namespace GD
open PySem PySem.Spec PyProof.Rows L2
section
variable {P : Program} {w : World} {K : PySem.W.Frag} {mg mb : Str → Option Value} {k : Nat} {fa a : Addr} {fd : FuncData} {x : Str} {sp : Sp} {s : Shared} {vs : List Value} {ns : List Int} {H : Hp}
/-- nothing is tracked but perhaps the script, locked -/
structure One (P : Program) (w : World) (K : PySem.W.Frag) (H : Hp) (h : Heap) (a : Addr) : Prop where
  only : Only H
  ok : HOk P w H h
  at_ : ∀ b u, H b = some u → b = a
  no : ∀ u, H a = some u → K.lookup a = none
theorem One.hid (O : One P w K H s.heap a) (ha : s.heap.get? a = some { cls := .type "list", data := .seq vs.toArray }) {b : Addr} {o : Obj} (e : s.heap.get? b = some o) (n : b = a → ∀ u, H a ≠ some u) : (hidT s.heap H).get? b = some o := by
  refine hidT_get e ?_
  cases c : H b with
  | none => rfl
  | some u =>
    have z := O.at_ b u c
    rw [z] at c
    exact absurd c (n z u)
theorem One.nsT (O : One P w K H s.heap a) (ha : s.heap.get? a = some { cls := .type "list", data := .seq vs.toArray }) {b : Addr} {m : Str → Option Value} (h : s.heap.Ns b m) : (hidT s.heap H).Ns b m := by
  obtain ⟨o, es, ep, e, d, r⟩ := h
  refine ⟨o, es, ep, O.hid ha e (fun z => ?_), d, r⟩
  rw [z, ha] at e
  rw [← Option.some.inj e] at d
  cases d
theorem One.run (O : One P w K H s.heap a) (hS : SqL K H a (ns.map V.int)) (KX : K.In s.heap) (hm : s.heap.Ns mainGlobals mg) (hb : s.heap.Ns builtinsNs mb) (hbb : ∀ x : Str, x ≠ "__name__" → mb x = bootBuiltins x) (hlim : s.heap.NoLimit) (hg : s.gens = #[])
    (ha : s.heap.get? a = some { cls := .type "list", data := .seq vs.toArray }) (hr : Room k callerA)
    (F : ∀ base : Heap, K.In base → base.Ns mainGlobals mg → OkG P w K mg base k fa fd [x] sp) (bd : ∀ (s : Shared) (u : Value), BindsTo s fd ⟨[u], []⟩ [(x, u)])
    (h : sp [.ref a] H (fun v _ => v = .bl true) fun _ _ _ => False) :
    codeAny (model P w) callerA (.call (.ref fa) ⟨[.ref a], []⟩) (fun r s' => r = .ok (.ret (.bool true)) ∧ OldK s.heap s'.heap ∧ s'.os = s.os ∧ AllBare s'.gens) s := by
  have inB : K.In (hidT s.heap H) := fun b o e => O.hid ha (KX b o e) (fun z u c => by
    rw [z] at e
    rw [O.no u c] at e
    cases e)
  have md : Mod K mg (hidT s.heap H) := by
    obtain ⟨mc, l1, l2⟩ := hlim
    exact ⟨inB, O.nsT ha hm, ⟨mb, O.nsT ha hb, hbb⟩, ⟨mc, O.nsT ha l1, l2⟩⟩
  have en : Env0 P w K mg (hidT s.heap H) callerA [] s H := by
    refine ⟨rfl, md, fun b o e => of_hidT e, Nat.le_of_eq (hidT_size _ _), trivial, ?_, O.ok, .of_eq hg⟩
    rintro b ⟨⟩
  refine codeAny_mono ((F _ inB (O.nsT ha hm)).run callerA [] s H ⟨[.ref a], []⟩ [.ref a] [.ref a] _ _ hr rfl en (bd s (.ref a)) (.cons rfl .nil) h) fun r s2 z => ?_
  match r, z with
  | .error er, z => exact z.elim
  | .ok .next, z => exact z.elim
  | .ok .brk, z => exact z.elim
  | .ok .cont, z => exact z.elim
  | .ok (.ret u), z =>
    obtain ⟨v, H2, os2, bare2, un, ok2, rv, rfl⟩ := z
    obtain rfl : u = Value.bool true := rv
    refine ⟨rfl, OldK.of_keep fun b o e => ?_, os2, bare2⟩
    cases c : H b with
    | none => exact un.keep b o e c (fun m => absurd (show b ∈ ([] : List Addr) from m) (by simp)) (by simp)
    | some u =>
      rcases O.only b with z | ⟨ob, xs, z⟩
      · rw [z] at c
        cases c
      · have q1 := (O.ok b _ z).1
        have q2 := (ok2 b _ (un.frzs b ob _ z)).1
        rw [e] at q1
        rw [Option.some.inj q1]
        exact q2
theorem lawG (KX : K.In s.heap) (hm : s.heap.Ns mainGlobals mg) (hb : s.heap.Ns builtinsNs mb) (hbb : ∀ x : Str, x ≠ "__name__" → mb x = bootBuiltins x) (hlim : s.heap.NoLimit) (hg : s.gens = #[])
    (ha : s.heap.get? a = some { cls := .type "list", data := .seq vs.toArray }) (hi : IntsAre vs ns) (hl : ns.length ≤ sizeLine) (hr : Room k callerA)
    (F : ∀ base : Heap, K.In base → base.Ns mainGlobals mg → OkG P w K mg base k fa fd [x] sp) (bd : ∀ (s : Shared) (u : Value), BindsTo s fd ⟨[u], []⟩ [(x, u)])
    (h : ∀ H : Hp, Only H → SqL K H a (ns.map V.int) → sp [.ref a] H (fun v _ => v = .bl true) fun _ _ _ => False) :
    codeAny (model P w) callerA (.call (.ref fa) ⟨[.ref a], []⟩) (fun r s' => r = .ok (.ret (.bool true)) ∧ OldK s.heap s'.heap ∧ s'.os = s.os ∧ AllBare s'.gens) s := by
  have rv := vals_ints hi
  cases hk : K.lookup a with
  | some o =>
    have e := KX a o hk
    rw [ha] at e
    have eo := Option.some.inj e
    subst eo
    have hS : SqL K (fun _ => none) a (ns.map V.int) := .inr ⟨_, vs.toArray, _, hk, rfl, rfl, rfl, by rw [List.size_toArray, hi.length]; exact hl, by simpa using rv⟩
    have O : One P w K (fun _ => none) s.heap a := ⟨fun _ => .inl rfl, (fun b u z => by cases (show (none : Option HO) = some u from z)), (fun b u z => by cases (show (none : Option HO) = some u from z)), (fun u z => by cases (show (none : Option HO) = some u from z))⟩
    exact O.run hS KX hm hb hbb hlim hg ha hr F bd (h _ O.only hS)
  | none =>
    generalize hH : (fun b => if b = a then some (HO.frz { cls := .type "list", data := .seq vs.toArray } (.lst (ns.map V.int))) else none : Hp) = H
    have hHa : H a = some (.frz { cls := .type "list", data := .seq vs.toArray } (.lst (ns.map V.int))) := by
      rw [← hH]
      exact if_pos rfl
    have hHn : ∀ b, b ≠ a → H b = none := fun b n => by
      rw [← hH]
      exact if_neg n
    have hS : SqL K H a (ns.map V.int) := .inl (.inr ⟨_, hHa⟩)
    have at_ : ∀ b u, H b = some u → b = a := fun b u z => by
      by_cases n : b = a
      · exact n
      · rw [hHn b n] at z
        cases z
    have O : One P w K H s.heap a := by
      refine ⟨fun b => ?_, fun b u z => ?_, at_, fun _ _ => hk⟩
      · by_cases n : b = a
        · rw [n]
          exact .inr ⟨_, _, hHa⟩
        · exact .inl (hHn b n)
      · have eb := at_ b u z
        subst eb
        rw [hHa] at z
        rw [← Option.some.inj z]
        exact ⟨ha, by rw [List.length_map]; exact hl, vs, _, rv, ha⟩
    exact O.run hS KX hm hb hbb hlim hg ha hr F bd (h _ O.only hS)
end
/-- the end of a law over a head by facts, for a def that wants no guard around -/
theorem walkG {l : PySem.W.OpenLaw} {n k : Nat} {q : Program} {loose : List Str} {XP : (Str → Option Value) → Heap → Prop} {YP : World → Heap → Prop} {d : DefRec} {x : Str} (hn : l.most = some n) (hn2 : n ≤ sizeLine) (hdf : d.params.defaults = []) (hr : Room k callerA)
    (F : ∀ (w : World) (mg : Str → Option Value) (fa : Addr) (h : Heap), YP w h → h.Ns mainGlobals mg → mg d.name = some (.ref fa) → ∃ (K : PySem.W.Frag) (fd : FuncData) (sp : Sp), K.In h ∧ (∀ (s : Shared) (u : Value), BindsTo s fd ⟨[u], []⟩ [(x, u)]) ∧
      (∀ (H : Hp) (a : Addr) (ns : List Int), ns.length ≤ n → Only H → SqL K H a (ns.map V.int) → sp [.ref a] H (fun v _ => v = .bl true) fun _ _ _ => False) ∧ ∀ base : Heap, K.In base → base.Ns mainGlobals mg → OkG l.prog w K mg base k fa fd [x] sp) :
    PySem.W.WalkO q loose XP YP l.row.toRowW d [] (fun f vs => PySem.call f vs) := by
  refine Att.attach_call hn hdf fun w s₀ s₁ mg mb fa o pm cd doc a vs ns G Y _ _ _ named obj are few gens => ?_
  obtain ⟨K, fd, sp, inK, bd, hsp, hF⟩ := F w mg fa _ Y G.T.g named
  exact lawG inK G.T.g G.T.b G.T.builtins G.T.nolimit gens obj are (Nat.le_trans few hn2) hr hF bd fun H o S => hsp H a ns few o S
end GD
set_option Elab.async false
set_option linter.all false
set_option maxRecDepth 100000
set_option maxHeartbeats 4000000
namespace GD
open PySem PySem.Spec PyProof.Rows L2
/-- C(e, ..): an error of the program, held as a value -/
def tMkH (C : Addr) (sp : Sp) (ta : TA) : TE := fun σ H Q => ta σ H fun vs H1 => vs.length ≤ 1000 ∧ ∀ a, H1 a = none → sp (.ref a :: vs) (upd H1 a (exo a C none)) (fun v H2 => v = .non ∧ Q (.ref a) H2) (fun _ _ _ => False)
theorem pe_mkE {X : Cx} {CX : CXT} {e : Expr} {es : List Expr} {ta : TA} {p pos : Pos} {x : Str} {C fI : Addr} {k : Nat} {fd : FuncData} {ps : List Str} {sp : Sp} (T : AE.AeC X.K C)
    (iC : PySem.W.findIn X.K (.ref C) "__init__" = some (some (.ref fI))) (tI : PySem.W.typeIn X.K (.ref fI) = some (.type "function")) (F1 : FnOk X.prog X.w X.K X.mg X.base CX k fI fd ps sp)
    (hr : Room (k + 1) X.A) (hb : Binds X.K fd ps []) (hx : Passes CX X (fun _ _ _ => False)) (hg : Gl X x) (hm : X.mg x = some (.ref C)) (ha : PA X (e :: es) ta)
    (hdb : (x == ("__debug__" : Str)) = false := by decide) (he : starEach (e :: es) X.env = (false, eval e X.env) :: starEach es X.env := by rfl) (hpl : (backTo pos (starEach es X.env)).any (·.1) = false := by rfl) :
    PE X (.Call (.Name x p) (e :: es) [] pos) (tMkH C sp ta) := by
  refine ⟨fun pins s σ H Q I h => wpAny_Call_Name_kw (ld_glob I hg hm ?_ hdb)⟩
  refine PySem.W.callWith_K (h₀ := X.base) I.ok.mod.kin T.kC (thn (ha.run pos pins s σ H _ I h) fun us s1 q1 => ?_) he hpl
  obtain ⟨vs, H1, I1, r1, hz, q1⟩ := q1
  refine ⟨I1.kIn, ?_⟩
  show wpAny _ _ (call (.ref C) us) _ _ _
  obtain ⟨hp, g, dr, tk, os⟩ := s1
  obtain ⟨nm, N, qn, bs, bm, hd, sn, sub, ab, col, dd, k0, k1, k2, k3, k5, hC, hbm⟩ := PySem.W.excInit_of I1.kIn T.cls
  generalize hG : (hp.push (PySem.W.kdv_tup us)).push (PySem.HandSPX.excO C hp.objs.size) = G
  have new : hp.objs.size ≤ hp.objs.size + 1 := Nat.le_succ _
  have keep : ∀ b o, hp.get? b = some o → G.get? b = some o := fun b o q => by
    rw [← hG]
    exact Heap.get?_push_of_some _ (Heap.get?_push_of_some _ q)
  have there : G.get? (hp.objs.size + 1) = some (PySem.HandSPX.excO C hp.objs.size) := by
    rw [← hG]
    heap_get
  have I2 : Inv X pins σ (upd H1 (hp.objs.size + 1) (exo (hp.objs.size + 1) C none)) ⟨G, g, dr, tk, os⟩ := I1.laid (t' := tk) (a := hp.objs.size + 1) keep new (exo_ok there)
  have hq := q1 (hp.objs.size + 1) (I1.hok.fresh new)
  have r2 : Vals (V.ref (hp.objs.size + 1) :: vs) (Value.ref (hp.objs.size + 1) :: us) := .cons rfl r1
  have len : (Value.ref (hp.objs.size + 1) :: us ++ []).length = ps.length := by
    rw [List.append_nil, ← r2.length, F1.len _ _ _ _ hq]
  have few : us.length ≤ sizeLine := by
    rw [← Paired.length r1, sizeLine_eq]
    omega
  have run := F1.run _ X.stack _ _ ⟨Value.ref (hp.objs.size + 1) :: us, []⟩ (Value.ref (hp.objs.size + 1) :: us) _ _ (fun _ _ _ => False) (hr.make C us []) (I2.env0.make C us []) (by
    have z := hb _ (Value.ref (hp.objs.size + 1) :: us) I2.kIn len
    rw [List.append_nil] at z
    exact z) r2 hq
  refine wpAny_call (PySem.HandSPX.call_own F.excBase_ArithmeticError hbm hC (PySem.W.looks_findIn I1.kIn iC) (fun self => PySem.W.bind_fn I1.kIn self tI) few ?_)
  rw [hG]
  refine codeAny_mono run fun r s' z => ?_
  match r, z with
  | .error er, z => exact hx pins σ _ _ er s' I2 z
  | .ok (.ret v), z =>
    obtain ⟨y, H2, I3, rv, ey, q2⟩ := I2.after z
    subst ey
    exact ⟨rv, .ref (hp.objs.size + 1), H2, I3, rfl, q2⟩
  | .ok .next, z => exact z.elim
  | .ok .brk, z => exact z.elim
  | .ok .cont, z => exact z.elim
/-- e.f of such an error -/
def tFldH (C : Addr) (f : Str) (te : TE) : TE := fun σ H Q => te σ H fun x H1 => ∃ (a dd : Addr) (fs : List (Str × V)) (v : V), x = .ref a ∧ H1 a = some (exo a C (some dd)) ∧ H1 dd = some (exd dd fs) ∧ fs.lookup f = some v ∧ Q v H1
theorem inst_of {X : Cx} {pins : List (Addr × Obj)} {σ : L2.St} {H : Hp} {s : Shared} {a C dd : Addr} {fs : List (Str × V)} (I : Inv X pins σ H s) (ea : H a = some (exo a C (some dd))) (ed : H dd = some (exd dd fs)) :
    ∃ (oe od : Obj) (mA : Str → Option Value), PySem.W.InstAt s.heap a oe C (some od) ∧ (∀ f, PySem.W.lookIn f od = some (mA f)) ∧ ∀ f, RelO (fs.lookup f) (mA f) := by
  obtain ⟨t1, ho⟩ := exo_at I.hok ea
  obtain ⟨mA, hns, rel⟩ := exd_at I.hok ed
  obtain ⟨od, hod, hl⟩ := lookIn_ns hns
  exact ⟨_, od, mA, ⟨ho, rfl, rfl, hod⟩, hl, rel⟩
theorem pe_fldH {X : Cx} {C : Addr} {e : Expr} {te : TE} {pos : Pos} {n : Str} (T : XfC X.K C) (hno : PySem.W.findIn X.K (.ref C) n = some none) (he : PE X e te) (hb : attributeBase e n X.env (eval e X.env) = eval e X.env := by rfl) :
    PE X (.Attribute e n pos) (tFldH C n te) := by
  refine ⟨fun pins s σ H Q I h => attr_of hb (thn (he.run pins s σ H _ I h) fun u s1 hh => ?_)⟩
  obtain ⟨x, H1, I1, rx, a, dd, fs, v, rfl, ea, ed, l, q⟩ := hh
  obtain rfl : u = Value.ref a := rx
  obtain ⟨oe, od, mA, J, hl, hr⟩ := inst_of I1 ea ed
  obtain ⟨u, hu, ru⟩ := RelO.some_of (v := v) (o := mA n) (by rw [← l]; exact hr n)
  exact HandSPX.exc_get I1.kIn J T.ga T.gg T.exC (PySem.W.findObj_own T.hdC hno rfl (by rw [hl, hu])) (handed_of ru) ⟨v, H1, I1.tok _, ru, q⟩
/-- isinstance(e, c) of such an error -/
theorem call_isH {X : Cx} {D : Addr} (C : ExcC X.K D) : CallR X (.builtin "isinstance") (fun xs H Q => ∃ (a dd : Addr) (fs : List (Str × V)) (c : V) (cv : Value) (b : Bool), xs = [.ref a, c] ∧ H a = some (exo a D (some dd)) ∧ H dd = some (exd dd fs) ∧ (∀ u, RelV c u → u = cv) ∧ PySem.W.kitOne X.K (.ref D) cv = some b ∧ Q (.bl b) H) := by
  intro pins s σ H xs us Q I r h
  obtain ⟨a, dd, fs, c, cv, b, rfl, ea, ed, hcv, e, q⟩ := h
  obtain ⟨oe, od, mA, J, _, _⟩ := inst_of I ea ed
  match us, r with
  | [_, _], .cons rx (.cons rt .nil) =>
    cases rx
    obtain rfl := hcv _ rt
    exact PySem.W.kia_one (AE.kit_of C) I.kIn J e (fun z => nomatch z) fun tk => ⟨.bl b, H, I.kept (t' := tk) fun _ _ z => z, rfl, q⟩
end GD
set_option Elab.async false
set_option linter.all false
set_option maxRecDepth 100000
set_option maxHeartbeats 4000000
namespace GD
open PySem PySem.W PySem.Calls PySem.HandSPX
section
variable {M : Model} {A : Around} {E : Value → Shared → Prop} {h : Heap} {g : Array GenState} {d : Drawn} {t : Nat} {os : OsState}
variable {nm q : Str} {C N : Addr} {bs bm bmB : List Value} {hdct : Bool} {sn : List Str} {sub : List Value} {ab : Bool} {col : Option Bool} {dd : Option Addr} {k0 k1 k2 k3 k5 : Option Value} {B newId initId : String} {kw : List (Str × Value)}
theorem kw_check (F : ExcBaseFacts B newId initId bmB) (hT : ∀ X : String, bm.contains (.type X) = bmB.contains (.type X)) {Q : Unit → Shared → Prop}
    (hC : h.get? C = some (excClassObj nm q C N bs bm hdct sn sub ab col dd k0 k1 k2 k3 k5 newId)) (hq : Q () ⟨h, g, d, t, os⟩) : wpAny M A (checkBuiltinCall newId ⟨[.ref C], kw⟩) Q E ⟨h, g, d, t, os⟩ := by
  have here : (Value.ref C :: bm).contains (.type B) = true := by
    rw [List.contains_cons, hT, F.hasB, Bool.or_true]
  have st := F.noStar
  unfold checkBuiltinCall
  simp only [F.newKind, F.newSplit, F.newRow]
  repeat (first
    | refine wpAny_loadPart_at hC ?_
    | (refine wpAny_isSubtype_exc hC ?_; rw [here])
    | refine wpAny_staticBase_exc hC ?_
    | refine wpAny_madeBy_exc hC ?_
    | simp only [bne_self_eq_false, Bool.false_eq_true, if_false]
    | wp_step)
  exact hq
end
section
variable {prog : Program} {w : World} {A : Around} {E : Value → Shared → Prop} {R : Result → Shared → Prop} {h : Heap} {g : Array GenState} {d : Drawn} {t : Nat} {os : OsState}
variable {nm q : Str} {C N : Addr} {bs bm bmB : List Value} {hdct : Bool} {sn : List Str} {sub : List Value} {ab : Bool} {col : Option Bool} {dd : Option Addr} {k0 k1 k2 k3 k5 : Option Value} {B newId initId : String} {kw : List (Str × Value)}
theorem kw_new (F : ExcBaseFacts B newId initId bmB) (hT : ∀ X : String, bm.contains (.type X) = bmB.contains (.type X))
    (hC : h.get? C = some (excClassObj nm q C N bs bm hdct sn sub ab col dd k0 k1 k2 k3 k5 newId))
    (hq : R (.ok (.ret (.ref (h.objs.size + 1)))) ⟨(h.push (W.kdv_tup [])).push (excO C h.objs.size), g, d, t, os⟩) :
    codeAny (model prog w) A (.builtin newId ⟨[.ref C], kw⟩) R ⟨h, g, d, t, os⟩ := by
  have fin := F.ends
  have isB : (Value.ref C :: bm).contains (.type B) = true := by
    rw [List.contains_cons, hT, F.hasB, Bool.or_true]
  have noA : (Value.ref C :: bm).contains (.type "AttributeError") = false := by
    rw [List.contains_cons, hT, F.noAttr]; rfl
  have noN : (Value.ref C :: bm).contains (.type "NameError") = false := by
    rw [List.contains_cons, hT, F.noName]; rfl
  have few : ([] : List Value).length ≤ sizeLine := Nat.zero_le _
  refine codeAny_builtinAt F.entry ?_
  unfold Builtin.«BaseException.__new__»
  refine wpAt_bind ?_
  show wpAt _ _ _ (stack >>= _) _ _ _
  refine wpAt_bind (wpAt_stack fun p below => wpAt_of_wpAny ?_)
  wp_walk
  refine wpAt_of_wpAny ?_
  rw [F.owner]
  repeat (first
    | with_reducible refine wpAny_madeHere_exc F.canon hC ?_
    | with_reducible refine wpAny_loadPart_at hC ?_
    | (with_reducible refine wpAny_isSubtype_exc hC ?_; first | rw [isB] | rw [noA] | rw [noN])
    | wp_step)
  show R _ _
  rw [Heap.size_push]
  exact hq
theorem kw_type {fI : Addr} {Q : PySem.Fin → Shared → Prop} (F : ExcBaseFacts B newId initId bmB) (hT : ∀ X : String, bm.contains (.type X) = bmB.contains (.type X))
    (hC : h.get? C = some (excClassObj nm q C N bs bm hdct sn sub ab col dd k0 k1 k2 k3 k5 newId))
    (hi : W.Looks (model prog w) h (typeLookup (.ref C) "__init__") (some (.ref fI))) (hb : ∀ self, W.Looks (model prog w) h (bindSpecial (.ref fI) self) (.ref fI, [self]))
    (hq : codeAny (model prog w) A (.call (.ref fI) ⟨[.ref (h.objs.size + 1)], kw⟩)
      (fun r s' => match r with | .ok (.ret v) => v = .none ∧ Q (.done (.ret (.ref (h.objs.size + 1)))) s' | .ok _ => False | .error e => E e s') ⟨(h.push (W.kdv_tup [])).push (excO C h.objs.size), g, d, t, os⟩) :
    wpAny (model prog w) A (Builtin.«type.__call__» ⟨[.ref C], kw⟩) Q E ⟨h, g, d, t, os⟩ := by
  repeat (first
    | with_reducible refine wpAny_loadPart_at hC ?_
    | with_reducible refine wpAny_madeBy_exc hC ?_
    | wp_step)
  refine codeAny_call_builtin_code (Code.quiet_builtin _ F.quiet) (kw_check F hT hC (kw_new F hT hC ?_))
  show wpAny _ _ _ _ _ _
  generalize hH : (h.push (W.kdv_tup [])).push (excO C h.objs.size) = G at *
  have up : ∀ b o, h.get? b = some o → G.get? b = some o := fun b o e => by
    rw [← hH]
    exact Heap.get?_push_of_some _ (Heap.get?_push_of_some _ e)
  have atC := up _ _ hC
  have made : G.get? (h.objs.size + 1) = some (excO C h.objs.size) := by
    rw [← hH]
    heap_get
  have own : (Value.ref C :: bm).contains (.ref C) = true := by simp
  unfold isInstance
  repeat (first
    | with_reducible refine wpAny_loadPart_at made ?_
    | (with_reducible refine wpAny_isSubtype_exc atC ?_; rw [own])
    | wp_step)
  show wpAny _ _ (typeLookup (.ref C) _) _ _ _
  refine (hi.keeps up).at (wpAny_holding (wpAny_bind (((hb (.ref (h.objs.size + 1))).keeps up).at ?_)))
  refine wpAny_bind (wpAny_call (codeAny_mono hq fun r s' z => ?_))
  match r, z with
  | .error e, z => exact z
  | .ok .next, z => exact z.elim
  | .ok .brk, z => exact z.elim
  | .ok .cont, z => exact z.elim
  | .ok (.ret v), z =>
    obtain ⟨rfl, z⟩ := z
    first
      | exact wpAny_pure (wpAny_pure z)
      | (wp_walk; exact z)
theorem kw_call {fI : Addr} (F : ExcBaseFacts B newId initId bmB) (hT : ∀ X : String, bm.contains (.type X) = bmB.contains (.type X))
    (hC : h.get? C = some (excClassObj nm q C N bs bm hdct sn sub ab col dd k0 k1 k2 k3 k5 newId))
    (hi : W.Looks (model prog w) h (typeLookup (.ref C) "__init__") (some (.ref fI))) (hb : ∀ self, W.Looks (model prog w) h (bindSpecial (.ref fI) self) (.ref fI, [self]))
    (hq : codeAny (model prog w) (A.under (.builtin "type.__call__" ⟨[.ref C], kw⟩)) (.call (.ref fI) ⟨[.ref (h.objs.size + 1)], kw⟩) (W.InitBack (h.objs.size + 1) R) ⟨(h.push (W.kdv_tup [])).push (excO C h.objs.size), g, d, t, os⟩) :
    codeAny (model prog w) A (.call (.ref C) ⟨[], kw⟩) R ⟨h, g, d, t, os⟩ := by
  have l1 := tc_lookup
  have l2 := tc_bind (.ref C)
  have ty : (⟨h, g, d, t, os⟩ : Shared).TypeIs (.ref C) "type" := ⟨_, hC, rfl⟩
  refine codeAny_of_tree ?_
  show wpAny _ _ (callAny (.ref C) _) _ _ _
  repeat (any_goals (first
    | assumption
    | with_reducible refine wpAny_loadPart_at hC ?_
    | wp_step))
  refine ⟨rfl, ?_⟩
  refine codeAny_call_builtin_at (Code.quiet_builtin _ (by decide +kernel)) entry_typeCall (wpAny_check_type_call_sub hC (kw_type F hT hC hi hb ?_))
  refine codeAny_mono hq fun r s' z => ?_
  match r, z with
  | .error e, z => exact z
  | .ok .next, z => exact z
  | .ok .brk, z => exact z
  | .ok .cont, z => exact z
  | .ok (.ret v), z => exact z
end
end GD
set_option Elab.async false
set_option linter.all false
set_option maxRecDepth 100000
set_option maxHeartbeats 4000000
namespace W1
open PySem PySem.Spec PyProof.Rows L2
theorem vals_rev : ∀ {vs : List V} {us : List Value}, Vals vs us → Vals vs.reverse us.reverse
  | _, _, .nil => .nil
  | _, _, .cons h t => by
    rw [List.reverse_cons, List.reverse_cons]
    exact (vals_rev t).append (.cons h .nil)
section
variable {K : PySem.W.Frag} {x qual : Str} {params : Arguments} {body : List Stmt} {scope : Scope} {kws : List (Str × V)} {f : Addr} {fd : FuncData} {ps : List Str}
/-- all arguments by name, in the order behind -/
theorem _root_.L2.FunD.kbindsR (F : FunD K x qual params body scope [] kws f fd) (ks : List Str)
    (h : ∀ (kV doc pm : Value) (an : Option Addr) (cdv ct : Value) (ws : List Value), ws.length = ks.length → bindArgs (PySem.W.fnOf x qual params body scope .none kV doc pm an cdv ct) ⟨[], ks.zip ws⟩ = pure (ps.zip ws.reverse)) : KBn K fd ps 0 ks (fun _ ws => ws.reverse) (fun _ zs => zs.reverse) := by
  obtain ⟨oc, od, dV, kV, doc, pm, an, cdv, ct, osl, rfl, lk, hcd, hD, hK⟩ := F.ex
  rcases hD with ⟨_, rfl⟩ | ⟨e, _⟩
  · refine ⟨fun s us ws X l1 l2 => ?_, fun _ rz => vals_rev rz⟩
    have e : us = [] := List.length_eq_zero_iff.mp l1
    subst e
    exact .of_eq (h kV doc pm an cdv ct ws l2)
  · exact absurd rfl e
end
section
variable {X : Cx} {CX : CXT} {k n : Nat} {f : Addr} {fd : FuncData} {ps ks : List Str} {sp : Sp} {E : XK} {x : Str} {p pos : Pos} {kws : List Keyword} {tk : TA} {g : List Value → List Value → List Value} {gV : List V → List V → List V}
/-- f(k = v, ..) -/
theorem pe_callKO (F : FnOk X.prog X.w X.K X.mg X.base CX k f fd ps sp) (hr : Room k X.A) (hg : Gl X x) (hm : X.mg x = some (.ref f)) (hk : PySem.W.keepIn X.K (.ref f) = true) (hb : KBn X.K fd ps 0 ks g gV) (hx : Passes CX X E)
    (hkw : PK X kws tk) (hall : (backToKw pos (keywordEach kws X.env)).all (·.1.isSome) = true := by rfl) (hks : (backToKw pos (keywordEach kws X.env)).filterMap (·.1) = ks := by rfl)
    (hdb : (x == ("__debug__" : Str)) = false := by decide)
    (hpl : ((backTo pos (starEach [] X.env)).any (·.1) || (backToKw pos (keywordEach kws X.env)).any (·.1.isNone)) = false := by rfl) :
    PE X (.Call (.Name x p) [] kws pos) (tCallN 0 ks.length sp gV E tNil tk) := by
  refine ⟨fun pins s σ H Q I h => ?_⟩
  refine wpAny_Call_Name_kw (ld_glob I hg hm ?_ hdb)
  refine PySem.W.callWith_KW0 (h₀ := X.base) I.ok.mod.kin hk hall ?_ hpl
  refine thn (hkw.run pos pins s σ H _ I h) fun ws s2 ⟨zs, H2, I2, rz, l1, l2, q2⟩ => ⟨I2.kIn, ?_⟩
  rw [hks]
  exact run_fnN (us := []) (vs := []) F hr hb hx I2 .nil rz l1 l2 q2
end
end W1
set_option Elab.async false
set_option linter.all false
set_option maxRecDepth 100000
set_option maxHeartbeats 4000000
namespace GD
open PySem PySem.Spec PyProof.Rows L2
/-- self, then all by name -/
theorem kself {K : PySem.W.Frag} {x qual : Str} {params : Arguments} {body : List Stmt} {scope : Scope} {kws : List (Str × V)} {f : Addr} {fd : FuncData} {ps : List Str} (F : FunD K x qual params body scope [] kws f fd) (ks : List Str)
    (h : ∀ (kV doc pm : Value) (an : Option Addr) (cdv ct : Value) (u : Value) (ws : List Value), ws.length = ks.length → bindArgs (PySem.W.fnOf x qual params body scope .none kV doc pm an cdv ct) ⟨[u], ks.zip ws⟩ = pure (ps.zip (u :: ws.reverse))) : KBn K fd ps 1 ks (fun us ws => us ++ ws.reverse) (fun vs zs => vs ++ zs.reverse) := by
  obtain ⟨oc, od, dV, kV, doc, pm, an, cdv, ct, osl, rfl, lk, hcd, hD, hK⟩ := F.ex
  rcases hD with ⟨_, rfl⟩ | ⟨e, _⟩
  · refine ⟨fun s us ws X l1 l2 => ?_, fun r rz => r.append (W1.vals_rev rz)⟩
    match us, l1 with
    | [u], _ => exact .of_eq (h kV doc pm an cdv ct u ws l2)
  · exact absurd rfl e
/-- C(k = v, ..): an error of the program, held as a value -/
def tMkHK (C : Addr) (m : Nat) (sp : Sp) (gV : List V → List V → List V) (tk : TA) : TE := fun σ H Q => tk σ H fun zs H1 => zs.length = m ∧ ∀ a, H1 a = none → sp (gV [.ref a] zs) (upd H1 a (exo a C none)) (fun v H2 => v = .non ∧ Q (.ref a) H2) (fun _ _ _ => False)
theorem pe_mkEK {X : Cx} {CX : CXT} {kws : List Keyword} {tk : TA} {p pos : Pos} {x : Str} {C fI : Addr} {k : Nat} {fd : FuncData} {ps ks : List Str} {sp : Sp} {g : List Value → List Value → List Value} {gV : List V → List V → List V} (T : AE.AeC X.K C)
    (iC : PySem.W.findIn X.K (.ref C) "__init__" = some (some (.ref fI))) (tI : PySem.W.typeIn X.K (.ref fI) = some (.type "function")) (F1 : FnOk X.prog X.w X.K X.mg X.base CX k fI fd ps sp)
    (hr : Room (k + 1) X.A) (hb : KBn X.K fd ps 1 ks g gV) (hx : Passes CX X (fun _ _ _ => False)) (hg : Gl X x) (hm : X.mg x = some (.ref C)) (hkw : PK X kws tk) (hall : (backToKw pos (keywordEach kws X.env)).all (·.1.isSome) = true := by rfl)
    (hks : (backToKw pos (keywordEach kws X.env)).filterMap (·.1) = ks := by rfl) (hdb : (x == ("__debug__" : Str)) = false := by decide) (hpl : ((backTo pos (starEach [] X.env)).any (·.1) || (backToKw pos (keywordEach kws X.env)).any (·.1.isNone)) = false := by rfl) :
    PE X (.Call (.Name x p) [] kws pos) (tMkHK C ks.length sp gV tk) := by
  refine ⟨fun pins s σ H Q I h => wpAny_Call_Name_kw (ld_glob I hg hm ?_ hdb)⟩
  refine PySem.W.callWith_KW0 (h₀ := X.base) I.ok.mod.kin T.kC hall ?_ hpl
  refine thn (hkw.run pos pins s σ H _ I h) fun ws s1 ⟨zs, H1, I1, rz, lz, q1⟩ => ⟨I1.kIn, ?_⟩
  rw [hks]
  show wpAny _ _ (call (.ref C) [] (ks.zip ws)) _ _ _
  obtain ⟨hp, gg, dr, tk2, os⟩ := s1
  obtain ⟨nm, N, qn, bs, bm, hd, sn, sub, ab, col, dd, k0, k1, k2, k3, k5, hC, hbm⟩ := PySem.W.excInit_of I1.kIn T.cls
  generalize hG : (hp.push (PySem.W.kdv_tup [])).push (PySem.HandSPX.excO C hp.objs.size) = G
  have new : hp.objs.size ≤ hp.objs.size + 1 := Nat.le_succ _
  have keep : ∀ b o, hp.get? b = some o → G.get? b = some o := fun b o q => by
    rw [← hG]
    exact Heap.get?_push_of_some _ (Heap.get?_push_of_some _ q)
  have there : G.get? (hp.objs.size + 1) = some (PySem.HandSPX.excO C hp.objs.size) := by
    rw [← hG]
    heap_get
  have I2 : Inv X pins σ (upd H1 (hp.objs.size + 1) (exo (hp.objs.size + 1) C none)) ⟨G, gg, dr, tk2, os⟩ := I1.laid (t' := tk2) (a := hp.objs.size + 1) keep new (exo_ok there)
  have hq := q1 (hp.objs.size + 1) (I1.hok.fresh new)
  have r1 : Vals [V.ref (hp.objs.size + 1)] [Value.ref (hp.objs.size + 1)] := .cons rfl .nil
  have lw : ws.length = ks.length := rz.length.symm.trans lz
  have run := F1.run _ X.stack _ _ ⟨[.ref (hp.objs.size + 1)], ks.zip ws⟩ (g [.ref (hp.objs.size + 1)] ws) _ _ (fun _ _ _ => False) (hr.make C [] (ks.zip ws)) (I2.env0.make C [] (ks.zip ws)) (hb.to _ [.ref (hp.objs.size + 1)] ws I2.kIn rfl lw) (hb.rel r1 rz) hq
  refine wpAny_call (kw_call F.excBase_ArithmeticError hbm hC (PySem.W.looks_findIn I1.kIn iC) (fun self => PySem.W.bind_fn I1.kIn self tI) ?_)
  rw [hG]
  refine codeAny_mono run fun r s' z => ?_
  match r, z with
  | .error er, z => exact hx pins σ _ _ er s' I2 z
  | .ok (.ret v), z =>
    obtain ⟨y, H2, I3, rv, ey, q2⟩ := I2.after z
    subst ey
    exact ⟨rv, .ref (hp.objs.size + 1), H2, I3, rfl, q2⟩
  | .ok .next, z => exact z.elim
  | .ok .brk, z => exact z.elim
  | .ok .cont, z => exact z.elim
section
variable {X : Cx} {CX : CXT} {k : Nat} {f C : Addr} {fd : FuncData} {ps ks : List Str} {sp : Sp} {E : XK} {x : Str} {p pos : Pos} {kws : List Keyword} {tk : TA} {g : List Value → List Value → List Value} {gV : List V → List V → List V}
/-- C(k = v, ..): a new instance of an own class -/
theorem pe_makeKO (M : Mk X.K C f) (F : FnOk X.prog X.w X.K X.mg X.base CX k f fd ps sp) (hr : Room (k + 1) X.A) (hg : Gl X x) (hm : X.mg x = some (.ref C)) (hb : KBn X.K fd ps (0 + 1) ks g gV) (hx : Passes CX X E)
    (hkw : PK X kws tk) (hall : (backToKw pos (keywordEach kws X.env)).all (·.1.isSome) = true := by rfl) (hks : (backToKw pos (keywordEach kws X.env)).filterMap (·.1) = ks := by rfl) (hdb : (x == ("__debug__" : Str)) = false := by decide)
    (hpl : ((backTo pos (starEach [] X.env)).any (·.1) || (backToKw pos (keywordEach kws X.env)).any (·.1.isNone)) = false := by rfl) : PE X (.Call (.Name x p) [] kws pos) (tMakeN C 0 ks.length sp gV E tNil tk) := by
  refine ⟨fun pins s σ H Q I h => wpAny_Call_Name_kw (ld_glob I hg hm ?_ hdb)⟩
  refine PySem.W.callWith_KW0 (h₀ := X.base) I.ok.mod.kin M.kp hall ?_ hpl
  refine thn (hkw.run pos pins s σ H _ I h) fun ws s2 ⟨zs, H2, I2, rz, l1, l2, q2⟩ => ⟨I2.kIn, ?_⟩
  rw [hks]
  exact run_makeN (us := []) (vs := []) M F hr hb hx I2 .nil rz l1 l2 q2
end
end GD
set_option Elab.async false
set_option linter.all false
set_option maxRecDepth 100000
set_option maxHeartbeats 4000000
namespace GD
open PySem PySem.W PySem.Calls
section
variable {prog : Program} {w : World} {A : Around} {E : Value → Shared → Prop} {s : Shared} {K : Frag} {x C f : Addr} {ox : Obj} {od : Option Obj} {b tb : Value}
/-- object.__ne__ of an instance whose class has its own __eq__ -/
theorem ne_tree {Q : PySem.Fin → Shared → Prop} (hu : A.units < cLine) (X : K.In s.heap) (I : InstAt s.heap x ox C od) (heq : findIn K (.ref C) "__eq__" = some (some (.ref f))) (hf : isFn K (.ref f) = true)
    (h : wpAny (model prog w) A (call (.ref f) [.ref x, b]) (fun v s' => ∃ r, v = .bool r ∧ Q (.done (.ret (.bool (!r)))) s') E s) : wpAny (model prog w) A (Builtin.«object.__ne__» ⟨[.ref x, b], []⟩) Q E s := by
  unfold Builtin.«object.__ne__»
  obtain ⟨hp, g, d, t, os⟩ := s
  repeat (first
    | with_reducible refine wpAny_cRoomFor hu ?_
    | (refine wpAny_bind (m := callSpecialIfBound? (.ref x) (Str.ofString "__eq__") [b]) (ifBound_K X I heq hf (wpAny_mono h (fun v s' z => ?_) fun _ _ e => e)))
    | wp_step)
  obtain ⟨r, rfl, q⟩ := z
  repeat (first
    | exact q
    | exact wpAny_pure q
    | exact wpAny_truthy_bool q
    | (refine wpAny_bind (m := truthy (.bool _)) (wpAny_truthy_bool ?_))
    | wp_step)
end
end GD
set_option Elab.async false
set_option linter.all false
set_option maxRecDepth 100000
set_option maxHeartbeats 4000000
namespace GD
open PySem PySem.W PySem.Calls
section
variable {prog : Program} {w : World} {A : Around} {E : Value → Shared → Prop} {s : Shared} {K : Frag} {x y C f : Addr} {ox oy : Obj} {od : Option Obj}
theorem ne_try {Q : Option Value → Shared → Prop} (hu : A.units + 1 < cLine) (X : K.In s.heap) (I : InstAt s.heap x ox C od) (hne : findIn K (.ref C) "__ne__" = some (some (.builtin "object.__ne__"))) (hsub : subIn K (.ref C) (.type "object") = some true)
    (heq : findIn K (.ref C) "__eq__" = some (some (.ref f))) (hf : isFn K (.ref f) = true)
    (h : wpAny (model prog w) A.in1 (call (.ref f) [.ref x, .ref y]) (fun v s' => ∃ r, v = .bool r ∧ Q (some (.bool (!r))) s') E s) : wpAny (model prog w) A (tryCompare (.ref x) "__ne__" (.ref y)) Q E s := by
  have S := F.cmp_object.ne
  simp only [tryCompare, callSpecialIfBound?, bindSpecialIfBound?]
  have go : wpAny (model prog w) A (call (.builtin "object.__ne__") [.ref x, .ref y]) (fun v s' => ∃ r, v = .bool r ∧ Q (some v) s') E s := by
    refine wpAny_call (codeAny_call_builtin S.plain F.cmpEntry_ne (check_slot F.cmpKind_ne F.cmpSplit_ne (I.type.andThen (looks_subIn X hsub)) (F.cmpArgs_ne _ _) ?_))
    refine ne_tree (A := A.in1) hu X I heq hf (wpAny_mono h (fun v s' z => ?_) fun _ _ e => e)
    obtain ⟨r, rfl, q⟩ := z
    exact ⟨r, rfl, _, rfl, q⟩
  refine wpAny_bind (wpAny_holding (wpAny_bind (wpAny_bind (wpAny_bind (I.type.here ((looks_findIn X hne).here ?_))))))
  simp only [S.bind]
  refine wpAny_bind (wpAny_askSetting (wpAny_ite ?_))
  have fin : wpAny (model prog w) A (call (.builtin "object.__ne__") ([.ref x] ++ [.ref y]) >>= fun v => pure (some v)) (fun v s' => ∃ r, v = some (.bool r) ∧ Q (some (.bool r)) s') E s :=
    wpAny_bind (wpAny_mono go (fun v s' z => by
      obtain ⟨r, rfl, q⟩ := z
      exact wpAny_pure ⟨r, rfl, q⟩) fun _ _ e => e)
  split
  · exact wpAny_bind (wpAny_pure (wpAny_pure (wpAny_mono fin (fun v s' z => by
      obtain ⟨r, rfl, q⟩ := z
      exact wpAny_pure q) fun _ _ e => e)))
  · exact wpAny_tryCatch (wpAny_bind (wpAny_pure (wpAny_pure (wpAny_mono fin (fun v s' z => by
      obtain ⟨r, rfl, q⟩ := z
      exact wpAny_pure q) fun _ _ e => e))))
theorem ne_rich {Q : Value → Shared → Prop} (hu : A.units + 1 < cLine) (X : K.In s.heap) (I : InstAt s.heap x ox C od) (hy : s.heap.get? y = some oy) (hyc : oy.cls = .ref C) (hne : findIn K (.ref C) "__ne__" = some (some (.builtin "object.__ne__"))) (hsub : subIn K (.ref C) (.type "object") = some true)
    (heq : findIn K (.ref C) "__eq__" = some (some (.ref f))) (hf : isFn K (.ref f) = true)
    (h : wpAny (model prog w) A.in1 (call (.ref f) [.ref x, .ref y]) (fun v s' => ∃ r, v = .bool r ∧ Q (.bool (!r)) s') E s) : wpAny (model prog w) A (richCompare .NotEq (.ref x) (.ref y)) Q E s := by
  unfold richCompare
  simp only [oneThing_ref]
  refine wpAny_holding (wpAny_bind (wpAny_cRoomFor (Nat.lt_of_succ_lt hu) ?_))
  rw [cmpInfo_NotEq]
  dsimp only
  refine wpAny_bind (I.type.here ?_)
  obtain ⟨hp, g, d, t, os⟩ := s
  refine wpAny_bind (wpAny_typeOf_ref hy ?_)
  rw [hyc]
  rw [show (Value.ref C != Value.ref C) = false from by simp]
  simp only [Bool.false_eq_true, if_false]
  refine wpAny_bind (wpAny_pure ?_)
  simp only [Bool.false_eq_true, if_false]
  refine wpAny_bind (ne_try hu X I hne hsub heq hf (wpAny_mono h (fun v s' hv => ?_) fun _ _ e => e))
  obtain ⟨b, rfl, hq⟩ := hv
  first | exact ⟨b, rfl, wpAny_pure hq⟩ | exact ⟨b, rfl, wpAny_pure (wpAny_pure hq)⟩
end
end GD
set_option Elab.async false
set_option linter.all false
set_option maxRecDepth 100000
set_option maxHeartbeats 4000000
namespace GD
open PySem PySem.Spec PyProof.Rows L2
section
variable {X : Cx} {CX : CXT} {n : Nat} {C f : Addr} {fd : FuncData} {ps : List Str} {sp : Sp} {E : XK}
/-- x == y, x != y of two instances of a class with its own __eq__, whatever it answers -/
def rOwnEq (C : Addr) (sp : Sp) (E : XK) (g : Bool → Bool) : R2 := fun x y H Q => ∃ a b dx dy fs gs, x = .ref a ∧ y = .ref b ∧ H a = some (.ins C dx fs) ∧ H b = some (.ins C dy gs) ∧ sp [.ref a, .ref b] H (fun v H' => ∃ r, v = .bl r ∧ Q (.bl (g r)) H') E
theorem own_run (F : FnOk X.prog X.w X.K X.mg X.base CX n f fd ps sp) (hb : Binds X.K fd ps []) (hx : Passes CX X E) {A : Around} (sb : Sub X n A) {pins : List (Addr × Obj)} {σ : L2.St} {H : Hp} {s : Shared} (I : Inv X pins σ H s) {a b : Addr} {Q : VK} (h : sp [.ref a, .ref b] H Q E) :
    wpAny (model X.prog X.w) A (call (.ref f) [.ref a, .ref b]) (EP X pins σ Q) X.xe s := by
  have e0 : Env0 X.prog X.w X.K X.mg X.base A X.stack s H := by
    have e := I.env0
    exact ⟨by rw [sb.fr]; exact e.frames, e.mod, e.bs, e.bsz, e.funs, e.frf, e.hok, e.bare⟩
  have hl := F.len _ _ _ _ h
  have r2 : Vals [V.ref a, V.ref b] [Value.ref a, Value.ref b] := .cons rfl (.cons rfl .nil)
  refine wpAny_call (codeAny_mono (F.run A X.stack s H ⟨[.ref a, .ref b], []⟩ [.ref a, .ref b] [.ref a, .ref b] _ E sb.room e0 (by
    have := hb s [.ref a, .ref b] I.kIn (by simpa using hl)
    simpa using this) r2 h) fun r s' hq => ?_)
  match r, hq with
  | .error e, hq => exact hx pins σ H s e s' I hq
  | .ok (.ret u), hq => exact I.after hq
  | .ok .next, hq => exact False.elim hq
  | .ok .brk, hq => exact False.elim hq
  | .ok .cont, hq => exact False.elim hq
theorem op_eqI (F : FnOk X.prog X.w X.K X.mg X.base CX n f fd ps sp) (hs : PySem.W.findIn X.K (.ref C) "__eq__" = some (some (.ref f))) (hf : PySem.W.isFn X.K (.ref f) = true) (hb : Binds X.K fd ps []) (hx : Passes CX X E) (hr : Room n X.A) : OpR X (compareOp .Eq) (rOwnEq C sp E id) := by
  intro pins s σ H x y v u Q I rx ry h
  obtain ⟨a, b, dx, dy, fs, gs, rfl, rfl, ha, hb', h⟩ := h
  cases rx
  cases ry
  obtain ⟨mA, J, _⟩ := ins_get I.hok ha
  obtain ⟨mB, J', _⟩ := ins_get I.hok hb'
  obtain ⟨od, J, _⟩ := J.look
  obtain ⟨od', J', _⟩ := J'.look
  obtain ⟨m, hF⟩ := I.fr
  show wpAny (model X.prog X.w) X.A (richCompare .Eq (.ref a) (.ref b)) (EP X pins σ Q) X.xe s
  refine PySem.W.cmp_K (op := .Eq) (tb := .ref C) hr.units0 hF I.ok.mod.kin J J'.type (by simp [PySem.W.notFirst]) hs hf ?_
  refine wpAny_mono (own_run F hb hx ⟨hr, rfl⟩ I h) (fun w s' z => ?_) fun _ _ e => e
  obtain ⟨x, H2, I2, rv, r, rfl, q⟩ := z
  cases rv
  exact ⟨.bl r, H2, I2, rfl, q⟩
theorem op_neI (F : FnOk X.prog X.w X.K X.mg X.base CX n f fd ps sp) (hs : PySem.W.findIn X.K (.ref C) "__eq__" = some (some (.ref f))) (hne : PySem.W.findIn X.K (.ref C) "__ne__" = some (some (.builtin "object.__ne__"))) (hsub : PySem.W.subIn X.K (.ref C) (.type "object") = some true) (hf : PySem.W.isFn X.K (.ref f) = true) (hb : Binds X.K fd ps []) (hx : Passes CX X E) (hr : Room (n + 1) X.A) : OpR X (compareOp .NotEq) (rOwnEq C sp E not) := by
  intro pins s σ H x y v u Q I rx ry h
  obtain ⟨a, b, dx, dy, fs, gs, rfl, rfl, ha, hb', h⟩ := h
  cases rx
  cases ry
  obtain ⟨mA, J, _⟩ := ins_get I.hok ha
  obtain ⟨mB, J', _⟩ := ins_get I.hok hb'
  obtain ⟨od, J, _⟩ := J.look
  obtain ⟨od', J', _⟩ := J'.look
  show wpAny (model X.prog X.w) X.A (richCompare .NotEq (.ref a) (.ref b)) (EP X pins σ Q) X.xe s
  refine ne_rich hr.in1.units0 I.kIn J J'.at_ J'.cls hne hsub hs hf ?_
  have sb : Sub X n X.A.in1 := Sub.in1 ⟨hr, rfl⟩
  refine wpAny_mono (own_run F hb hx sb I h) (fun w s' z => ?_) fun _ _ e => e
  obtain ⟨x, H2, I2, rv, r, rfl, q⟩ := z
  cases rv
  exact ⟨r, rfl, .bl (!r), H2, I2, rfl, q⟩
end
end GD
set_option Elab.async false
set_option linter.all false
set_option maxRecDepth 100000
set_option maxHeartbeats 4000000
namespace W1
open PySem PySem.Spec PyProof.Rows L2 RZ
section
variable {P : Program} {w : World} {K : PySem.W.Frag} {mg : Str → Option Value} {base : Heap}

/-! ### what a source tells, as data -/
def partD (l : PyData) : V → PyData
  | .str x => .str x
  | .int i => .int i
  | _ => l
def Rx.data (r : Rx) : PyData := .tuple (.str r.word :: (r.parts .non).map (partD (.list ((r.args.getD []).map PyData.str))))
def pairD (q : Str × Str) : PyData := .tuple [.str q.1, .str q.2]
def pairsD (qs : List (Str × Str)) : PyData := .list (qs.map pairD)
def clsD1 (c : Str × List (Str × Str)) : PyData := .tuple [.str c.1, pairsD c.2]
def clsD (cl : ClsT) : PyData := .list (cl.map clsD1)
def fnD (f : FdT) : PyData := .tuple [.str f.nm, pairsD f.ns, pairsD f.ms, .str f.res, .list (f.rws.map Rx.data)]
def fnsD (fds : List FdT) : PyData := .list (fds.map fnD)
theorem dpAll_refs {α : Type} {H : Hp} (g : α → PyData) : ∀ {es : List Addr} {xs : List α}, es.length = xs.length → (∀ (i : Nat) e x, es[i]? = some e → xs[i]? = some x → Dp K H (.ref e) (g x)) → DpAll K H (es.map V.ref) (xs.map g)
  | [], [], _, _ => .nil
  | e :: es, x :: xs, hl, h => .cons (h 0 e x rfl rfl) (dpAll_refs g (by simpa using hl) fun i a b c d => h (i + 1) a b (by simpa using c) (by simpa using d))
theorem dp_pairs {H : Hp} {la : Addr} {ps : List Addr} {qs : List (Str × Str)} (h : H la = some (.lst (ps.map V.ref))) (p : PairsG H ps qs) : Dp K H (.ref la) (pairsD qs) :=
  .lst (SqL.of h) (dpAll_refs pairD p.len fun i e x a b => .tup (SqT.of (p.at_ i e x a b)) (.cons (.str _) (.cons (.str _) .nil)))
theorem dp_strs {H : Hp} {a : Addr} {ns : List Str} (h : H a = some (.lst (ns.map V.str))) : Dp K H (.ref a) (.list (ns.map PyData.str)) := by
  refine .lst (SqL.of h) ?_
  clear h
  induction ns with
  | nil => exact .nil
  | cons x l ih => exact .cons (.str _) ih
theorem dp_row {Z : Addr → Prop} {H : Hp} {a : Addr} {r : Rx} (h : RowT Z H a r) : Dp K H (.ref a) r.data := by
  obtain ⟨l, h1, h2⟩ := h
  refine .tup (SqT.of h1) (.cons (.str _) ?_)
  cases r with
  | call x F as => exact .cons (.str _) (.cons (.str _) (.cons (dp_strs (h2 as rfl).2) .nil))
  | _ => repeat (first | exact .nil | refine .cons (.str _) ?_ | refine .cons (.int _) ?_)
theorem dp_cls {H : Hp} {a : Addr} {cl : ClsT} (h : TCls H a cl) : Dp K H (.ref a) (clsD cl) := by
  obtain ⟨es, h1, h2, h3⟩ := h
  refine .lst (SqL.of h1) (dpAll_refs clsD1 h2 fun i e c a b => ?_)
  obtain ⟨la, ps, q1, _, q2, q3⟩ := h3 i e c a b
  exact .tup (SqT.of q1) (.cons (.str _) (.cons (dp_pairs q2 q3) .nil))
theorem dp_fns {H : Hp} {a : Addr} {fds : List FdT} (h : TFns H a fds) : Dp K H (.ref a) (fnsD fds) := by
  obtain ⟨es, h1, h2, h3⟩ := h
  refine .lst (SqL.of h1) (dpAll_refs fnD h2 fun i e f a b => ?_)
  obtain ⟨pa, oa, ra, ps, qs, rs, q1, _, q2, q3, q4, q5, q6, q7⟩ := h3 i e f a b
  exact .tup (SqT.of q1) (.cons (.str _) (.cons (dp_pairs q2 q3) (.cons (dp_pairs q4 q5) (.cons (.str _) (.cons (.lst (SqL.of q6) (dpAll_refs Rx.data q7.len fun i t r c d => dp_row (q7.at_ i t r c d))) .nil)))))
theorem LstR.mono {α : Type} {R : Hp → Addr → α → Prop} {H H' : Hp} {a : Addr} {xs : List α} (h : LstR α R H a xs) (e : Same H H') (f : ∀ b x, R H b x → R H' b x) : LstR α R H' a xs := by
  obtain ⟨es, h1, h2, h3⟩ := h
  exact ⟨es, e _ _ h1, h2, fun i b x c d => f _ _ (h3 i b x c d)⟩
theorem tcls_mono {H H' : Hp} {a : Addr} {cl : ClsT} (h : TCls H a cl) (e : Same H H') : TCls H' a cl := h.mono e fun b x q => q.to (fun _ z => z) (.of e)
theorem tfns_mono {H H' : Hp} {a : Addr} {fds : List FdT} (h : TFns H a fds) (e : Same H H') : TFns H' a fds := h.mono e fun b x q => q.to (fun _ z => z) (.of e)
theorem tfns_any {Z : Addr → Prop} {H : Hp} {a : Addr} {fds : List FdT} (h : LstR FdT (EntryT Z) H a fds) : TFns H a fds := by
  obtain ⟨es, h1, h2, h3⟩ := h
  exact ⟨es, h1, h2, fun i b x c d => (h3 i b x c d).to (fun _ _ => trivial) (.of (Same.refl _))⟩
theorem SrcX.ins {H : Hp} {p : Addr} {cl : ClsT} {fds : List FdT} (h : SrcX K H p cl fds) : ∃ dx fs, H p = some (.ins (He.ga K "Source") dx fs) ∧ fs.lookup ("classes" : Str) = none ∧ fs.lookup ("functions" : Str) = none := by
  obtain ⟨fps, qs, hq, ⟨dx, df, dk, du, fs, S⟩, _⟩ := h
  exact ⟨dx, fs, S.ob, S.nm _ (by decide +kernel), S.nm _ (by decide +kernel)⟩
def sameS (cl cl2 : ClsT) (fds fds2 : List FdT) : Bool := PyData.eqv (clsD cl) (clsD cl2) && PyData.eqv (fnsD fds) (fnsD fds2)
structure EqS (cl : ClsT) (fds : List FdT) : Prop extends TellS cl fds where
  sc : SeqAt.shaped (clsD cl) = true
  sf : SeqAt.shaped (fnsD fds) = true
def spSrcEq (K : PySem.W.Frag) : Sp := fun vs H Q _ => ∃ (p q : Addr) (cl cl2 : ClsT) (fds fds2 : List FdT), vs = [.ref p, .ref q] ∧ SrcX K H p cl fds ∧ SrcX K H q cl2 fds2 ∧ EqS cl fds ∧ EqS cl2 fds2 ∧ ∀ H', Same H H' → Q (.bl (sameS cl cl2 fds fds2)) H' 
theorem sc_Source_eq : FnScope ["self", "other"] ["self", "other"] (defScope s_Source_eq) := ⟨rfl, rfl, rfl, by decide +kernel, rfl, by decide +kernel, by decide +kernel⟩
theorem ok_Source_eq (T : Ctx w K mg) (H_Source_classes : HasM P w K mg base 1 "Source" "classes" ["self"] (spClasses K)) (H_Source_functions : HasM P w K mg base 3 "Source" "functions" ["self"] (spFunctions K)) : HasM P w K mg base 4 "Source" "__eq__" ["self", "other"] (spSrcEq K) := by
  obtain ⟨fd, F⟩ := T.D_Source_eq
  obtain ⟨fd_Source_classes, G_Source_classes, b_Source_classes⟩ := H_Source_classes.ex
  obtain ⟨fd_Source_functions, G_Source_functions, b_Source_functions⟩ := H_Source_functions.ex
  refine ⟨⟨fd, F.ok sc_Source_eq (fun vs H Q E h => ?_) (fun cdv A outer s H vs Q E hr h => ?_), F.bindsN fun _ _ _ _ _ _ us hl => match us, hl with | [_, _], _ => rfl⟩⟩
  · obtain ⟨p, q, cl, cl2, fds, fds2, rfl, X, Y, EX, EY, k⟩ := h; rfl
  · obtain ⟨p, q, cl, cl2, fds, fds2, rfl, X, Y, EX, EY, k⟩ := h
    have hr_Source_classes : Room 1 _ := hr.mono (by decide)
    have hr_Source_functions : Room 3 _ := hr.mono (by decide)
    have hu := hu_of hr
    refine ⟨_, PSs.nox (pss_one (ps_ret (pe_and (pe_callB call_isi (by rfl) T.f_isinstance (by decide +kernel) (pa_cons (pv 1) (pa_cons (pe_glob (v := .ref (He.ga K "Source")) rfl T.g_Source rfl) pa_nil))) (pe_and (pe_cmpR (op_eqD hr.units) ((pe_meth0 (pv 0) T.c_Source T.m_Source_classes G_Source_classes hr_Source_classes b_Source_classes .nil pass0)) ((pe_meth0 (pv 1) T.c_Source T.m_Source_classes G_Source_classes hr_Source_classes b_Source_classes .nil pass0)) (nomark _)) (pe_one (pe_cmpR (op_eqD hr.units) ((pe_meth0 (pv 0) T.c_Source T.m_Source_functions G_Source_functions hr_Source_functions b_Source_functions .nil pass0)) ((pe_meth0 (pv 1) T.c_Source T.m_Source_functions G_Source_functions hr_Source_functions b_Source_functions .nil pass0)) (nomark _))))))), ?_⟩
    obtain ⟨dx, fs, ob, n1, n2⟩ := X.ins
    obtain ⟨dy, gs, ob2, m1, m2⟩ := Y.ins
    obtain ⟨t1, t2⟩ := T.isSource ob2
    refine ⟨_, rfl, _, _, _, _, true, rfl, .own _, t1, t2, true, rfl, iteT ?_⟩
    refine ⟨_, rfl, p, dx, fs, rfl, ob, n1, ?_⟩
    refine ⟨p, cl, fds, rfl, X, EX.toTellS, fun a H1 s1 C1 => ?_⟩
    refine ⟨_, rfl, q, dy, gs, rfl, s1 _ _ ob2, m1, ?_⟩
    refine ⟨q, cl2, fds2, rfl, Y.mono s1, EY.toTellS, fun b H2 s2 C2 => ?_⟩
    have s12 := s1.trans s2
    refine ⟨_, _, dp_cls (tcls_mono C1 s2), dp_cls C2, EX.sc, EY.sc, ?_⟩
    by_cases c : PyData.eqv (clsD cl) (clsD cl2) = true
    · refine ⟨_, rfl, ifT c ?_⟩
      refine ⟨_, rfl, p, dx, fs, rfl, s12 _ _ ob, n2, ?_⟩
      refine ⟨p, cl, fds, rfl, X.mono s12, EX.toTellS, fun a3 H3 s3 _ C3 => ?_⟩
      refine ⟨_, rfl, q, dy, gs, rfl, s3 _ _ (s12 _ _ ob2), m2, ?_⟩
      refine ⟨q, cl2, fds2, rfl, (Y.mono s12).mono s3, EY.toTellS, fun b4 H4 s4 _ C4 => ?_⟩
      refine ⟨_, _, dp_fns (tfns_mono (tfns_any C3) s4), dp_fns (tfns_any C4), EX.sf, EY.sf, ?_⟩
      have k2 := k H4 (s12.trans (s3.trans s4))
      unfold sameS at k2
      rw [c, Bool.true_and] at k2
      exact k2
    · have c2 : PyData.eqv (clsD cl) (clsD cl2) = false := by simpa using c
      refine ⟨_, rfl, ifF c2 ?_⟩
      have k2 := k H2 s12
      unfold sameS at k2
      rw [c2, Bool.false_and] at k2
      exact k2

end
end W1
set_option Elab.async false
set_option linter.all false
set_option maxRecDepth 100000
set_option maxHeartbeats 4000000
namespace GD
open PySem PySem.W PySem.Calls
section
variable {prog : Program} {w : World} {A : Around} {E : Value → Shared → Prop} {s : Shared} {K : Frag} {x y C f : Addr} {ox oy : Obj} {od : Option Obj}
theorem ne_tryG {b : Value} {Q : Option Value → Shared → Prop} (hu : A.units + 1 < cLine) (X : K.In s.heap) (I : InstAt s.heap x ox C od) (hne : findIn K (.ref C) "__ne__" = some (some (.builtin "object.__ne__"))) (hsub : subIn K (.ref C) (.type "object") = some true)
    (heq : findIn K (.ref C) "__eq__" = some (some (.ref f))) (hf : isFn K (.ref f) = true)
    (h : wpAny (model prog w) A.in1 (call (.ref f) [.ref x, b]) (fun v s' => ∃ r, v = .bool r ∧ Q (some (.bool (!r))) s') E s) : wpAny (model prog w) A (tryCompare (.ref x) "__ne__" (b)) Q E s := by
  have S := F.cmp_object.ne
  simp only [tryCompare, callSpecialIfBound?, bindSpecialIfBound?]
  have go : wpAny (model prog w) A (call (.builtin "object.__ne__") [.ref x, b]) (fun v s' => ∃ r, v = .bool r ∧ Q (some v) s') E s := by
    refine wpAny_call (codeAny_call_builtin S.plain F.cmpEntry_ne (check_slot F.cmpKind_ne F.cmpSplit_ne (I.type.andThen (looks_subIn X hsub)) (F.cmpArgs_ne _ _) ?_))
    refine ne_tree (A := A.in1) hu X I heq hf (wpAny_mono h (fun v s' z => ?_) fun _ _ e => e)
    obtain ⟨r, rfl, q⟩ := z
    exact ⟨r, rfl, _, rfl, q⟩
  refine wpAny_bind (wpAny_holding (wpAny_bind (wpAny_bind (wpAny_bind (I.type.here ((looks_findIn X hne).here ?_))))))
  simp only [S.bind]
  refine wpAny_bind (wpAny_askSetting (wpAny_ite ?_))
  have fin : wpAny (model prog w) A (call (.builtin "object.__ne__") ([.ref x] ++ [b]) >>= fun v => pure (some v)) (fun v s' => ∃ r, v = some (.bool r) ∧ Q (some (.bool r)) s') E s :=
    wpAny_bind (wpAny_mono go (fun v s' z => by
      obtain ⟨r, rfl, q⟩ := z
      exact wpAny_pure ⟨r, rfl, q⟩) fun _ _ e => e)
  split
  · exact wpAny_bind (wpAny_pure (wpAny_pure (wpAny_mono fin (fun v s' z => by
      obtain ⟨r, rfl, q⟩ := z
      exact wpAny_pure q) fun _ _ e => e)))
  · exact wpAny_tryCatch (wpAny_bind (wpAny_pure (wpAny_pure (wpAny_mono fin (fun v s' z => by
      obtain ⟨r, rfl, q⟩ := z
      exact wpAny_pure q) fun _ _ e => e))))
theorem ne_richG {b tb : Value} {Q : Value → Shared → Prop} (hu : A.units + 1 < cLine) (X : K.In s.heap) (I : InstAt s.heap x ox C od) (hb : Looks (model prog w) s.heap (typeOf b) tb) (hn : notFirst K C tb = true) (hne : findIn K (.ref C) "__ne__" = some (some (.builtin "object.__ne__"))) (hsub : subIn K (.ref C) (.type "object") = some true)
    (heq : findIn K (.ref C) "__eq__" = some (some (.ref f))) (hf : isFn K (.ref f) = true)
    (h : wpAny (model prog w) A.in1 (call (.ref f) [.ref x, b]) (fun v s' => ∃ r, v = .bool r ∧ Q (.bool (!r)) s') E s) : wpAny (model prog w) A (richCompare .NotEq (.ref x) b) Q E s := by
  unfold richCompare
  simp only [oneThing_ref]
  refine wpAny_holding (wpAny_bind (wpAny_cRoomFor (Nat.lt_of_succ_lt hu) ?_))
  rw [cmpInfo_NotEq]
  dsimp only
  refine wpAny_bind (I.type.here (wpAny_bind (hb.here ?_)))
  have fin : wpAny (model prog w) A (tryCompare (.ref x) "__ne__" b) (fun r s' => ∃ v, r = some v ∧ Q v s') E s := ne_tryG hu X I hne hsub heq hf (wpAny_mono h (fun v s' hv => by
    obtain ⟨r, rfl, hq⟩ := hv
    exact ⟨r, rfl, _, rfl, hq⟩) fun _ _ e => e)
  split
  · rename_i q
    have e : subIn K tb (.ref C) = some false := by
      rcases Bool.or_eq_true_iff.mp hn with e | e
      · rw [beq_iff_eq.mp e] at q; simp at q
      · exact beq_iff_eq.mp e
    refine wpAny_bind ((looks_subIn X e).here ?_)
    simp only [Bool.false_eq_true, if_false]
    refine wpAny_bind (wpAny_mono fin (fun r s' z => ?_) fun _ _ e => e)
    obtain ⟨v, rfl, hq⟩ := z
    exact wpAny_pure hq
  · refine wpAny_bind (wpAny_pure ?_)
    simp only [Bool.false_eq_true, if_false]
    refine wpAny_bind (wpAny_mono fin (fun r s' z => ?_) fun _ _ e => e)
    obtain ⟨v, rfl, hq⟩ := z
    exact wpAny_pure hq
end
end GD
namespace GD
open PySem PySem.Spec PyProof.Rows L2
section
variable {X : Cx} {CX : CXT} {n : Nat} {C f : Addr} {fd : FuncData} {ps : List Str} {sp : Sp} {E : XK}
/-- x == y, x != y of an instance with its own __eq__ and a thing of another class -/
def rOwnEqG (K : PySem.W.Frag) (C : Addr) (sp : Sp) (E : XK) (g : Bool → Bool) : R2 := fun x y H Q => ∃ a dx fs t, x = .ref a ∧ H a = some (.ins C dx fs) ∧ TyX K H y t ∧ PySem.W.notFirst K C t = true ∧ sp [.ref a, y] H (fun v H' => ∃ r, v = .bl r ∧ Q (.bl (g r)) H') E
theorem own_runG (F : FnOk X.prog X.w X.K X.mg X.base CX n f fd ps sp) (hb : Binds X.K fd ps []) (hx : Passes CX X E) {A : Around} (sb : Sub X n A) {pins : List (Addr × Obj)} {σ : L2.St} {H : Hp} {s : Shared} (I : Inv X pins σ H s) {a : Addr} {y : V} {u : Value} (ry : RelV y u) {Q : VK} (h : sp [.ref a, y] H Q E) :
    wpAny (model X.prog X.w) A (call (.ref f) [.ref a, u]) (EP X pins σ Q) X.xe s := by
  have e0 : Env0 X.prog X.w X.K X.mg X.base A X.stack s H := by
    have e := I.env0
    exact ⟨by rw [sb.fr]; exact e.frames, e.mod, e.bs, e.bsz, e.funs, e.frf, e.hok, e.bare⟩
  have hl := F.len _ _ _ _ h
  have r2 : Vals [V.ref a, y] [Value.ref a, u] := .cons rfl (.cons ry .nil)
  refine wpAny_call (codeAny_mono (F.run A X.stack s H ⟨[.ref a, u], []⟩ [.ref a, u] [.ref a, y] _ E sb.room e0 (by
    have := hb s [.ref a, u] I.kIn (by simpa using hl)
    simpa using this) r2 h) fun r s' hq => ?_)
  match r, hq with
  | .error e, hq => exact hx pins σ H s e s' I hq
  | .ok (.ret u), hq => exact I.after hq
  | .ok .next, hq => exact False.elim hq
  | .ok .brk, hq => exact False.elim hq
  | .ok .cont, hq => exact False.elim hq
theorem op_eqG (F : FnOk X.prog X.w X.K X.mg X.base CX n f fd ps sp) (hs : PySem.W.findIn X.K (.ref C) "__eq__" = some (some (.ref f))) (hf : PySem.W.isFn X.K (.ref f) = true) (hb : Binds X.K fd ps []) (hx : Passes CX X E) (hr : Room n X.A) : OpR X (compareOp .Eq) (rOwnEqG X.K C sp E id) := by
  intro pins s σ H x y v u Q I rx ry h
  obtain ⟨a, dx, fs, t, rfl, ha, ty, hn, h⟩ := h
  cases rx
  obtain ⟨mA, J, _⟩ := ins_get I.hok ha
  obtain ⟨od, J, _⟩ := J.look
  obtain ⟨m, hF⟩ := I.fr
  obtain ⟨P, Z, p, _⟩ := kit_of I ry ty
  show wpAny (model X.prog X.w) X.A (richCompare .Eq (.ref a) u) (EP X pins σ Q) X.xe s
  refine PySem.W.cmp_K (op := .Eq) (tb := t) hr.units0 hF I.ok.mod.kin J (Z.ty _ _ I.kIn p) hn hs hf ?_
  refine wpAny_mono (own_runG F hb hx ⟨hr, rfl⟩ I ry h) (fun w s' z => ?_) fun _ _ e => e
  obtain ⟨x, H2, I2, rv, r, rfl, q⟩ := z
  cases rv
  exact ⟨.bl r, H2, I2, rfl, q⟩
theorem op_neG (F : FnOk X.prog X.w X.K X.mg X.base CX n f fd ps sp) (hs : PySem.W.findIn X.K (.ref C) "__eq__" = some (some (.ref f))) (hne : PySem.W.findIn X.K (.ref C) "__ne__" = some (some (.builtin "object.__ne__"))) (hsub : PySem.W.subIn X.K (.ref C) (.type "object") = some true) (hf : PySem.W.isFn X.K (.ref f) = true) (hb : Binds X.K fd ps []) (hx : Passes CX X E) (hr : Room (n + 1) X.A) : OpR X (compareOp .NotEq) (rOwnEqG X.K C sp E not) := by
  intro pins s σ H x y v u Q I rx ry h
  obtain ⟨a, dx, fs, t, rfl, ha, ty, hn, h⟩ := h
  cases rx
  obtain ⟨mA, J, _⟩ := ins_get I.hok ha
  obtain ⟨od, J, _⟩ := J.look
  obtain ⟨P, Z, p, _⟩ := kit_of I ry ty
  show wpAny (model X.prog X.w) X.A (richCompare .NotEq (.ref a) u) (EP X pins σ Q) X.xe s
  refine ne_richG hr.in1.units0 I.kIn J (Z.ty _ _ I.kIn p) hn hne hsub hs hf ?_
  have sb : Sub X n X.A.in1 := Sub.in1 ⟨hr, rfl⟩
  refine wpAny_mono (own_runG F hb hx sb I ry h) (fun w s' z => ?_) fun _ _ e => e
  obtain ⟨x, H2, I2, rv, r, rfl, q⟩ := z
  cases rv
  exact ⟨r, rfl, .bl (!r), H2, I2, rfl, q⟩
/-- a built-in class that is no class below C -/
theorem first_no {K : PySem.W.Frag} {t : String} (h : PySem.W.kitOne K (.type t) (.ref C) = some false) : PySem.W.notFirst K C (.type t) = true := by
  unfold PySem.W.kitOne at h
  split at h
  · cases h
  · unfold PySem.W.kitCls at h
    dsimp only at h
    split at h
    · unfold PySem.W.notFirst
      rw [h]
      simp
    · cases h
end
end GD
set_option Elab.async false
set_option linter.all false
set_option maxRecDepth 100000
set_option maxHeartbeats 4000000
namespace W1
open PySem PySem.Spec PyProof.Rows L2 RZ
section
variable {P : Program} {w : World} {K : PySem.W.Frag} {mg : Str → Option Value} {base : Heap}
theorem Ctx.tail (T : Ctx w K mg) : (isaB K (He.ga K "Source") && (errsB K && (marksB K && (eqB K && notB K)))) = true := (He.ba (He.ba (He.ba (He.ba T.more).2).2).2).2
theorem Ctx.eqs (T : Ctx w K mg) : eqB K = true := (He.ba (He.ba (He.ba (He.ba T.tail).2).2).2).1
theorem Ctx.nots (T : Ctx w K mg) : notB K = true := (He.ba (He.ba (He.ba (He.ba T.tail).2).2).2).2
theorem Ctx.eqFn (T : Ctx w K mg) : PySem.W.findIn K (.ref (He.ga K "Source")) "__eq__" = some (some (.ref (He.ma K (He.ga K "Source") "__eq__"))) ∧ PySem.W.findIn K (.ref (He.ga K "Source")) "__ne__" = some (some (.builtin "object.__ne__")) ∧ PySem.W.subIn K (.ref (He.ga K "Source")) (.type "object") = some true ∧ PySem.W.isFn K (.ref (He.ma K (He.ga K "Source") "__eq__")) = true := by
  obtain ⟨h1, h⟩ := He.ba T.eqs
  obtain ⟨h2, h⟩ := He.ba h
  obtain ⟨h3, h4⟩ := He.ba h
  exact ⟨of_decide_eq_true h1, of_decide_eq_true h2, of_decide_eq_true h3, h4⟩
theorem Ctx.noSrc (T : Ctx w K mg) {t : String} (m : t ∈ (["NoneType", "int", "bool", "str", "list", "tuple", "dict"] : List String)) : PySem.W.kitOne K (.type t) (.ref (He.ga K "Source")) = some false := of_decide_eq_true (List.all_eq_true.mp T.nots t m)
/-- a source beside a thing that is none -/
def spSrcEqN (K : PySem.W.Frag) : Sp := fun vs H Q _ => ∃ (p : Addr) (y : V) (t : Value) (cl : ClsT) (fds : List FdT), vs = [.ref p, y] ∧ SrcX K H p cl fds ∧ TyX K H y t ∧ PySem.W.kitOne K t (.ref (He.ga K "Source")) = some false ∧ ∀ H', Same H H' → Q (.bl false) H'
theorem ok_Source_eqN (T : Ctx w K mg) (H_Source_classes : HasM P w K mg base 1 "Source" "classes" ["self"] (spClasses K)) (H_Source_functions : HasM P w K mg base 3 "Source" "functions" ["self"] (spFunctions K)) : HasM P w K mg base 4 "Source" "__eq__" ["self", "other"] (spSrcEqN K) := by
  obtain ⟨fd, F⟩ := T.D_Source_eq
  obtain ⟨fd_Source_classes, G_Source_classes, b_Source_classes⟩ := H_Source_classes.ex
  obtain ⟨fd_Source_functions, G_Source_functions, b_Source_functions⟩ := H_Source_functions.ex
  refine ⟨⟨fd, F.ok sc_Source_eq (fun vs H Q E h => ?_) (fun cdv A outer s H vs Q E hr h => ?_), F.bindsN fun _ _ _ _ _ _ us hl => match us, hl with | [_, _], _ => rfl⟩⟩
  · obtain ⟨p, y, t, cl, fds, rfl, X, ty, hk, k⟩ := h; rfl
  · obtain ⟨p, y, t, cl, fds, rfl, X, ty, hk, k⟩ := h
    have hr_Source_classes : Room 1 _ := hr.mono (by decide)
    have hr_Source_functions : Room 3 _ := hr.mono (by decide)
    have hu := hu_of hr
    refine ⟨_, PSs.nox (pss_one (ps_ret (pe_and (pe_callB call_isi (by rfl) T.f_isinstance (by decide +kernel) (pa_cons (pv 1) (pa_cons (pe_glob (v := .ref (He.ga K "Source")) rfl T.g_Source rfl) pa_nil))) (pe_and (pe_cmpR (op_eqD hr.units) ((pe_meth0 (pv 0) T.c_Source T.m_Source_classes G_Source_classes hr_Source_classes b_Source_classes .nil pass0)) ((pe_meth0 (pv 1) T.c_Source T.m_Source_classes G_Source_classes hr_Source_classes b_Source_classes .nil pass0)) (nomark _)) (pe_one (pe_cmpR (op_eqD hr.units) ((pe_meth0 (pv 0) T.c_Source T.m_Source_functions G_Source_functions hr_Source_functions b_Source_functions .nil pass0)) ((pe_meth0 (pv 1) T.c_Source T.m_Source_functions G_Source_functions hr_Source_functions b_Source_functions .nil pass0)) (nomark _))))))), ?_⟩
    exact ⟨_, rfl, _, _, _, _, false, rfl, .own _, ty, hk, false, rfl, iteF (k H (Same.refl _))⟩
end
end W1
set_option Elab.async false
set_option linter.all false
set_option maxRecDepth 100000
set_option maxHeartbeats 4000000
namespace CA
open PySem PySem.Spec PyProof.Rows L2 AutoSeq1
theorem add_any (l : Addr) (ol ob : Obj) (items : Array Value) (n : Nat) (b : Addr) (items2 : Array Value) (n2 : Nat) (cl : ol.cls = .type "list") (dl : ol.data = .seq items n) (cb : ob.cls = .type "list") (db : ob.data = .seq items2 n2) (hc0 : items.size + items2.size ≤ sizeLine) :
    Meets (Builtin.«list.__add__» ⟨[.ref l, .ref b], []⟩) (fun _ R s => s.heap.get? l = some ol ∧ s.heap.get? b = some ob ∧ R (.ok (.ret (Value.ref s.heap.objs.size))) { s with heap := s.heap.push { cls := Value.type "list", data := Data.seq (items ++ items2) }, toks := s.toks }) :=
  .of_wp fun prog w A R s h => by
    obtain ⟨c1, d1, dt1, s1⟩ := ol
    obtain ⟨c2, d2, dt2, s2⟩ := ob
    obtain rfl : c1 = .type "list" := cl
    obtain rfl : c2 = .type "list" := cb
    obtain rfl : dt1 = .seq items n := dl
    obtain rfl : dt2 = .seq items2 n2 := db
    obtain ⟨hp, g, d, tk, os⟩ := s; obtain ⟨hl, hb, h⟩ := h; have f1 := idx_int; have f2 := AutoSeq1.sub_tuple_tuple; have f3 := AutoSeq1.sub_list_list; have f4 := AutoSeq1.sub_tuple_list; have f5 := AutoSeq1.sub_list_tuple; wp_walk using wpAny_loadPart' hl, wpAny_loadPart' hb; exact ⟨_, rfl, h⟩
def rCatL (K : PySem.W.Frag) : R2 := fun x y H Q => ∃ l b xs zs, x = .ref l ∧ y = .ref b ∧ SqL K H l xs ∧ SqL K H b zs ∧ xs.length + zs.length ≤ sizeLine ∧ ∀ p, H p = none → Q (.ref p) (upd H p (.lst (xs ++ zs)))
theorem op_catL {X : Cx} : OpR X (binaryOp .Add) (rCatL X.K) := by
  intro pins s σ H x y v u Q I rx ry h
  obtain ⟨l, b, xs, zs, rfl, rfl, hH, hB, hz, q⟩ := h
  cases rx
  cases ry
  obtain ⟨its, r, ⟨o, n, ho, hc, hd, hs⟩, hl⟩ := I.list hH
  obtain ⟨its2, r2, ⟨o2, n2, ho2, hc2, hd2, hs2⟩, hl2⟩ := I.list hB
  have e1 := r.length
  have e2 := r2.length
  refine concat_meets ⟨_, ho, hc⟩ ⟨_, ho2, hc2⟩ noFill_list_add seq_list_add F.slot_list_add F.entry_list_add (F.args_list_add_2 _ _) (add_any l o o2 its.toArray n b its2.toArray n2 hc hs hc2 hs2 (by rw [List.size_toArray, List.size_toArray]; omega)) ⟨ho, ho2, ?_⟩
  have ea : its.toArray ++ its2.toArray = (its ++ its2).toArray := by simp
  rw [ea]
  exact ⟨.ref _, _, I.lnew (t' := s.toks) (r.append r2) (by rw [List.length_append]; omega), rfl, q _ I.fresh⟩
def ones : Str := ⟨(List.replicate 31 ("1" : Str).cps).foldl (· ++ ·) #[]⟩
/-- "1" * 31 -/
def rOnes : R2 := fun x y H Q => x = .str "1" ∧ y = .int 31 ∧ Q (.str ones) H
theorem op_ones {X : Cx} : OpR X (binaryOp .Mult) rOnes := by
  intro pins s σ H x y v u Q I rx ry h
  obtain ⟨rfl, rfl, q⟩ := h
  obtain ⟨t, rfl⟩ := rx
  obtain ⟨t2, rfl⟩ := ry
  refine PySem.P.mul_str (by decide +kernel) (fun _ _ => by decide +kernel) (fun _ _ => by decide +kernel) ?_
  rw [if_neg (by decide), if_neg (by decide +kernel)]
  exact ⟨by decide +kernel, .str ones, H, I.tok _, ⟨_, rfl⟩, q⟩
end CA
set_option Elab.async false
set_option linter.all false
set_option maxRecDepth 100000
set_option maxHeartbeats 4000000
namespace CA
open PySem PySem.Spec PyProof.Rows L2
def strsOf : List Expr → Option (List Str)
  | [] => some []
  | .Constant (.str x) _ _ :: r => (strsOf r).map (x :: ·)
  | _ => none
def tStrs (ss : List Str) : TA := fun _ H Q => Q (ss.map V.str) H
theorem pa_strs {X : Cx} : ∀ {es : List Expr} {ss : List Str}, strsOf es = some ss → PA X es (tStrs ss)
  | [], ss, h => by
    obtain rfl : ([] : List Str) = ss := Option.some.inj h
    exact (pa_nil : PA X [] tNil)
  | .Constant (.str x) j p :: es, ss, h => by
    obtain ⟨r, h1, rfl⟩ := Option.map_eq_some_iff.mp (show (strsOf es).map (x :: ·) = some ss from h)
    exact (pa_cons pe_str (pa_strs h1) : PA X (.Constant (.str x) j p :: es) (tCons (tC (.str x)) (tStrs r)))
end CA
set_option Elab.async false
set_option linter.all false
set_option maxRecDepth 100000
set_option maxHeartbeats 4000000
namespace W1
open PySem PySem.Spec PyProof.Rows L2 RZ CA
section
variable {P : Program} {w : World} {K : PySem.W.Frag} {mg : Str → Option Value} {base : Heap}

/-- a source of draws -/
def WellAt (H : Hp) (p : Addr) : Prop := ∃ a b c : Int, H p = some (.lst [.int a, .int b, .int c])
theorem fm {a : Int} {m : Nat} (h : 0 < m) : ∃ k : Nat, k < m ∧ a.fmod (m : Int) = (k : Int) := by
  have h0 : (0 : Int) < (m : Int) := by omega
  have h1 : 0 ≤ a.fmod (m : Int) := Int.fmod_nonneg_of_pos a h0
  have h2 : a.fmod (m : Int) < (m : Int) := Int.fmod_lt_of_pos a h0
  exact ⟨(a.fmod (m : Int)).toNat, by omega, by omega⟩
theorem mb {a m : Int} (h : 0 < m) (h2 : m < 2 ^ 64) : -(2 ^ 64) < a.fmod m ∧ a.fmod m < 2 ^ 64 := by
  have h1 : 0 ≤ a.fmod m := Int.fmod_nonneg_of_pos a h
  have h3 : a.fmod m < m := Int.fmod_lt_of_pos a h
  omega
theorem bb (b : Bool) : -(2 ^ 64) < b2i b ∧ b2i b < 2 ^ 64 := by cases b <;> decide
theorem sql_mono {H H' : Hp} {a : Addr} {xs : List V} (h : SqL K H a xs) (e : Same H H') : SqL K H' a xs := Or.imp (fun r => Or.imp (e _ _) (fun ⟨o, q⟩ => ⟨o, e _ _ q⟩) r) id h
def spMix : Sp := fun vs H Q _ => ∃ c k : Int, vs = [.int c, .int k] ∧ ∀ z : Int, Q (.int z) H
def spWell (K : PySem.W.Frag) : Sp := fun vs H Q _ => ∃ (a : Addr) (ns : List Int) (k : Nat), vs = [.ref a, .int k] ∧ SqL K H a (ns.map V.int) ∧ ns.length ≤ 1000 ∧ ∀ p H', Same H H' → H p = none → WellAt H' p → Q (.ref p) H'
def spDraw : Sp := fun vs H Q _ => ∃ (p : Addr) (m : Nat), vs = [.ref p, .int m] ∧ WellAt H p ∧ 0 < m ∧ m ≤ 1000 ∧ ∀ (k : Nat) (H' : Hp), k < m → But p H H' → WellAt H' p → Q (.int k) H' 
theorem sc_L_mix : FnScope ["_law_cell", "_law_lap", "_law_blend"] ["_law_cell", "_law_lap"] (defScope s_L_mix) := ⟨rfl, rfl, rfl, by decide +kernel, rfl, by decide +kernel, by decide +kernel⟩
theorem ok_L_mix (T : Ctx w K mg) : Has P w K mg base 1 "_law_mix" ["_law_cell", "_law_lap"] spMix := by
  obtain ⟨fd, F⟩ := T.D_L_mix
  refine ⟨⟨fd, F.ok sc_L_mix (fun vs H Q E h => ?_) (fun cdv A outer s H vs Q E hr h => ?_), F.bindsN fun _ _ _ _ _ _ us hl => match us, hl with | [_, _], _ => rfl⟩, F.kp, T.g_L_mix⟩
  · obtain ⟨c, kk, rfl, k⟩ := h; rfl
  · obtain ⟨c, kk, rfl, k⟩ := h
    have hu := hu_of hr
    refine ⟨_, PSs.nox (pss_cons (ps_set (i := 2) sc_L_mix.nd rfl (Or.inl rfl) (pe_op op_add (pe_op op_add (pe_op op_add (pe_op op_modN (pe_callTy call_int1 (by rfl) T.f_int (by decide +kernel) (pa_cons (pv 0) pa_nil)) pe_int) (pe_op op_mul pe_int (pv 1))) (pe_op op_modN (pe_callTy call_int1 (by rfl) T.f_int (by decide +kernel) (pa_cons (pe_op op_fdivW (pv 0) pe_int) pa_nil)) pe_int)) pe_int))
      (pss_cons (ps_set (i := 2) sc_L_mix.nd rfl (Or.inl rfl) (pe_op op_modN (pe_callTy call_int1 (by rfl) T.f_int (by decide +kernel) (pa_cons (pe_op op_mul (pv 2) pe_int) pa_nil)) pe_int))
      (pss_cons (ps_set (i := 2) sc_L_mix.nd rfl (Or.inl rfl) (pe_op op_modN (pe_callTy call_int1 (by rfl) T.f_int (by decide +kernel) (pa_cons (pe_op op_mul (pv 2) (pe_op op_add (pe_op op_add (pe_op op_fdivN (pv 2) pe_int) pe_int) (pv 1))) pa_nil)) pe_int))
      (pss_one (ps_ret (pe_op op_modN (pe_callTy call_int1 (by rfl) T.f_int (by decide +kernel) (pa_cons (pe_op op_mul (pv 2) (pe_op op_add (pe_op op_fdivN (pv 2) pe_int) pe_int)) pa_nil)) pe_int)))))), ?_⟩
    refine ⟨_, rfl, .inl ⟨_, rfl, _, _, rfl, rfl, (by show (2147483629 : Int) ≠ 0; decide), _, rfl, _, _, rfl, rfl, .inl ⟨by decide, by decide⟩, _, _, rfl, rfl, ?_⟩⟩
    refine ⟨_, rfl, _, _, rfl, rfl, wide_div (b := 40) (by decide) (by decide) (by decide) (by decide), .inl ⟨_, rfl, _, _, rfl, rfl, (by show (1000003 : Int) ≠ 0; decide), _, _, rfl, rfl, _, _, rfl, rfl, ?_⟩⟩
    refine ⟨_, rfl, _, _, rfl, rfl, .inr ⟨by decide, by decide⟩, .inl ⟨_, rfl, _, _, rfl, rfl, (by show (2147483629 : Int) ≠ 0; decide), ?_⟩⟩
    refine ⟨_, rfl, _, rfl, _, _, rfl, rfl, ⟨by show (1021 : Int) ≠ 0; decide, by show (1021 : Int).natAbs < 1073741824; decide⟩, _, _, rfl, rfl, _, rfl, _, _, rfl, rfl, _, _, rfl, rfl, .inl (mb (by decide) (by decide)), .inl ⟨_, rfl, _, _, rfl, rfl, (by show (2147483587 : Int) ≠ 0; decide), ?_⟩⟩
    exact ⟨_, rfl, _, rfl, _, _, rfl, rfl, ⟨by show (2011 : Int) ≠ 0; decide, by show (2011 : Int).natAbs < 1073741824; decide⟩, _, _, rfl, rfl, _, _, rfl, rfl, .inl (mb (by decide) (by decide)), .inl ⟨_, rfl, _, _, rfl, rfl, (by show (2147483563 : Int) ≠ 0; decide), k _⟩⟩
theorem sc_L_well : FnScope ["_law_script", "_law_k", "_law_cell"] ["_law_script", "_law_k"] (defScope s_L_well) := ⟨rfl, rfl, rfl, by decide +kernel, rfl, by decide +kernel, by decide +kernel⟩
theorem ok_L_well (T : Ctx w K mg) : Has P w K mg base 1 "_law_well" ["_law_script", "_law_k"] (spWell K) := by
  obtain ⟨fd, F⟩ := T.D_L_well
  refine ⟨⟨fd, F.ok sc_L_well (fun vs H Q E h => ?_) (fun cdv A outer s H vs Q E hr h => ?_), F.bindsN fun _ _ _ _ _ _ us hl => match us, hl with | [_, _], _ => rfl⟩, F.kp, T.g_L_well⟩
  · obtain ⟨a, ns, kk, rfl, hS, hl, k⟩ := h; rfl
  · obtain ⟨a, ns, kk, rfl, hS, hl, k⟩ := h
    have hu := hu_of hr
    refine ⟨_, PSs.nox (pss_cons (ps_set (i := 2) sc_L_well.nd rfl (Or.inl rfl) (pe_op op_add (pe_ix ix_list (pe_op op_catL (pv 0) (pe_lst (pa_cons pe_int pa_nil))) pe_int (fun _ _ => rfl)) (pe_op op_mul pe_int (pv 1))))
      (pss_cons (ps_if (pt_cmpR op_lt (pv 1) (pe_callB call_len_seq (by rfl) T.f_len (by decide +kernel) (pa_cons (pv 0) pa_nil)) (nomark _)) (pss_one (ps_set (i := 2) sc_L_well.nd rfl (Or.inl rfl) (pe_ix ix_list (pv 0) (pv 1) (fun _ _ => rfl)))) pss_nil)
      (pss_one (ps_ret (pe_lst (pa_cons (pe_op op_mul (pv 2) (pe_callTy call_int1 (by rfl) T.f_int (by decide +kernel) (pa_cons (pe_cmpR op_ge (pv 2) (pe_op op_pow pe_int pe_int) (nomark _)) pa_nil))) (pa_cons (pv 2) (pa_cons pe_int pa_nil)))))))), ?_⟩
    have hz : (ns.map V.int).length ≤ 1000 := by rw [List.length_map]; exact hl
    refine ⟨_, rfl, sz_of (by show 1 ≤ 100000; decide), fun z hz0 => ⟨a, z, _, _, rfl, rfl, sql_mono hS (Same.new hz0), SqL.of upd_same, sz_of (by rw [List.length_singleton]; omega), fun q hq => ?_⟩⟩
    have s1 := Same.new (o := .lst [.int 0]) hz0
    have s2 := Same.new (o := .lst (ns.map V.int ++ [.int 0])) hq
    have s12 := s1.trans s2
    obtain ⟨c0, hc0⟩ : ∃ c : Int, atI (ns.map V.int ++ [V.int 0]) 0 = some (.int c) := by
      cases ns with
      | nil => exact ⟨0, at0⟩
      | cons x xs => exact ⟨x, at0⟩
    refine ⟨q, _, _, _, rfl, rfl, SqL.of upd_same, hc0, _, rfl, _, _, rfl, rfl, .inl ⟨by decide, by decide⟩, _, _, rfl, rfl, ?_⟩
    have fin : ∀ (c : Int) (σ : L2.St), σ = σ → True := fun _ _ _ => trivial
    have hS2 := sql_mono hS s12
    refine ⟨_, rfl, _, rfl, _, _, rfl, .inl hS2, _, _, rfl, rfl, _, rfl, ?_⟩
    rw [List.length_map]
    by_cases ck : (kk : Int) < (ns.length : Int)
    · refine ifT (decide_eq_true ck) ?_
      have hkk : kk < ns.length := by omega
      refine ⟨_, rfl, _, rfl, a, _, _, _, rfl, rfl, hS2, atI_nat (by rw [List.getElem?_map, List.getElem?_eq_getElem hkk]; rfl), ?_⟩
      refine ⟨_, rfl, _, rfl, _, _, rfl, rfl, ⟨by decide, by decide, by decide⟩, _, _, rfl, rfl, .inr ⟨_, rfl, _, _, rfl, rfl, .inr (bb _), ?_⟩⟩
      exact ⟨_, rfl, sz_of (by show 3 ≤ 100000; decide), fun l hl => k l _ (s12.trans (Same.new hl)) (none_of s12 hl) ⟨_, _, _, upd_same⟩⟩
    · refine ifF (decide_eq_false ck) ?_
      refine ⟨_, rfl, _, rfl, _, _, rfl, rfl, ⟨by decide, by decide, by decide⟩, _, _, rfl, rfl, .inr ⟨_, rfl, _, _, rfl, rfl, .inr (bb _), ?_⟩⟩
      exact ⟨_, rfl, sz_of (by show 3 ≤ 100000; decide), fun l hl => k l _ (s12.trans (Same.new hl)) (none_of s12 hl) ⟨_, _, _, upd_same⟩⟩
theorem sc_L_draw : FnScope ["_law_well_here", "_law_many", "_law_drawn"] ["_law_well_here", "_law_many"] (defScope s_L_draw) := ⟨rfl, rfl, rfl, by decide +kernel, rfl, by decide +kernel, by decide +kernel⟩
theorem ok_L_draw (T : Ctx w K mg) (H_L_mix : Has P w K mg base 1 "_law_mix" ["_law_cell", "_law_lap"] spMix) : Has P w K mg base 2 "_law_draw" ["_law_well_here", "_law_many"] spDraw := by
  obtain ⟨fd, F⟩ := T.D_L_draw
  obtain ⟨fd_L_mix, G_L_mix, b_L_mix⟩ := H_L_mix.ex
  refine ⟨⟨fd, F.ok sc_L_draw (fun vs H Q E h => ?_) (fun cdv A outer s H vs Q E hr h => ?_), F.bindsN fun _ _ _ _ _ _ us hl => match us, hl with | [_, _], _ => rfl⟩, F.kp, T.g_L_draw⟩
  · obtain ⟨p, m, rfl, hw, hm, hm2, k⟩ := h; rfl
  · obtain ⟨p, m, rfl, hw, hm, hm2, k⟩ := h
    have hr_L_mix : Room 1 _ := hr.mono (by decide)
    have hu := hu_of hr
    refine ⟨_, PSs.nox (pss_cons (ps_if (pt_cmpR op_gt (pe_ix ix_list (pv 0) pe_int (fun _ _ => rfl)) pe_int (nomark _)) (pss_cons (ps_set (i := 2) sc_L_draw.nd rfl (Or.inl rfl) (pe_op op_modN (pe_callTy call_int1 (by rfl) T.f_int (by decide +kernel) (pa_cons (pe_ix ix_list (pv 0) pe_int (fun _ _ => rfl)) pa_nil)) (pv 1)))
      (pss_cons (ps_asg (pe_op op_fdivN (pe_ix ix_list (pv 0) pe_int (fun _ _ => rfl)) (pv 1)) (pg_sub (pv 0) pe_int set_list))
      (pss_one (ps_ret (pv 2))))) pss_nil)
      (pss_cons (ps_asg (pe_op op_add (pe_ix ix_list (pv 0) pe_int (fun _ _ => rfl)) pe_int) (pg_sub (pv 0) pe_int set_list))
      (pss_one (ps_ret (pe_op op_modN (pe_callTy call_int1 (by rfl) T.f_int (by decide +kernel) (pa_cons (pe_call G_L_mix hr_L_mix (by rfl) H_L_mix.gl H_L_mix.kp b_L_mix .nil pass0 (pa_cons (pe_ix ix_list (pv 0) pe_int (fun _ _ => rfl)) (pa_cons (pe_ix ix_list (pv 0) pe_int (fun _ _ => rfl)) pa_nil))) pa_nil)) (pv 1)))))), ?_⟩
    obtain ⟨a, b, c, hp⟩ := hw
    have hm0 : (m : Int) ≠ 0 := by omega
    refine ⟨_, rfl, _, _, _, _, rfl, rfl, SqL.of hp, at0, _, _, rfl, rfl, _, rfl, ?_⟩
    by_cases ca : (0 : Int) < a
    · refine ifT (decide_eq_true ca) ?_
      obtain ⟨kk, hk, ek⟩ := fm (a := a) hm
      refine ⟨_, rfl, _, _, _, _, rfl, rfl, SqL.of hp, at0, .inl ⟨_, rfl, _, rfl, _, _, rfl, rfl, hm0, ?_⟩⟩
      refine ⟨_, rfl, _, _, _, _, rfl, rfl, SqL.of hp, at0, _, rfl, _, _, rfl, rfl, ⟨hm0, by omega⟩, _, rfl, p, _, 0, 0, rfl, rfl, hp, rfl, ?_⟩
      refine ⟨_, rfl, ?_⟩
      show Q (.int (a.fmod (m : Int))) _
      rw [ek]
      exact k kk _ hk But.upd ⟨_, _, _, upd_same⟩
    · refine ifF (decide_eq_false ca) ?_
      refine ⟨_, rfl, _, _, _, _, rfl, rfl, SqL.of hp, at2, _, _, rfl, rfl, _, rfl, p, _, 2, 2, rfl, rfl, hp, rfl, ?_⟩
      have hp2 : upd H p (.lst [.int a, .int b, .int (c + 1)]) p = some (.lst [.int a, .int b, .int (c + 1)]) := upd_same
      refine ⟨_, rfl, _, _, _, _, rfl, rfl, SqL.of hp2, at1, _, rfl, _, _, _, _, rfl, rfl, SqL.of hp2, at2, b, c + 1, rfl, fun z => .inl ⟨_, rfl, _, rfl, _, _, rfl, rfl, hm0, ?_⟩⟩
      obtain ⟨kk, hk, ek⟩ := fm (a := z) hm
      show Q (.int (z.fmod (m : Int))) _
      rw [ek]
      exact k kk _ hk But.upd ⟨_, _, _, upd_same⟩
def spPick (K : PySem.W.Frag) : Sp := fun vs H Q _ => ∃ (p a : Addr) (xs : List V), vs = [.ref p, .ref a] ∧ WellAt H p ∧ a ≠ p ∧ H a = some (.lst xs) ∧ 0 < xs.length ∧ xs.length ≤ 1000 ∧ ∀ (v : V) (H' : Hp), v ∈ xs → But p H H' → WellAt H' p → Q v H' 
theorem sc_L_pick : FnScope ["_law_well_here", "_law_items"] ["_law_well_here", "_law_items"] (defScope s_L_pick) := ⟨rfl, rfl, rfl, by decide +kernel, rfl, by decide +kernel, by decide +kernel⟩
theorem ok_L_pick (T : Ctx w K mg) (H_L_draw : Has P w K mg base 2 "_law_draw" ["_law_well_here", "_law_many"] spDraw) : Has P w K mg base 3 "_law_pick" ["_law_well_here", "_law_items"] (spPick K) := by
  obtain ⟨fd, F⟩ := T.D_L_pick
  obtain ⟨fd_L_draw, G_L_draw, b_L_draw⟩ := H_L_draw.ex
  refine ⟨⟨fd, F.ok sc_L_pick (fun vs H Q E h => ?_) (fun cdv A outer s H vs Q E hr h => ?_), F.bindsN fun _ _ _ _ _ _ us hl => match us, hl with | [_, _], _ => rfl⟩, F.kp, T.g_L_pick⟩
  · obtain ⟨p, a, xs, rfl, hw, hn, ha, h0, h1, k⟩ := h; rfl
  · obtain ⟨p, a, xs, rfl, hw, hn, ha, h0, h1, k⟩ := h
    have hr_L_draw : Room 2 _ := hr.mono (by decide)
    have hu := hu_of hr
    refine ⟨_, PSs.nox (pss_one (ps_ret (pe_ix ix_list (pv 1) (pe_call G_L_draw hr_L_draw (by rfl) H_L_draw.gl H_L_draw.kp b_L_draw .nil pass0 (pa_cons (pv 0) (pa_cons (pe_callB call_len_seq (by rfl) T.f_len (by decide +kernel) (pa_cons (pv 1) pa_nil)) pa_nil))) (fun _ _ => rfl)))), ?_⟩
    refine ⟨_, rfl, _, rfl, _, rfl, _, _, rfl, .inl (SqL.of ha), p, xs.length, rfl, hw, h0, h1, fun j H' hj b w2 => ?_⟩
    have hj2 : xs[j]? = some xs[j] := List.getElem?_eq_getElem hj
    exact ⟨a, xs, (j : Int), _, rfl, rfl, SqL.of (b _ _ ha hn), atI_nat hj2, k _ H' (List.getElem_mem hj) b w2⟩

end
end W1
set_option Elab.async false
set_option linter.all false
set_option maxRecDepth 100000
set_option maxHeartbeats 4000000
/-! sets of tuples whose items are of one kind: set(list); what is in the set is told loosely -/
namespace ST
open PySem PySem.Spec PyProof.Rows L2
/-- items of this kind are told by their value alone -/
structure Quiet {P : Program} {w : World} {K : Type} [DecidableEq K] (knd : KeyKind P w K) : Prop where
  cls : ∀ (k : K) (v : Value), knd.is k v = true → ∀ n, ofAClassStatement n v = pure false
  hsh : ∀ (k : K) (v : Value), knd.is k v = true → ∀ n, ∃ z, hashByValue n v = pure z
theorem quiet_str (P : Program) (w : World) : Quiet (PySem.strKind P w) := by
  refine ⟨fun k v h n => ?_, fun k v h n => ?_⟩
  all_goals
    cases v with
    | str x t => first | (cases n <;> rfl) | exact ⟨false, by cases n <;> rfl⟩
    | _ => simp [PySem.strKind, Value.isStrOf] at h
section
variable {P : Program} {w : World} {K : Type} [DecidableEq K] {knd : KeyKind P w K} {A : Around} {E : Value → Shared → Prop} {s : Shared}
theorem each_item {ks : List K} {vs : List Value} (h : ItemsAre knd ks vs) : ∀ v ∈ vs, ∃ k, knd.is k v = true := by
  induction h with
  | nil => exact fun v m => absurd m (by simp)
  | cons h1 _ ih =>
    intro v m
    cases m with
    | head => exact ⟨_, h1⟩
    | tail _ m => exact ih v m
theorem cls_tup (q : Quiet knd) {k : List K} {b : Addr} {Q : Bool → Shared → Prop} (hk : IsTupleKey knd s.heap k b) (h : Q false s) : wpAny (model P w) A (ofAClassStatement 8 (.ref b)) Q E s := by
  have tT := hk.typeIs
  obtain ⟨ob, its, m, e1, _, e3, e4⟩ := hk
  unfold ofAClassStatement
  refine wpAny_bind (wpAny_typeOf tT ?_)
  have z : (("tuple" : String) == "tuple") = true := by decide
  simp only [z, if_true, Bool.not_true, Bool.false_eq_true, if_false]
  show wpAny _ _ (seqItems? (.ref b) >>= _) _ _ s
  refine wpAny_bind (wpAny_seqItems e1 e3 ?_)
  refine wpAny_bind ?_
  show wpAny _ _ (forIn its _ _) _ _ s
  rw [← Array.forIn_toList]
  refine wpAny_forIn_list _ (fun left r s1 => (r.1 = none ∧ s1 = s) ∧ ∀ v ∈ left, ∃ k, knd.is k v = true) _ ?_ ?_ _ _ ⟨⟨rfl, rfl⟩, each_item e4⟩
  · rintro v left r s1 ⟨⟨hr, rfl⟩, all⟩
    obtain ⟨k1, h1⟩ := all v List.mem_cons_self
    rw [q.cls k1 v h1]
    refine wpAny_bind (wpAny_pure ?_)
    simp only [Bool.false_eq_true, if_false]
    exact wpAny_pure ⟨⟨rfl, rfl⟩, fun u m => all u (List.mem_cons_of_mem _ m)⟩
  · rintro ⟨r1, r2⟩ s1 ⟨⟨hr, rfl⟩, _⟩
    cases (show r1 = none from hr)
    exact wpAny_pure h
theorem hash_tup (q : Quiet knd) {k : List K} {b : Addr} {Q : Bool → Shared → Prop} (hk : IsTupleKey knd s.heap k b) (h : ∀ z, Q z s) : wpAny (model P w) A (hashByValue 8 (.ref b)) Q E s := by
  have tT := hk.typeIs
  obtain ⟨ob, its, m, e1, _, e3, e4⟩ := hk
  unfold hashByValue
  refine wpAny_bind (wpAny_specialOf tT F.slot_tuple_hash.lookup ?_)
  show wpAny _ _ (seqItems? (.ref b) >>= _) _ _ s
  refine wpAny_bind (wpAny_seqItems e1 e3 ?_)
  refine wpAny_bind ?_
  show wpAny _ _ (forIn its _ _) _ _ s
  rw [← Array.forIn_toList]
  refine wpAny_forIn_list _ (fun left r s1 => (r.1 = none ∧ s1 = s) ∧ ∀ v ∈ left, ∃ k, knd.is k v = true) _ ?_ ?_ _ _ ⟨⟨rfl, rfl⟩, each_item e4⟩
  · rintro v left r s1 ⟨⟨hr, rfl⟩, all⟩
    obtain ⟨k1, h1⟩ := all v List.mem_cons_self
    obtain ⟨z, hz⟩ := q.hsh k1 v h1 7
    rw [hz]
    refine wpAny_bind (wpAny_pure ?_)
    cases z with
    | true =>
      simp only [Bool.not_true, Bool.false_eq_true, if_false]
      exact wpAny_pure ⟨⟨rfl, rfl⟩, fun u m => all u (List.mem_cons_of_mem _ m)⟩
    | false =>
      simp only [Bool.not_false, if_true]
      exact wpAny_pure (wpAny_pure (h _))
  · rintro ⟨r1, r2⟩ s1 ⟨⟨hr, rfl⟩, _⟩
    cases (show r1 = none from hr)
    exact wpAny_pure (h _)
/-- looking for a tuple among tuples can't be seen -/
theorem unseen (q : Quiet knd) {k : List K} {b : Addr} {Q : Bool → Shared → Prop} (hk : IsTupleKey knd s.heap k b) {ys : List Value} (hy : ∀ y ∈ ys, ∃ k1 c, y = Value.ref c ∧ IsTupleKey knd s.heap k1 c) (h : Q false s) :
    wpAny (model P w) A (searchCouldBeSeen (.ref b) ys) Q E s := by
  unfold searchCouldBeSeen
  refine wpAny_bind ?_
  refine wpAny_forIn_list _ (fun left r s1 => (r.1 = none ∧ s1 = s) ∧ ∀ y ∈ left, ∃ k1 c, y = Value.ref c ∧ IsTupleKey knd s.heap k1 c) _ ?_ ?_ _ _ ⟨⟨rfl, rfl⟩, hy⟩
  · rintro v left r s1 ⟨⟨hr, rfl⟩, all⟩
    obtain ⟨k1, c, rfl, hc⟩ := all v List.mem_cons_self
    have more : ∀ y ∈ left, ∃ k1 c, y = Value.ref c ∧ IsTupleKey knd s1.heap k1 c := fun u m => all u (List.mem_cons_of_mem _ m)
    dsimp only
    by_cases hv : (b == c || (carriedByValue (.ref b) && carriedByValue (.ref c))) = true
    · exact wp_if_pos hv (wpAny_pure ⟨⟨rfl, rfl⟩, more⟩)
    · refine wp_if_neg hv (wpAny_bind (wpAny_eqIsQuiet_tuple hk ?_))
      simp only [Bool.not_true, Bool.false_eq_true, if_false]
      refine wpAny_bind (wpAny_eqIsQuiet_tuple hc ?_)
      simp only [Bool.not_true, Bool.false_eq_true, if_false]
      refine wpAny_bind (cls_tup q hk ?_)
      simp only [Bool.false_eq_true, if_false]
      refine wpAny_bind (cls_tup q hc ?_)
      simp only [Bool.false_eq_true, if_false]
      exact wpAny_pure ⟨⟨rfl, rfl⟩, more⟩
  · rintro ⟨r1, r2⟩ s1 ⟨⟨hr, rfl⟩, _⟩
    cases (show r1 = none from hr)
    exact wpAny_pure h
variable {a : Addr} {ks : List (Addr × List K)} {es : Array (Int × Value)} {ep : Nat} {t : SetTable}
abbrev Keys (knd : KeyKind P w K) (h : Heap) (ks : List (Addr × List K)) : Prop := ∀ p ∈ ks, IsTupleKey knd h p.2 p.1
abbrev One (knd : KeyKind P w K) (ks : List (Addr × List K)) (e : Int × Value) : Prop := ∃ p ∈ ks, e = (tupleKeyHash knd p.2, Value.ref p.1)
/-- at a stands a set of some of the tuples of ks -/
structure WS (knd : KeyKind P w K) (h : Heap) (a : Addr) (ks : List (Addr × List K)) (es : Array (Int × Value)) (ep : Nat) (t : SetTable) : Prop where
  ob : ∃ o, h.get? a = some o ∧ o.ExactSet ∧ o.data = .set es ep t
  el : ∀ e ∈ es.toList, One knd ks e
  tab : TabOk t (es.toList.map Prod.fst)
  ld : w.params.followText "set-order" = true ∨ t.led = true
  room : es.size * 5 < t.mask * 3
  few : es.size < 64
theorem tab_size (T : TabOk t (es.toList.map Prod.fst)) : t.place.size = es.size := by
  have := T.sz
  rwa [List.length_map, Array.length_toList] at this
theorem tab_fits (T : TabOk t (es.toList.map Prod.fst)) (h : es.size ≤ t.mask) : t.fits es.size = true := by
  have := tab_size T
  unfold SetTable.fits SetTable.fill
  rw [T.dm, Bool.and_eq_true, beq_iff_eq, decide_eq_true_eq]
  show t.place.size = es.size ∧ t.place.size + 0 ≤ t.mask
  omega
theorem WS.fits (R : WS knd s.heap a ks es ep t) : t.fits es.size = true := tab_fits R.tab (by have := R.room; omega)
theorem nodummy (m : Nat) : ∀ (n : Nat) (p : SetTable.Probe), p.dummy = none → (nth m p n).dummy = none
  | 0, _, h => h
  | n + 1, p, h => nodummy m n (adv m p) (by unfold adv; split <;> exact h)
/-- from the c-th step of the way on: met, or the free place at the n-th -/
theorem find (R : WS knd s.heap a ks es ep t) (q : Quiet knd) (hks : Keys knd s.heap ks) {x : Addr} {k : List K} (hx : IsTupleKey knd s.heap k x) (hu : A.units < cLine) {n : Nat} (hn : n < 10 * SetTable.turns t.mask)
    (hf : way t.mask (tupleKeyHash knd k) n ∉ t.place.toList) (hb : ∀ c, c < n → way t.mask (tupleKeyHash knd k) c ∈ t.place.toList) {Q : SetFound → Shared → Prop}
    (h1 : 0 < es.size → Q (.there none) s) (h2 : Q (.free (way t.mask (tupleKeyHash knd k) n) false) s) :
    ∀ (f c : Nat) (st : Option SetTable.Probe), st.getD (t.probeStart (tupleKeyHash knd k)) = nth t.mask (runAt t.mask (SetTable.bits (tupleKeyHash knd k) % (t.mask + 1)) (SetTable.bits (tupleKeyHash knd k))) c → c ≤ n → n - c < f →
      wpAny (model P w) A (setSearchFrom a (.ref x) (tupleKeyHash knd k) true f st) Q E s
  | 0, _, _, _, _, z => absurd z (Nat.not_lt_zero _)
  | f + 1, c, st, hst, hcn, z => by
    obtain ⟨o, ho, hex, hd⟩ := R.ob
    have gw : ¬ t.gaveWay = true := by
      unfold SetTable.gaveWay
      rw [mask_odd R.tab.mok]
      decide
    rw [setSearchFrom_succ]
    refine wpAny_bind (wpAny_setState_of ho hd R.fits ?_)
    refine wp_if_neg gw ?_
    generalize hp0 : runAt t.mask (SetTable.bits (tupleKeyHash knd k) % (t.mask + 1)) (SetTable.bits (tupleKeyHash knd k)) = p0 at hst
    have wy : ∀ i, (nth t.mask p0 i).j = way t.mask (tupleKeyHash knd k) i := fun i => by rw [← hp0]
    have on : ∀ i, nth t.mask (nth t.mask p0 c) i = nth t.mask p0 (c + i) := fun i => (nth_add t.mask c p0 i).symm
    have nd : (nth t.mask p0 c).dummy = none := nodummy _ _ _ (by rw [← hp0]; rfl)
    rcases go_spec t R.tab.ris R.tab.dm (fun i => (es[i]?.map (·.1)).getD 0) (tupleKeyHash knd k) (10 * SetTable.turns t.mask) (n - c) _ nd (by omega) (fun i hi => by rw [on, wy]; exact hb _ (by omega))
      (by rw [on, wy, Nat.add_sub_cancel' hcn]; exact hf) with ⟨m, i, hm, hi, _, _, pr⟩ | ⟨_, pr⟩
    · rw [on, wy] at hi pr
      rw [on] at pr
      have pr2 : t.probe (fun i => (es[i]?.map (·.1)).getD 0) (tupleKeyHash knd k) (st.getD (t.probeStart (tupleKeyHash knd k))) = some (.candidate (way t.mask (tupleKeyHash knd k) (c + m)) i (nth t.mask p0 (c + (m + 1)))) := by
        rw [hst]
        exact pr
      rw [pr2]
      have il : i < es.size := by
        have g := (List.getElem?_eq_some_iff.mp hi).1
        rw [Array.length_toList, tab_size R.tab] at g
        exact g
      have ei : es[i]? = some es[i] := Array.getElem?_eq_getElem il
      obtain ⟨p, hp, ep⟩ := R.el es[i] (by simp)
      rw [ep] at ei
      have go : wpAny (model P w) A (searchRest a (.ref x) (tupleKeyHash knd k) true f es t (way t.mask (tupleKeyHash knd k) (c + m)) i (nth t.mask p0 (c + (m + 1)))) Q E s := by
        unfold searchRest
        rw [ei]
        refine wpAny_bind (wpAny_holding (wpAny_eqBool_tuple hu (hks p hp) hx ?_))
        refine wpAny_bind (wpAny_setState_of ho hd R.fits ?_)
        by_cases same : p.2 = k
        · refine wp_if_pos (by simp [same]) (wpAny_pure (h1 (Nat.lt_of_le_of_lt (Nat.zero_le _) il)))
        · refine wp_if_neg (by simp [same]) ?_
          rw [sameMem]
          have sl : t.slot (way t.mask (tupleKeyHash knd k) (c + m)) = .live i := slot_live R.tab.ris hi
          simp only [if_true, sl, ei]
          refine wpAny_bind (wpAny_isSame_ref_self (wpAny_bind (wpAny_pure ?_)))
          simp only [if_true]
          refine wp_if_neg (by simp [same]) ?_
          exact find R q hks hx hu hn hf hb h1 h2 f (c + (m + 1)) _ (by rw [hp0]; rfl) (by omega) (by omega)
      by_cases hl : t.led = true
      · exact wp_if_neg (by simp [hl]) go
      · refine wp_if_pos (by simp [hl]) (wpAny_bind (unseen q hx (fun y hy => ?_) (wp_if_neg (by decide) go)))
        obtain ⟨e, he, rfl⟩ := List.mem_map.mp hy
        have he2 : e ∈ es.toList := by
          have g : e ∈ es ∧ e.1 = tupleKeyHash knd k := by simpa using he
          simpa using g.1
        obtain ⟨p2, m2, rfl⟩ := R.el e he2
        exact ⟨p2.2, p2.1, rfl, hks p2 m2⟩
    · have pr2 : t.probe (fun i => (es[i]?.map (·.1)).getD 0) (tupleKeyHash knd k) (st.getD (t.probeStart (tupleKeyHash knd k))) = some (.empty (way t.mask (tupleKeyHash knd k) n) none) := by
        have e := on (n - c)
        rw [Nat.add_sub_cancel' hcn] at e
        rw [hst, ← wy n, ← e]
        exact pr
      rw [pr2]
      exact wpAny_pure h2
end
end ST
set_option Elab.async false
set_option linter.all false
set_option maxRecDepth 100000
set_option maxHeartbeats 4000000
namespace ST
open PySem PySem.Spec PyProof.Rows L2
section
variable {P : Program} {w : World} {K : Type} [DecidableEq K] {knd : KeyKind P w K} {A : Around} {E : Value → Shared → Prop} {s : Shared}
variable {a : Addr} {ks : List (Addr × List K)} {es : Array (Int × Value)} {ep : Nat} {t : SetTable}
theorem dull {hs : List Int} (T : TabOk t hs) (z : Bool) : TabOk (if z = true then t else { t with plain := false }) hs := by
  cases z with
  | true => exact T
  | false => exact ⟨T.ris, T.dm, T.sz, T.mok, T.bd, T.reach⟩
theorem pick (es : Array (Int × Value)) : ∀ l : List Nat, (∀ i ∈ l, i < es.size) → (l.filterMap fun i => es[i]?).length = l.length ∧ (l.filterMap fun i => es[i]?).map Prod.fst = l.map (fun i => (es.map (·.1)).getD i 0) ∧ ∀ e ∈ l.filterMap (fun i => es[i]?), e ∈ es.toList
  | [], _ => ⟨rfl, rfl, fun e m => absurd m (by simp)⟩
  | i :: l, h => by
    have hi := h i List.mem_cons_self
    obtain ⟨p1, p2, p3⟩ := pick es l fun j m => h j (List.mem_cons_of_mem _ m)
    rw [List.filterMap_cons_some (Array.getElem?_eq_getElem hi)]
    refine ⟨by rw [List.length_cons, p1, List.length_cons], ?_, fun e m => ?_⟩
    · rw [List.map_cons, List.map_cons, p2]
      have z : (es.map (·.1)).getD i 0 = es[i].1 := by simp [Array.getD_eq_getD_getElem?, hi]
      rw [z]
    · cases m with
      | head => simp
      | tail _ m => exact p3 e m
theorem same_tup {h h' : Heap} {k : List K} {b : Addr} {o : Obj} (hb : IsTupleKey knd h k b) (ho : h.get? a = some o) (hd : o.data = .set es ep t) (hs : Heap.SameBut a h h') : IsTupleKey knd h' k b := by
  obtain ⟨o1, its, m, e1, e2, e3, e4⟩ := hb
  have ne : b ≠ a := fun z => by
    rw [z, ho] at e1
    rw [← Option.some.inj e1, hd] at e3
    exact nomatch e3
  exact ⟨o1, its, m, (hs.2 b ne).trans e1, e2, e3, e4⟩
theorem relay {o : Obj} (ho : s.heap.get? a = some o) (hex : o.ExactSet) (hd : o.data = .set es ep t) (el : ∀ e ∈ es.toList, One knd ks e) (T : TabOk t (es.toList.map Prod.fst)) (hz : es.size ≤ t.mask)
    (ld : w.params.followText "set-order" = true ∨ t.led = true) (few : es.size < 64) {wanted M : Nat} (hw : SetTable.sizeAbove wanted - 1 = M) (hM : MaskOk M) (h128 : SetTable.sizeAbove wanted ≤ 128) (hn : es.size * 5 < M * 3) {Q : Unit → Shared → Prop}
    (hQ : ∀ h' es' ep' t', Heap.SameBut a s.heap h' → WS knd h' a ks es' ep' t' → es'.size = es.size → (∀ e ∈ es'.toList, e ∈ es.toList) → Q () { s with heap := h' }) : wpAny (model P w) A (setRelay a wanted) Q E s := by
  obtain ⟨t2, order, r1, r2, r3, r4, r5, _, _⟩ := relaid_ok t (hs := es.map (·.1)) (wanted := wanted) hw hM (by rw [Array.size_map]; omega)
  rw [Array.size_map] at r2
  obtain ⟨p1, p2, p3⟩ := pick es order.toList fun i m => List.mem_range.mp (r2.mem_iff.mp m)
  have ef : (order.filterMap (es[·]?)).toList = order.toList.filterMap fun i => es[i]? := by simp
  have es2 : (order.filterMap (es[·]?)).size = es.size := by
    rw [← Array.length_toList, ef, p1, r2.length_eq, List.length_range]
  have in2 : ∀ e ∈ (order.filterMap (es[·]?)).toList, e ∈ es.toList := fun e m => p3 e (by rw [ef] at m; exact m)
  rw [setRelay_eq]
  refine wpAny_bind (wpAny_setState_of ho hd (tab_fits T hz) ?_)
  refine wp_if_neg (by rw [sizeLine_eq]; omega) ?_
  rw [r1]
  refine wpAny_bind (wp_if_neg (by rw [es2]; simp) (wpAny_pure ?_))
  refine wpAny_storeSet_of ho hd (hQ _ (order.filterMap (es[·]?)) (ep + 1) t2 (Heap.SameBut.update ..) ⟨⟨_, store_at ho hd, ⟨hex.1, hex.2.1, hex.2.2⟩, rfl⟩, fun e m => el e (in2 e m), ?_, by rw [r5]; exact ld, by rw [es2, r4]; exact hn, by rw [es2]; exact few⟩ es2 in2) (by rw [es2, sizeLine_eq]; omega)
  rw [ef, p2]
  exact r3
/-- one more of the tuples -/
theorem put (R : WS knd s.heap a ks es ep t) (q : Quiet knd) (hks : Keys knd s.heap ks) {p : Addr × List K} (hp : p ∈ ks) (hu : A.units < cLine) (few : es.size + 1 < 64) {Q : Bool → Shared → Prop}
    (hQ : ∀ b h' es' ep' t', Heap.SameBut a s.heap h' → WS knd h' a ks es' ep' t' → 0 < es'.size → es'.size ≤ es.size + 1 → Q b { s with heap := h' }) :
    wpAny (model P w) A (setAddHashed a (.ref p.1) (tupleKeyHash knd p.2)) Q E s := by
  have hx := hks p hp
  obtain ⟨o, ho, hex, hd⟩ := R.ob
  have room := R.room
  obtain ⟨n, hn, hf, hb⟩ := R.tab.first (by rw [List.length_map, Array.length_toList]; omega) (tupleKeyHash knd p.2)
  have small : n < 100000 := by
    have g : 10 * SetTable.turns t.mask ≤ 1420 := by
      unfold SetTable.turns
      rcases R.tab.mok with e | e | e <;> omega
    omega
  unfold setAddHashed
  refine wpAny_holding ?_
  rw [show (100000 : Nat) = 99999 + 1 from rfl, setAddHashedIn_succ]
  refine wpAny_bind (wpAny_setState_of ho hd R.fits ?_)
  refine wp_if_neg (by simp [byScan, Value.scannable]) ?_
  unfold setSearch
  refine wpAny_bind (find R q hks hx hu hn hf hb (fun ne => wpAny_pure (hQ false s.heap es ep t (Heap.SameBut.refl a s.heap) R ne (Nat.le_succ _))) ?_ 100000 0 none rfl (Nat.zero_le _) (by omega))
  refine wpAny_bind (wpAny_setState_of ho hd R.fits ?_)
  dsimp only
  obtain ⟨q1, q2, q3, q4, q5, q6, _, _, q9⟩ := R.tab.put hf hb
  generalize hpt : t.put (way t.mask (tupleKeyHash knd p.2) n) = pt at q1 q3 q4 q5 q6 q9 ⊢
  obtain ⟨t1, i⟩ := pt
  dsimp only at q1 q3 q4 q5 q6 q9 ⊢
  subst q1
  generalize SetTable.below t.place (way t.mask (tupleKeyHash knd p.2) n) = i at q2 q3 ⊢
  have ei := SetTable.toList_insertAt es i (tupleKeyHash knd p.2, Value.ref p.1)
  have hsz : (SetTable.insertAt es i (tupleKeyHash knd p.2, Value.ref p.1)).size = es.size + 1 := by
    rw [List.length_map, Array.length_toList] at q2
    rw [← Array.length_toList, ei, len_ins _ (by rw [Array.length_toList]; exact q2), Array.length_toList]
  rw [← List.map_take, ← List.map_drop, show tupleKeyHash knd p.2 = (tupleKeyHash knd p.2, Value.ref p.1).1 from rfl, ← List.map_cons, ← List.map_append] at q3
  rw [← ei] at q3
  have el1 : ∀ e ∈ (SetTable.insertAt es i (tupleKeyHash knd p.2, Value.ref p.1)).toList, One knd ks e := fun e m => by
    rw [ei] at m
    rcases mem_ins.1 m with z | z
    · exact ⟨p, hp, z⟩
    · exact R.el e z
  rw [List.length_map, Array.length_toList] at q9
  clear ei
  generalize SetTable.insertAt es i (tupleKeyHash knd p.2, Value.ref p.1) = es1 at hsz q3 el1 ⊢
  have fin : ∀ t2 : SetTable, TabOk t2 (es1.toList.map Prod.fst) → t2.mask = t.mask → t2.led = t.led → t2.fill = es.size + 1 →
      wpAny (model P w) A (do
        storeSet a es1 t2
        if !false && t2.tooFull then setRelay a (SetTable.grown (es.size + 1))
        return true) Q E s := fun t2 T2 m2 l2 f2 => by
    have ld2 : w.params.followText "set-order" = true ∨ t2.led = true := by rw [l2]; exact R.ld
    refine wpAny_bind (wpAny_storeSet_of ho hd ?_ (by rw [hsz, sizeLine_eq]; omega))
    have sb : Heap.SameBut a s.heap (s.heap.update a (Obj.putSet es1 t2)) := Heap.SameBut.update ..
    have ho1 := store_at (es' := es1) (t' := t2) ho hd
    generalize s.heap.update a (Obj.putSet es1 t2) = h1 at sb ho1 ⊢
    by_cases full : t2.tooFull = true
    · have g := full
      unfold SetTable.tooFull at g
      rw [decide_eq_true_eq, f2, m2] at g
      have two : (t.mask = 7 ∧ es.size = 4) ∨ (t.mask = 31 ∧ es.size = 18) := by
        rcases R.tab.mok with e | e | e
        · exact .inl ⟨e, by rw [e] at g room; omega⟩
        · exact .inr ⟨e, by rw [e] at g room; omega⟩
        · exfalso
          rw [e] at g
          omega
      have go : ∀ M, SetTable.sizeAbove (SetTable.grown (es.size + 1)) - 1 = M → MaskOk M → SetTable.sizeAbove (SetTable.grown (es.size + 1)) ≤ 128 → (es.size + 1) * 5 < M * 3 →
          wpAny (model P w) A (setRelay a (SetTable.grown (es.size + 1))) (fun _ s1 => wpAny (model P w) A (pure true) Q E s1) E { s with heap := h1 } := fun M w1 w2 w3 w4 =>
        relay (s := { s with heap := h1 }) ho1 ⟨hex.1, hex.2.1, hex.2.2⟩ rfl el1 T2 (by rw [hsz, m2]; rcases two with ⟨e, z⟩ | ⟨e, z⟩ <;> omega) ld2 (by omega) w1 w2 w3 (by rw [hsz]; exact w4)
          fun h2 es2 ep2 t3 sb2 R2 z2 _ => wpAny_pure (hQ true h2 es2 ep2 t3 (sb.trans sb2) R2 (by omega) (by omega))
      refine wp_if_pos (by simp [full]) (wpAny_bind ?_)
      rcases two with ⟨_, z⟩ | ⟨_, z⟩
      · exact go 31 (by rw [z, size_20]) (.inr (.inl rfl)) (by rw [z, size_20]; decide) (by omega)
      · exact go 127 (by rw [z, size_76]) (.inr (.inr rfl)) (by rw [z, size_76]; decide) (by omega)
    · refine wp_if_neg (by simp [full]) (wpAny_pure (hQ true h1 es1 (ep + 1) t2 sb ⟨⟨_, ho1, ⟨hex.1, hex.2.1, hex.2.2⟩, rfl⟩, el1, T2, ld2, ?_, by omega⟩ (by omega) (by omega)))
      unfold SetTable.tooFull at full
      rw [decide_eq_true_eq, f2, m2] at full
      rw [hsz, m2]
      omega
  by_cases pl : t1.plain = true
  · refine wp_if_pos pl (wpAny_bind (hash_tup q hx fun z => ?_))
    exact fin _ (dull q3 z) (by cases z <;> exact q4) (by cases z <;> exact q5) (by cases z <;> exact q9)
  · refine wp_if_neg pl (wpAny_bind (wpAny_pure ?_))
    exact fin _ (dull q3 true) q4 q5 q9
end
end ST
set_option Elab.async false
set_option linter.all false
set_option maxRecDepth 100000
set_option maxHeartbeats 4000000
namespace ST
open PySem PySem.Spec PyProof.Rows L2
section
variable {P : Program} {w : World} {K : Type} [DecidableEq K] {knd : KeyKind P w K} {A : Around} {E : Value → Shared → Prop} {s : Shared}
variable {a : Addr} {ks : List (Addr × List K)} {es : Array (Int × Value)} {ep : Nat} {t : SetTable}
theorem key_keep {h h' : Heap} {k : List K} {b : Addr} (x : IsTupleKey knd h k b) (kp : ∀ c o, h.get? c = some o → h'.get? c = some o) : IsTupleKey knd h' k b := by
  obtain ⟨o, its, m, e1, r⟩ := x
  exact ⟨o, its, m, kp _ _ e1, r⟩
theorem WS.keep {h h' : Heap} (R : WS knd h a ks es ep t) (kp : ∀ o, h.get? a = some o → h'.get? a = some o) : WS knd h' a ks es ep t := by
  obtain ⟨⟨o, e, r⟩, h2, h3, h4, h5, h6⟩ := R
  exact ⟨⟨o, kp _ e, r⟩, h2, h3, h4, h5, h6⟩
abbrev newSet (w : World) : Obj := { cls := .type "set", dict := none, data := .set #[] 0 (.fresh 0 0 (!w.params.followText "set-order")) }
theorem fresh_ok (P : Program) (w : World) : TabOk (.fresh 0 0 (!w.params.followText "set-order")) [] := (setTR_fresh (P := P) (w := w) (h := ({ objs := #[] } : Heap).push (newSet w)) (a := 0) (by exact Heap.get?_push_size _ rfl)).tab
theorem WS.new {h : Heap} (e : h.get? a = some (newSet w)) : WS knd h a ks #[] 0 (.fresh 0 0 (!w.params.followText "set-order")) := by
  refine ⟨⟨_, e, ⟨rfl, rfl, rfl⟩, rfl⟩, fun e m => absurd m (by simp), fresh_ok P w, ?_, by show 0 * 5 < 7 * 3; decide, by show 0 < 64; decide⟩
  cases z : w.params.followText "set-order" with
  | true => exact .inl rfl
  | false => exact .inr rfl
/-- what stands in the set behind the first i tuples -/
structure Some_ (es : Array (Int × Value)) (i : Nat) : Prop where
  le : es.size ≤ i
  pos : 0 < i → 0 < es.size
theorem gather {I : Addr} {fp wr : List Addr} {G : Array GenState → Array GenState → Prop} {n : Nat} {Pv : Nat → Value → Prop} {St : Nat → Shared → Prop} {R : Result → Shared → Prop}
    (W : WalksS P w A.in1 I fp wr G n Pv St) (q : Quiet knd) (S : Addr) (hSf : S ∉ fp) (hn : n = ks.length) (few : ks.length < 64) (hv : ∀ i v, Pv i v → ∃ p ∈ ks, v = .ref p.1)
    (h0 : Heap) (hk : Keys knd h0 ks) (hS0 : h0.get? S = none) (hw0 : ∀ b ∈ wr, h0.get? b = none) (hu : A.in1.units < cLine) :
    ∀ (m i : Nat) (s : Shared), n - i = m → i ≤ n → St i s → (∀ b o, h0.get? b = some o → s.heap.get? b = some o) → (∃ es ep t, WS knd s.heap S ks es ep t ∧ Some_ es i) →
      (∀ s1 es ep t, Moved (S :: wr) G s s1 → WS knd s1.heap S ks es ep t → Some_ es n → (∀ b o, h0.get? b = some o → s1.heap.get? b = some o) → R (.ok (.ret .none)) s1) →
      codeAny (model P w) A (.builtin "set.update.loop" ⟨[.ref S, .ref I], []⟩) R s := by
  have nw : S ∉ wr := fun z => hSf (W.sub _ z)
  have up : ∀ b ∈ wr, b ∈ S :: wr := fun b m => List.mem_cons_of_mem _ m
  have kept : ∀ {s s1 : Shared}, Moved wr G s s1 → (∀ b o, h0.get? b = some o → s.heap.get? b = some o) → ∀ b o, h0.get? b = some o → s1.heap.get? b = some o := fun mv kp b o e =>
    mv.heap b o (fun z => by rw [hw0 b z] at e; cases e) (kp b o e)
  intro m
  induction m with
  | zero =>
    intro i s hm hi st kp ⟨es, ep, t, hS, g⟩ hR
    obtain rfl : i = n := by omega
    refine codeAny_builtin F.entry_set_update_loop ?_
    rw [Around.under_plainId F.plain_set_update_loop _]
    show wpAny _ A.in1 (pyNext (.ref I) >>= _) _ _ s
    refine wpAny_bind (W.done s _ _ st fun s1 mv => ?_)
    exact wpAny_pure (hR s1 es ep t (mv.mono up) (hS.keep fun o e => mv.heap S o nw e) g (kept mv kp))
  | succ m ih =>
    intro i s hm hi st kp ⟨es, ep, t, hS, g⟩ hR
    have lt : i < n := by omega
    refine codeAny_builtin F.entry_set_update_loop ?_
    rw [Around.under_plainId F.plain_set_update_loop _]
    show wpAny _ A.in1 (pyNext (.ref I) >>= _) _ _ s
    refine wpAny_bind (W.item i s _ _ lt st fun v s1 pv st1 mv => ?_)
    obtain ⟨p, hp, rfl⟩ := hv i v pv
    have kp1 := kept mv kp
    have hS1 := hS.keep fun o e => mv.heap S o nw e
    have hk1 : Keys knd s1.heap ks := fun p m => key_keep (hk p m) kp1
    show wpAny _ A.in1 (holding [Value.ref p.1] (setAdd S (.ref p.1)) >>= _) _ _ s1
    refine wpAny_bind (wpAny_holding ?_)
    unfold setAdd
    refine wpAny_holding (wpAny_bind (wpAny_pyHash_tuple hu (hk1 p hp) ?_))
    refine put (s := { s1 with toks := s1.toks + (p.2.length + 1) }) hS1 q hk1 hp hu (by have := g.le; omega) fun b h2 es2 ep2 t2 sb hS2 ne le => ?_
    have kp2 : ∀ b o, h0.get? b = some o → h2.get? b = some o := fun b o e => (sb.2 b (fun z => by rw [z, hS0] at e; cases e)).trans (kp1 b o e)
    refine wpAny_pure ⟨plainId_quiet F.plain_set_update_loop _, ih (i + 1) _ (by omega) lt (W.frame _ s1 _ _ st1 (Nat.le_add_right _ _) fun b hb o e => ?_) kp2 ⟨es2, ep2, t2, hS2, by have := g.le; omega, fun _ => ne⟩ fun s3 es3 ep3 t3 mv3 hS3 g3 kp3 => ?_⟩
    · exact (sb.2 b fun z => hSf (by rw [← z]; exact hb)).trans e
    · refine hR s3 es3 ep3 t3 (Moved.trans W.gtrans ((mv.mono up).then_heap (Nat.le_add_right _ _) fun b o hb e => ?_) mv3) hS3 g3 kp3
      exact (sb.2 b fun z => hb (by rw [z]; exact List.mem_cons_self)).trans e
/-- set(l), l a list of tuples -/
theorem call_set {l : Addr} {items : Array Value} (q : Quiet knd) {Q : Value → Shared → Prop} (hh : A.handled = none) (hl : s.heap.IsList l items) (hit : items.toList = ks.map fun p => Value.ref p.1)
    (hk : Keys knd s.heap ks) (few : ks.length < 64) (hu : A.units + 3 < cLine)
    (h : ∀ (h' : Heap) (tk : Nat) es ep t, WS knd h' s.heap.objs.size ks es ep t → Some_ es ks.length → (∀ b o, s.heap.get? b = some o → h'.get? b = some o) → Q (.ref s.heap.objs.size) { s with heap := h', toks := tk }) :
    wpAny (model P w) A (call (.type "set") [.ref l]) Q E s := by
  have isz : items.size = ks.length := by rw [← Array.length_toList, hit, List.length_map]
  obtain ⟨c, tl, hmro⟩ := F.called_set.mro
  have made := F.called_set.made
  have sub := F.called_set.sub
  refine wpAny_call (codeAny_of_tree ?_)
  show wpAny _ _ (callAny (.type "set") _) _ _ _
  refine wpAny_pure ⟨Code.quiet_builtin _ (by decide +kernel), codeAny_builtin F.entry_type_call ?_⟩
  rw [Around.under_plain (weight_type_call_type "set" [.ref l] []) rfl]
  have c1 := F.called_set.notType
  have c2 := F.called_set.canCreate
  have c3 := F.typeCall_set_1 (.ref l)
  repeat (any_goals (first | assumption | wp_step))
  refine codeAny_mono (code_set_led1 (.ref l) (E := E) (Q₁ := fun v s1 => v = .ref s.heap.objs.size ∧ s1 = { s with heap := s.heap.push (newSet w) }) ⟨rfl, rfl⟩) fun r s1 hr => ?_
  match r, hr with
  | .error e, hr => exact hr
  | .ok (.ret v), hr =>
    obtain ⟨rfl, rfl⟩ := hr
    have at0 : (s.heap.push (newSet w)).get? s.heap.objs.size = some (newSet w) := Heap.get?_push_size _ rfl
    have tS : Shared.TypeIs { s with heap := s.heap.push (newSet w) } (.ref s.heap.objs.size) "set" := ⟨_, at0, rfl⟩
    have i1 := F.called_set.init.lookup
    have i2 := F.called_set.init.bind (.ref s.heap.objs.size)
    repeat (any_goals (first | assumption | wp_step))
    refine codeAny_mono (codeAny_call_builtin (R := wants (fun r s2 => r = .none ∧ ∃ h' tk es ep t, s2 = { s with heap := h', toks := tk } ∧ WS knd h' s.heap.objs.size ks es ep t ∧ Some_ es ks.length ∧
        (∀ b o, s.heap.get? b = some o → h'.get? b = some o)) E) F.called_set.init.plain F.entry_set_init (check_set_init_1 tS ?_)) fun r2 s2 hr2 => ?_
    · obtain ⟨⟨oc, od, odt, osl⟩, ol, cl, nl, dl⟩ := hl
      cases cl
      cases dl
      have ol2 : (s.heap.push (newSet w)).get? l = some { cls := .type "list", dict := od, data := .seq items nl, slots := osl } := Heap.get?_push_of_some _ ol
      have z1 := F.sub_list_set
      have z2 := F.sub_list_frozenset
      have z3 : (Value.type "list" == Value.type "dict") = false := by decide
      have l2 : (s.heap.push (newSet w)).IsList l items := ⟨_, ol2, rfl, nl, rfl⟩
      unfold Builtin.«set.__init__» noKeywords Builtin.Frozenset.updateFrom
      generalize hPI : pyIter = PI
      wp_walk
      subst hPI
      refine wpAny_pyIter_list l2 (wpAny_bind (wpAny_runValue ?_))
      have lt : l < s.heap.objs.size := Heap.lt_size ol
      have sz : (s.heap.push (newSet w)).objs.size = s.heap.objs.size + 1 := Heap.size_push ..
      have over : ∀ b, s.heap.objs.size ≤ b → s.heap.get? b = none := fun b hb => by
        cases e : s.heap.get? b with
        | none => rfl
        | some o => exact absurd (Nat.lt_of_lt_of_le (Heap.lt_size e) hb) (Nat.lt_irrefl _)
      refine gather (knd := knd) (ks := ks) ((Walks.list (by simp [hh]) _ l (by rw [sz]; exact Nat.ne_of_lt (Nat.lt_succ_of_lt lt)) items).toS) q s.heap.objs.size ?_ isz few (fun i v e => ?_) s.heap hk (over _ (Nat.le_refl _)) (fun b m => over b ?_) hu (items.size - 0) 0 _ (by omega) (Nat.zero_le _)
        ⟨⟨_, Heap.get?_push_size _ rfl, rfl, rfl⟩, (l2.push _)⟩ (fun b o e => Heap.get?_push_of_some _ (Heap.get?_push_of_some _ e)) ⟨#[], 0, _, WS.new (Heap.get?_push_of_some _ at0), Nat.le_refl _, fun z => absurd z (Nat.lt_irrefl _)⟩ fun s3 es ep t mv hS g kp => ?_
      · rw [sz]
        simp only [List.mem_cons, List.not_mem_nil, or_false, not_or]
        exact ⟨Nat.ne_of_lt (Nat.lt_succ_self _), Nat.ne_of_gt lt⟩
      · have e2 : v ∈ items.toList := by
          have := Array.mem_of_getElem? e
          simpa using this
        rw [hit] at e2
        obtain ⟨p, hp, rfl⟩ := List.mem_map.mp e2
        exact ⟨p, hp, rfl⟩
      · rw [List.mem_singleton.mp m, sz]
        exact Nat.le_succ _
      · obtain ⟨h3, g3, d3, tk3, os3⟩ := s3
        obtain rfl : g3 = s.gens := mv.gens
        obtain rfl : d3 = s.drawn := mv.drawn
        obtain rfl : os3 = s.os := mv.os
        rw [isz] at g
        exact wpAny_pure (wpAny_pure ⟨rfl, h3, tk3, es, ep, t, rfl, hS, g, kp⟩)
    · match r2, hr2 with
      | .error e, hr2 => exact hr2
      | .ok (.ret r), hr2 =>
        obtain ⟨rfl, h', tk, es, ep, t, rfl, hS, g, kp⟩ := hr2
        repeat (any_goals (first | assumption | wp_step))
        exact h _ _ _ _ _ hS g kp
      | .ok .next, hr2 => exact hr2.elim
      | .ok .brk, hr2 => exact hr2.elim
      | .ok .cont, hr2 => exact hr2.elim
  | .ok .next, hr => exact hr.elim
  | .ok .brk, hr => exact hr.elim
  | .ok .cont, hr => exact hr.elim
end
end ST
set_option Elab.async false
set_option linter.all false
set_option maxRecDepth 100000
set_option maxHeartbeats 4000000
namespace ST
open PySem PySem.Spec PyProof.Rows L2
/-- tuples of two texts, by their addresses -/
abbrev Two := Addr × Str × Str
abbrev keyed (kp : List Two) : List (Addr × List Str) := kp.map fun q => (q.1, [q.2.1, q.2.2])
def encT (b : Two) : PyData := .tuple [.str b.2.1, .str b.2.2]
section
variable {P : Program} {w : World} {A : Around} {E : Value → Shared → Prop} {s : Shared}
variable {a : Addr} {kp : List Two} {es : Array (Int × Value)} {ep : Nat} {t : SetTable}
abbrev SK (P : Program) (w : World) : PySem.KeyKind P w Str := PySem.strKind P w
theorem one_two {p : Addr × List Str} (h : p ∈ keyed kp) : ∃ b ∈ kp, p = (b.1, [b.2.1, b.2.2]) := by
  obtain ⟨b, m, e⟩ := List.mem_map.mp h
  exact ⟨b, m, e.symm⟩
theorem rd_two {h : Heap} {x y : Str} {b : Addr} (k : IsTupleKey (SK P w) h [x, y] b) : Reads h (.ref b) (.tuple [.str x, .str y]) [] := by
  obtain ⟨o, its, n, e1, e2, e3, e4⟩ := k
  refine .tuple e1 e2 e3 ?_
  generalize its.toList = l at e4
  cases e4 with
  | cons h1 t1 =>
    cases t1 with
    | cons h2 t2 =>
      cases t2
      obtain ⟨t1, rfl⟩ := Value.isStrOf_shape h1
      obtain ⟨t2, rfl⟩ := Value.isStrOf_shape h2
      exact .cons (.str x t1) (.cons (.str y t2) .nil)
theorem twos : ∀ vs : List Value, (∀ v ∈ vs, ∃ b ∈ kp, v = Value.ref b.1) → ∃ bs : List Two, PySem.W.EachIs (fun v (b : Two) => v = Value.ref b.1 ∧ b ∈ kp) vs bs
  | [], _ => ⟨[], .nil⟩
  | v :: vs, h => by
    obtain ⟨b, m, e⟩ := h v List.mem_cons_self
    obtain ⟨bs, z⟩ := twos vs fun u m => h u (List.mem_cons_of_mem _ m)
    exact ⟨b :: bs, .cons ⟨e, m⟩ z⟩
theorem each_same {R : Value → Two → Prop} (hR : ∀ v b, R v b → v = Value.ref b.1) : ∀ {vs : List Value} {bs : List Two}, PySem.W.EachIs R vs bs → vs = bs.map fun b => Value.ref b.1
  | _, _, .nil => rfl
  | _, _, .cons h t => by rw [List.map_cons, hR _ _ h, each_same hR t]
/-- sorted(s), s a set of pairs of texts -/
theorem sort_set (R : WS (SK P w) s.heap a (keyed kp) es ep t) (hk : Keys (SK P w) s.heap (keyed kp)) (hh : A.handled = none) (hu : A.units + 64 < cLine) {Q : Value → Shared → Prop}
    (hQ : ∀ s1 p (out : Array Value) c (L : List Two), (∀ b o, s.heap.get? b = some o → s1.heap.get? b = some o) → s1.gens = s.gens → s1.os = s.os → s.heap.objs.size ≤ p → s1.heap.get? p = some (seqObj "list" out c) →
      out.toList = L.map (fun b => Value.ref b.1) → (∀ b ∈ L, b ∈ kp) → L.length = es.size → Q (.ref p) s1) :
    wpAny (model P w) A (call (.builtin "sorted") [.ref a]) Q E s := by
  obtain ⟨o, ho, hex, hd⟩ := R.ob
  have few := R.few
  refine Calls.call_function_entry kind_sorted plain_sorted entry_sorted (args_sorted1 _) ?_
  unfold Builtin.«sorted»
  refine wpAny_bind (m := checkCount "sorted" 1 1 _) (wpAny_pure ?_)
  refine wpAny_bind (collect_set (A := A.in1) hh ⟨o, ho, hex.1, hd⟩ R.fits (by unfold scanBound; omega) R.tab.ris R.ld fun s1 vs k1 z1 g1 o1 pm => ?_)
  have lvs : vs.length = es.size := by rw [pm.length_eq, List.length_map, Array.length_toList]
  obtain ⟨bs, eb⟩ := twos (kp := kp) vs fun v m => by
    obtain ⟨e, m2, rfl⟩ := List.mem_map.mp (pm.mem_iff.mp m)
    obtain ⟨p, m3, rfl⟩ := R.el e m2
    obtain ⟨b, m4, rfl⟩ := one_two m3
    exact ⟨b, m4, rfl⟩
  have lbs : bs.length = es.size := by rw [← eb.length, lvs]
  refine wpAny_bind (wpAny_newList ?_ (by rw [sizeLine_eq]; omega))
  have hL : (s1.heap.push (seqObj "list" vs.toArray 0)).get? s1.heap.objs.size = some (seqObj "list" vs.toArray 0) := Heap.get?_push_size _ rfl
  have rd : PySem.W.EachIs (fun v b => ∃ as, Reads (s1.heap.push (seqObj "list" vs.toArray 0)) v (encT b) as ∧ s1.heap.objs.size ∉ as) vs bs := eb.mono fun v b ⟨e, m⟩ => by
    subst e
    exact ⟨[], rd_two (P := P) (w := w) (key_keep (hk _ (List.mem_map.mpr ⟨b, m, rfl⟩)) fun c u e => Heap.get?_push_of_some _ (k1 c u e)), by simp⟩
  refine wpAny_bind (wpAny_holding (PySem.W.list_sort_data (s := { s1 with heap := s1.heap.push (seqObj "list" vs.toArray 0) }) (enc := encT) (R := fun v (b : Two) => v = Value.ref b.1 ∧ b ∈ kp) hL eb rd (PySem.W.AllAlike.of fun b b' => rfl)
    (PySem.W.Sortable.tuples (enc := encT) (bs := bs) fun b => ⟨_, _, rfl⟩) (by rw [lbs, sizeLine_eq]; omega) (fun b _ => ?_) fun out lo eo => ?_))
  · show A.units + 1 + 1 + (PyData.tuple [.str b.2.1, .str b.2.2]).depth < cLine
    simp only [PyData.depth, PyData.depthAll]
    omega
  · obtain ⟨c, hc⟩ := sortedHeap_at (vs := vs) (out := out.toArray) hL
    refine wpAny_pure ⟨_, rfl, hQ _ s1.heap.objs.size out.toArray c (bs.mergeSort (PySem.W.dataLe false encT)) (fun b u e => ?_) g1 o1 z1 hc ?_ (fun b m => ?_) (by rw [List.length_mergeSort, lbs])⟩
    · have e1 := k1 b u e
      have lt := Heap.lt_size e1
      show (sortedHeap (s1.heap.push (seqObj "list" vs.toArray 0)) s1.heap.objs.size vs out.toArray).get? b = some u
      rw [sortedHeap_old (Nat.ne_of_lt lt) (by rw [size_push']; exact Nat.lt_succ_of_lt lt)]
      exact Heap.get?_push_of_some _ e1
    · show out = _
      exact each_same (fun v b z => z.1) eo
    · have right : ∀ {vs : List Value} {bs : List Two}, PySem.W.EachIs (fun v (b : Two) => v = Value.ref b.1 ∧ b ∈ kp) vs bs → ∀ b ∈ bs, b ∈ kp := fun {vs bs} e => by
        induction e with
        | nil => exact fun b m => absurd m (by simp)
        | cons h _ ih =>
          intro b m
          cases m with
          | head => exact h.2
          | tail _ m => exact ih b m
      exact right eo b m
end
/-- the set at a: some of the pairs, at least one if there is any -/
structure SetW (P : Program) (w : World) (h : Heap) (a : Addr) (kp : List Two) : Prop where
  ex : ∃ (es : Array (Int × Value)) (ep : Nat) (t : SetTable), WS (SK P w) h a (keyed kp) es ep t ∧ Some_ es kp.length
def SetO (P : Program) (w : World) (a : Addr) (kp : List Two) : HO := .ext fun h => SetW P w h a kp
theorem setO_new {P : Program} {w : World} {H : Hp} {h : Heap} {a : Addr} {kp : List Two} (R : SetW P w h a kp) : ObjOk P w H h a (SetO P w a kp) := by
  have ⟨es, ep, t, W, _⟩ := R.ex
  have ⟨o, ho, _⟩ := W.ob
  exact ⟨R, ⟨o, ho⟩, fun h1 h2 p k => let ⟨es, ep, t, W, g⟩ := SetW.ex p; ⟨es, ep, t, W.keep k, g⟩⟩
section
variable {X : Cx}
theorem str_items {P : Program} {w : World} : ∀ {k : List Str} {us : List Value}, Vals (k.map V.str) us → ItemsAre (SK P w) k us
  | [], _, .nil => .nil
  | x :: k, _, .cons r t => by
    obtain ⟨tk, rfl⟩ := r
    exact .cons (strKind_is P w x tk) (str_items t)
theorem refs_back : ∀ {kp : List Two} {us : List Value}, Vals (kp.map fun p => V.ref p.1) us → us = (keyed kp).map fun p => Value.ref p.1
  | [], _, .nil => rfl
  | p :: kp, _, .cons r t => by
    cases r
    rw [refs_back t] <;> rfl
theorem refs_there : ∀ (kp : List Two), Vals (kp.map fun p => V.ref p.1) (kp.map fun p => Value.ref p.1)
  | [] => .nil
  | p :: kp => .cons rfl (refs_there kp)
theorem keys_of {pins : List (Addr × Obj)} {σ : L2.St} {H : Hp} {s : Shared} {kp : List Two} (I : Inv X pins σ H s) (h : ∀ p ∈ kp, SqT X.K H p.1 [.str p.2.1, .str p.2.2]) : Keys (SK X.prog X.w) s.heap (keyed kp) := by
  intro p m
  obtain ⟨b, mb, rfl⟩ := one_two m
  obtain ⟨its, r, ⟨o, ho, hc, n, hd⟩, _⟩ := I.tuple (h b mb)
  exact ⟨o, its.toArray, n, ho, hc, hd, by simpa using str_items (k := [b.2.1, b.2.2]) r⟩
/-- set(l), l a list of pairs of texts -/
def rSetP (K : PySem.W.Frag) (P : Program) (w : World) : List V → Hp → VK → Prop := fun xs H Q => ∃ (l : Addr) (kp : List Two), xs = [V.ref l] ∧ SqL K H l (kp.map fun p => V.ref p.1) ∧ (∀ p ∈ kp, SqT K H p.1 [.str p.2.1, .str p.2.2]) ∧ kp.length < 64 ∧
  ∀ a, H a = none → Q (.ref a) (upd H a (SetO P w a kp))
theorem cr_setP (hc : X.calm = true) (hu : X.A.units + 64 < cLine) : CallR X (.type "set") (rSetP X.K X.prog X.w) := by
  intro pins s σ H xs us Q I r h
  obtain ⟨l, kp, rfl, hl, hk, few, q⟩ := h
  rw [Vals.ref1 r]
  obtain ⟨its, rv, pl, _⟩ := I.list hl
  refine call_set (knd := SK X.prog X.w) (ks := keyed kp) (quiet_str _ _) (I.ok.hd hc) pl.isList (by simpa using refs_back rv) (keys_of I hk) (by rw [List.length_map]; exact few) (by omega) fun h' tk es ep t R g k => ?_
  rw [List.length_map] at g
  exact ⟨.ref s.heap.objs.size, upd H s.heap.objs.size (SetO X.prog X.w s.heap.objs.size kp), I.laid (t' := tk) k (Nat.le_refl _) (setO_new ⟨es, ep, t, R, g⟩), rfl, q _ (I.hok.fresh (Nat.le_refl _))⟩
/-- sorted(s), s such a set: some of the pairs, at least one if there is any -/
def rSortP (K : PySem.W.Frag) (P : Program) (w : World) : List V → Hp → VK → Prop := fun vs H Q => ∃ (a : Addr) (kp : List Two), vs = [V.ref a] ∧ H a = some (SetO P w a kp) ∧ (∀ p ∈ kp, SqT K H p.1 [.str p.2.1, .str p.2.2]) ∧
  ∀ (L : List Two) (p : Addr), (∀ b ∈ L, b ∈ kp) → L.length ≤ kp.length → (kp ≠ [] → L ≠ []) → H p = none → Q (.ref p) (upd H p (.lst (L.map fun q => V.ref q.1)))
theorem cr_sortP (hc : X.calm = true) (hu : X.A.units + 64 < cLine) : CallR X (.builtin "sorted") (rSortP X.K X.prog X.w) := by
  intro pins s σ H vs us Q I r h
  obtain ⟨a, kp, rfl, ha, hk, q⟩ := h
  have R0 : SetW X.prog X.w s.heap a kp := (I.hok a _ ha).1
  obtain ⟨es, ep, t, R, g⟩ := R0.ex
  rw [Vals.ref1 r]
  refine sort_set R (keys_of I hk) (I.ok.hd hc) hu fun s1 p out c L k1 g1 o1 hp hg ho hm hl => ?_
  have hz : (L.map fun q => V.ref q.1).length ≤ sizeLine := by
    have := R.few
    rw [List.length_map, sizeLine_eq]
    omega
  have hn : H p = none := I.hok.fresh hp
  have J : Inv X pins σ (upd H p (.lst (L.map fun q => V.ref q.1))) { s with heap := s1.heap, gens := s1.gens, drawn := s1.drawn, toks := s1.toks } :=
    I.call (ch := []) (Un.laid k1 hp hn) (I.hok.laid k1 hp ⟨hz, out.toList, c, by rw [ho]; exact refs_there L, hg⟩) (by rw [g1]; exact I.bare) (fun _ z => nomatch z)
  have e : s1 = { s with heap := s1.heap, gens := s1.gens, drawn := s1.drawn, toks := s1.toks } := by
    cases s1
    cases s
    cases o1
    rfl
  rw [e]
  refine ⟨.ref p, _, J, rfl, q L p hm (by have := g.le; omega) (fun ne z => ?_) hn⟩
  rw [z] at hl
  have : 0 < kp.length := List.length_pos_iff.mpr ne
  have := g.pos this
  rw [← hl] at this
  exact absurd this (Nat.lt_irrefl _)
end
end ST
set_option Elab.async false
set_option linter.all false
set_option maxRecDepth 100000
set_option maxHeartbeats 4000000
namespace ST
open PySem PySem.Spec PyProof.Rows L2
section
variable {P : Program} {w : World} {A : Around} {R : Result → Shared → Prop} {E : Value → Shared → Prop} {s : Shared}
abbrev ofL (its : List Value) (n : Nat) : Obj := { cls := .type "list", dict := none, data := .seq its.toArray n, slots := #[] }
/-- what the first i parts hold -/
def upto (parts : List (Addr × List Value)) (i : Nat) : List Value := (parts.take i).flatMap (·.2)
theorem upto_next {parts : List (Addr × List Value)} {i : Nat} {p : Addr × List Value} (h : parts[i]? = some p) : upto parts (i + 1) = upto parts i ++ p.2 := by
  unfold upto
  rw [List.take_succ, h, List.flatMap_append]
  simp
theorem upto_le (parts : List (Addr × List Value)) (i : Nat) : (upto parts i).length ≤ (parts.flatMap (·.2)).length := by
  unfold upto
  have e := List.take_append_drop i parts
  have e2 := congrArg (fun l : List (Addr × List Value) => (l.flatMap (·.2)).length) e
  simp only [List.flatMap_append, List.length_append] at e2
  omega
theorem sum_loop {I ax : Addr} {items : Array Value} (hh : A.in1.handled = none) (ne : ax ≠ I) (parts : List (Addr × List Value)) (hn : items.size = parts.length) (hv : ∀ (i : Nat) (v : Value), items[i]? = some v → ∃ p, parts[i]? = some p ∧ v = Value.ref p.1) (S : Addr) (nS : S ∉ [I, ax])
    (h0 : Heap) (hk : ∀ p ∈ parts, ∃ m, h0.get? p.1 = some (ofL p.2 m)) (hS0 : h0.get? S = none) (hS1 : h0.objs.size ≤ S) (hI0 : h0.get? I = none) (hz : (parts.flatMap (·.2)).length ≤ sizeLine) :
    ∀ (m i : Nat) (s : Shared) (r : Addr) (c c2 : Nat), items.size - i = m → i ≤ items.size → (s.heap.IsListIter I ax i ∧ s.heap.IsList ax items) → (∀ b o, h0.get? b = some o → s.heap.get? b = some o) →
      s.heap.get? S = some { cls := .type "list", dict := none, data := .seq #[.ref r] c, slots := #[] } → s.heap.get? r = some (ofL (upto parts i) c2) → r ∉ [S, I] →
      (∀ s1 r1 c1, (∀ b o, h0.get? b = some o → s1.heap.get? b = some o) → s1.gens = s.gens → s1.drawn = s.drawn → s1.os = s.os → s1.heap.get? r1 = some (ofL (upto parts items.size) c1) → (r1 = r ∨ h0.objs.size ≤ r1) → R (.ok (.ret (.ref r1))) s1) →
      codeAny (model P w) A (.builtin "sum.loop" ⟨[.ref I, .ref S, rawInt 2, rawInt 0], []⟩) R s := by
  have W := (Walks.list (prog := P) (w := w) hh I ax ne items).toS
  have up : ∀ b ∈ [I], b ∈ [S, I] := fun b z => List.mem_cons_of_mem _ z
  intro m
  induction m with
  | zero =>
    intro i s r c c2 hm hi st kp hS hr nr hR
    obtain rfl : i = items.size := by omega
    refine codeAny_builtin F.entry_sum_loop ?_
    rw [Around.under_plainId F.plain_sum_loop _]
    show wpAny _ A.in1 (seqItems? (.ref S) >>= _) _ _ s
    refine wpAny_bind (wpAny_seqItems hS rfl ?_)
    show wpAny _ A.in1 (tryCatch (pyNext (.ref I)) _ >>= _) _ _ s
    refine wpAny_bind (wpAny_tryCatch (W.done s _ _ st fun s1 mv => ?_))
    refine wpAny_pure (hR s1 r c2 (fun b o e => mv.heap b o (fun z => ?_) (kp b o e)) mv.gens mv.drawn mv.os (mv.heap r _ (fun z => nr (up _ z)) hr) (.inl rfl))
    rw [List.mem_singleton.mp z, hI0] at e
    cases e
  | succ m ih =>
    intro i s r c c2 hm hi st kp hS hr nr hR
    have lt : i < items.size := by omega
    refine codeAny_builtin F.entry_sum_loop ?_
    rw [Around.under_plainId F.plain_sum_loop _]
    show wpAny _ A.in1 (seqItems? (.ref S) >>= _) _ _ s
    refine wpAny_bind (wpAny_seqItems hS rfl ?_)
    show wpAny _ A.in1 (tryCatch (pyNext (.ref I)) _ >>= _) _ _ s
    refine wpAny_bind (wpAny_tryCatch (W.item i s _ _ lt st fun v s1 pv st1 mv => ?_))
    obtain ⟨p, hp, rfl⟩ := hv i v pv
    have kp1 : ∀ b o, h0.get? b = some o → s1.heap.get? b = some o := fun b o e => mv.heap b o (fun z => by rw [List.mem_singleton.mp z, hI0] at e; cases e) (kp b o e)
    have hS9 := mv.heap S _ (fun z => nS (by rw [List.mem_singleton.mp z]; simp)) hS
    have hr1 := mv.heap r _ (fun z => nr (up _ z)) hr
    obtain ⟨pm, hpm⟩ := hk p (List.mem_of_getElem? hp)
    have hp1 := kp1 _ _ hpm
    have ln := upto_le parts (i + 1)
    rw [upto_next hp, List.length_append] at ln
    show wpAny _ A.in1 ((holding [Value.ref p.1] (binaryOp .Add (.ref r) (.ref p.1))).attempt >>= _) _ _ _
    refine wpAny_bind (wpAny_attempt (wpAny_holding (PySem.P.add_list hr1 hp1 ?_ (by rw [List.size_toArray, List.size_toArray]; omega))))
    have ea : (upto parts i).toArray ++ p.2.toArray = (upto parts (i + 1)).toArray := by rw [upto_next hp]; simp
    rw [ea]
    have hS2 : (s1.heap.push { cls := .type "list", data := .seq (upto parts (i + 1)).toArray }).get? S = _ := Heap.get?_push_of_some _ hS9
    have hr2 : (s1.heap.push { cls := .type "list", data := .seq (upto parts (i + 1)).toArray }).get? s1.heap.objs.size = some (ofL (upto parts (i + 1)) 0) := Heap.get?_push_size _ rfl
    have iI : I < s1.heap.objs.size := by
      obtain ⟨⟨o, e, _⟩, _⟩ := st1
      exact Heap.lt_size e
    have iS : S < s1.heap.objs.size := Heap.lt_size hS9
    have kp2 : ∀ b o, s1.heap.get? b = some o → (s1.heap.push { cls := .type "list", data := .seq (upto parts (i + 1)).toArray }).get? b = some o := fun b o e => Heap.get?_push_of_some _ e
    have sI := st1
    generalize hnew : s1.heap.objs.size = N at hr2 iI iS ⊢
    have hN0 : h0.objs.size ≤ N := Nat.le_of_lt (Nat.lt_of_le_of_lt hS1 iS)
    generalize (s1.heap.push { cls := .type "list", data := .seq (upto parts (i + 1)).toArray }) = h2 at hS2 hr2 kp2 ⊢
    show wpAny _ A.in1 (updateSeq S (fun _ => #[.ref N]) >>= _) _ _ _
    refine wpAny_bind (wpAny_updateSeq hS2 rfl ?_)
    have hS3 := Heap.get?_update_self (Obj.mapSeq fun _ => #[Value.ref N]) hS2 rfl
    have off : ∀ b o, b ≠ S → h2.get? b = some o → (h2.update S (Obj.mapSeq fun _ => #[Value.ref N])).get? b = some o := fun b o z e => (Heap.get?_update_other _ _ (fun y : S = b => z y.symm)).trans e
    refine wpAny_bind (wpAny_letGo ?_)
    refine wpAny_bind (wpAny_updateSeq hS3 rfl ?_)
    have hS4 := Heap.get?_update_self (Obj.mapSeq fun _ => #[Value.ref N]) hS3 rfl
    have off2 : ∀ b o, b ≠ S → h2.get? b = some o → ((h2.update S (Obj.mapSeq fun _ => #[Value.ref N])).update S (Obj.mapSeq fun _ => #[Value.ref N])).get? b = some o := fun b o z e => (Heap.get?_update_other _ _ (fun y : S = b => z y.symm)).trans (off b o z e)
    refine wpAny_pure ⟨plainId_quiet F.plain_sum_loop _, ih (i + 1) _ N _ 0 (by omega) lt ?_ (fun b o e => ?_) hS4 (off2 _ _ (Nat.ne_of_gt iS) hr2) ?_ fun s3 r3 c3 k3 g3 d3 o3 e3 x3 => ?_⟩
    · refine ⟨sI.1.at fun o e => off2 _ _ (fun z => nS (by rw [← z]; simp)) (kp2 _ _ e), sI.2.at fun o e => off2 _ _ (fun z => nS (by rw [← z]; simp)) (kp2 _ _ e)⟩
    · exact off2 b o (fun z => by rw [z, hS0] at e; cases e) (kp2 _ _ (kp1 b o e))
    · simp only [List.mem_cons, List.not_mem_nil, or_false, not_or]
      exact ⟨Nat.ne_of_gt iS, Nat.ne_of_gt iI⟩
    · refine hR s3 r3 c3 k3 (g3.trans mv.gens) (d3.trans mv.drawn) (o3.trans mv.os) e3 (.inr ?_)
      rcases x3 with z | z
      · rw [z]
        exact hN0
      · exact z
theorem args_sum2 (x y : Value) : argsOk "sum" ⟨[x, y], []⟩ := by unfold argsOk; kernel_rfl
theorem sub_l1 : isSubtype (.type "list") (.type "str") = pure false := by rw [isSubtype_type]; kernel_rfl
theorem sub_l2 : isSubtype (.type "list") (.type "bytes") = pure false := by rw [isSubtype_type]; kernel_rfl
theorem sub_l3 : isSubtype (.type "list") (.type "bytearray") = pure false := by rw [isSubtype_type]; kernel_rfl
/-- sum(l, z): l a list of lists, z an empty list -/
theorem call_sumL {l z : Addr} {items : Array Value} (hh : A.handled = none) (hl : s.heap.IsList l items) (parts : List (Addr × List Value)) (hit : items.toList = parts.map fun p => Value.ref p.1)
    (hk : ∀ p ∈ parts, ∃ m, s.heap.get? p.1 = some (ofL p.2 m)) {zn : Nat} (hz : s.heap.get? z = some (ofL [] zn)) (hL : (parts.flatMap (·.2)).length ≤ sizeLine) {Q : Value → Shared → Prop}
    (h : ∀ (h' : Heap) (tk : Nat) (r : Addr) (c : Nat), (∀ b o, s.heap.get? b = some o → h'.get? b = some o) → h'.get? r = some (ofL (parts.flatMap (·.2)) c) → (r = z ∨ s.heap.objs.size ≤ r) → Q (.ref r) { s with heap := h', toks := tk }) :
    wpAny (model P w) A (call (.builtin "sum") [.ref l, .ref z]) Q E s := by
  have isz : items.size = parts.length := by rw [← Array.length_toList, hit, List.length_map]
  have tz : s.TypeIs (.ref z) "list" := ⟨_, hz, rfl⟩
  refine call_function_tree F.kind_sum F.plain_sum F.entry_sum (args_sum2 _ _) ?_
  unfold Builtin.«sum»
  simp only [List.length_cons, List.length_nil]
  rw [if_neg (by decide)]
  refine wpAny_bind (wpAny_of_eq (show Builtin.Builtins.bindParams "sum" ["start"] 0 ⟨[.ref z], []⟩ = pure [some (.ref z)] from rfl) ?_)
  refine wpAny_bind (wpAny_pyIter_list hl ?_)
  obtain ⟨⟨oc, od, odt, osl⟩, ol, cl, nl, dl⟩ := id hl
  have lt : l < s.heap.objs.size := Heap.lt_size ol
  have ltz : z < s.heap.objs.size := Heap.lt_size hz
  have over : ∀ b, s.heap.objs.size ≤ b → s.heap.get? b = none := fun b hb => by
    cases e : s.heap.get? b with
    | none => rfl
    | some o => exact absurd (Nat.lt_of_lt_of_le (Heap.lt_size e) hb) (Nat.lt_irrefl _)
  have kI : ∀ b o, s.heap.get? b = some o → (s.heap.push { cls := .type "list_iterator", data := .fields #[.ref l, .int 0 0] }).get? b = some o := fun b o e => Heap.get?_push_of_some _ e
  have aI : (s.heap.push { cls := .type "list_iterator", data := .fields #[.ref l, .int 0 0] }).IsListIter s.heap.objs.size l 0 := ⟨_, Heap.get?_push_size _ rfl, rfl, rfl⟩
  have zI : (s.heap.push { cls := .type "list_iterator", data := .fields #[.ref l, .int 0 0] }).objs.size = s.heap.objs.size + 1 := Heap.size_push ..
  generalize s.heap.push { cls := .type "list_iterator", data := .fields #[.ref l, .int 0 0] } = h1 at kI aI zI ⊢
  refine wpAny_bind (wpAny_pure ?_)
  simp only [List.forIn_cons, List.forIn_nil]
  have tz1 : Shared.TypeIs { s with heap := h1 } (.ref z) "list" := ⟨_, kI _ _ hz, rfl⟩
  refine wpAny_bind (wpAny_bind (wpAny_bind (wpAny_isInstance (T := "list") (b := false) tz1 sub_l1 ?_)))
  simp only [Bool.false_eq_true, if_false]
  refine wpAny_pure (wpAny_bind (wpAny_bind (wpAny_isInstance (T := "list") (b := false) tz1 sub_l2 ?_)))
  simp only [Bool.false_eq_true, if_false]
  refine wpAny_pure (wpAny_bind (wpAny_bind (wpAny_isInstance (T := "list") (b := false) tz1 sub_l3 ?_)))
  simp only [Bool.false_eq_true, if_false]
  refine wpAny_pure (wpAny_pure ?_)
  refine wpAny_bind (wpAny_newObj_type ?_)
  refine wpAny_pure ⟨plainId_quiet F.plain_sum_loop _, ?_⟩
  have nSI : h1.objs.size ≠ s.heap.objs.size := by rw [zI]; exact Nat.succ_ne_self _
  refine sum_loop (I := s.heap.objs.size) (ax := l) (items := items) (by simp [hh]) (Nat.ne_of_lt lt) parts isz (fun i v e => ?_) h1.objs.size ?_ s.heap hk (over _ (by rw [zI]; exact Nat.le_succ _)) (by rw [zI]; exact Nat.le_succ _) (over _ (Nat.le_refl _)) hL (items.size - 0) 0 _ z 0 zn rfl (Nat.zero_le _)
    ⟨aI.at fun o e => Heap.get?_push_of_some _ e, hl.at fun o e => Heap.get?_push_of_some _ (kI _ _ e)⟩ (fun b o e => Heap.get?_push_of_some _ (kI _ _ e)) (Heap.get?_push_size _ rfl) (Heap.get?_push_of_some _ (kI _ _ hz)) ?_ fun s1 r1 c1 k1 g1 d1 o1 e1 x1 => ?_
  · have e2 : items.toList[i]? = some v := by rw [Array.getElem?_toList]; exact e
    rw [hit, List.getElem?_map] at e2
    obtain ⟨p, hp, ep⟩ := Option.map_eq_some_iff.mp e2
    exact ⟨p, hp, ep.symm⟩
  · simp only [List.mem_cons, List.not_mem_nil, or_false, not_or]
    exact ⟨nSI, by rw [zI]; exact Nat.ne_of_gt (Nat.lt_succ_of_lt lt)⟩
  · simp only [List.mem_cons, List.not_mem_nil, or_false, not_or]
    exact ⟨by rw [zI]; exact Nat.ne_of_lt (Nat.lt_succ_of_lt ltz), Nat.ne_of_lt ltz⟩
  · obtain ⟨h3, g3, d3, tk3, os3⟩ := s1
    obtain rfl : g3 = s.gens := g1
    obtain rfl : d3 = s.drawn := d1
    obtain rfl : os3 = s.os := o1
    have e2 : upto parts items.size = parts.flatMap (·.2) := by
      unfold upto
      rw [isz, List.take_length]
    rw [e2] at e1
    exact h h3 tk3 r1 c1 k1 e1 x1
end
section
variable {X : Cx}
/-- sum(l, []): l a list of lists -/
def rSumL (K : PySem.W.Frag) : List V → Hp → VK → Prop := fun vs H Q => ∃ (l z : Addr) (parts : List (Addr × List V)), vs = [V.ref l, V.ref z] ∧ SqL K H l (parts.map fun p => V.ref p.1) ∧ (∀ p ∈ parts, H p.1 = some (.lst p.2)) ∧ H z = some (.lst []) ∧ (parts.flatMap (·.2)).length ≤ sizeLine ∧
  (parts.flatMap (·.2) = [] → Q (.ref z) H) ∧ ∀ r, H r = none → Q (.ref r) (upd H r (.lst (parts.flatMap (·.2))))
theorem raw_parts {pins : List (Addr × Obj)} {σ : L2.St} {H : Hp} {s : Shared} (I : Inv X pins σ H s) : ∀ (parts : List (Addr × List V)), (∀ p ∈ parts, H p.1 = some (.lst p.2)) → ∃ raw : List (Addr × List Value), raw.map Prod.fst = parts.map Prod.fst ∧ (∀ p ∈ raw, ∃ m, s.heap.get? p.1 = some (ofL p.2 m)) ∧ Vals (parts.flatMap (·.2)) (raw.flatMap (·.2)) ∧ (raw.flatMap (·.2)).length = (parts.flatMap (·.2)).length
  | [], _ => ⟨[], rfl, fun p m => absurd m (by simp), .nil, rfl⟩
  | p :: parts, h => by
    obtain ⟨raw, e1, e2, e3, e4⟩ := raw_parts I parts fun q m => h q (List.mem_cons_of_mem _ m)
    obtain ⟨z, its, n, rv, hl, e⟩ := I.lstM (h p List.mem_cons_self)
    refine ⟨(p.1, its) :: raw, by rw [List.map_cons, List.map_cons, e1], fun q m => ?_, by rw [List.flatMap_cons, List.flatMap_cons]; exact rv.append e3, by rw [List.flatMap_cons, List.flatMap_cons, List.length_append, List.length_append, e4, ← hl]⟩
    cases m with
    | head => exact ⟨n, e⟩
    | tail _ m => exact e2 q m
theorem refs_at : ∀ {xs : List Addr} {us : List Value}, Vals (xs.map V.ref) us → us = xs.map Value.ref
  | [], _, .nil => rfl
  | x :: xs, _, .cons r t => by
    cases r
    rw [refs_at t] <;> rfl
theorem vals2 {x y : Addr} {us : List Value} (r : Vals [V.ref x, V.ref y] us) : us = [Value.ref x, Value.ref y] := refs_at (xs := [x, y]) r
theorem cr_sumL (hc : X.calm = true) : CallR X (.builtin "sum") (rSumL X.K) := by
  intro pins s σ H vs us Q I rr h
  obtain ⟨l, z, parts, rfl, hl, hp, hz, hL, q1, q2⟩ := h
  rw [vals2 rr]
  obtain ⟨its, rv, pl, _⟩ := I.list hl
  obtain ⟨raw, e1, e2, e3, e4⟩ := raw_parts I parts hp
  obtain ⟨_, zi, zn, zr, zl, ze⟩ := I.lstM hz
  cases zr
  have ei : its = raw.map fun p => Value.ref p.1 := by
    have k := refs_at (xs := parts.map Prod.fst) (us := its) (by rw [List.map_map]; exact rv)
    rw [k, ← e1, List.map_map] <;> rfl
  refine call_sumL (I.ok.hd hc) pl.isList raw (by simpa using ei) e2 ze (by rw [e4]; exact hL) fun h' tk r c k er x => ?_
  have I1 : Inv X pins σ H { s with heap := h', toks := tk } := I.kept k
  rcases x with x | x
  · subst x
    have e5 := k _ _ ze
    rw [er] at e5
    injection e5 with e5
    have e6 : raw.flatMap (·.2) = [] := by
      have := congrArg Obj.data e5
      simp only [Data.seq.injEq] at this
      have := congrArg Array.toList this.1
      simpa using this
    have e7 : parts.flatMap (·.2) = [] := List.length_eq_zero_iff.mp (by rw [← e4, e6]; rfl)
    exact ⟨.ref r, H, I1, rfl, q1 e7⟩
  · exact ⟨.ref r, upd H r (.lst (parts.flatMap (·.2))), I.laid k x ⟨hL, raw.flatMap (·.2), c, e3, er⟩, rfl, q2 r (I.hok.fresh x)⟩
end
end ST
set_option Elab.async false
set_option linter.all false
set_option maxRecDepth 100000
set_option maxHeartbeats 4000000
namespace W1
open PySem PySem.Spec PyProof.Rows L2 RZ CA
section
variable {P : Program} {w : World} {K : PySem.W.Frag} {mg : Str → Option Value} {base : Heap}
/-- a method's call, within a comprehension too -/
theorem pe_bmK {X : Cx} {K : PySem.W.Frag} {o e : Expr} {es : List Expr} {to : TE} {t : TA} {name : Str} {apos cpos : Pos} {T id : String} {r : V → List V → Hp → VK → Prop} (hk : X.K = K) (pa : PlainAttrs T) (slot : Slot T name id) (hty : typeOf (.builtin id) = pure (.type "method_descriptor")) (hm : MtR X id r) (ho : PE X o to) (ha : PA X (e :: es) t)
    (hbase : attributeBase o name X.env (eval o X.env) = eval o X.env := by rfl)
    (hfew : ((backTo cpos (starEach (e :: es) X.env)).all (fun x => !x.1) && (backToKw cpos (keywordEach [] X.env)).all (fun x => x.1.isSome)
      && decide ((e :: es).length + ([] : List Keyword).length + (if ([] : List Keyword).isEmpty then 0 else 1) < 30)) = true := by rfl)
    (hline : (apos.endLine == cpos.line) = true := by rfl) (hs : starEach (e :: es) X.env = (false, eval e X.env) :: starEach es X.env := by rfl) (hplain : (backTo cpos (starEach es X.env)).any (·.1) = false := by rfl) :
    PE X (.Call (.Attribute o name apos) (e :: es) [] cpos) (tBM K T r to t) := by
  subst hk
  exact pe_bm pa slot hty hm ho ha hbase hfew hline hs hplain
def rLenK (K : PySem.W.Frag) : List V → Hp → VK → Prop := fun vs H Q => ∃ (a : Addr) (xs : List V), vs = [.ref a] ∧ SqL K H a xs ∧ Q (.int xs.length) H
theorem call_lenK {X : Cx} {K : PySem.W.Frag} (hk : X.K = K) : CallR X (.builtin "len") (rLenK K) := by
  subst hk
  intro pins s σ H vs us Q I r h
  obtain ⟨a, xs, e, hs, q⟩ := h
  exact call_len_seq pins s σ H vs us Q I r ⟨a, xs, e, .inl hs, q⟩
theorem WellAt.mono {H H' : Hp} {p : Addr} (h : WellAt H p) (e : Same H H') : WellAt H' p := by
  obtain ⟨a, b, c, q⟩ := h
  exact ⟨a, b, c, e _ _ q⟩
theorem But.new {p q : Addr} {H : Hp} {o : HO} (h : H q = none) : But p H (L2.upd H q o) := But.of (Same.new h)
theorem But.mut {p R : Addr} {H H' : Hp} {o : HO} (b : But p H H') (h : H R = none) : But p H (L2.upd H' R o) := fun c u e n => by
  rw [upd_ne (ne_of_none e h)]
  exact b c u e n
theorem But.then {p : Addr} {H H' H2 : Hp} (b : But p H H') (e : Same H' H2) : But p H H2 := b.trans (But.of e)
theorem WellAt.nn {H : Hp} {p q : Addr} (h : WellAt H p) (hq : H q = none) : q ≠ p := by
  obtain ⟨_, _, _, e⟩ := h
  exact (ne_of_none e hq).symm
theorem WellAt.put {H : Hp} {p q : Addr} {o : HO} (h : WellAt H p) (hq : q ≠ p) : WellAt (upd H q o) p := by
  obtain ⟨a, b, c, e⟩ := h
  exact ⟨a, b, c, by rw [upd_ne hq.symm]; exact e⟩
theorem WellAt.neT {H : Hp} {p a : Addr} {xs : List V} (h : WellAt H p) (ha : H a = some (.tup xs)) : a ≠ p := by
  obtain ⟨_, _, _, q⟩ := h
  exact ne_of ha q (by intro z; cases z)
/-- a list whose first is no int is not the source of draws -/
theorem WellAt.neL {H : Hp} {p a : Addr} {xs : List V} (h : WellAt H p) (ha : H a = some (.lst xs)) (hx : ∀ n, xs.head? ≠ some (.int n)) : a ≠ p := by
  obtain ⟨n, _, _, q⟩ := h
  exact ne_of ha q (by
    intro z
    have e := HO.lst.inj z
    rw [e] at hx
    exact hx n rfl)
theorem head_refs {as : List Addr} : ∀ n, (as.map V.ref).head? ≠ some (.int n) := by
  intro n
  cases as <;> simp
theorem head_strs {as : List Str} : ∀ n, (as.map V.str).head? ≠ some (.int n) := by
  intro n
  cases as <;> simp
theorem WellAt.refs {H H' : Hp} {p : Addr} {a : Addr} {as : List Addr} (h : WellAt H p) (b : But p H H') (ha : H a = some (.lst (as.map V.ref))) : H' a = some (.lst (as.map V.ref)) := b _ _ ha (h.neL ha head_refs)
theorem WellAt.strs {H H' : Hp} {p : Addr} {a : Addr} {as : List Str} (h : WellAt H p) (b : But p H H') (ha : H a = some (.lst (as.map V.str))) : H' a = some (.lst (as.map V.str)) := b _ _ ha (h.neL ha head_strs)
theorem WellAt.tup {H H' : Hp} {p : Addr} {a : Addr} {xs : List V} (h : WellAt H p) (b : But p H H') (ha : H a = some (.tup xs)) : H' a = some (.tup xs) := b _ _ ha (h.neT ha)
theorem PairsG.but {H H' : Hp} {p : Addr} {ps : List Addr} {qs : List (Str × Str)} (h : PairsG H ps qs) (w : WellAt H p) (b : But p H H') : PairsG H' ps qs := ⟨h.len, fun i a q e1 e2 => w.tup b (h.at_ i a q e1 e2)⟩
/-- what is told anew: new ones, but for some -/
abbrev New (H0 : Hp) (b : Addr) : Prop := H0 b = none
/-- all but D and p stays -/
def But2 (D p : Addr) (H H' : Hp) : Prop := ∀ b u, H b = some u → b ≠ D → b ≠ p → H' b = some u
theorem But.two {D p : Addr} {H H' : Hp} (b : But p H H') : But2 D p H H' := fun c u e _ n => b c u e n
theorem But2.upd {D p : Addr} {H : Hp} {o : HO} : But2 D p H (upd H D o) := fun c u e n _ => by
  rw [upd_ne n]
  exact e
theorem KeepZ.butp {Z : Addr → Prop} {H H' : Hp} {p : Addr} (w : WellAt H p) (hz : ∀ b, Z b → b ≠ p) (b : But p H H') : KeepZ Z H H' := ⟨fun c ys h => b _ _ h (w.neT h), fun c ys n h => b _ _ h (hz _ n)⟩
theorem KeepZ.but2 {Z : Addr → Prop} {H H' : Hp} {D p : Addr} {xs : List V} (hD : H D = some (.lst xs)) (w : WellAt H p) (hz : ∀ b, Z b → b ≠ D ∧ b ≠ p) (b : But2 D p H H') : KeepZ Z H H' :=
  ⟨fun c ys h => b _ _ h (ne_of h hD (by intro z; cases z)) (w.neT h), fun c ys n h => b _ _ h (hz _ n).1 (hz _ n).2⟩
/-- a comprehension whose elements draw -/
theorem lc_p {J : It} {n : Nat} {G : Hp → Prop} {Y : Nat → Hp → V → Hp → Prop} (w : Walk J n G Y) {gg : TG} {te : TE} {vs : List Nat} {σ : L2.St} {H0 : Hp} {D p : Addr} {Qd : Hp → Prop} (hD : H0 D = none) (hw : WellAt H0 p) (R : Nat → Hp → V → Prop) (hn : n < 100000)
    (stab : ∀ i H H' v xs, H D = some (.lst xs) → WellAt H p → But2 D p H H' → R i H v → R i H' v) (hG : ∀ H, But p H0 H → G H)
    (hs : ∀ i H x H' xs, i < n → But p H0 H → WellAt H p → H D = some (.lst xs) → Y i H x H' → ∀ Qe : VK, (∀ v H4, But p H H4 → WellAt H4 p → R i H4 v → Qe v H4) → gg x (wipe σ vs) H' fun σ2 H2 => wipe σ2 vs = wipe σ vs ∧ te σ2 H2 Qe)
    (hd : ∀ (H : Hp) (xs : List V), But p H0 H → WellAt H p → xs.length = n → (∀ (i : Nat) v, xs[i]? = some v → R i H v) → H D = some (.lst xs) → Qd H) :
    ∃ W : Nat → Nat → Hp → Prop, (∃ m, W 0 m (upd H0 D (.lst []))) ∧ ∀ i m H, W i m H →
      (J.stop i H ∧ Qd H) ∨ (J.go i H ∧ ∃ Nx : Hp → Prop, (∀ H', Nx H' → ∃ m', m' < m ∧ W (i + 1) m' H') ∧ ∀ x H', J.yld i H x H' → gg x (wipe σ vs) H' fun σ2 H2 => wipe σ2 vs = wipe σ vs ∧ tYes σ2 H2 fun b H3 =>
        if b = true then te σ2 H3 fun y H4 => ∃ acc, H4 D = some (.lst acc) ∧ acc.length < sizeLine ∧ Nx (upd H4 D (.lst (acc ++ [y]))) else Nx H3) := by
  have nD : D ≠ p := hw.nn hD
  refine lc_it w (fun i H => (But p H0 H ∧ WellAt H p) ∧ ∃ xs : List V, xs.length = i ∧ (∀ (j : Nat) v, xs[j]? = some v → R j H v) ∧ H D = some (.lst xs)) ⟨⟨But.new hD, hw.put nD⟩, [], rfl, fun j v e => by simp at e, upd_same⟩ (fun i H _ q => hG H q.1.1) (fun i x H H' hi q y => ?_) (fun H q => ?_)
  · obtain ⟨⟨b1, w1⟩, xs, hl, hx, hDD⟩ := q
    have q := hs i H x H' xs hi b1 w1 hDD y (fun y H4 => ∃ acc, H4 D = some (.lst acc) ∧ acc.length < sizeLine ∧ ((But p H0 (upd H4 D (.lst (acc ++ [y]))) ∧ WellAt (upd H4 D (.lst (acc ++ [y]))) p) ∧ ∃ xs : List V, xs.length = i + 1 ∧ (∀ (j : Nat) v, xs[j]? = some v → R j (upd H4 D (.lst (acc ++ [y]))) v) ∧ upd H4 D (.lst (acc ++ [y])) D = some (.lst xs))) (fun v H4 b4 w4 mv => ?_)
    · exact q
    · have h4 := b4 _ _ hDD nD
      refine ⟨xs, h4, sz_lt (by omega), ⟨(b1.trans b4).mut hD, w4.put nD⟩, xs ++ [v], by rw [List.length_append, hl]; rfl, fun j u e => stab j H4 _ u xs h4 w4 But2.upd ?_, upd_same⟩
      by_cases hj : j < xs.length
      · rw [List.getElem?_append_left hj] at e
        exact stab j H H4 u xs hDD w1 b4.two (hx j u e)
      · rw [List.getElem?_append_right (by omega)] at e
        have h2 := (List.getElem?_eq_some_iff.mp e).1
        simp at h2
        have ej : j = i := by omega
        have e0 : j - xs.length = 0 := by omega
        rw [e0] at e
        rw [← Option.some.inj e, ej]
        exact mv
  · obtain ⟨⟨b1, w1⟩, xs, hl, hx, hDD⟩ := q
    exact hd H xs b1 w1 hl hx hDD
theorem cut_take {xs : List V} {n : Nat} : cutV xs none (some (n : Int)) = xs.take n := by
  unfold cutV
  rw [HT.sIx_none, HT.sIx_nat]
  simp
theorem cut_drop {xs : List V} {n : Nat} (h : n ≤ xs.length) : cutV xs (some (n : Int)) none = xs.drop n := by
  unfold cutV
  rw [HT.sIx_none, HT.sIx_nat, Nat.min_eq_left h]
  exact List.take_of_length_le (by rw [List.length_drop]; exact Nat.le_refl _)
theorem perm_erase {α : Type} {l : List α} {k : Nat} {x : α} (h : l[k]? = some x) : l.Perm (x :: l.eraseIdx k) := by
  induction l generalizing k with
  | nil => simp at h
  | cons a l ih =>
    cases k with
    | zero =>
      rw [← Option.some.inj h]
      exact .refl _
    | succ k =>
      have q := ih (k := k) (by simpa using h)
      exact (List.Perm.cons a q).trans (.swap _ _ _)
theorem seqN {k n : Nat} (h : k < n) : seqIndex? (k : Int) n = some k := by
  have q := seqIndex_of (k := (k : Int)) (n := n) (by omega) (by omega)
  rw [q]
  simp
end
end W1
set_option Elab.async false
set_option linter.all false
set_option maxRecDepth 100000
set_option maxHeartbeats 4000000
namespace W1
open PySem PySem.Spec PyProof.Rows L2 RZ CA
section
variable {P : Program} {w : World} {K : PySem.W.Frag} {mg : Str → Option Value} {base : Heap}

/-- up to so many of some things, in any order: in a new list -/
def spSome : Sp := fun vs H Q _ => ∃ (p a : Addr) (xs : List V) (m : Nat), vs = [.ref p, .ref a, .int m] ∧ WellAt H p ∧ H a = some (.lst xs) ∧ xs.length ≤ 100 ∧ m ≤ 100 ∧
  ∀ (l : Addr) (ys zs : List V) (H' : Hp), But p H H' → WellAt H' p → H l = none → H' l = some (.lst ys) → (ys ++ zs).Perm xs → ys.length ≤ m → Q (.ref l) H'
theorem sc_L_some : FnScope ["_law_well_here", "_law_items", "_law_most", "_law_left", "_law_found", "_law_turn"] ["_law_well_here", "_law_items", "_law_most"] (defScope s_L_some) := ⟨rfl, rfl, rfl, by decide +kernel, rfl, by decide +kernel, by decide +kernel⟩
theorem ok_L_some (T : Ctx w K mg) (H_L_draw : Has P w K mg base 2 "_law_draw" ["_law_well_here", "_law_many"] spDraw) : Has P w K mg base 3 "_law_some" ["_law_well_here", "_law_items", "_law_most"] spSome := by
  obtain ⟨fd, F⟩ := T.D_L_some
  obtain ⟨fd_L_draw, G_L_draw, b_L_draw⟩ := H_L_draw.ex
  refine ⟨⟨fd, F.ok sc_L_some (fun vs H Q E h => ?_) (fun cdv A outer s H vs Q E hr h => ?_), F.bindsN fun _ _ _ _ _ _ us hl => match us, hl with | [_, _, _], _ => rfl⟩, F.kp, T.g_L_some⟩
  · obtain ⟨p, a, xs, m, rfl, hw, ha, hx, hm, k⟩ := h; rfl
  · obtain ⟨p, a, xs, m, rfl, hw, ha, hx, hm, k⟩ := h
    have hr_L_draw : Room 2 _ := hr.mono (by decide)
    have hu := hu_of hr
    refine ⟨_, PSs.nox (pss_cons (ps_par (i := 3) (j := 4) (by rfl) sc_L_some.nd rfl rfl (by decide) rfl rfl (pa_cons (pe_callTy call_list_of (by rfl) T.f_list (by decide +kernel) (pa_cons (pv 1) pa_nil)) (pa_cons (pe_lst pa_nil) pa_nil)) (by rfl))
      (pss_cons (ps_for PassesOwn.never rfl (pi_range1 (by rfl) T.f_range (pa_cons (pe_callB (call_min2 rfl) (by rfl) T.f_min (by decide +kernel) (pa_cons (pe_callB call_len_seq (by rfl) T.f_len (by decide +kernel) (pa_cons (pv 3) pa_nil)) (pa_cons (pe_call G_L_draw hr_L_draw (by rfl) H_L_draw.gl H_L_draw.kp b_L_draw .nil pass0 (pa_cons (pv 0) (pa_cons (pe_op op_add (pv 2) pe_int) pa_nil))) pa_nil))) pa_nil)) (pg_name (i := 5) sc_L_some.nd rfl (Or.inl rfl))
      (pss_one (ps_expr (pe_bm PySem.F.plainAttrs_list PySem.F.slot_list_append PySem.F.type_list_append mt_append (pv 4) (pa_cons (pe_bmK (K := K) rfl PySem.F.plainAttrs_list PySem.F.slot_list_pop PySem.F.type_list_pop mt_popAt (pv 3) (pa_cons (pe_call G_L_draw hr_L_draw (by rfl) H_L_draw.gl H_L_draw.kp b_L_draw .nil pass0 (pa_cons (pv 0) (pa_cons (pe_callB call_len_seq (by rfl) T.f_len (by decide +kernel) (pa_cons (pv 3) pa_nil)) pa_nil))) pa_nil)) pa_nil)))))
      (pss_one (ps_ret (pv 4))))), ?_⟩
    refine ⟨_, rfl, a, xs, rfl, .inl (SqL.of ha), fun l1 hl1 => ?_⟩
    have s1 := Same.new (o := .lst xs) hl1
    refine ⟨sz_of (by show 0 ≤ 100000; decide), fun l2 hl2 => ?_⟩
    have s2 := Same.new (o := .lst []) hl2
    have n1 : l1 ≠ p := hw.nn hl1
    have n2 : l2 ≠ p := (hw.mono s1).nn hl2
    have n12 : l1 ≠ l2 := ne_of_none upd_same hl2
    have w2 := (hw.mono s1).mono s2
    refine ⟨_, _, rfl, _, rfl, _, _, rfl, .inl (SqL.of (s2 _ _ upd_same)), _, rfl, _, rfl, _, _, rfl, rfl, p, m + 1, rfl, w2, by omega, by omega, fun j H3 hj b3 w3 => ?_⟩
    have hN : ∃ N : Nat, (if (j : Int) < (xs.length : Int) then (j : Int) else (xs.length : Int)).toNat = N ∧ N ≤ xs.length ∧ N ≤ m ∧ (if (j : Int) < (xs.length : Int) then (j : Int) else (xs.length : Int)) = (N : Int) := by
      by_cases c : (j : Int) < (xs.length : Int)
      · rw [if_pos c]
        exact ⟨j, by omega, by omega, by omega, rfl⟩
      · rw [if_neg c]
        exact ⟨xs.length, by omega, by omega, by omega, rfl⟩
    obtain ⟨N, e1, N1, N2, e2⟩ := hN
    refine ⟨_, _, rfl, _, rfl, by omega, by omega, ?_⟩
    rw [e1]
    have B3 : But p H H3 := ((But.of s1).trans (But.of s2)).trans b3
    refine for_it (walk_range (lo := 0) (n := N)) (fun i σ H4 => ∃ (v5 : Option V), σ = [some (.ref p), some (.ref a), some (.int m), some (.ref l1), some (.ref l2), v5] ∧ But p H H4 ∧ WellAt H4 p ∧ ∃ ls ys : List V, H4 l1 = some (.lst ls) ∧ H4 l2 = some (.lst ys) ∧ ys.length = i ∧ (ys ++ ls).Perm xs) ⟨_, rfl, B3, w3, xs, [], b3 _ _ (s2 _ _ upd_same) n1, b3 _ _ upd_same n2, rfl, .refl _⟩ (fun _ _ _ _ _ => trivial) ?_ ?_
    · rintro i y σ H4 H5 hi ⟨v5, rfl, b4, w4, ls, ys, h1, h2, hl, hp⟩ ⟨rfl, hy⟩
      have hi2 : i < N := hi
      have hpl := hp.length_eq
      rw [List.length_append, hl] at hpl
      refine ⟨_, rfl, .inl ⟨rfl, _, SqL.of h2⟩, _, rfl, .inl ⟨rfl, _, SqL.of h1⟩, _, rfl, _, rfl, _, _, rfl, .inl (SqL.of h1), p, ls.length, rfl, w4, by omega, by omega, fun kk H6 hk b6 w6 => ?_⟩
      have h16 := b6 _ _ h1 n1
      have h26 := b6 _ _ h2 n2
      have hx2 : ls[kk]? = some ls[kk] := List.getElem?_eq_getElem hk
      refine ⟨l1, _, _, kk, ls[kk], rfl, rfl, h16, by omega, by omega, seqN hk, hx2, ?_⟩
      refine ⟨l2, _, _, rfl, rfl, by rw [upd_ne n12.symm]; exact h26, sz_lt (by omega), ?_⟩
      refine ⟨_, rfl, ((b4.trans b6).mut hl1).mut (none_of s1 hl2), (w6.put n1).put n2, ls.eraseIdx kk, ys ++ [ls[kk]], by rw [upd_ne n12, upd_same], upd_same, by rw [List.length_append, hl]; rfl, ?_⟩
      rw [List.append_assoc]
      exact (List.Perm.append_left ys (perm_erase hx2).symm).trans hp
    · rintro σ H4 ⟨v5, rfl, b4, w4, ls, ys, h1, h2, hl, hp⟩
      exact ⟨_, rfl, k l2 ys ls H4 b4 w4 (none_of s1 hl2) h2 hp (by omega)⟩

end
end W1
set_option Elab.async false
set_option linter.all false
set_option maxRecDepth 100000
set_option maxHeartbeats 4000000
namespace W1
open PySem PySem.Spec PyProof.Rows L2 RZ CA
section
variable {P : Program} {w : World} {K : PySem.W.Frag} {mg : Str → Option Value} {base : Heap}

/-- pairs of a permuted list -/
theorem PairsG.toP {H : Hp} : ∀ {ps : List Addr} {qs : List (Str × Str)}, PairsG H ps qs → Paired (fun p (q : Str × Str) => H p = some (.tup [.str q.1, .str q.2])) ps qs
  | [], [], _ => .nil
  | [], b :: ns, h => by have := h.len; simp at this
  | a :: qs, [], h => by have := h.len; simp at this
  | a :: qs, b :: ns, h => .cons (h.at_ 0 a b rfl rfl) (PairsG.toP (ps := qs) (qs := ns) ⟨by have := h.len; simpa using this, fun i p x e1 e2 => h.at_ (i + 1) p x (by simpa using e1) (by simpa using e2)⟩)
theorem pairsG_ofP {H : Hp} {ps : List Addr} {qs : List (Str × Str)} (h : Paired (fun p (q : Str × Str) => H p = some (.tup [.str q.1, .str q.2])) ps qs) : PairsG H ps qs := by
  induction h with
  | nil => exact ⟨rfl, fun i p q e _ => by simp at e⟩
  | cons h t ih =>
    refine ⟨congrArg Nat.succ ih.len, fun i p q e1 e2 => ?_⟩
    cases i with
    | zero =>
      rw [← Option.some.inj e1, ← Option.some.inj e2]
      exact h
    | succ i => exact ih.at_ i p q (by simpa using e1) (by simpa using e2)
theorem paired_perm {α β : Type} {R : α → β → Prop} {as ds : List α} (p : as.Perm ds) : ∀ {bs : List β}, Paired R as bs → ∃ cs, cs.Perm bs ∧ Paired R ds cs := by
  induction p with
  | nil =>
    intro bs h
    cases h
    exact ⟨[], .refl _, .nil⟩
  | cons x p ih =>
    intro bs h
    cases h with
    | cons h t =>
      obtain ⟨cs, q, r⟩ := ih t
      exact ⟨_, .cons _ q, .cons h r⟩
  | swap x y l =>
    intro bs h
    cases h with
    | cons h t =>
      cases t with
      | cons h2 t2 => exact ⟨_, .swap _ _ _, .cons h2 (.cons h t2)⟩
  | trans p1 p2 ih1 ih2 =>
    intro bs h
    obtain ⟨cs, q, r⟩ := ih1 h
    obtain ⟨ds, q2, r2⟩ := ih2 r
    exact ⟨ds, q2.trans q, r2⟩
theorem PairsG.perm {H : Hp} {ps ds : List Addr} {qs : List (Str × Str)} (h : PairsG H ps qs) (p : ds.Perm ps) : ∃ cs, cs.Perm qs ∧ PairsG H ds cs := by
  obtain ⟨cs, q, r⟩ := paired_perm p.symm h.toP
  exact ⟨cs, q, pairsG_ofP r⟩
theorem PairsG.take {H : Hp} {ps : List Addr} {qs : List (Str × Str)} (h : PairsG H ps qs) (n : Nat) : PairsG H (ps.take n) (qs.take n) :=
  ⟨by rw [List.length_take, List.length_take, h.len], fun i p q e1 e2 => by
    rw [List.getElem?_take] at e1 e2
    split at e1
    · rename_i c
      rw [if_pos c] at e2
      exact h.at_ i p q e1 e2
    · cases e1⟩
theorem PairsG.drop {H : Hp} {ps : List Addr} {qs : List (Str × Str)} (h : PairsG H ps qs) (n : Nat) : PairsG H (ps.drop n) (qs.drop n) :=
  ⟨by rw [List.length_drop, List.length_drop, h.len], fun i p q e1 e2 => by
    rw [List.getElem?_drop] at e1 e2
    exact h.at_ _ p q e1 e2⟩

/-- some of xs, each as often at the most -/
def Sub {α : Type} (ys xs : List α) : Prop := ∃ zs, (ys ++ zs).Perm xs
theorem perm_map {α β : Type} {f : α → β} {l r : List β} (p : l.Perm r) : ∀ {xs : List α}, r = xs.map f → ∃ ys : List α, l = List.map f ys ∧ ys.Perm xs := by
  induction p with
  | nil =>
    intro xs e
    exact ⟨[], rfl, by rw [List.map_eq_nil_iff.mp e.symm]⟩
  | cons x p ih =>
    intro xs e
    cases xs with
    | nil => cases e
    | cons a as =>
      rw [List.map_cons] at e
      obtain ⟨e1, e2⟩ := List.cons.inj e
      obtain ⟨ys, q, r⟩ := ih e2
      exact ⟨a :: ys, by rw [List.map_cons, e1, q], .cons a r⟩
  | swap x y l =>
    intro xs e
    cases xs with
    | nil => cases e
    | cons a as =>
      cases as with
      | nil => simp at e
      | cons b bs =>
        simp only [List.map_cons, List.cons.injEq] at e
        obtain ⟨e1, e2, e3⟩ := e
        exact ⟨b :: a :: bs, by simp [e1, e2, e3], .swap a b bs⟩
  | trans p1 p2 ih1 ih2 =>
    intro xs e
    obtain ⟨ys, q, r⟩ := ih2 e
    obtain ⟨zs, q2, r2⟩ := ih1 q
    exact ⟨zs, q2, r2.trans r⟩
/-- what was taken out of mapped things -/
theorem sub_map {α β : Type} {f : α → β} {ys zs : List β} {xs : List α} (p : (ys ++ zs).Perm (xs.map f)) : ∃ as bs : List α, ys = List.map f as ∧ zs = List.map f bs ∧ (as ++ bs).Perm xs := by
  obtain ⟨cs, e, q⟩ := perm_map p rfl
  refine ⟨cs.take ys.length, cs.drop ys.length, ?_, ?_, by rw [List.take_append_drop]; exact q⟩
  · rw [List.map_take, ← e, List.take_left]
  · rw [List.map_drop, ← e, List.drop_left]
theorem Sub.mem {α : Type} {ys xs : List α} (h : Sub ys xs) : ∀ y ∈ ys, y ∈ xs := fun y m => by
  obtain ⟨zs, p⟩ := h
  exact p.mem_iff.mp (List.mem_append_left _ m)
theorem Sub.nodup {α : Type} {ys xs : List α} (h : Sub ys xs) (n : xs.Nodup) : ys.Nodup := by
  obtain ⟨zs, p⟩ := h
  exact (List.nodup_append.mp (p.nodup_iff.mpr n)).1
theorem Sub.len {α : Type} {ys xs : List α} (h : Sub ys xs) : ys.length ≤ xs.length := by
  obtain ⟨zs, p⟩ := h
  have := p.length_eq
  rw [List.length_append] at this
  omega
theorem Sub.map {α β : Type} (f : α → β) {ys xs : List α} (h : Sub ys xs) : Sub (ys.map f) (xs.map f) := by
  obtain ⟨zs, p⟩ := h
  exact ⟨zs.map f, by rw [← List.map_append]; exact p.map f⟩
theorem Sub.take {α : Type} {ys xs : List α} (h : Sub ys xs) (n : Nat) : Sub (ys.take n) xs := by
  obtain ⟨zs, p⟩ := h
  exact ⟨ys.drop n ++ zs, by rw [← List.append_assoc, List.take_append_drop]; exact p⟩
/-- pairs taken out -/
theorem PairsG.sub {H : Hp} {ps as bs : List Addr} {qs : List (Str × Str)} (h : PairsG H ps qs) (p : (as ++ bs).Perm ps) : ∃ cs, Sub cs qs ∧ PairsG H as cs := by
  obtain ⟨cs, q, r⟩ := h.perm p
  refine ⟨cs.take as.length, ⟨cs.drop as.length, by rw [List.take_append_drop]; exact q⟩, ?_⟩
  have := r.take as.length
  rwa [List.take_left] at this
/-- one by one -/
def Each {α : Type} (R : Addr → α → Prop) (es : List Addr) (xs : List α) : Prop := es.length = xs.length ∧ ∀ (i : Nat) e x, es[i]? = some e → xs[i]? = some x → R e x
theorem Each.nil {α : Type} {R : Addr → α → Prop} : Each R [] [] := ⟨rfl, fun i e x a _ => by simp at a⟩
theorem Each.mono {α : Type} {R S : Addr → α → Prop} {es : List Addr} {xs : List α} (h : Each R es xs) (m : ∀ e x, x ∈ xs → R e x → S e x) : Each S es xs := ⟨h.1, fun i e x a b => m e x (List.mem_of_getElem? b) (h.2 i e x a b)⟩
theorem Each.snoc {α : Type} {R : Addr → α → Prop} {es : List Addr} {xs : List α} {e : Addr} {x : α} (h : Each R es xs) (r : R e x) : Each R (es ++ [e]) (xs ++ [x]) := by
  refine ⟨by rw [List.length_append, List.length_append, h.1]; rfl, fun i a y e1 e2 => ?_⟩
  by_cases c : i < es.length
  · rw [List.getElem?_append_left c] at e1
    rw [List.getElem?_append_left (by rw [← h.1]; exact c)] at e2
    exact h.2 i a y e1 e2
  · have ci : i = es.length := by
      have := (List.getElem?_eq_some_iff.mp e1).1
      rw [List.length_append, List.length_singleton] at this
      omega
    subst ci
    rw [List.getElem?_append_right (Nat.le_refl _), Nat.sub_self] at e1
    rw [h.1, List.getElem?_append_right (Nat.le_refl _), Nat.sub_self] at e2
    rw [← Option.some.inj e1, ← Option.some.inj e2]
    exact r
theorem Each.append {α : Type} {R : Addr → α → Prop} {es fs : List Addr} {xs ys : List α} (h : Each R es xs) (g : Each R fs ys) : Each R (es ++ fs) (xs ++ ys) := by
  refine ⟨by rw [List.length_append, List.length_append, h.1, g.1], fun i a y e1 e2 => ?_⟩
  by_cases c : i < es.length
  · rw [List.getElem?_append_left c] at e1
    rw [List.getElem?_append_left (by rw [← h.1]; exact c)] at e2
    exact h.2 i a y e1 e2
  · rw [List.getElem?_append_right (by omega)] at e1
    rw [List.getElem?_append_right (by rw [← h.1]; omega), ← h.1] at e2
    exact g.2 _ a y e1 e2
theorem Each.at_ {α : Type} {R : Addr → α → Prop} {es : List Addr} {xs : List α} (h : Each R es xs) {e : Addr} (m : e ∈ es) : ∃ x ∈ xs, R e x := by
  obtain ⟨i, hi, rfl⟩ := List.getElem_of_mem m
  have h2 : i < xs.length := by rw [← h.1]; exact hi
  exact ⟨xs[i], List.getElem_mem h2, h.2 i _ _ (List.getElem?_eq_getElem hi) (List.getElem?_eq_getElem h2)⟩
theorem LstR.of {α : Type} {R : Hp → Addr → α → Prop} {H : Hp} {a : Addr} {es : List Addr} {xs : List α} (h : H a = some (.lst (es.map V.ref))) (e : Each (R H) es xs) : LstR α R H a xs := ⟨es, h, e.1, e.2⟩
theorem take_succ_at {α : Type} {l : List α} {i : Nat} {x : α} (h : l[i]? = some x) : l.take (i + 1) = l.take i ++ [x] := by
  rw [List.take_succ, h]
  rfl
theorem none_but {p c : Addr} {H H1 : Hp} (b : But p H H1) (w1 : WellAt H1 p) (h : H1 c = none) : H c = none := by
  cases e : H c with
  | none => rfl
  | some u => exact absurd (b _ _ e (w1.nn h)) (by rw [h]; exact fun z => by cases z)
theorem Each.choose {α : Type} {R : Addr → α → Prop} : ∀ {ts : List Addr}, (∀ (i : Nat) e, ts[i]? = some e → ∃ x, R e x) → ∃ xs, Each R ts xs
  | [], _ => ⟨[], .nil⟩
  | t :: ts, h => by
    obtain ⟨x, hx⟩ := h 0 t rfl
    obtain ⟨xs, e, k⟩ := Each.choose (R := R) (ts := ts) fun i e a => h (i + 1) e (by simpa using a)
    refine ⟨x :: xs, by rw [List.length_cons, List.length_cons, e], fun i a y e1 e2 => ?_⟩
    cases i with
    | zero =>
      rw [← Option.some.inj e1, ← Option.some.inj e2]
      exact hx
    | succ i => exact k i a y (by simpa using e1) (by simpa using e2)
theorem Each.map {α β : Type} {R : Addr → α → Prop} {S : Addr → β → Prop} {f : α → β} {ts : List Addr} {xs : List α} (h : Each R ts xs) (m : ∀ e x, R e x → S e (f x)) : Each S ts (xs.map f) := by
  refine ⟨by rw [List.length_map]; exact h.1, fun i e y e1 e2 => ?_⟩
  rw [List.getElem?_map] at e2
  cases q : xs[i]? with
  | none => rw [q] at e2; cases e2
  | some x =>
    rw [q] at e2
    rw [← Option.some.inj e2]
    exact m e x (h.2 i e x e1 q)
theorem Each.all {α : Type} {R : Addr → α → Prop} {ts : List Addr} {xs : List α} (h : Each R ts xs) : ∀ x ∈ xs, ∃ e, R e x := fun x m => by
  obtain ⟨i, hi, rfl⟩ := List.getElem_of_mem m
  have h2 : i < ts.length := by rw [h.1]; exact hi
  exact ⟨ts[i], h.2 i _ _ (List.getElem?_eq_getElem h2) (List.getElem?_eq_getElem hi)⟩
end
end W1
set_option Elab.async false
set_option linter.all false
set_option maxRecDepth 100000
set_option maxHeartbeats 4000000
namespace W1
open PySem PySem.Spec PyProof.Rows L2 RZ CA
section
variable {P : Program} {w : World} {K : PySem.W.Frag} {mg : Str → Option Value} {base : Heap}

def CWS : List Str := ["cell", "pair", "k", "node9", "abcdefgh", "class"]
def FLD : List (Str × Str) := [("a", "number"), ("b", "object"), ("c1", "number"), ("next", "object"), ("number", "object")]
/-- drawn classes -/
structure ClW (cl : ClsT) : Prop where
  nm : Sub (cl.map Prod.fst) CWS
  fl : ∀ c ∈ cl, Sub c.2 FLD ∧ c.2.length ≤ 4
def spClassesL : Sp := fun vs H Q _ => ∃ (p : Addr), vs = [.ref p] ∧ WellAt H p ∧ ∀ (ca : Addr) (cl : ClsT) (H' : Hp), But p H H' → WellAt H' p → H ca = none → LstR _ (ClsZ (New H)) H' ca cl → ClW cl → Q (.ref ca) H'
theorem some_names {ys zs : List V} {ws : List Str} (h : (ys ++ zs).Perm (ws.map V.str)) : ∃ ns, ys = ns.map V.str ∧ Sub ns ws := by
  obtain ⟨as, bs, e1, _, q⟩ := sub_map h
  exact ⟨as, e1, bs, q⟩
theorem some_pairs {H : Hp} {ys zs : List V} {ts : List Addr} {qs : List (Str × Str)} (h : (ys ++ zs).Perm (ts.map V.ref)) (q : PairsG H ts qs) : ∃ ps cs, ys = ps.map V.ref ∧ PairsG H ps cs ∧ Sub cs qs := by
  obtain ⟨as, bs, e1, _, r⟩ := sub_map h
  obtain ⟨cs, s, t⟩ := q.sub r
  exact ⟨as, cs, e1, t, s⟩
theorem sc_L_classes : FnScope ["_law_well_here", "_law_fields", "_law_found", "_law_name"] ["_law_well_here"] (defScope s_L_classes) := ⟨rfl, rfl, rfl, by decide +kernel, rfl, by decide +kernel, by decide +kernel⟩
theorem ok_L_classes (T : Ctx w K mg) (H_L_some : Has P w K mg base 3 "_law_some" ["_law_well_here", "_law_items", "_law_most"] spSome) : Has P w K mg base 4 "_law_classes" ["_law_well_here"] spClassesL := by
  obtain ⟨fd, F⟩ := T.D_L_classes
  obtain ⟨fd_L_some, G_L_some, b_L_some⟩ := H_L_some.ex
  refine ⟨⟨fd, F.ok sc_L_classes (fun vs H Q E h => ?_) (fun cdv A outer s H vs Q E hr h => ?_), F.bindsN fun _ _ _ _ _ _ us hl => match us, hl with | [_], _ => rfl⟩, F.kp, T.g_L_classes⟩
  · obtain ⟨p, rfl, hw, k⟩ := h; rfl
  · obtain ⟨p, rfl, hw, k⟩ := h
    have hr_L_some : Room 3 _ := hr.mono (by decide)
    have hu := hu_of hr
    refine ⟨_, PSs.nox (pss_cons (ps_set (i := 1) sc_L_classes.nd rfl (Or.inl rfl) (pe_lst (pa_cons (pe_tup (pa_cons pe_str (pa_cons pe_str pa_nil))) (pa_cons (pe_tup (pa_cons pe_str (pa_cons pe_str pa_nil))) (pa_cons (pe_tup (pa_cons pe_str (pa_cons pe_str pa_nil))) (pa_cons (pe_tup (pa_cons pe_str (pa_cons pe_str pa_nil))) (pa_cons (pe_tup (pa_cons pe_str (pa_cons pe_str pa_nil))) pa_nil)))))))
      (pss_cons (ps_set (i := 2) sc_L_classes.nd rfl (Or.inl rfl) (pe_lst pa_nil))
      (pss_cons (ps_for PassesOwn.never rfl (pi_list (pe_call G_L_some hr_L_some (by rfl) H_L_some.gl H_L_some.kp b_L_some .nil pass0 (pa_cons (pv 0) (pa_cons (pe_lst (pa_cons pe_str (pa_cons pe_str (pa_cons pe_str (pa_cons pe_str (pa_cons pe_str (pa_cons pe_str pa_nil))))))) (pa_cons pe_int pa_nil))))) (pg_name (i := 3) sc_L_classes.nd rfl (Or.inl rfl))
      (pss_one (ps_expr (pe_bm PySem.F.plainAttrs_list PySem.F.slot_list_append PySem.F.type_list_append mt_append (pv 2) (pa_cons (pe_tup (pa_cons (pv 3) (pa_cons (pe_call G_L_some hr_L_some (by rfl) H_L_some.gl H_L_some.kp b_L_some .nil pass0 (pa_cons (pv 0) (pa_cons (pv 1) (pa_cons pe_int pa_nil)))) pa_nil))) pa_nil)))))
      (pss_one (ps_ret (pv 2)))))), ?_⟩
    refine ⟨sz_of (by show 2 ≤ 100000; decide), fun t1 g1 => ⟨sz_of (by show 2 ≤ 100000; decide), fun t2 g2 => ⟨sz_of (by show 2 ≤ 100000; decide), fun t3 g3 => ⟨sz_of (by show 2 ≤ 100000; decide), fun t4 g4 => ⟨sz_of (by show 2 ≤ 100000; decide), fun t5 g5 => ⟨sz_of (by show 5 ≤ 100000; decide), fun lf gf => ?_⟩⟩⟩⟩⟩⟩
    have s1 := Same.new (o := .tup [.str "a", .str "number"]) g1
    have s2 := Same.new (o := .tup [.str "b", .str "object"]) g2
    have s3 := Same.new (o := .tup [.str "c1", .str "number"]) g3
    have s4 := Same.new (o := .tup [.str "next", .str "object"]) g4
    have s5 := Same.new (o := .tup [.str "number", .str "object"]) g5
    have sf := Same.new (o := .lst [.ref t1, .ref t2, .ref t3, .ref t4, .ref t5]) gf
    have z4 := s5.trans sf
    have z3 := s4.trans z4
    have z2 := s3.trans z3
    have z1 := s2.trans z2
    have z0 := s1.trans z1
    refine ⟨sz_of (by show 0 ≤ 100000; decide), fun l0 g0 => ?_⟩
    have s0 := Same.new (o := .lst []) g0
    have hl0 : H l0 = none := none_of z0 g0
    have n0 : l0 ≠ p := hw.nn hl0
    refine ⟨_, rfl, sz_of (by show 6 ≤ 100000; decide), fun lw gw => ?_⟩
    have sw := Same.new (o := .lst (CWS.map V.str)) gw
    have hz : ∀ {b : Addr} {u : HO}, upd (upd (upd (upd (upd (upd H t1 (.tup [.str "a", .str "number"])) t2 (.tup [.str "b", .str "object"])) t3 (.tup [.str "c1", .str "number"])) t4 (.tup [.str "next", .str "object"])) t5 (.tup [.str "number", .str "object"])) lf (.lst [.ref t1, .ref t2, .ref t3, .ref t4, .ref t5]) b = some u → upd (upd (upd (upd (upd (upd (upd (upd H t1 (.tup [.str "a", .str "number"])) t2 (.tup [.str "b", .str "object"])) t3 (.tup [.str "c1", .str "number"])) t4 (.tup [.str "next", .str "object"])) t5 (.tup [.str "number", .str "object"])) lf (.lst [.ref t1, .ref t2, .ref t3, .ref t4, .ref t5])) l0 (.lst [])) lw (.lst (CWS.map V.str)) b = some u := fun e => sw _ _ (s0 _ _ e)
    have PF : PairsG (upd (upd (upd (upd (upd (upd (upd (upd H t1 (.tup [.str "a", .str "number"])) t2 (.tup [.str "b", .str "object"])) t3 (.tup [.str "c1", .str "number"])) t4 (.tup [.str "next", .str "object"])) t5 (.tup [.str "number", .str "object"])) lf (.lst [.ref t1, .ref t2, .ref t3, .ref t4, .ref t5])) l0 (.lst [])) lw (.lst (CWS.map V.str))) [t1, t2, t3, t4, t5] FLD := by
      refine ⟨rfl, fun i a q e1 e2 => ?_⟩
      match i, e1, e2 with
      | 0, e1, e2 => cases e1; cases e2; exact hz (z1 _ _ upd_same)
      | 1, e1, e2 => cases e1; cases e2; exact hz (z2 _ _ upd_same)
      | 2, e1, e2 => cases e1; cases e2; exact hz (z3 _ _ upd_same)
      | 3, e1, e2 => cases e1; cases e2; exact hz (z4 _ _ upd_same)
      | 4, e1, e2 => cases e1; cases e2; exact hz (sf _ _ upd_same)
      | n + 5, e1, e2 => simp at e1
    have hlf := hz (upd_same (a := lf) (o := .lst ([t1, t2, t3, t4, t5].map V.ref)))
    have hl0w := sw _ _ (upd_same (a := l0) (o := .lst []))
    have sz := (z0.trans s0).trans sw
    have ww := hw.mono sz
    refine ⟨p, lw, CWS.map V.str, 6, rfl, ww, upd_same, by decide, by decide, fun l1 ys zs H1 b1 w1 n1 h1 p1 len1 => ?_⟩
    have B1 : But p H H1 := (But.of sz).trans b1
    obtain ⟨ns, rfl, hns⟩ := some_names (ws := CWS) p1
    have PF1 := PF.but ww b1
    have hlf1 := ww.refs b1 hlf
    have hl01 := b1 _ _ hl0w n0
    have nl1 : l1 ≠ p := ww.nn n1
    have n10 : l1 ≠ l0 := (ne_of_none hl0w n1).symm
    refine ⟨l1, rfl, ⟨_, SqL.of h1⟩, ?_⟩
    have nlf0 : lf ≠ l0 := ne_of_none upd_same g0
    clear hz PF hlf hl0w b1
    refine for_it (walk_list (K := K) (a := l1) (xs := ns.map V.str)) (fun i σ H4 => ∃ (v3 : Option V), σ = [some (.ref p), some (.ref lf), some (.ref l0), v3] ∧ But p H H4 ∧ WellAt H4 p ∧ PairsG H4 [t1, t2, t3, t4, t5] FLD ∧ H4 lf = some (.lst ([t1, t2, t3, t4, t5].map V.ref)) ∧ H4 l1 = some (.lst (ns.map V.str)) ∧ ∃ (es : List Addr) (cl : ClsT), H4 l0 = some (.lst (es.map V.ref)) ∧ cl.map Prod.fst = ns.take i ∧ Each (ClsZ (fun b => New H b ∧ b ≠ l0) H4) es cl ∧ ∀ c ∈ cl, Sub c.2 FLD ∧ c.2.length ≤ 4) ⟨_, rfl, B1, w1, PF1, hlf1, h1, [], [], hl01, rfl, .nil, fun c m => by cases m⟩ (fun i σ H4 _ ⟨_, _, _, _, _, _, h, _⟩ => SqL.of h) ?_ ?_
    · rintro i y σ Hx H4 hi ⟨v3, rfl, b4, w4, P4, f4, h4, es, cl, e4, c4, E4, O4⟩ ⟨rfl, hy⟩
      obtain ⟨x, hx, rfl⟩ := map_get hy
      refine ⟨_, rfl, .inl ⟨rfl, _, SqL.of e4⟩, _, rfl, _, rfl, _, rfl, p, lf, _, 4, rfl, w4, f4, by show 5 ≤ 100; decide, by decide, fun l2 ys2 zs2 H6 b6 w6 n6 h6 p6 len6 => ?_⟩
      obtain ⟨ps, cs, rfl, PC, SC⟩ := some_pairs p6 (P4.but w4 b6)
      refine ⟨sz_of (by show 2 ≤ 100000; decide), fun e he => ?_⟩
      have s7 := Same.new (o := .tup [.str x, .ref l2]) he
      have nl2 : H l2 = none := none_but b4 w4 n6
      have l20 : l2 ≠ l0 := (ne_of_none e4 n6).symm
      have e6 := b6 _ _ e4 n0
      have he0 : e ≠ l0 := (ne_of_none e6 he).symm
      have k6 : KeepZ (fun b => New H b ∧ b ≠ l0) H4 H6 := .butp w4 (fun b z => (hw.nn z.1)) b6
      have e7 := s7 _ _ e6
      refine ⟨l0, _, _, rfl, rfl, e7, sz_lt (by rw [List.length_map, E4.1]; have := congrArg List.length c4; rw [List.length_map, List.length_take] at this; have := hns.len; have e : CWS.length = 6 := rfl; omega), ?_⟩
      have k8 : KeepZ (fun b => New H b ∧ b ≠ l0) H6 (upd (upd H6 e (.tup [.str x, .ref l2])) l0 (.lst (es.map V.ref ++ [.ref e]))) :=
        ⟨fun b xs h => by rw [upd_ne (ne_of (s7 _ _ h) e7 (by intro z; cases z))]; exact s7 _ _ h, fun b xs z h => by rw [upd_ne z.2]; exact s7 _ _ h⟩
      refine ⟨_, rfl, ((b4.trans b6).mut (none_but (b4.trans b6) w6 he)).mut hl0, ?_, ?_, ?_, ?_, es ++ [e], cl ++ [(x, cs)], by rw [upd_same, List.map_append]; rfl, by rw [List.map_append, c4, take_succ_at hx]; rfl, ?_, ?_⟩
      · exact (w6.mono s7).put n0
      · exact (P4.but w4 b6).keepZ k8
      · rw [upd_ne nlf0]
        exact s7 _ _ (w4.refs b6 f4)
      · rw [upd_ne n10]
        exact s7 _ _ (w4.strs b6 h4)
      · refine (E4.mono fun a c _ h => (h.to (fun _ z => z) k6).to (fun _ z => z) k8).snoc ⟨l2, ps, ?_, ⟨nl2, l20⟩, ?_, PC.keepZ k8⟩
        · rw [upd_ne he0]
          exact upd_same
        · rw [upd_ne l20]
          exact s7 _ _ h6
      · intro c m
        rcases List.mem_append.mp m with m | m
        · exact O4 c m
        · rw [List.mem_singleton.mp m]
          refine ⟨SC, ?_⟩
          rw [← PC.len]
          rw [List.length_map] at len6
          exact len6
    · rintro σ H4 ⟨v3, rfl, b4, w4, P4, f4, h4, es, cl, e4, c4, E4, O4⟩
      refine ⟨_, rfl, k l0 cl H4 b4 w4 hl0 ⟨es, e4, E4.1, fun i e c a b => (E4.2 i e c a b).to (fun _ z => z.1) (.of (Same.refl _))⟩ ⟨?_, O4⟩⟩
      rw [c4, List.length_map]
      exact hns.take _

end
end W1
set_option Elab.async false
set_option linter.all false
set_option maxRecDepth 100000
set_option maxHeartbeats 4000000
namespace W1
open PySem PySem.Spec PyProof.Rows L2 RZ CA
section
variable {P : Program} {w : World} {K : PySem.W.Frag} {mg : Str → Option Value} {base : Heap}

def W12 : List Str := ["i", "n", "s", "number", "w", "x1", "t", "u", "class", "o", "p", "abcdefgh"]
def TIT : List Str := ["f", "main", "g2", "cell", "object", "if"]
/-- a function's head, as it is handed on -/
def HeadT (Z : Addr → Prop) (H : Hp) (e : Addr) (f : FdT) : Prop := ∃ (pa oa : Addr) (ps qs : List Addr), H e = some (.tup [.str f.nm, .ref pa, .ref oa, .str f.res]) ∧ (Z pa ∧ Z oa) ∧ H pa = some (.lst (ps.map V.ref)) ∧ PairsG H ps f.ns ∧ H oa = some (.lst (qs.map V.ref)) ∧ PairsG H qs f.ms
theorem HeadT.to {Z Y : Addr → Prop} {H H' : Hp} {e : Addr} {f : FdT} (h : HeadT Z H e f) (g : ∀ b, Z b → Y b) (k : KeepZ Z H H') : HeadT Y H' e f := by
  obtain ⟨pa, oa, ps, qs, h1, ⟨z1, z2⟩, h2, h3, h4, h5⟩ := h
  exact ⟨pa, oa, ps, qs, k.1 _ _ h1, ⟨g _ z1, g _ z2⟩, k.2 _ _ z1 h2, h3.keepZ k, k.2 _ _ z2 h4, h5.keepZ k⟩
structure HOk (f : FdT) : Prop where
  vs : Sub ((f.ns ++ f.ms).map Prod.fst) W12
  kd : ∀ q ∈ f.ns ++ f.ms, IsKind q.2
  l4 : f.ns.length ≤ 4
  l8 : f.ms.length ≤ 8
  rs : IsKind f.res
structure HdW (hs : List FdT) : Prop where
  nm : hs.map FdT.nm = TIT.take hs.length
  l1 : 1 ≤ hs.length
  l6 : hs.length ≤ 6
  ok : ∀ f ∈ hs, HOk f
def spHeads : Sp := fun vs H Q _ => ∃ p, vs = [.ref p] ∧ WellAt H p ∧ ∀ (l : Addr) (hs : List FdT) (H' : Hp), But p H H' → WellAt H' p → H l = none → LstR FdT (HeadT (New H)) H' l hs → HdW hs → Q (.ref l) H'
theorem kind_in {v : V} (h : v ∈ [V.str "number", V.str "object"]) : ∃ q, v = .str q ∧ IsKind q := by
  simp only [List.mem_cons, List.not_mem_nil, or_false] at h
  rcases h with rfl | rfl
  · exact ⟨_, rfl, .inl rfl⟩
  · exact ⟨_, rfl, .inr rfl⟩
theorem pairs_kinds {H : Hp} : ∀ {W : List Str} {ts : List Addr}, ts.length = W.length → (∀ (i : Nat) e, ts[i]? = some e → ∃ q, IsKind q ∧ H e = some (.tup [.str (W.getD i ""), .str q])) → ∃ qs, PairsG H ts qs ∧ qs.map Prod.fst = W ∧ ∀ q ∈ qs, IsKind q.2
  | [], [], _, _ => ⟨[], ⟨rfl, fun i p q e _ => by simp at e⟩, rfl, fun q m => by cases m⟩
  | x :: W, t :: ts, h, k => by
    obtain ⟨qs, ⟨p1, p2⟩, e, m⟩ := pairs_kinds (W := W) (ts := ts) (by simpa using h) fun i e a => by simpa using k (i + 1) e (by simpa using a)
    obtain ⟨q, hq, ht⟩ := k 0 t rfl
    refine ⟨(x, q) :: qs, ⟨by simp [p1], fun i p y a b => ?_⟩, by rw [List.map_cons, e], fun y z => ?_⟩
    · cases i with
      | zero =>
        rw [← Option.some.inj a, ← Option.some.inj b]
        exact ht
      | succ i => exact p2 i p y (by simpa using a) (by simpa using b)
    · rcases List.mem_cons.mp z with z | z
      · rw [z]
        exact hq
      · exact m y z
theorem cut_mid {xs : List V} {n : Nat} (h : n ≤ xs.length) : ∃ k, k ≤ 8 ∧ cutV xs (some (n : Int)) (some ((n : Int) + 8)) = (xs.drop n).take k := by
  unfold cutV
  have e : ((n : Int) + 8) = ((n + 8 : Nat) : Int) := by omega
  rw [e, HT.sIx_nat, HT.sIx_nat, Nat.min_eq_left h]
  exact ⟨_, by omega, rfl⟩
theorem sc_L_heads : FnScope ["_law_well_here", "_law_words", "_law_found", "_law_name", "_law_names", "_law_some_here", "_law_many", "_law_word"] ["_law_well_here"] (defScope s_L_heads) := ⟨rfl, rfl, rfl, by decide +kernel, rfl, by decide +kernel, by decide +kernel⟩
theorem ok_L_heads (T : Ctx w K mg) (H_L_draw : Has P w K mg base 2 "_law_draw" ["_law_well_here", "_law_many"] spDraw) (H_L_pick : Has P w K mg base 3 "_law_pick" ["_law_well_here", "_law_items"] (spPick K)) (H_L_some : Has P w K mg base 3 "_law_some" ["_law_well_here", "_law_items", "_law_most"] spSome) : Has P w K mg base 4 "_law_heads" ["_law_well_here"] spHeads := by
  obtain ⟨fd, F⟩ := T.D_L_heads
  obtain ⟨fd_L_draw, G_L_draw, b_L_draw⟩ := H_L_draw.ex
  obtain ⟨fd_L_pick, G_L_pick, b_L_pick⟩ := H_L_pick.ex
  obtain ⟨fd_L_some, G_L_some, b_L_some⟩ := H_L_some.ex
  refine ⟨⟨fd, F.ok sc_L_heads (fun vs H Q E h => ?_) (fun cdv A outer s H vs Q E hr h => ?_), F.bindsN fun _ _ _ _ _ _ us hl => match us, hl with | [_], _ => rfl⟩, F.kp, T.g_L_heads⟩
  · obtain ⟨p, rfl, hw, k⟩ := h; rfl
  · obtain ⟨p, rfl, hw, k⟩ := h
    have hr_L_draw : Room 2 _ := hr.mono (by decide)
    have hr_L_pick : Room 3 _ := hr.mono (by decide)
    have hr_L_some : Room 3 _ := hr.mono (by decide)
    have hu := hu_of hr
    refine ⟨_, PSs.nox (pss_cons (ps_par (i := 1) (j := 2) (by rfl) sc_L_heads.nd rfl rfl (by decide) rfl rfl (pa_cons (pe_lst (pa_cons pe_str (pa_cons pe_str (pa_cons pe_str (pa_cons pe_str (pa_cons pe_str (pa_cons pe_str (pa_cons pe_str (pa_cons pe_str (pa_cons pe_str (pa_cons pe_str (pa_cons pe_str (pa_cons pe_str pa_nil))))))))))))) (pa_cons (pe_lst pa_nil) pa_nil)) (by rfl))
      (pss_cons (ps_for PassesOwn.never rfl (pi_list (pe_slice sl_list (pe_lst (pa_cons pe_str (pa_cons pe_str (pa_cons pe_str (pa_cons pe_str (pa_cons pe_str (pa_cons pe_str pa_nil))))))) po_none (po_some (pe_op op_add pe_int (pe_call G_L_draw hr_L_draw (by rfl) H_L_draw.gl H_L_draw.kp b_L_draw .nil pass0 (pa_cons (pv 0) (pa_cons pe_int pa_nil))))))) (pg_name (i := 3) sc_L_heads.nd rfl (Or.inl rfl))
      (pss_cons (ps_setLc (i := 4) (own := [("_law_word", 7)]) (g := gName 7) (tt := tYes) rfl sc_L_heads.nd rfl rfl (sw_true rfl rfl rfl (by decide +kernel)) (pi_list (pv 1)) (blkOk_by (N := ["_law_well_here", "_law_words", "_law_found", "_law_name", "_law_names", "_law_some_here", "_law_many", "_law_word"]) (sc := defScope s_L_heads) (by decide +kernel)) (fun _ _ _ _ _ => (pg_name (i := 7) sc_L_heads.nd rfl (Or.inl rfl))) (fun _ _ _ _ _ => pts_nil) (fun _ _ _ _ _ => (pe_tup (pa_cons (pv 7) (pa_cons (pe_call G_L_pick hr_L_pick (by rfl) H_L_pick.gl H_L_pick.kp b_L_pick .nil pass0 (pa_cons (pv 0) (pa_cons (pe_lst (pa_cons pe_str (pa_cons pe_str pa_nil))) pa_nil))) pa_nil)))))
      (pss_cons (ps_set (i := 5) sc_L_heads.nd rfl (Or.inl rfl) (pe_call G_L_some hr_L_some (by rfl) H_L_some.gl H_L_some.kp b_L_some .nil pass0 (pa_cons (pv 0) (pa_cons (pv 4) (pa_cons pe_int pa_nil)))))
      (pss_cons (ps_set (i := 6) sc_L_heads.nd rfl (Or.inl rfl) (pe_call G_L_draw hr_L_draw (by rfl) H_L_draw.gl H_L_draw.kp b_L_draw .nil pass0 (pa_cons (pv 0) (pa_cons (pe_op op_add (pe_callB (call_min2 rfl) (by rfl) T.f_min (by decide +kernel) (pa_cons pe_int (pa_cons (pe_callB call_len_seq (by rfl) T.f_len (by decide +kernel) (pa_cons (pv 5) pa_nil)) pa_nil))) pe_int) pa_nil))))
      (pss_one (ps_expr (pe_bm PySem.F.plainAttrs_list PySem.F.slot_list_append PySem.F.type_list_append mt_append (pv 2) (pa_cons (pe_tup (pa_cons (pv 3) (pa_cons (pe_slice sl_list (pv 5) po_none (po_some (pv 6))) (pa_cons (pe_slice sl_list (pv 5) (po_some (pv 6)) (po_some (pe_op op_add (pv 6) pe_int))) (pa_cons (pe_call G_L_pick hr_L_pick (by rfl) H_L_pick.gl H_L_pick.kp b_L_pick .nil pass0 (pa_cons (pv 0) (pa_cons (pe_lst (pa_cons pe_str (pa_cons pe_str pa_nil))) pa_nil))) pa_nil))))) pa_nil))))))))
      (pss_one (ps_ret (pv 2))))), ?_⟩
    refine ⟨sz_of (by show 12 ≤ 100000; decide), fun lw gw => ⟨sz_of (by show 0 ≤ 100000; decide), fun l0 g0 => ?_⟩⟩
    have sw := Same.new (o := .lst (W12.map V.str)) gw
    have s0 := Same.new (o := .lst []) g0
    have hl0 : H l0 = none := none_of sw g0
    have n0 : l0 ≠ p := hw.nn hl0
    have nw : lw ≠ p := hw.nn gw
    have nw0 : lw ≠ l0 := ne_of_none upd_same g0
    refine ⟨_, _, rfl, sz_of (by show 6 ≤ 100000; decide), fun lt gt => ?_⟩
    have st := Same.new (o := .lst (TIT.map V.str)) gt
    have sa := (sw.trans s0).trans st
    have wa := hw.mono sa
    have hw1 := st _ _ (s0 _ _ (upd_same (a := lw) (o := .lst (W12.map V.str))))
    have h01 := st _ _ (upd_same (a := l0) (o := .lst []))
    refine ⟨_, rfl, p, 6, rfl, wa, by decide, by decide, fun j H1 hj b1 w1 => ?_⟩
    refine ⟨_, _, rfl, rfl, _, rfl, lt, _, rfl, SqL.of (b1 _ _ upd_same (wa.neL upd_same (head_strs (as := TIT)))), fun lc gc => ?_⟩
    have ec : cutV (TIT.map V.str) none (some (1 + (j : Int))) = (TIT.take (j + 1)).map V.str := by
      rw [show 1 + (j : Int) = ((j + 1 : Nat) : Int) by omega, cut_take, List.map_take]
    have sc := Same.new (o := .lst (cutV ([.str "f", .str "main", .str "g2", .str "cell", .str "object", .str "if"] : List V) none (some (1 + (j : Int))))) gc
    have w2 := w1.mono sc
    have b2 := ((But.of sa).trans b1).then sc
    have hlc : upd H1 lc (.lst (cutV ([.str "f", .str "main", .str "g2", .str "cell", .str "object", .str "if"] : List V) none (some (1 + (j : Int))))) lc = some (.lst ((TIT.take (j + 1)).map V.str)) := by rw [upd_same]; exact congrArg (fun l => some (HO.lst l)) ec
    have h02 := sc _ _ (b1 _ _ h01 n0)
    have hw2 := sc _ _ (b1 _ _ hw1 nw)
    have nc0 : lc ≠ l0 := (ne_of_none (b1 _ _ h01 n0) gc).symm
    refine ⟨lc, rfl, ⟨_, SqL.of hlc⟩, ?_⟩
    generalize upd H1 lc (.lst (cutV ([.str "f", .str "main", .str "g2", .str "cell", .str "object", .str "if"] : List V) none (some (1 + (j : Int))))) = H2 at w2 b2 hlc h02 hw2
    clear b1 w1 gc gt hw1 h01
    refine for_it (walk_list (K := K) (a := lc) (xs := (TIT.take (j + 1)).map V.str)) (fun i σ H4 => ∃ (v3 v4 v5 v6 v7 : Option V), σ = [some (.ref p), some (.ref lw), some (.ref l0), v3, v4, v5, v6, v7] ∧ But p H H4 ∧ WellAt H4 p ∧ H4 lw = some (.lst (W12.map V.str)) ∧ H4 lc = some (.lst ((TIT.take (j + 1)).map V.str)) ∧ ∃ (es : List Addr) (hs : List FdT), H4 l0 = some (.lst (es.map V.ref)) ∧ hs.map FdT.nm = (TIT.take (j + 1)).take i ∧ Each (HeadT (fun b => New H b ∧ b ≠ l0) H4) es hs ∧ ∀ f ∈ hs, HOk f) ⟨_, _, _, _, _, rfl, b2, w2, hw2, hlc, [], [], h02, rfl, .nil, fun c m => by cases m⟩ (fun i σ H4 _ ⟨_, _, _, _, _, _, _, _, _, h, _⟩ => SqL.of h) ?_ ?_
    · rintro i y σ Hx H4 hi ⟨v3, v4, v5, v6, v7, rfl, b4, w4, k4, c4, es, hs, e4, m4, E4, O4⟩ ⟨rfl, hy⟩
      obtain ⟨nm, hnm, rfl⟩ := map_get hy
      refine ⟨_, rfl, lw, rfl, ⟨_, SqL.of k4⟩, fun D gD => ?_⟩
      refine lc_p (walk_list (K := K) (a := lw) (xs := W12.map V.str)) gD w4 (fun i H5 v => ∃ e, v = .ref e ∧ ∃ q, IsKind q ∧ H5 e = some (.tup [.str (W12.getD i ""), .str q])) (by decide) (fun i H5 H6 v xs hD w5 b6 h => ?_) (fun H5 b5 => SqL.of (w4.strs b5 k4)) (fun i H5 y H6 xs hi2 b5 w5 hDl hy2 Qe qe => ?_) (fun H5 xs b5 w5 hl hx hD5 => ?_)
      · obtain ⟨e, rfl, q, hq, h⟩ := h
        exact ⟨e, rfl, q, hq, b6 _ _ h (ne_of h hD (by intro z; cases z)) (w5.neT h)⟩
      · obtain ⟨rfl, hy2⟩ := hy2
        obtain ⟨x, hx, rfl⟩ := map_get hy2
        refine ⟨rfl, _, rfl, _, rfl, sz_of (by show 2 ≤ 100000; decide), fun lk gk => ?_⟩
        have sk := Same.new (o := .lst [.str "number", .str "object"]) gk
        refine ⟨p, lk, _, rfl, w5.mono sk, w5.nn gk, upd_same, by show 0 < 2; decide, by show 2 ≤ 1000; decide, fun v H7 hv b7 w7 => ?_⟩
        obtain ⟨q, rfl, hq⟩ := kind_in hv
        refine ⟨sz_of (by show 2 ≤ 100000; decide), fun e ge => ?_⟩
        refine qe _ _ (((But.of sk).trans b7).then (Same.new ge)) (w7.mono (Same.new ge)) ⟨e, rfl, q, hq, ?_⟩
        rw [upd_same, List.getD_eq_getElem?_getD, hx]
        rfl
      obtain ⟨ts, rfl, hts⟩ := refs_of hx
      obtain ⟨qs, PQ, mq, kq⟩ := pairs_kinds (by rw [List.length_map] at hl; rw [hl, List.length_map]) hts
      have ql : qs.length = 12 := by
        have := congrArg List.length mq
        rw [List.length_map] at this
        exact this
      have e5 := b5 _ _ e4 n0
      have k5 := w4.strs b5 k4
      have c5 := w4.strs b5 c4
      refine ⟨_, rfl, _, rfl, p, D, _, 12, rfl, w5, hD5, by rw [List.length_map, PQ.len, ql]; decide, by decide, fun l2 ys zs H6 b6 w6 n6 h6 p6 len6 => ?_⟩
      obtain ⟨ps, cs, rfl, PC, SC⟩ := some_pairs p6 (PQ.but w5 b6)
      obtain ⟨M, eM, M1, M2⟩ : ∃ M : Nat, (if ((ps.map V.ref).length : Int) < 4 then ((ps.map V.ref).length : Int) else 4) = (M : Int) ∧ M ≤ ps.length ∧ M ≤ 4 := by
        rw [List.length_map]
        by_cases c : (ps.length : Int) < 4
        · rw [if_pos c]
          exact ⟨ps.length, rfl, Nat.le_refl _, by omega⟩
        · rw [if_neg c]
          exact ⟨4, rfl, by omega, Nat.le_refl _⟩
      refine ⟨_, rfl, _, rfl, _, _, rfl, .inl (SqL.of h6), _, _, rfl, _, _, rfl, rfl, p, M + 1, by rw [eM]; rfl, w6, by omega, by omega, fun m H7 hm b7 w7 => ?_⟩
      have h7 := w6.refs b7 h6
      have e7 := b7 _ _ (b6 _ _ e5 n0) n0
      have P7 := PC.but w6 b7
      have mp : m ≤ (ps.map V.ref).length := by rw [List.length_map]; omega
      obtain ⟨kk, hk8, ek⟩ := cut_mid (xs := ps.map V.ref) mp
      refine ⟨_, rfl, .inl ⟨rfl, _, SqL.of e7⟩, _, rfl, _, rfl, _, rfl, _, rfl, l2, _, rfl, SqL.of h7, fun la ga => ?_⟩
      rw [cut_take, ← List.map_take] at *
      have sA := Same.new (o := .lst ((ps.take m).map V.ref)) ga
      refine ⟨_, rfl, _, rfl, _, rfl, _, rfl, _, _, rfl, rfl, _, rfl, l2, _, rfl, SqL.of (sA _ _ h7), fun lb gb => ?_⟩
      rw [ek, ← List.map_drop, ← List.map_take] at *
      have sB := Same.new (o := .lst (((ps.drop m).take kk).map V.ref)) gb
      have sAB := sA.trans sB
      refine ⟨_, rfl, sz_of (by show 2 ≤ 100000; decide), fun lk gk => ?_⟩
      have sk := Same.new (o := .lst [.str "number", .str "object"]) gk
      have sC := sAB.trans sk
      have wk := w7.mono sC
      refine ⟨p, lk, _, rfl, wk, (w7.mono sAB).nn gk, upd_same, by show 0 < 2; decide, by show 2 ≤ 1000; decide, fun v H8 hv b8 w8 => ?_⟩
      obtain ⟨q, rfl, hq⟩ := kind_in hv
      have a8 := wk.refs b8 (sk _ _ (sB _ _ (upd_same (a := la) (o := .lst ((ps.take m).map V.ref)))))
      have bb8 := wk.refs b8 (sk _ _ (upd_same (a := lb) (o := .lst (((ps.drop m).take kk).map V.ref))))
      have P8 := (P7.mono sC).but wk b8
      have e8 := b8 _ _ (sC _ _ e7) n0
      refine ⟨sz_of (by show 4 ≤ 100000; decide), fun e he => ?_⟩
      have s9 := Same.new (o := .tup [.str nm, .ref la, .ref lb, .str q]) he
      have e9 := s9 _ _ e8
      have hk : hs.length = i := by
        have := congrArg List.length m4
        rw [List.length_map, List.length_take] at this
        have hi3 : i < ((TIT.take (j + 1)).map V.str).length := hi
        rw [List.length_map] at hi3
        omega
      have hk6 : i < 6 := by
        have hi3 : i < ((TIT.take (j + 1)).map V.str).length := hi
        rw [List.length_map, List.length_take] at hi3
        have e6 : TIT.length = 6 := rfl
        omega
      refine ⟨l0, _, _, rfl, rfl, e9, sz_lt (by rw [List.length_map, E4.1, hk]; omega), ?_⟩
      have B48 : But p H4 H8 := ((b5.trans b6).trans b7).trans ((But.of sC).trans b8)
      have k48 : KeepZ (fun b => New H b ∧ b ≠ l0) H4 H8 := .butp w4 (fun b z => hw.nn z.1) B48
      have k89 : KeepZ (fun b => New H b ∧ b ≠ l0) H8 (upd (upd H8 e (.tup [.str nm, .ref la, .ref lb, .str q])) l0 (.lst (es.map V.ref ++ [.ref e]))) :=
        ⟨fun b xs h => by rw [upd_ne (ne_of (s9 _ _ h) e9 (by intro z; cases z))]; exact s9 _ _ h, fun b xs z h => by rw [upd_ne z.2]; exact s9 _ _ h⟩
      have he0 : e ≠ l0 := (ne_of_none e8 he).symm
      have la0 : la ≠ l0 := (ne_of_none e7 ga).symm
      have lb0 : lb ≠ l0 := (ne_of_none (sA _ _ e7) gb).symm
      have b47 : But p H H7 := b4.trans ((b5.trans b6).trans b7)
      have nla : H la = none := none_but b47 w7 ga
      have nlb : H lb = none := none_but b47 w7 (none_of sA gb)
      have c9 := s9 _ _ (wk.strs b8 (sC _ _ (w6.strs b7 (w5.strs b6 c5))))
      have w9 := s9 _ _ (wk.strs b8 (sC _ _ (w6.strs b7 (w5.strs b6 k5))))
      have eT : cs.take m ++ (cs.drop m).take kk = cs.take (m + kk) := (List.take_add (l := cs)).symm
      have SCT : Sub (cs.take (m + kk)) qs := SC.take _
      refine ⟨_, _, _, _, _, rfl, ((b4.trans B48).mut (none_but (b4.trans B48) w8 he)).mut hl0, (w8.mono s9).put n0, by rw [upd_ne nw0]; exact w9, by rw [upd_ne nc0]; exact c9, es ++ [e], hs ++ [⟨nm, q, cs.take m, (cs.drop m).take kk, []⟩], by rw [upd_same, List.map_append]; rfl, by rw [List.map_append, m4, take_succ_at hnm]; rfl, ?_, ?_⟩
      · refine (E4.mono fun a f _ h => (h.to (fun _ z => z) k48).to (fun _ z => z) k89).snoc ⟨la, lb, ps.take m, (ps.drop m).take kk, ?_, ⟨⟨nla, la0⟩, ⟨nlb, lb0⟩⟩, ?_, (P8.take m).keepZ k89, ?_, ((P8.drop m).take kk).keepZ k89⟩
        · rw [upd_ne he0]
          exact upd_same
        · rw [upd_ne la0]
          exact s9 _ _ a8
        · rw [upd_ne lb0]
          exact s9 _ _ bb8
      · intro f hf
        rcases List.mem_append.mp hf with hf | hf
        · exact O4 f hf
        · rw [List.mem_singleton.mp hf]
          refine ⟨?_, fun q z => ?_, ?_, ?_, hq⟩
          · show Sub ((cs.take m ++ (cs.drop m).take kk).map Prod.fst) W12
            rw [eT, ← mq]
            exact SCT.map _
          · exact kq q (SCT.mem q (by rw [← eT]; exact z))
          · show (cs.take m).length ≤ 4
            rw [List.length_take]
            omega
          · show ((cs.drop m).take kk).length ≤ 8
            rw [List.length_take]
            omega
    · rintro σ H4 ⟨v3, v4, v5, v6, v7, rfl, b4, w4, k4, c4, es, hs, e4, m4, E4, O4⟩
      have hle : hs.length = (TIT.take (j + 1)).length := by
        have := congrArg List.length m4
        rw [List.length_map, List.length_take, List.length_map, Nat.min_self] at this
        exact this
      have hlt : (TIT.take (j + 1)).length = j + 1 := by
        rw [List.length_take]
        have e : TIT.length = 6 := rfl
        omega
      refine ⟨_, rfl, k l0 hs H4 b4 w4 hl0 (.of e4 (E4.mono fun e f _ h => h.to (fun _ z => z.1) (.of (Same.refl _)))) ⟨?_, by omega, by omega, O4⟩⟩
      rw [m4, List.length_map, hle, hlt, List.take_of_length_le (by rw [hlt]; exact Nat.le_refl _)]

end
end W1
set_option Elab.async false
set_option linter.all false
set_option maxRecDepth 100000
set_option maxHeartbeats 4000000
namespace W1
open PySem PySem.Spec PyProof.Rows L2 RZ CA
section
variable {P : Program} {w : World} {K : PySem.W.Frag} {mg : Str → Option Value} {base : Heap}

theorem lc_filt {J : It} {n : Nat} {G : Hp → Prop} {Y : Nat → Hp → V → Hp → Prop} (w : Walk J n G Y) {g : TG} {tt : TT} {te : TE} {vs : List Nat} {σ : L2.St} {H0 : Hp} {D : Addr} {Qd : Hp → Prop} (hD : H0 D = none) (f : Nat → V) (b : Nat → Bool) (hn : n < 100000)
    (hG : ∀ H, Same H0 H → G H)
    (hs : ∀ i H x H', i < n → Same H0 H → Y i H x H' → ∀ (Qe : VK) (Qn : Hp → Prop), (∀ H4, Same H H4 → b i = true → Qe (f i) H4) → (∀ H4, Same H H4 → b i = false → Qn H4) → g x (wipe σ vs) H' fun σ2 H2 => wipe σ2 vs = wipe σ vs ∧ tt σ2 H2 fun c H3 => if c = true then te σ2 H3 Qe else Qn H3)
    (hd : ∀ H, Same H0 H → H D = some (.lst (((List.range n).filter b).map f)) → Qd H) :
    ∃ W : Nat → Nat → Hp → Prop, (∃ m, W 0 m (upd H0 D (.lst []))) ∧ ∀ i m H, W i m H →
      (J.stop i H ∧ Qd H) ∨ (J.go i H ∧ ∃ Nx : Hp → Prop, (∀ H', Nx H' → ∃ m', m' < m ∧ W (i + 1) m' H') ∧ ∀ x H', J.yld i H x H' → g x (wipe σ vs) H' fun σ2 H2 => wipe σ2 vs = wipe σ vs ∧ tt σ2 H2 fun b H3 =>
        if b = true then te σ2 H3 fun y H4 => ∃ acc, H4 D = some (.lst acc) ∧ acc.length < sizeLine ∧ Nx (upd H4 D (.lst (acc ++ [y]))) else Nx H3) := by
  refine lc_it w (fun i H => Same H0 H ∧ H D = some (.lst (((List.range i).filter b).map f))) ⟨Same.new hD, upd_same⟩ (fun i H _ p => hG H p.1) (fun i x H H' hi p y => ?_) (fun H p => hd H p.1 p.2)
  refine hs i H x H' hi p.1 y (fun y H4 => ∃ acc, H4 D = some (.lst acc) ∧ acc.length < sizeLine ∧ (Same H0 (upd H4 D (.lst (acc ++ [y]))) ∧ upd H4 D (.lst (acc ++ [y])) D = some (.lst (((List.range (i + 1)).filter b).map f)))) (fun H3 => Same H0 H3 ∧ H3 D = some (.lst (((List.range (i + 1)).filter b).map f))) (fun H4 s4 hb => ?_) (fun H4 s4 hb => ?_)
  · refine ⟨_, s4 _ _ p.2, sz_lt ?_, Same.mut (p.1.trans s4) hD, ?_⟩
    · rw [List.length_map]
      refine Nat.lt_of_le_of_lt (List.length_filter_le _ _) ?_
      rw [List.length_range]
      exact Nat.lt_trans hi hn
    · rw [upd_same, List.range_succ, List.filter_append, List.map_append, List.filter_cons_of_pos hb]
      rfl
  · refine ⟨p.1.trans s4, ?_⟩
    rw [s4 _ _ p.2, List.range_succ, List.filter_append, List.filter_cons_of_neg (by rw [hb]; decide)]
    simp
/-- what a comprehension with a test leaves of a list -/
theorem filt_range {α : Type} (d : α) (p : α → Bool) (l : List α) : ((List.range l.length).filter fun i => p (l.getD i d)).map (fun i => l.getD i d) = l.filter p := by
  have e : (List.range l.length).map (fun i => l.getD i d) = l := by
    apply List.ext_getElem
    · simp
    · intro i h1 h2
      simp [h2]
  have q : ((List.range l.length).map (fun i => l.getD i d)).filter p = ((List.range l.length).filter fun i => p (l.getD i d)).map (fun i => l.getD i d) := by
    rw [List.filter_map]
    rfl
  rw [← q, e]

def namesOf (f : FdT) (q : Str) : List Str := ((f.ns ++ f.ms).filter fun y => decide (y.2 = q)).map Prod.fst
theorem names_ko {f : FdT} {q x : Str} : x ∈ namesOf f q ↔ KO f x q := by
  unfold namesOf KO
  constructor
  · intro h
    obtain ⟨y, m, rfl⟩ := List.mem_map.mp h
    obtain ⟨m1, m2⟩ := List.mem_filter.mp m
    obtain ⟨y1, y2⟩ := y
    rw [← of_decide_eq_true m2]
    exact m1
  · intro h
    exact List.mem_map.mpr ⟨(x, q), List.mem_filter.mpr ⟨h, decide_eq_true rfl⟩, rfl⟩
def spNamedL : Sp := fun vs H Q _ => ∃ (e : Addr) (f : FdT) (q : Str), vs = [.ref e, .str q] ∧ HeadT Tru H e f ∧ f.ns.length + f.ms.length ≤ 100 ∧ ∀ (l : Addr) (H' : Hp), Same H H' → H l = none → H' l = some (.lst ((namesOf f q).map V.str)) → Q (.ref l) H'
theorem sc_L_named : FnScope ["_law_head", "_law_kind", "_law_name", "_law_its"] ["_law_head", "_law_kind"] (defScope s_L_named) := ⟨rfl, rfl, rfl, by decide +kernel, rfl, by decide +kernel, by decide +kernel⟩
theorem ok_L_named (T : Ctx w K mg) : Has P w K mg base 1 "_law_named" ["_law_head", "_law_kind"] spNamedL := by
  obtain ⟨fd, F⟩ := T.D_L_named
  refine ⟨⟨fd, F.ok sc_L_named (fun vs H Q E h => ?_) (fun cdv A outer s H vs Q E hr h => ?_), F.bindsN fun _ _ _ _ _ _ us hl => match us, hl with | [_, _], _ => rfl⟩, F.kp, T.g_L_named⟩
  · obtain ⟨e, f, q, rfl, hh, hl, k⟩ := h; rfl
  · obtain ⟨e, f, q, rfl, hh, hl, k⟩ := h
    have hu := hu_of hr
    refine ⟨_, PSs.nox (pss_one (ps_ret (pe_lc (own := [("_law_name", 2), ("_law_its", 3)]) (g := gTup K 2 (gCons (gName 2) (gCons (gName 3) (gNil)))) rfl sc_L_named.nd (pi_list (pe_op op_cat (pe_ix ix_tup (pv 0) pe_int (fun _ _ => rfl)) (pe_ix ix_tup (pv 0) pe_int (fun _ _ => rfl)))) (blkOk_by (N := ["_law_head", "_law_kind", "_law_name", "_law_its"]) (sc := defScope s_L_named) (by decide +kernel)) (fun _ _ _ _ _ => (pg_tup rfl (pgs_cons (pg_name (i := 2) sc_L_named.nd rfl (Or.inl rfl)) (pgs_cons (pg_name (i := 3) sc_L_named.nd rfl (Or.inl rfl)) pgs_nil)))) (fun _ _ _ _ _ => (pts_one (pt_cmpR op_eq (pv 3) (pv 1) (nomark _)))) (fun _ _ _ _ _ => (pv 2))))), ?_⟩
    obtain ⟨pa, oa, ps, qs, he, _, hpa, P1, hoa, P2⟩ := hh
    have PP := P1.append P2
    have ln : (ps ++ qs).length = (f.ns ++ f.ms).length := PP.len
    rw [List.length_append] at ln
    refine ⟨_, rfl, e, _, 1, _, rfl, rfl, SqT.of he, at1, _, rfl, e, _, 2, _, rfl, rfl, SqT.of he, at2, pa, oa, _, _, rfl, rfl, hpa, hoa, sz_of (by rw [List.length_map, List.length_map]; rw [List.length_append] at ln; omega), fun lc gc => ?_⟩
    have s1 := Same.new (o := .lst (ps.map V.ref ++ qs.map V.ref)) gc
    have hlc : upd H lc (.lst (ps.map V.ref ++ qs.map V.ref)) lc = some (.lst ((ps ++ qs).map V.ref)) := by rw [upd_same, List.map_append]
    have PQ := PP.mono s1
    generalize upd H lc (.lst (ps.map V.ref ++ qs.map V.ref)) = H1 at s1 hlc PQ
    have lp : (f.ns ++ f.ms).length ≤ 100 := by rw [List.length_append]; exact hl
    have kk : namesOf f q = ((f.ns ++ f.ms).filter fun y => decide (y.2 = q)).map Prod.fst := rfl
    generalize f.ns ++ f.ms = prs at PQ ln lp kk
    refine ⟨lc, rfl, ⟨_, SqL.of hlc⟩, fun D gD => ?_⟩
    refine lc_filt (walk_list (K := K) (a := lc) (xs := (ps ++ qs).map V.ref)) gD (fun i => .str (prs.getD i ("", "")).1) (fun i => decide ((prs.getD i ("", "")).2 = q)) (by rw [List.length_map, PQ.len]; omega) (fun H4 s4 => SqL.of (s4 _ _ hlc)) (fun i H4 y H5 hi s4 hy Qe Qn qe qn => ?_) (fun H4 s4 h4 => ?_)
    · obtain ⟨rfl, hy⟩ := hy
      obtain ⟨a, pr, rfl, e1, e2, h1⟩ := PQ.get hy
      have ex : prs.getD i ("", "") = pr := by
        rw [List.getD_eq_getElem?_getD, e2]
        rfl
      rw [ex] at qe qn
      refine ⟨a, _, rfl, SqT.of (s4 _ _ h1), rfl, _, _, rfl, _, _, rfl, rfl, ?_⟩
      refine ⟨rfl, _, rfl, _, rfl, ?_⟩
      by_cases c : pr.2 = q
      · have ez : (V.str pr.2) = V.str q := by rw [c]
        exact ⟨rfl, _, rfl, ifT (decide_eq_true ez) ⟨_, rfl, qe _ (Same.refl _) (decide_eq_true c)⟩⟩
      · have ez : ¬ (V.str pr.2) = V.str q := fun z => c (V.str.inj z)
        exact ⟨rfl, _, rfl, ifF (decide_eq_false ez) (qn _ (Same.refl _) (decide_eq_false c))⟩
    · refine k D H4 (s1.trans s4) (none_of s1 gD) ?_
      rw [h4, List.length_map, PQ.len, kk, ← filt_range (("" : Str), ("" : Str)) (fun y : Str × Str => decide (y.2 = q)) prs, List.map_map, List.map_map]
      rfl

end
end W1
set_option Elab.async false
set_option linter.all false
set_option maxRecDepth 100000
set_option maxHeartbeats 4000000
namespace W1
open PySem PySem.Spec PyProof.Rows L2 RZ CA
section
variable {P : Program} {w : World} {K : PySem.W.Frag} {mg : Str → Option Value} {base : Heap}

theorem strs_of {R : Nat → Str → Prop} : ∀ {xs : List V}, (∀ (i : Nat) v, xs[i]? = some v → ∃ x, v = .str x ∧ R i x) → ∃ ns : List Str, xs = ns.map V.str ∧ ∀ (i : Nat) x, ns[i]? = some x → R i x := by
  intro xs
  induction xs generalizing R with
  | nil => exact fun _ => ⟨[], rfl, fun i e h => by simp at h⟩
  | cons v xs ih =>
    intro h
    obtain ⟨x, rfl, r⟩ := h 0 v rfl
    obtain ⟨ns, rfl, q⟩ := ih (R := fun i e => R (i + 1) e) fun i v hv => h (i + 1) v (by simpa using hv)
    refine ⟨x :: ns, rfl, fun i u hu => ?_⟩
    cases i with
    | zero =>
      rw [← show x = u from Option.some.inj hu]
      exact r
    | succ i => exact q i u (by simpa using hu)
theorem three {α : Type} {xs : List α} (h : xs.length = 3) : ∃ x y z, xs = [x, y, z] := by
  match xs, h with
  | [x, y, z], _ => exact ⟨x, y, z, rfl⟩
theorem five {α : Type} {xs : List α} (h : xs.length = 5) : ∃ a b c d e, xs = [a, b, c, d, e] := by
  match xs, h with
  | [a, b, c, d, e], _ => exact ⟨a, b, c, d, e, rfl⟩
theorem two {α : Type} {xs : List α} (h : xs.length = 2) : ∃ x y, xs = [x, y] := by
  match xs, h with
  | [x, y], _ => exact ⟨x, y, rfl⟩
theorem str_in {ns : List Str} {v : V} (h : v ∈ ns.map V.str) : ∃ x, v = .str x ∧ x ∈ ns := by
  obtain ⟨x, m, rfl⟩ := List.mem_map.mp h
  exact ⟨x, rfl, m⟩
/-- a row that reaches below many -/
abbrev Below (many : Nat) (r : Rx) : Prop := ∀ g, r.goal = some g → g < many
/-- rows that are told in a new list -/
def RowsL (Z : Addr → Prop) (H : Hp) (l : Addr) (rs : List Rx) : Prop := LstR Rx (RowT Z) H l rs
def FitN (ns : List Str) (many : Nat) (r : Rx) : Prop := (∀ cl fds f, (∀ x ∈ ns, KO f x "number") → RowOk cl fds f r) ∧ Below many r
/-- a row that is no call -/
theorem rowT_new {Z : Addr → Prop} {H : Hp} {a : Addr} {r : Rx} (h : H a = some (.tup (.str r.word :: r.parts .non))) (n : r.args = none) : RowT Z H a r := by
  cases r with
  | call x F as => cases n
  | _ => exact ⟨0, h, fun bs e => by cases e⟩
def OPS : List Str := ["add", "sub", "times", "less", "same"]
def spNumRows : Sp := fun vs H Q _ => ∃ (p na : Addr) (ns : List Str) (many : Nat), vs = [.ref p, .ref na, .int many] ∧ WellAt H p ∧ H na = some (.lst (ns.map V.str)) ∧ 0 < ns.length ∧ ns.length ≤ 100 ∧ 0 < many ∧ many ≤ 1000 ∧
  ∀ (l : Addr) (rs : List Rx) (H' : Hp), But p H H' → WellAt H' p → H l = none → RowsL (New H) H' l rs → 0 < rs.length → rs.length ≤ 20 → (∀ r ∈ rs, FitN ns many r) → Q (.ref l) H'
theorem sc_L_number_rows : FnScope ["_law_well_here", "_law_names", "_law_many", "_law_one", "_law_two", "_law_three", "_law_much", "_law_found", "_law_turn", "_law_op"] ["_law_well_here", "_law_names", "_law_many"] (defScope s_L_number_rows) := ⟨rfl, rfl, rfl, by decide +kernel, rfl, by decide +kernel, by decide +kernel⟩
theorem ok_L_number_rows (T : Ctx w K mg) (H_L_draw : Has P w K mg base 2 "_law_draw" ["_law_well_here", "_law_many"] spDraw) (H_L_pick : Has P w K mg base 3 "_law_pick" ["_law_well_here", "_law_items"] (spPick K)) : Has P w K mg base 4 "_law_number_rows" ["_law_well_here", "_law_names", "_law_many"] spNumRows := by
  obtain ⟨fd, F⟩ := T.D_L_number_rows
  obtain ⟨fd_L_draw, G_L_draw, b_L_draw⟩ := H_L_draw.ex
  obtain ⟨fd_L_pick, G_L_pick, b_L_pick⟩ := H_L_pick.ex
  refine ⟨⟨fd, F.ok sc_L_number_rows (fun vs H Q E h => ?_) (fun cdv A outer s H vs Q E hr h => ?_), F.bindsN fun _ _ _ _ _ _ us hl => match us, hl with | [_, _, _], _ => rfl⟩, F.kp, T.g_L_number_rows⟩
  · obtain ⟨p, na, ns, many, rfl, hw, ha, h0, h1, m0, m1, k⟩ := h; rfl
  · obtain ⟨p, na, ns, many, rfl, hw, ha, h0, h1, m0, m1, k⟩ := h
    have hr_L_draw : Room 2 _ := hr.mono (by decide)
    have hr_L_pick : Room 3 _ := hr.mono (by decide)
    have hu := hu_of hr
    refine ⟨_, PSs.nox (pss_cons (ps_asg (pe_lc (own := [("_law_turn", 8)]) (g := gName 8) (tt := tYes) rfl sc_L_number_rows.nd (pi_range1 (by rfl) T.f_range (pa_cons pe_int pa_nil)) (blkOk_by (N := ["_law_well_here", "_law_names", "_law_many", "_law_one", "_law_two", "_law_three", "_law_much", "_law_found", "_law_turn", "_law_op"]) (sc := defScope s_L_number_rows) (by decide +kernel)) (fun _ _ _ _ _ => (pg_name (i := 8) sc_L_number_rows.nd rfl (Or.inl rfl))) (fun _ _ _ _ _ => pts_nil) (fun _ _ _ _ _ => (pe_call G_L_pick hr_L_pick (by rfl) H_L_pick.gl H_L_pick.kp b_L_pick .nil pass0 (pa_cons (pv 0) (pa_cons (pv 1) pa_nil))))) (pg_unl rfl (pgs_cons (pg_name (i := 3) sc_L_number_rows.nd rfl (Or.inr rfl)) (pgs_cons (pg_name (i := 4) sc_L_number_rows.nd rfl (Or.inr rfl)) (pgs_cons (pg_name (i := 5) sc_L_number_rows.nd rfl (Or.inr rfl)) pgs_nil)))))
      (pss_cons (ps_set (i := 6) sc_L_number_rows.nd rfl (Or.inl rfl) (pe_call G_L_pick hr_L_pick (by rfl) H_L_pick.gl H_L_pick.kp b_L_pick .nil pass0 (pa_cons (pv 0) (pa_cons (pe_lst (pa_cons pe_int (pa_cons pe_int (pa_cons (pe_un un_neg pe_int) (pa_cons (pe_op op_pow pe_int pe_int) (pa_cons (pe_un un_neg (pe_op op_pow pe_int pe_int)) (pa_cons (pe_op op_sub (pe_call G_L_draw hr_L_draw (by rfl) H_L_draw.gl H_L_draw.kp b_L_draw .nil pass0 (pa_cons (pv 0) (pa_cons pe_int pa_nil))) pe_int) pa_nil))))))) pa_nil))))
      (pss_cons (ps_setLc (i := 7) (own := [("_law_op", 9)]) (g := gName 9) (tt := tYes) rfl sc_L_number_rows.nd rfl rfl (sw_true rfl rfl rfl (by decide +kernel)) (pi_list (pe_lst (pa_cons pe_str (pa_cons pe_str (pa_cons pe_str (pa_cons pe_str (pa_cons pe_str pa_nil))))))) (blkOk_by (N := ["_law_well_here", "_law_names", "_law_many", "_law_one", "_law_two", "_law_three", "_law_much", "_law_found", "_law_turn", "_law_op"]) (sc := defScope s_L_number_rows) (by decide +kernel)) (fun _ _ _ _ _ => (pg_name (i := 9) sc_L_number_rows.nd rfl (Or.inl rfl))) (fun _ _ _ _ _ => pts_nil) (fun _ _ _ _ _ => (pe_tup (pa_cons (pv 9) (pa_cons (pv 3) (pa_cons (pv 4) (pa_cons (pv 5) pa_nil)))))))
      (pss_cons (ps_set (i := 7) sc_L_number_rows.nd rfl (Or.inl rfl) (pe_op op_cat (pv 7) (pe_lst (pa_cons (pe_tup (pa_cons pe_str (pa_cons (pv 3) (pa_cons (pv 6) pa_nil)))) (pa_cons (pe_tup (pa_cons pe_str (pa_cons (pv 3) (pa_cons (pv 4) pa_nil)))) (pa_cons (pe_tup (pa_cons pe_str (pa_cons (pv 3) pa_nil))) pa_nil))))))
      (pss_one (ps_ret (pe_op op_cat (pv 7) (pe_lst (pa_cons (pe_tup (pa_cons pe_str (pa_cons (pv 3) (pa_cons (pe_call G_L_draw hr_L_draw (by rfl) H_L_draw.gl H_L_draw.kp b_L_draw .nil pass0 (pa_cons (pv 0) (pa_cons (pv 2) pa_nil))) pa_nil)))) pa_nil))))))))), ?_⟩
    refine ⟨_, rfl, by decide, by decide, fun D1 gD1 => ?_⟩
    refine lc_p (walk_range (lo := 0) (n := (3 : Int).toNat)) gD1 hw (fun _ _ v => ∃ x, v = .str x ∧ x ∈ ns) (by decide) (fun _ _ _ _ _ _ _ _ h => h) (fun _ _ => trivial) (fun i H5 y H6 xs hi2 b5 w5 hDl hy2 Qe qe => ?_) (fun H1 xs b1 w1 hl hx hD1 => ?_)
    · obtain ⟨rfl, rfl⟩ := hy2
      refine ⟨rfl, _, rfl, _, rfl, p, na, _, rfl, w5, w5.neL (hw.strs b5 ha) head_strs, hw.strs b5 ha, by rw [List.length_map]; exact h0, by rw [List.length_map]; omega, fun v H7 hv b7 w7 => ?_⟩
      obtain ⟨x, rfl, m⟩ := str_in hv
      exact qe _ _ b7 w7 ⟨x, rfl, m⟩
    obtain ⟨ts, rfl, hts⟩ := strs_of hx
    obtain ⟨x, y, z, rfl⟩ := three (show ts.length = 3 by rw [List.length_map] at hl; exact hl)
    have mx := hts 0 x rfl
    have my := hts 1 y rfl
    have mz := hts 2 z rfl
    refine ⟨D1, _, rfl, SqL.of hD1, rfl, _, _, rfl, _, _, rfl, _, _, rfl, rfl, ?_⟩
    refine ⟨_, rfl, _, rfl, _, _, rfl, rfl, ⟨by decide, by decide, by decide⟩, _, _, rfl, rfl, ⟨by decide, by decide, by decide⟩, _, rfl, _, rfl, p, 1000, rfl, w1, by decide, by decide, fun j H2 hj b2 w2 => ⟨_, _, rfl, rfl, sz_of (by show 6 ≤ 100000; decide), fun lk gk => ?_⟩⟩
    refine ⟨p, lk, _, rfl, w2.put (w2.nn gk), w2.nn gk, upd_same, by show 0 < 6; decide, by show 6 ≤ 1000; decide, fun v H3 hv b3 w3 => ?_⟩
    obtain ⟨n, rfl, n1, n2⟩ : ∃ n : Int, v = .int n ∧ -1000000000 ≤ n ∧ n ≤ 1000000000 := by
      simp only [List.mem_cons, List.not_mem_nil, or_false] at hv
      rcases hv with rfl | rfl | rfl | rfl | rfl | rfl
      · exact ⟨_, rfl, by decide, by decide⟩
      · exact ⟨_, rfl, by decide, by decide⟩
      · exact ⟨_, rfl, by decide, by decide⟩
      · exact ⟨_, rfl, by decide, by decide⟩
      · exact ⟨_, rfl, by decide, by decide⟩
      · exact ⟨_, rfl, by omega, by omega⟩
    have B3 : But p H H3 := (b1.trans b2).trans ((But.new gk).trans b3)
    refine ⟨sz_of (by show 5 ≤ 100000; decide), fun lo go => ⟨lo, rfl, ⟨_, SqL.of upd_same⟩, fun D2 gD2 => ?_⟩⟩
    have so := Same.new (o := .lst (OPS.map V.str)) go
    refine lc_tups (walk_list (K := K) (a := lo) (xs := OPS.map V.str)) gD2 (fun j => [.str (OPS.getD j ""), .str x, .str y, .str z]) (by decide) (fun H4 s4 => SqL.of (s4 _ _ upd_same)) (fun j H4 y4 H5 hj s4 hy Qe qe => ?_) (fun H4 qs s4 hq hqs h4 => ?_)
    · obtain ⟨rfl, hy⟩ := hy
      obtain ⟨o, ho, rfl⟩ := map_get hy
      have ex : OPS.getD j "" = o := by
        rw [List.getD_eq_getElem?_getD, ho]
        rfl
      rw [ex] at qe
      exact ⟨rfl, _, rfl, _, rfl, _, rfl, _, rfl, sz_of (by show 4 ≤ 100000; decide), fun t ht => qe t _ (Same.new ht) upd_same⟩
    have S4 := so.trans s4
    have w4 := w3.mono S4
    refine ⟨_, rfl, _, rfl, _, rfl, sz_of (by show 3 ≤ 100000; decide), fun t1 g1 => ⟨_, rfl, _, rfl, sz_of (by show 3 ≤ 100000; decide), fun t2 g2 => ⟨_, rfl, sz_of (by show 2 ≤ 100000; decide), fun t3 g3 => ⟨sz_of (by show 3 ≤ 100000; decide), fun lb gb => ?_⟩⟩⟩⟩
    have s1 := Same.new (o := .tup [.str "number", .str x, .int n]) g1
    have s2 := Same.new (o := .tup [.str "copy", .str x, .str y]) g2
    have s3 := Same.new (o := .tup [.str "see", .str x]) g3
    have sb := Same.new (o := .lst [.ref t1, .ref t2, .ref t3]) gb
    have z2 := s3.trans sb
    have z1 := s2.trans z2
    have z0 := s1.trans z1
    have hl5 : (OPS.map V.str).length = 5 := rfl
    rw [hl5] at hq
    refine ⟨D2, lb, _, _, rfl, rfl, z0 _ _ h4, upd_same, sz_of (by rw [List.length_map, hq]; show 5 + 3 ≤ 100000; decide), fun l1 gl1 => ?_⟩
    have sl := Same.new (o := .lst (qs.map V.ref ++ [.ref t1, .ref t2, .ref t3])) gl1
    have S5 := z0.trans sl
    have w5 := w4.mono S5
    refine ⟨_, rfl, _, rfl, _, rfl, _, rfl, p, many, rfl, w5, m0, m1, fun gg H6 hg b6 w6 => ⟨sz_of (by show 3 ≤ 100000; decide), fun t4 g4 => ⟨sz_of (by show 1 ≤ 100000; decide), fun ld gd => ?_⟩⟩⟩
    have s6 := Same.new (o := .tup [.str "if", .str x, .int (gg : Int)]) g4
    have s7 := Same.new (o := .lst [.ref t4]) gd
    have h6 := s7 _ _ (s6 _ _ (b6 _ _ (upd_same (a := l1) (o := .lst (qs.map V.ref ++ [.ref t1, .ref t2, .ref t3]))) ((w4.mono z0).nn gl1)))
    refine ⟨l1, ld, _, _, rfl, rfl, h6, upd_same, sz_of (by rw [List.length_append, List.length_map, hq]; show 5 + 3 + 1 ≤ 100000; decide), fun l gl => ?_⟩
    have s8 := Same.new (o := .lst (qs.map V.ref ++ [.ref t1, .ref t2, .ref t3] ++ [.ref t4])) gl
    have S8 := (s6.trans s7).trans s8
    have up : ∀ {b : Addr} {ys : List V}, upd _ l1 _ b = some (.tup ys) → _ := fun {b ys} e => S8 _ _ (w5.tup b6 e)
    have B8 := ((B3.then S4).then S5).trans (b6.then S8)
    refine k l [.bin 0 x y z, .bin 1 x y z, .bin 2 x y z, .bin 3 x y z, .same x y z, .num x n, .copy x y, .see x, .ifz x gg] _ B8 (w6.mono S8) (none_but (((B3.then S4).then S5).trans (b6.then (s6.trans s7))) (w6.mono (s6.trans s7)) gl) ⟨qs ++ [t1, t2, t3] ++ [t4], by rw [upd_same]; simp, by simp [hq], fun i e r e1 e2 => ?_⟩ (by show 0 < 9; decide) (by show 9 ≤ 20; decide) ?_
    · obtain ⟨a0, a1, a2, a3, a4, rfl⟩ := five hq
      have kp : ∀ {b : Addr} {ys : List V}, H4 b = some (.tup ys) → _ := fun {b ys} e => up (S5 _ _ e)
      match i, e1, e2 with
      | 0, e1, e2 => cases e1; cases e2; exact rowT_new (kp (hqs 0 _ rfl)) rfl
      | 1, e1, e2 => cases e1; cases e2; exact rowT_new (kp (hqs 1 _ rfl)) rfl
      | 2, e1, e2 => cases e1; cases e2; exact rowT_new (kp (hqs 2 _ rfl)) rfl
      | 3, e1, e2 => cases e1; cases e2; exact rowT_new (kp (hqs 3 _ rfl)) rfl
      | 4, e1, e2 => cases e1; cases e2; exact rowT_new (kp (hqs 4 _ rfl)) rfl
      | 5, e1, e2 => cases e1; cases e2; exact rowT_new (up (sl _ _ (z1 _ _ upd_same))) rfl
      | 6, e1, e2 => cases e1; cases e2; exact rowT_new (up (sl _ _ (z2 _ _ upd_same))) rfl
      | 7, e1, e2 => cases e1; cases e2; exact rowT_new (up (sl _ _ (sb _ _ upd_same))) rfl
      | 8, e1, e2 => cases e1; cases e2; exact rowT_new (s8 _ _ (s7 _ _ upd_same)) rfl
      | n + 9, e1, e2 => simp at e1
    · intro r m
      simp only [List.mem_cons, List.not_mem_nil, or_false] at m
      rcases m with rfl | rfl | rfl | rfl | rfl | rfl | rfl | rfl | rfl
      · exact ⟨fun cl fds f h => ⟨h _ mx, h _ my, h _ mz⟩, fun g e => by cases e⟩
      · exact ⟨fun cl fds f h => ⟨h _ mx, h _ my, h _ mz⟩, fun g e => by cases e⟩
      · exact ⟨fun cl fds f h => ⟨h _ mx, h _ my, h _ mz⟩, fun g e => by cases e⟩
      · exact ⟨fun cl fds f h => ⟨h _ mx, h _ my, h _ mz⟩, fun g e => by cases e⟩
      · exact ⟨fun cl fds f h => ⟨_, h _ mx, h _ my, h _ mz⟩, fun g e => by cases e⟩
      · exact ⟨fun cl fds f h => ⟨h _ mx, n1, n2⟩, fun g e => by cases e⟩
      · exact ⟨fun cl fds f h => ⟨_, h _ mx, h _ my⟩, fun g e => by cases e⟩
      · exact ⟨fun cl fds f h => ⟨_, h _ mx⟩, fun g e => by cases e⟩
      · exact ⟨fun cl fds f h => h _ mx, fun g e => by cases e; exact hg⟩

end
end W1
set_option Elab.async false
set_option linter.all false
set_option maxRecDepth 100000
set_option maxHeartbeats 4000000
namespace W1
open PySem PySem.Spec PyProof.Rows L2 RZ
/-! ### data that can be compared -/
theorem mrk_lt : ∀ c ∈ MRKS.cps.toList, c < 0x110000 := by decide +kernel
theorem Nam.ok {x : Str} (h : Nam x) : PyData.strOk x = true := by
  unfold PyData.strOk
  rw [Array.all_eq_true]
  intro i hi
  exact decide_eq_true (mrk_lt _ (h.all i _ (Array.getElem?_eq_getElem hi)))
theorem IsKind.ok {q : Str} (h : IsKind q) : PyData.strOk q = true := by
  rcases h with rfl | rfl <;> decide +kernel
theorem Rx.word_ok (r : Rx) : PyData.strOk r.word = true := by
  cases r with
  | bin k x y z =>
    have key : ∀ k : Fin 4, PyData.strOk (binW k) = true := by decide +kernel
    exact key k
  | num _ _ => exact (by decide +kernel : PyData.strOk "number" = true)
  | nil _ => exact (by decide +kernel : PyData.strOk "nil" = true)
  | copy _ _ => exact (by decide +kernel : PyData.strOk "copy" = true)
  | same _ _ _ => exact (by decide +kernel : PyData.strOk "same" = true)
  | new _ _ => exact (by decide +kernel : PyData.strOk "new" = true)
  | get _ _ _ => exact (by decide +kernel : PyData.strOk "get" = true)
  | put _ _ _ => exact (by decide +kernel : PyData.strOk "put" = true)
  | call _ _ _ => exact (by decide +kernel : PyData.strOk "call" = true)
  | see _ => exact (by decide +kernel : PyData.strOk "see" = true)
  | ifz _ _ => exact (by decide +kernel : PyData.strOk "if" = true)
  | jump _ => exact (by decide +kernel : PyData.strOk "jump" = true)
  | ret _ => exact (by decide +kernel : PyData.strOk "return" = true)
/-- the texts of a row -/
def Rx.strs : Rx → List Str
  | .num x _ => [x] | .nil x => [x] | .copy x y => [x, y] | .bin _ x y z => [x, y, z] | .same x y z => [x, y, z] | .new x c => [x, c] | .get x y f => [x, y, f] | .put x f y => [x, f, y]
  | .call x F as => x :: F :: as | .see x => [x] | .ifz x _ => [x] | .jump _ => [] | .ret x => [x]
/-- it can be laid, to such a depth -/
def Lay (d : PyData) (n : Nat) : Prop := d.canLay0 = true ∧ d.depth ≤ n
def LayA (ds : List PyData) (n : Nat) : Prop := PyData.canLayAll0 ds = true ∧ PyData.depthAll ds ≤ n
theorem LayA.nil {n : Nat} : LayA [] n := ⟨rfl, Nat.zero_le _⟩
theorem LayA.cons {d : PyData} {ds : List PyData} {n : Nat} (h : Lay d n) (t : LayA ds n) : LayA (d :: ds) n := by
  refine ⟨?_, ?_⟩
  · rw [PyData.canLayAll0, h.1, t.1]
    rfl
  · rw [PyData.depthAll]
    exact Nat.max_le.mpr ⟨h.2, t.2⟩
theorem LayA.map {α : Type} {f : α → PyData} {l : List α} {n : Nat} (h : ∀ x ∈ l, Lay (f x) n) : LayA (l.map f) n := by
  induction l with
  | nil => exact .nil
  | cons a l ih => exact .cons (h a List.mem_cons_self) (ih fun x m => h x (List.mem_cons_of_mem _ m))
theorem Lay.list {ds : List PyData} {n : Nat} (h : LayA ds n) : Lay (.list ds) (n + 1) := by
  refine ⟨by rw [PyData.canLay0]; exact h.1, ?_⟩
  rw [PyData.depth]
  exact Nat.succ_le_succ h.2
theorem Lay.tup {ds : List PyData} {n : Nat} (h : LayA ds n) : Lay (.tuple ds) (n + 1) := by
  refine ⟨by rw [PyData.canLay0]; exact h.1, ?_⟩
  rw [PyData.depth]
  exact Nat.succ_le_succ h.2
theorem Lay.str {x : Str} {n : Nat} (h : PyData.strOk x = true) : Lay (.str x) n := by
  refine ⟨by rw [PyData.canLay0]; exact h, ?_⟩
  rw [PyData.depth]
  exact Nat.zero_le _
theorem Lay.int {i : Int} {n : Nat} : Lay (.int i) n := by
  refine ⟨by rw [PyData.canLay0], ?_⟩
  rw [PyData.depth]
  exact Nat.zero_le _
theorem Lay.non {n : Nat} : Lay .none n := by
  refine ⟨by rw [PyData.canLay0], ?_⟩
  rw [PyData.depth]
  exact Nat.zero_le _
theorem Lay.shaped {d : PyData} {n : Nat} (h : Lay d n) (hn : n ≤ 64) : SeqAt.shaped d = true := by
  unfold SeqAt.shaped
  rw [h.1, Bool.true_and]
  exact decide_eq_true (Nat.le_trans h.2 hn)
/-- texts that are told of classes and functions -/
def OkPs (qs : List (Str × Str)) : Prop := ∀ q ∈ qs, PyData.strOk q.1 = true ∧ PyData.strOk q.2 = true
theorem pairs_lay {qs : List (Str × Str)} (h : OkPs qs) : Lay (pairsD qs) 2 := .list (.map fun q m => .tup (.cons (.str (h q m).1) (.cons (.str (h q m).2) .nil)))
def OkCs (cl : ClsT) : Prop := ∀ c ∈ cl, PyData.strOk c.1 = true ∧ OkPs c.2
theorem cls_lay {cl : ClsT} (h : OkCs cl) : Lay (clsD cl) 4 := .list (.map fun c m => .tup (.cons (.str (h c m).1) (.cons ⟨(pairs_lay (h c m).2).1, (pairs_lay (h c m).2).2⟩ .nil)))
theorem strs_lay {ns : List Str} (h : ∀ x ∈ ns, PyData.strOk x = true) : Lay (.list (ns.map PyData.str)) 1 := .list (.map fun x m => .str (h x m))
theorem row_lay {r : Rx} (h : ∀ x ∈ r.strs, PyData.strOk x = true) : Lay r.data 2 := by
  refine .tup (.cons (.str r.word_ok) ?_)
  cases r with
  | call x F as => exact .cons (.str (h x (by simp [Rx.strs]))) (.cons (.str (h F (by simp [Rx.strs]))) (.cons (strs_lay fun y m => h y (List.mem_cons_of_mem _ (List.mem_cons_of_mem _ (show y ∈ as from m)))) .nil))
  | num x n => exact .cons (.str (h x (by simp [Rx.strs]))) (.cons .int .nil)
  | ifz x n => exact .cons (.str (h x (by simp [Rx.strs]))) (.cons .int .nil)
  | jump n => exact .cons .int .nil
  | nil x => exact .cons (.str (h x (by simp [Rx.strs]))) .nil
  | see x => exact .cons (.str (h x (by simp [Rx.strs]))) .nil
  | ret x => exact .cons (.str (h x (by simp [Rx.strs]))) .nil
  | copy x y => exact .cons (.str (h x (by simp [Rx.strs]))) (.cons (.str (h y (by simp [Rx.strs]))) .nil)
  | new x y => exact .cons (.str (h x (by simp [Rx.strs]))) (.cons (.str (h y (by simp [Rx.strs]))) .nil)
  | bin k x y z => exact .cons (.str (h x (by simp [Rx.strs]))) (.cons (.str (h y (by simp [Rx.strs]))) (.cons (.str (h z (by simp [Rx.strs]))) .nil))
  | same x y z => exact .cons (.str (h x (by simp [Rx.strs]))) (.cons (.str (h y (by simp [Rx.strs]))) (.cons (.str (h z (by simp [Rx.strs]))) .nil))
  | get x y z => exact .cons (.str (h x (by simp [Rx.strs]))) (.cons (.str (h y (by simp [Rx.strs]))) (.cons (.str (h z (by simp [Rx.strs]))) .nil))
  | put x y z => exact .cons (.str (h x (by simp [Rx.strs]))) (.cons (.str (h y (by simp [Rx.strs]))) (.cons (.str (h z (by simp [Rx.strs]))) .nil))
structure OkF (f : FdT) : Prop where
  nm : PyData.strOk f.nm = true
  rs : PyData.strOk f.res = true
  ns : OkPs f.ns
  ms : OkPs f.ms
  rw_ : ∀ r ∈ f.rws, ∀ x ∈ r.strs, PyData.strOk x = true
theorem fns_lay {fds : List FdT} (h : ∀ f ∈ fds, OkF f) : Lay (fnsD fds) 5 := by
  refine .list (.map fun f m => .tup (.cons (.str (h f m).nm) (.cons ⟨(pairs_lay (h f m).ns).1, by have := (pairs_lay (h f m).ns).2; omega⟩ (.cons ⟨(pairs_lay (h f m).ms).1, by have := (pairs_lay (h f m).ms).2; omega⟩ (.cons (.str (h f m).rs) (.cons ?_ .nil))))))
  exact .list (.map fun r k => row_lay ((h f m).rw_ r k))
theorem self_eq {d : PyData} (h : SeqAt.shaped d = true) : PyData.eqv d d = true := SeqAt.eqv_refl d (SeqAt.canLay_of_shaped h)
end W1
set_option Elab.async false
set_option linter.all false
set_option maxRecDepth 100000
set_option maxHeartbeats 4000000
namespace W1
open PySem PySem.Spec PyProof.Rows L2 RZ CA
section
variable {P : Program} {w : World} {K : PySem.W.Frag} {mg : Str → Option Value} {base : Heap}

theorem ix_tupK {X : Cx} {K : PySem.W.Frag} (hk : X.K = K) : IxR X (rIxT K) := by
  subst hk
  exact ix_tup
theorem ClsZ.but {Z : Addr → Prop} {H H' : Hp} {p e : Addr} {c : Str × List (Str × Str)} (h : ClsZ Z H e c) (w : WellAt H p) (b : But p H H') : ClsZ Z H' e c := by
  obtain ⟨la, ps, h1, z, h2, h3⟩ := h
  exact ⟨la, ps, w.tup b h1, z, w.refs b h2, h3.but w b⟩
theorem HeadT.but {Z : Addr → Prop} {H H' : Hp} {p e : Addr} {f : FdT} (h : HeadT Z H e f) (w : WellAt H p) (b : But p H H') : HeadT Z H' e f := by
  obtain ⟨pa, oa, ps, qs, h1, z, h2, h3, h4, h5⟩ := h
  exact ⟨pa, oa, ps, qs, w.tup b h1, z, w.refs b h2, h3.but w b, w.refs b h4, h5.but w b⟩
theorem RowT.but {Z : Addr → Prop} {H H' : Hp} {p a : Addr} {r : Rx} (h : RowT Z H a r) (w : WellAt H p) (b : But p H H') : RowT Z H' a r := by
  obtain ⟨l, h1, h2⟩ := h
  exact ⟨l, w.tup b h1, fun bs e => ⟨(h2 bs e).1, w.strs b (h2 bs e).2⟩⟩
theorem EntryT.but {Z : Addr → Prop} {H H' : Hp} {p e : Addr} {f : FdT} (h : EntryT Z H e f) (w : WellAt H p) (b : But p H H') : EntryT Z H' e f := by
  obtain ⟨pa, oa, ra, ps, qs, rs, h1, z, h2, h3, h4, h5, h6, h7⟩ := h
  exact ⟨pa, oa, ra, ps, qs, rs, w.tup b h1, z, w.refs b h2, h3.but w b, w.refs b h4, h5.but w b, w.refs b h6, ⟨h7.len, fun i a r x y => (h7.at_ i a r x y).but w b⟩⟩
theorem LstR.but {α : Type} {R : Hp → Addr → α → Prop} {H H' : Hp} {p a : Addr} {xs : List α} (h : LstR α R H a xs) (w : WellAt H p) (b : But p H H') (f : ∀ e x, R H e x → R H' e x) : LstR α R H' a xs := by
  obtain ⟨es, h1, h2, h3⟩ := h
  exact ⟨es, w.refs b h1, h2, fun i e x a b => f _ _ (h3 i e x a b)⟩
def FitO (ns : List Str) (cl : ClsT) (r : Rx) : Prop := (∀ fds f, (∀ x ∈ ns, KO f x "object") → RowOk cl fds f r) ∧ r.goal = none
def spObjRows : Sp := fun vs H Q _ => ∃ (p na ca : Addr) (ns : List Str) (cl : ClsT), vs = [.ref p, .ref na, .ref ca] ∧ OkCs cl ∧ WellAt H p ∧ H na = some (.lst (ns.map V.str)) ∧ 0 < ns.length ∧ ns.length ≤ 100 ∧ TCls H ca cl ∧ cl.length ≤ 6 ∧
  ∀ (l : Addr) (rs : List Rx) (H' : Hp), But p H H' → WellAt H' p → H l = none → RowsL (New H) H' l rs → 0 < rs.length → rs.length ≤ 20 → (∀ r ∈ rs, FitO ns cl r) → Q (.ref l) H'
theorem sc_L_object_rows : FnScope ["_law_well_here", "_law_names", "_law_classes_here", "_law_one", "_law_two", "_law_found", "_law_turn"] ["_law_well_here", "_law_names", "_law_classes_here"] (defScope s_L_object_rows) := ⟨rfl, rfl, rfl, by decide +kernel, rfl, by decide +kernel, by decide +kernel⟩
theorem ok_L_object_rows (T : Ctx w K mg) (H_L_pick : Has P w K mg base 3 "_law_pick" ["_law_well_here", "_law_items"] (spPick K)) : Has P w K mg base 4 "_law_object_rows" ["_law_well_here", "_law_names", "_law_classes_here"] spObjRows := by
  obtain ⟨fd, F⟩ := T.D_L_object_rows
  obtain ⟨fd_L_pick, G_L_pick, b_L_pick⟩ := H_L_pick.ex
  refine ⟨⟨fd, F.ok sc_L_object_rows (fun vs H Q E h => ?_) (fun cdv A outer s H vs Q E hr h => ?_), F.bindsN fun _ _ _ _ _ _ us hl => match us, hl with | [_, _, _], _ => rfl⟩, F.kp, T.g_L_object_rows⟩
  · obtain ⟨p, na, ca, ns, cl, rfl, hok, hw, ha, h0, h1, hc, hc6, k⟩ := h; rfl
  · obtain ⟨p, na, ca, ns, cl, rfl, hok, hw, ha, h0, h1, hc, hc6, k⟩ := h
    have hr_L_pick : Room 3 _ := hr.mono (by decide)
    have hu := hu_of hr
    refine ⟨_, PSs.nox (pss_cons (ps_asg (pe_lc (own := [("_law_turn", 6)]) (g := gName 6) (tt := tYes) rfl sc_L_object_rows.nd (pi_range1 (by rfl) T.f_range (pa_cons pe_int pa_nil)) (blkOk_by (N := ["_law_well_here", "_law_names", "_law_classes_here", "_law_one", "_law_two", "_law_found", "_law_turn"]) (sc := defScope s_L_object_rows) (by decide +kernel)) (fun _ _ _ _ _ => (pg_name (i := 6) sc_L_object_rows.nd rfl (Or.inl rfl))) (fun _ _ _ _ _ => pts_nil) (fun _ _ _ _ _ => (pe_call G_L_pick hr_L_pick (by rfl) H_L_pick.gl H_L_pick.kp b_L_pick .nil pass0 (pa_cons (pv 0) (pa_cons (pv 1) pa_nil))))) (pg_unl rfl (pgs_cons (pg_name (i := 3) sc_L_object_rows.nd rfl (Or.inr rfl)) (pgs_cons (pg_name (i := 4) sc_L_object_rows.nd rfl (Or.inl rfl)) pgs_nil))))
      (pss_cons (ps_set (i := 5) sc_L_object_rows.nd rfl (Or.inl rfl) (pe_lst (pa_cons (pe_tup (pa_cons pe_str (pa_cons (pv 3) pa_nil))) (pa_cons (pe_tup (pa_cons pe_str (pa_cons (pv 3) (pa_cons (pv 4) pa_nil)))) (pa_cons (pe_tup (pa_cons pe_str (pa_cons (pv 3) pa_nil))) pa_nil)))))
      (pss_one (ps_ret (pe_op op_cat (pv 5) (pe_lc (own := [("_law_turn", 6)]) (g := gName 6) (tt := tYes) rfl sc_L_object_rows.nd (pi_range1 (by rfl) T.f_range (pa_cons (pe_callTy call_int1 (by rfl) T.f_int (by decide +kernel) (pa_cons (pe_cmpR (op_neD hr.units) (pv 2) (pe_lst pa_nil) (nomark _)) pa_nil)) pa_nil)) (blkOk_by (N := ["_law_well_here", "_law_names", "_law_classes_here", "_law_one", "_law_two", "_law_found", "_law_turn"]) (sc := defScope s_L_object_rows) (by decide +kernel)) (fun _ _ _ _ _ => (pg_name (i := 6) sc_L_object_rows.nd rfl (Or.inl rfl))) (fun _ _ _ _ _ => pts_nil) (fun _ _ _ _ _ => (pe_tup (pa_cons pe_str (pa_cons (pv 3) (pa_cons (pe_ix (ix_tupK (K := K) rfl) (pe_call G_L_pick hr_L_pick (by rfl) H_L_pick.gl H_L_pick.kp b_L_pick .nil pass0 (pa_cons (pv 0) (pa_cons (pv 2) pa_nil))) pe_int (fun _ _ => rfl)) pa_nil))))))))))), ?_⟩
    refine ⟨_, rfl, by decide, by decide, fun D1 gD1 => ?_⟩
    refine lc_p (walk_range (lo := 0) (n := (2 : Int).toNat)) gD1 hw (fun _ _ v => ∃ x, v = .str x ∧ x ∈ ns) (by decide) (fun _ _ _ _ _ _ _ _ h => h) (fun _ _ => trivial) (fun i H5 y H6 xs hi2 b5 w5 hDl hy2 Qe qe => ?_) (fun H1 xs b1 w1 hl hx hD1 => ?_)
    · obtain ⟨rfl, rfl⟩ := hy2
      refine ⟨rfl, _, rfl, _, rfl, p, na, _, rfl, w5, w5.neL (hw.strs b5 ha) head_strs, hw.strs b5 ha, by rw [List.length_map]; exact h0, by rw [List.length_map]; omega, fun v H7 hv b7 w7 => ?_⟩
      obtain ⟨x, rfl, m⟩ := str_in hv
      exact qe _ _ b7 w7 ⟨x, rfl, m⟩
    obtain ⟨ts, rfl, hts⟩ := strs_of hx
    obtain ⟨x, y, rfl⟩ := two (show ts.length = 2 by rw [List.length_map] at hl; exact hl)
    have mx := hts 0 x rfl
    have my := hts 1 y rfl
    refine ⟨D1, _, rfl, SqL.of hD1, rfl, _, _, rfl, _, _, rfl, rfl, ?_⟩
    refine ⟨_, rfl, sz_of (by show 2 ≤ 100000; decide), fun t1 g1 => ⟨_, rfl, _, rfl, sz_of (by show 3 ≤ 100000; decide), fun t2 g2 => ⟨_, rfl, sz_of (by show 2 ≤ 100000; decide), fun t3 g3 => ⟨sz_of (by show 3 ≤ 100000; decide), fun lb gb => ?_⟩⟩⟩⟩
    have s1 := Same.new (o := .tup [.str "nil", .str x]) g1
    have s2 := Same.new (o := .tup [.str "copy", .str x, .str y]) g2
    have s3 := Same.new (o := .tup [.str "see", .str x]) g3
    have sb := Same.new (o := .lst [.ref t1, .ref t2, .ref t3]) gb
    have z2 := s3.trans sb
    have z1 := s2.trans z2
    have z0 := s1.trans z1
    have w2 := w1.mono z0
    refine ⟨_, rfl, _, rfl, sz_of (by show 0 ≤ 100000; decide), fun le ge => ?_⟩
    have se := Same.new (o := .lst []) ge
    have f1 := se _ _ (z1 _ _ (upd_same (a := t1) (o := .tup [.str "nil", .str x])))
    have f2 := se _ _ (z2 _ _ (upd_same (a := t2) (o := .tup [.str "copy", .str x, .str y])))
    have f3 := se _ _ (sb _ _ (upd_same (a := t3) (o := .tup [.str "see", .str x])))
    have fb := se _ _ (upd_same (a := lb) (o := .lst [.ref t1, .ref t2, .ref t3]))
    have C1 := hc.but hw b1 (fun e x q => q.but hw b1)
    have C2 := tcls_mono C1 (z0.trans se)
    refine ⟨_, _, dp_cls C2, .lst (SqL.of upd_same) .nil, (cls_lay hok).shaped (by decide), rfl, .inr ⟨_, rfl, ?_⟩⟩
    have eN : ∃ N : Nat, (if (!PyData.eqv (clsD cl) (.list [])) = true then (1 : Int) else 0) = (N : Int) ∧ N ≤ 1 ∧ (0 < N → 0 < cl.length) := by
      cases cl with
      | nil => exact ⟨0, rfl, by decide, fun z => absurd z (by decide)⟩
      | cons c cl => exact ⟨1, rfl, by decide, fun _ => Nat.succ_pos _⟩
    obtain ⟨N, eN, N1, N2⟩ := eN
    rw [eN]
    refine ⟨_, rfl, by omega, by omega, fun D2 gD2 => ?_⟩
    have w3 := w2.mono se
    have eT : ((N : Int)).toNat = N := rfl
    rw [eT]
    refine lc_p (walk_range (lo := 0) (n := N)) gD2 w3 (fun _ H4 v => ∃ e, v = .ref e ∧ ∃ c, c ∈ cl.map Prod.fst ∧ H4 e = some (.tup [.str "new", .str x, .str c])) (by omega) (fun i H4 H5 v xs hD w4 b4 h => ?_) (fun _ _ => trivial) (fun i H4 y4 H5 xs hi b4 w4 hDl hy Qe qe => ?_) (fun H4 xs b4 w4 hl4 hx4 hD4 => ?_)
    · obtain ⟨e, rfl, c, m, h⟩ := h
      exact ⟨e, rfl, c, m, b4 _ _ h (ne_of h hD (by intro z; cases z)) (w4.neT h)⟩
    · obtain ⟨rfl, rfl⟩ := hy
      obtain ⟨es, c1, c2, c3⟩ := C2.but w3 b4 (fun e x q => q.but w3 b4)
      have cpos : 0 < es.length := by rw [c2]; exact N2 (by omega)
      refine ⟨rfl, _, rfl, _, rfl, _, rfl, p, ca, _, rfl, w4, w4.neL c1 head_refs, c1, by rw [List.length_map]; exact cpos, by rw [List.length_map]; omega, fun v H6 hv b6 w6 => ?_⟩
      obtain ⟨e, me, rfl⟩ := List.mem_map.mp hv
      obtain ⟨c, mc, la, ps, he, _⟩ := Each.at_ (R := ClsZ Tru H5) ⟨c2, c3⟩ me
      refine ⟨e, _, 0, _, rfl, rfl, SqT.of (w4.tup b6 he), at0, sz_of (by show 3 ≤ 100000; decide), fun t gt => ?_⟩
      exact qe _ _ (b6.then (Same.new gt)) (w6.mono (Same.new gt)) ⟨t, rfl, c.1, List.mem_map.mpr ⟨c, mc, rfl⟩, upd_same⟩
    obtain ⟨ts, rfl, hts⟩ := refs_of hx4
    rw [List.length_map] at hl4
    refine ⟨lb, D2, _, _, rfl, rfl, b4 _ _ fb ((w1.mono (s1.trans (s2.trans s3))).nn gb), hD4, sz_of (by rw [List.length_map, hl4]; show 3 + N ≤ 100000; omega), fun l gl => ?_⟩
    have sl := Same.new (o := .lst ([.ref t1, .ref t2, .ref t3] ++ ts.map V.ref)) gl
    have B4 : But p H H4 := (b1.then (z0.trans se)).trans b4
    have hE : Each (RowT (New H) (upd H4 l (.lst ([.ref t1, .ref t2, .ref t3] ++ ts.map V.ref)))) [t1, t2, t3] [.nil x, .copy x y, .see x] := by
      refine ⟨rfl, fun i e r e1 e2 => ?_⟩
      match i, e1, e2 with
      | 0, e1, e2 => cases e1; cases e2; exact rowT_new (sl _ _ (w3.tup b4 f1)) rfl
      | 1, e1, e2 => cases e1; cases e2; exact rowT_new (sl _ _ (w3.tup b4 f2)) rfl
      | 2, e1, e2 => cases e1; cases e2; exact rowT_new (sl _ _ (w3.tup b4 f3)) rfl
      | n + 3, e1, e2 => simp at e1
    obtain ⟨cs, hcs, hE2⟩ : ∃ cs : List Str, (∀ c ∈ cs, c ∈ cl.map Prod.fst) ∧ Each (RowT (New H) (upd H4 l (.lst ([.ref t1, .ref t2, .ref t3] ++ ts.map V.ref)))) ts (cs.map (Rx.new x)) := by
      obtain ⟨cs, E⟩ := Each.choose hts
      refine ⟨cs, fun c m => ?_, E.map fun e c q => rowT_new (sl _ _ q.2) rfl⟩
      obtain ⟨_, q, _⟩ := E.all c m
      exact q
    refine k l ([.nil x, .copy x y, .see x] ++ cs.map (Rx.new x)) _ (B4.then sl) (w4.mono sl) (none_but B4 w4 gl) (.of (by rw [upd_same]; simp) (hE.append hE2)) (by simp) ?_ ?_
    · have := hE2.1
      rw [List.length_map] at this
      rw [List.length_append, List.length_map, ← this, hl4]
      show 3 + N ≤ 20
      omega
    · intro r m
      rcases List.mem_append.mp m with m | m
      · simp only [List.mem_cons, List.not_mem_nil, or_false] at m
        rcases m with rfl | rfl | rfl
        · exact ⟨fun fds f h => h _ mx, rfl⟩
        · exact ⟨fun fds f h => ⟨_, h _ mx, h _ my⟩, rfl⟩
        · exact ⟨fun fds f h => ⟨_, h _ mx⟩, rfl⟩
      · obtain ⟨c, mc, rfl⟩ := List.mem_map.mp m
        exact ⟨fun fds f h => ⟨h _ mx, hcs c mc⟩, rfl⟩

end
end W1
set_option Elab.async false
set_option linter.all false
set_option maxRecDepth 100000
set_option maxHeartbeats 4000000
namespace W1
open PySem PySem.Spec PyProof.Rows L2 RZ CA
section
variable {P : Program} {w : World} {K : PySem.W.Frag} {mg : Str → Option Value} {base : Heap}

theorem each_cons {α : Type} {R : Addr → α → Prop} {e : Addr} {es : List Addr} {x : α} {xs : List α} (h : Each R (e :: es) (x :: xs)) : R e x ∧ Each R es xs := ⟨h.2 0 e x rfl rfl, by have := h.1; simpa using this, fun i a y e1 e2 => h.2 (i + 1) a y (by simpa using e1) (by simpa using e2)⟩
theorem pairs_two {H : Hp} : ∀ {ps : List Addr} {qs : List (Str × Str)}, PairsG H ps qs → ∃ kp : List ST.Two, ps.map V.ref = kp.map (fun b => V.ref b.1) ∧ (∀ b ∈ kp, H b.1 = some (.tup [.str b.2.1, .str b.2.2]) ∧ (b.2.1, b.2.2) ∈ qs) ∧ kp.length = qs.length
  | [], [], _ => ⟨[], rfl, fun b m => (by cases m), rfl⟩
  | [], _ :: _, h => by have := h.len; simp at this
  | _ :: _, [], h => by have := h.len; simp at this
  | p :: ps, q :: qs, h => by
    obtain ⟨kp, e1, e2, e3⟩ := pairs_two (ps := ps) (qs := qs) ⟨by have := h.len; simpa using this, fun i a y x1 x2 => h.at_ (i + 1) a y (by simpa using x1) (by simpa using x2)⟩
    refine ⟨(p, q.1, q.2) :: kp, by rw [List.map_cons, List.map_cons, e1], fun b m => ?_, by rw [List.length_cons, List.length_cons, e3]⟩
    rcases List.mem_cons.mp m with m | m
    · rw [m]
      exact ⟨h.at_ 0 p q rfl rfl, List.mem_cons_self⟩
    · exact ⟨(e2 b m).1, List.mem_cons_of_mem _ (e2 b m).2⟩
theorem cls_two {H : Hp} : ∀ {es : List Addr} {cl : ClsT}, Each (ClsZ Tru H) es cl → ∃ (parts : List (Addr × List V)) (kp : List ST.Two), parts.length = es.length ∧ (∀ p ∈ parts, H p.1 = some (.lst p.2)) ∧ (∀ (i : Nat) e t, es[i]? = some e → parts[i]? = some t → ∃ c : Str, H e = some (.tup [.str c, .ref t.1])) ∧
    parts.flatMap (·.2) = kp.map (fun b => V.ref b.1) ∧ (∀ b ∈ kp, H b.1 = some (.tup [.str b.2.1, .str b.2.2]) ∧ ∃ c ∈ cl, (b.2.1, b.2.2) ∈ c.2) ∧ kp.length = (cl.flatMap (·.2)).length
  | [], [], _ => ⟨[], [], rfl, fun p m => (by cases m), fun i e t a _ => by simp at a, rfl, fun b m => (by cases m), rfl⟩
  | [], _ :: _, h => by have := h.1; simp at this
  | _ :: _, [], h => by have := h.1; simp at this
  | e :: es, c :: cl, h => by
    obtain ⟨⟨la, ps, h1, _, h2, h3⟩, t⟩ := each_cons h
    obtain ⟨parts, kp, p1, p2, p3, p4, p5, p6⟩ := cls_two t
    obtain ⟨k2, q1, q2, q3⟩ := pairs_two h3
    refine ⟨(la, ps.map V.ref) :: parts, k2 ++ kp, by rw [List.length_cons, List.length_cons, p1], fun p m => ?_, fun i a t e1 e2 => ?_, by rw [List.flatMap_cons, List.map_append, p4, q1], fun b m => ?_, by rw [List.length_append, List.flatMap_cons, List.length_append, q3, p6]⟩
    · rcases List.mem_cons.mp m with m | m
      · rw [m]
        exact h2
      · exact p2 p m
    · cases i with
      | zero =>
        rw [← Option.some.inj e1, ← Option.some.inj e2]
        exact ⟨_, h1⟩
      | succ i => exact p3 i a t (by simpa using e1) (by simpa using e2)
    · rcases List.mem_append.mp m with m | m
      · exact ⟨(q2 b m).1, c, List.mem_cons_self, (q2 b m).2⟩
      · obtain ⟨r1, d, r2, r3⟩ := p5 b m
        exact ⟨r1, d, List.mem_cons_of_mem _ r2, r3⟩
theorem flat_le {cl : ClsT} (h : ∀ c ∈ cl, c.2.length ≤ 4) : (cl.flatMap (·.2)).length ≤ 4 * cl.length := by
  induction cl with
  | nil => exact Nat.le_refl _
  | cons c cl ih =>
    rw [List.flatMap_cons, List.length_append, List.length_cons]
    have := h c List.mem_cons_self
    have := ih fun d m => h d (List.mem_cons_of_mem _ m)
    omega
/-- what classes say of the kinds of their fields -/
def KsOk (cl : ClsT) : Prop := ∀ c ∈ cl, ∀ q ∈ c.2, valV (ksM cl) (Sum.inr q.1 : Key) = some (.str q.2)
def FitF (cl : ClsT) (f : FdT) (r : Rx) : Prop := (∀ fds, RowOk cl fds f r) ∧ r.goal = none
structure ClG (cl : ClsT) : Prop where
  ok : OkCs cl
  ks : KsOk cl
  l6 : cl.length ≤ 6
  l4 : ∀ c ∈ cl, c.2.length ≤ 4
structure HdG (f : FdT) : Prop where
  ok : ∀ q ∈ f.ns ++ f.ms, PyData.strOk q.1 = true
  l : f.ns.length + f.ms.length ≤ 100
theorem HdG.names {f : FdT} (h : HdG f) (q : Str) : ∀ x ∈ namesOf f q, PyData.strOk x = true := fun x m => h.ok (x, q) (names_ko.mp m)
theorem HdG.len {f : FdT} (h : HdG f) (q : Str) : (namesOf f q).length ≤ 100 := by
  unfold namesOf
  rw [List.length_map]
  have := List.length_filter_le (fun y : Str × Str => decide (y.2 = q)) (f.ns ++ f.ms)
  have := h.l
  rw [List.length_append] at *
  omega
def rSumS (K : PySem.W.Frag) : List V → Hp → VK → Prop := fun vs H Q => ∃ (l z : Addr) (parts : List (Addr × List V)), vs = [V.ref l, V.ref z] ∧ SqL K H l (parts.map fun p => V.ref p.1) ∧ (∀ p ∈ parts, H p.1 = some (.lst p.2)) ∧ H z = some (.lst []) ∧ (parts.flatMap (·.2)).length ≤ sizeLine ∧
  ∀ r H', Same H H' → H' r = some (.lst (parts.flatMap (·.2))) → Q (.ref r) H'
theorem cr_sumS {X : Cx} (hc : X.calm = true) : CallR X (.builtin "sum") (rSumS X.K) := by
  intro pins s σ H vs us Q I rr h
  obtain ⟨l, z, parts, rfl, hl, hp, hz, hL, q⟩ := h
  exact ST.cr_sumL hc pins s σ H _ us Q I rr ⟨l, z, parts, rfl, hl, hp, hz, hL, fun e => q z H (Same.refl _) (by rw [e]; exact hz), fun r hr => q r _ (Same.new hr) upd_same⟩
/-- == [] -/
theorem eq_nil_strs {ns : List Str} : PyData.eqv (.list (ns.map PyData.str)) (.list []) = decide (ns = []) := by
  cases ns <;> rfl
def spFieldRows (K : PySem.W.Frag) : Sp := fun vs H Q _ => ∃ (p e ca : Addr) (f : FdT) (cl : ClsT), vs = [.ref p, .ref e, .ref ca] ∧ WellAt H p ∧ HeadT Tru H e f ∧ HdG f ∧ TCls H ca cl ∧ ClG cl ∧
  ∀ (l : Addr) (rs : List Rx) (H' : Hp), But p H H' → WellAt H' p → H l = none → RowsL (New H) H' l rs → rs.length ≤ 20 → (∀ r ∈ rs, FitF cl f r) → Q (.ref l) H'
theorem sc_L_field_rows : FnScope ["_law_well_here", "_law_head", "_law_classes_here", "_law_fields", "_law_objects", "_law_field", "_law_kind", "_law_one", "_law_other", "_law_name", "_law_its"] ["_law_well_here", "_law_head", "_law_classes_here"] (defScope s_L_field_rows) := ⟨rfl, rfl, rfl, by decide +kernel, rfl, by decide +kernel, by decide +kernel⟩
theorem ok_L_field_rows (T : Ctx w K mg) (H_L_pick : Has P w K mg base 3 "_law_pick" ["_law_well_here", "_law_items"] (spPick K)) (H_L_named : Has P w K mg base 1 "_law_named" ["_law_head", "_law_kind"] spNamedL) : Has P w K mg base 4 "_law_field_rows" ["_law_well_here", "_law_head", "_law_classes_here"] (spFieldRows K) := by
  obtain ⟨fd, F⟩ := T.D_L_field_rows
  obtain ⟨fd_L_pick, G_L_pick, b_L_pick⟩ := H_L_pick.ex
  obtain ⟨fd_L_named, G_L_named, b_L_named⟩ := H_L_named.ex
  refine ⟨⟨fd, F.ok sc_L_field_rows (fun vs H Q E h => ?_) (fun cdv A outer s H vs Q E hr h => ?_), F.bindsN fun _ _ _ _ _ _ us hl => match us, hl with | [_, _, _], _ => rfl⟩, F.kp, T.g_L_field_rows⟩
  · obtain ⟨p, e, ca, f, cl, rfl, hw, hh, hf, hc, hG, k⟩ := h; rfl
  · obtain ⟨p, e, ca, f, cl, rfl, hw, hh, hf, hc, hG, k⟩ := h
    have hr_L_pick : Room 3 _ := hr.mono (by decide)
    have hr_L_named : Room 1 _ := hr.mono (by decide)
    have hu := hu_of hr
    refine ⟨_, PSs.nox (pss_cons (ps_par (i := 3) (j := 4) (by rfl) sc_L_field_rows.nd rfl rfl (by decide) rfl rfl (pa_cons ((pe_callB (ST.cr_sortP rfl hr.units) (by rfl) T.f_sorted (by decide +kernel) (pa_cons (pe_callTy (ST.cr_setP rfl hr.units) (by rfl) T.f_set (by decide +kernel) (pa_cons (pe_callB (cr_sumS rfl) (by rfl) T.f_sum (by decide +kernel) (pa_cons (pe_lc (own := [("_law_name", 9), ("_law_its", 10)]) (g := gTup K 2 (gCons (gName 9) (gCons (gName 10) (gNil)))) (tt := tYes) rfl sc_L_field_rows.nd (pi_list (pv 2)) (blkOk_by (N := ["_law_well_here", "_law_head", "_law_classes_here", "_law_fields", "_law_objects", "_law_field", "_law_kind", "_law_one", "_law_other", "_law_name", "_law_its"]) (sc := defScope s_L_field_rows) (by decide +kernel)) (fun _ _ _ _ _ => (pg_tup rfl (pgs_cons (pg_name (i := 9) sc_L_field_rows.nd rfl (Or.inl rfl)) (pgs_cons (pg_name (i := 10) sc_L_field_rows.nd rfl (Or.inl rfl)) pgs_nil)))) (fun _ _ _ _ _ => pts_nil) (fun _ _ _ _ _ => (pv 10))) (pa_cons (pe_lst pa_nil) pa_nil))) pa_nil)) pa_nil))) (pa_cons (pe_call G_L_named hr_L_named (by rfl) H_L_named.gl H_L_named.kp b_L_named .nil pass0 (pa_cons (pv 1) (pa_cons pe_str pa_nil))) pa_nil)) (by rfl))
      (pss_cons (ps_if (PW.pt (pw_or (pt_cmpR (op_eqD hr.units) (pv 3) (pe_lst pa_nil) (nomark _)) (pw_or1 (pt_cmpR (op_eqD hr.units) (pv 4) (pe_lst pa_nil) (nomark _))))) (pss_one (ps_ret (pe_lst pa_nil))) pss_nil)
      (pss_cons (ps_asg (pe_call G_L_pick hr_L_pick (by rfl) H_L_pick.gl H_L_pick.kp b_L_pick .nil pass0 (pa_cons (pv 0) (pa_cons (pv 3) pa_nil))) (pg_tup rfl (pgs_cons (pg_name (i := 5) sc_L_field_rows.nd rfl (Or.inl rfl)) (pgs_cons (pg_name (i := 6) sc_L_field_rows.nd rfl (Or.inl rfl)) pgs_nil))))
      (pss_cons (ps_if (pt_cmpR (op_eqD hr.units) (pe_call G_L_named hr_L_named (by rfl) H_L_named.gl H_L_named.kp b_L_named .nil pass0 (pa_cons (pv 1) (pa_cons (pv 6) pa_nil))) (pe_lst pa_nil) (nomark _)) (pss_one (ps_ret (pe_lst pa_nil))) pss_nil)
      (pss_cons (ps_par (i := 7) (j := 8) (by rfl) sc_L_field_rows.nd rfl rfl (by decide) rfl rfl (pa_cons (pe_call G_L_pick hr_L_pick (by rfl) H_L_pick.gl H_L_pick.kp b_L_pick .nil pass0 (pa_cons (pv 0) (pa_cons (pv 4) pa_nil))) (pa_cons (pe_call G_L_pick hr_L_pick (by rfl) H_L_pick.gl H_L_pick.kp b_L_pick .nil pass0 (pa_cons (pv 0) (pa_cons (pe_call G_L_named hr_L_named (by rfl) H_L_named.gl H_L_named.kp b_L_named .nil pass0 (pa_cons (pv 1) (pa_cons (pv 6) pa_nil))) pa_nil))) pa_nil)) (by rfl))
      (pss_one (ps_ret (pe_lst (pa_cons (pe_tup (pa_cons pe_str (pa_cons (pv 8) (pa_cons (pv 7) (pa_cons (pv 5) pa_nil))))) (pa_cons (pe_tup (pa_cons pe_str (pa_cons (pv 7) (pa_cons (pv 5) (pa_cons (pv 8) pa_nil))))) pa_nil)))))))))), ?_⟩
    obtain ⟨es, c1, c2, c3⟩ := hc
    have hl6 := hG.l6
    refine ⟨_, rfl, ca, rfl, ⟨_, SqL.of c1⟩, fun D gD => ?_⟩
    obtain ⟨parts, kp, p1, p2, p3, p4, p5, p6⟩ := cls_two ⟨c2, c3⟩
    refine lc_any (walk_list (K := K) (a := ca) (xs := es.map V.ref)) gD (fun i H1 v => ∃ t, parts[i]? = some t ∧ v = .ref t.1) (by rw [List.length_map]; omega) (fun i H1 H2 v xs h1 b h => h) (fun H2 s2 => SqL.of (s2 _ _ c1)) (fun i H2 y H3 xs hi s2 hDl hy Qe qe => ?_) (fun H2 xs s2 hl hx h2 => ?_)
    · obtain ⟨rfl, hy⟩ := hy
      obtain ⟨a, ha, rfl⟩ := map_get hy
      have hi2 : i < parts.length := by rw [p1]; exact (List.getElem?_eq_some_iff.mp ha).1
      obtain ⟨c, hc⟩ := p3 i a _ ha (List.getElem?_eq_getElem hi2)
      exact ⟨a, _, rfl, SqT.of (s2 _ _ hc), rfl, _, _, rfl, _, _, rfl, rfl, rfl, _, rfl, qe _ _ (Same.refl _) ⟨_, List.getElem?_eq_getElem hi2, rfl⟩⟩
    have ex : xs = parts.map fun t => V.ref t.1 := by
      apply List.ext_getElem?
      intro i
      rw [List.getElem?_map]
      cases e : xs[i]? with
      | none =>
        have : parts[i]? = none := by
          rw [List.getElem?_eq_none_iff] at e ⊢
          rw [p1]
          rw [List.length_map] at hl
          omega
        rw [this]
        rfl
      | some v =>
        obtain ⟨t, ht, rfl⟩ := hx i v e
        rw [ht]
        rfl
    subst ex
    have fl := flat_le hG.l4
    refine ⟨sz_of (by show 0 ≤ 100000; decide), fun z gz => ?_⟩
    have sz := Same.new (o := .lst []) gz
    refine ⟨D, z, parts, rfl, SqL.of (sz _ _ h2), fun t m => sz _ _ (s2 _ _ (p2 t m)), upd_same, sz_of (by rw [p4, List.length_map, p6]; omega), fun r H3 s3 hr => ?_⟩
    have S3 := s2.trans (sz.trans s3)
    rw [p4] at hr
    have h5 : ∀ b ∈ kp, H3 b.1 = some (.tup [.str b.2.1, .str b.2.2]) := fun b m => S3 _ _ (p5 b m).1
    refine ⟨r, kp, rfl, SqL.of hr, fun b m => SqT.of (h5 b m), by rw [p6]; omega, fun a ga => ?_⟩
    have sa := Same.new (o := ST.SetO P w a kp) ga
    refine ⟨a, kp, rfl, upd_same, fun b m => SqT.of (sa _ _ (h5 b m)), fun L lf hL hLl hLn gL => ?_⟩
    have sL := Same.new (o := .lst (L.map fun q => V.ref q.1)) gL
    have S5 := S3.trans (sa.trans sL)
    have h5L : ∀ b ∈ L, _ = some (HO.tup [.str b.2.1, .str b.2.2]) := fun b m => S5 _ _ (p5 b (hL b m)).1
    have w5 := hw.mono S5
    refine ⟨_, rfl, e, f, _, rfl, hh.to (fun _ z => z) (.of S5), hf.l, fun lo H6 s6 g6 h6 => ?_⟩
    have S6 := S5.trans s6
    have w6 := w5.mono s6
    have hlf := s6 _ _ (upd_same (a := lf) (o := .lst (L.map fun q => V.ref q.1)))
    have P6 : PairsG H6 (L.map Prod.fst) (L.map Prod.snd) := ⟨by simp, fun i a q e1 e2 => by
      rw [List.getElem?_map] at e1 e2
      cases eL : L[i]? with
      | none => rw [eL] at e1; cases e1
      | some b =>
        rw [eL] at e1 e2
        rw [← Option.some.inj e1, ← Option.some.inj e2]
        exact S6 _ _ (p5 b (hL b (List.mem_of_getElem? eL))).1⟩
    have hlf2 : H6 lf = some (.lst ((L.map Prod.fst).map V.ref)) := by rw [hlf, List.map_map]; rfl
    have okP : OkPs (L.map Prod.snd) := fun q m => by
      obtain ⟨b, mb, rfl⟩ := List.mem_map.mp m
      obtain ⟨_, c, mc, hc⟩ := p5 b (hL b mb)
      exact (hG.ok c mc).2 _ hc
    have okN := hf.names "object"
    have lnN := hf.len "object"
    refine ⟨_, _, rfl, _, rfl, sz_of (by show 0 ≤ 100000; decide), fun l1 g1 => ?_⟩
    have s7 := Same.new (o := .lst []) g1
    refine ⟨_, _, dp_pairs (s7 _ _ hlf2) (P6.mono s7), .lst (SqL.of upd_same) .nil, (pairs_lay okP).shaped (by decide), rfl, ?_⟩
    have fin : ∀ {H9 : Hp}, But p H H9 → WellAt H9 p → ∀ l, H9 l = none → Q (.ref l) (upd H9 l (.lst [])) := fun {H9} b9 w9 l gl =>
      k l [] _ (b9.then (Same.new gl)) (w9.mono (Same.new gl)) (none_but b9 w9 gl) (.of upd_same .nil) (Nat.zero_le _) (fun r m => by cases m)
    have w7 := w6.mono s7
    have S7 := S6.trans s7
    by_cases cL : L = []
    · have ev : PyData.eqv (pairsD (L.map Prod.snd)) (.list []) = true := by rw [cL]; rfl
      exact ⟨_, rfl, ifT ev (ifT rfl ⟨sz_of (by show 0 ≤ 100000; decide), fun l gl => fin (But.of S7) w7 l gl⟩)⟩
    have ev : PyData.eqv (pairsD (L.map Prod.snd)) (.list []) = false := by
      cases L with
      | nil => exact absurd rfl cL
      | cons _ _ => rfl
    refine ⟨_, rfl, ifF ev ⟨_, rfl, sz_of (by show 0 ≤ 100000; decide), fun l2 g2 => ?_⟩⟩
    have s8 := Same.new (o := .lst []) g2
    have S8 := S7.trans s8
    have w8 := w7.mono s8
    have h8 := s8 _ _ (s7 _ _ h6)
    refine ⟨_, _, dp_strs h8, .lst (SqL.of upd_same) .nil, (strs_lay okN).shaped (by decide), rfl, _, rfl, ?_⟩
    rw [eq_nil_strs]
    by_cases cO : namesOf f "object" = []
    · exact ifT (decide_eq_true cO) ⟨sz_of (by show 0 ≤ 100000; decide), fun l gl => fin (But.of S8) w8 l gl⟩
    refine ifF (decide_eq_false cO) ?_
    have pO : 0 < (namesOf f "object").length := List.length_pos_iff.mpr cO
    have pL : 0 < L.length := List.length_pos_iff.mpr cL
    have hlf8 := s8 _ _ (s7 _ _ hlf2)
    refine ⟨_, rfl, _, rfl, p, lf, _, rfl, w8, w8.neL hlf8 head_refs, hlf8, by rw [List.length_map, List.length_map]; exact pL, by rw [List.length_map, List.length_map]; omega, fun v H9 hv b9 w9 => ?_⟩
    obtain ⟨b, mb, rfl⟩ : ∃ b ∈ L, v = .ref b.1 := by
      obtain ⟨a, ma, rfl⟩ := List.mem_map.mp hv
      obtain ⟨b, mb, rfl⟩ := List.mem_map.mp ma
      exact ⟨b, mb, rfl⟩
    have hb9 := w8.tup b9 (S8 _ _ (p5 b (hL b mb)).1)
    obtain ⟨c, mc, hbc⟩ := (p5 b (hL b mb)).2
    refine ⟨b.1, _, rfl, SqT.of hb9, rfl, _, _, rfl, _, _, rfl, rfl, ?_⟩
    have B9 : But p H H9 := (But.of S8).trans b9
    refine ⟨_, rfl, _, rfl, e, f, b.2.2, rfl, hh.but hw B9, hf.l, fun ln H10 s10 g10 h10 => ?_⟩
    have w10 := w9.mono s10
    refine ⟨sz_of (by show 0 ≤ 100000; decide), fun l3 g3 => ?_⟩
    have s11 := Same.new (o := .lst []) g3
    have w11 := w10.mono s11
    have B11 := B9.then (s10.trans s11)
    refine ⟨_, _, dp_strs (s11 _ _ h10), .lst (SqL.of upd_same) .nil, (strs_lay (hf.names _)).shaped (by decide), rfl, ?_⟩
    rw [eq_nil_strs]
    by_cases cN : namesOf f b.2.2 = []
    · exact ⟨_, rfl, ifT (decide_eq_true cN) ⟨sz_of (by show 0 ≤ 100000; decide), fun l gl => fin B11 w11 l gl⟩⟩
    refine ⟨_, rfl, ifF (decide_eq_false cN) ?_⟩
    have pN : 0 < (namesOf f b.2.2).length := List.length_pos_iff.mpr cN
    have ho11 := s11 _ _ (s10 _ _ (w8.strs b9 h8))
    refine ⟨_, rfl, _, rfl, p, lo, _, rfl, w11, w11.neL ho11 head_strs, ho11, by rw [List.length_map]; exact pO, by rw [List.length_map]; omega, fun v1 H12 hv1 b12 w12 => ?_⟩
    obtain ⟨x, rfl, mx⟩ := str_in hv1
    have B12 := B11.trans b12
    refine ⟨_, rfl, _, rfl, _, rfl, e, f, b.2.2, rfl, hh.but hw B12, hf.l, fun lm H13 s13 g13 h13 => ?_⟩
    have w13 := w12.mono s13
    have lnM := hf.len b.2.2
    refine ⟨p, lm, _, rfl, w13, w13.neL h13 head_strs, h13, by rw [List.length_map]; exact pN, by rw [List.length_map]; omega, fun v2 H14 hv2 b14 w14 => ?_⟩
    obtain ⟨y, rfl, my⟩ := str_in hv2
    have B14 := (B12.then s13).trans b14
    refine ⟨_, _, rfl, ?_⟩
    refine ⟨_, rfl, _, rfl, _, rfl, sz_of (by show 4 ≤ 100000; decide), fun t1 g1 => ⟨_, rfl, _, rfl, _, rfl, sz_of (by show 4 ≤ 100000; decide), fun t2 g2 => ⟨sz_of (by show 2 ≤ 100000; decide), fun l gl => ?_⟩⟩⟩
    have q1 := Same.new (o := .tup [.str "get", .str y, .str x, .str b.2.1]) g1
    have q2 := Same.new (o := .tup [.str "put", .str x, .str b.2.1, .str y]) g2
    have q3 := Same.new (o := .lst [.ref t1, .ref t2]) gl
    have q23 := q2.trans q3
    have ko1 := names_ko.mp mx
    have ko2 := names_ko.mp my
    refine k l [.get y x b.2.1, .put x b.2.1 y] _ (B14.then (q1.trans q23)) (w14.mono (q1.trans q23)) (none_but (B14.then (q1.trans q2)) (w14.mono (q1.trans q2)) gl) (.of (es := [t1, t2]) upd_same ⟨rfl, fun i a r e1 e2 => ?_⟩) (by show 2 ≤ 20; decide) fun r m => ?_
    · match i, e1, e2 with
      | 0, e1, e2 => cases e1; cases e2; exact rowT_new (q23 _ _ upd_same) rfl
      | 1, e1, e2 => cases e1; cases e2; exact rowT_new (q3 _ _ upd_same) rfl
      | n + 2, e1, e2 => simp at e1
    · simp only [List.mem_cons, List.not_mem_nil, or_false] at m
      rcases m with rfl | rfl
      · exact ⟨fun fds => ⟨_, ko1, ko2, hG.ks c mc _ hbc⟩, rfl⟩
      · exact ⟨fun fds => ⟨_, ko1, ko2, hG.ks c mc _ hbc⟩, rfl⟩

end
end W1
set_option Elab.async false
set_option linter.all false
set_option maxRecDepth 100000
set_option maxHeartbeats 4000000
namespace W1
open PySem PySem.Spec PyProof.Rows L2 RZ CA
section
variable {P : Program} {w : World} {K : PySem.W.Frag} {mg : Str → Option Value} {base : Heap}

theorem op_eqDK {X : Cx} {K : PySem.W.Frag} (hk : X.K = K) (hu : X.A.units + 64 < cLine) : OpR X (compareOp .Eq) (rEqD K) := by
  subst hk
  exact op_eqD hu
theorem list_ext {α : Type} {f : α → V} {xs : List V} {l : List α} (hl : xs.length = l.length) (h : ∀ (i : Nat) v, xs[i]? = some v → ∃ x, l[i]? = some x ∧ v = f x) : xs = l.map f := by
  apply List.ext_getElem?
  intro i
  rw [List.getElem?_map]
  cases e : xs[i]? with
  | none =>
    have : l[i]? = none := by
      rw [List.getElem?_eq_none_iff] at e ⊢
      omega
    rw [this]
    rfl
  | some v =>
    obtain ⟨x, hx, rfl⟩ := h i v e
    rw [hx]
    rfl
theorem cut_init {xs : List V} {x : V} : cutV (xs ++ [x]) none (some (-1)) = xs := by
  unfold cutV
  have e : HT.sIx (xs ++ [x]).length (xs ++ [x]).length (some (-1)) = xs.length := by
    show (if (-1 : Int) < 0 then ((-1 : Int) + ((xs ++ [x]).length : Int)).toNat else min (-1 : Int).toNat (xs ++ [x]).length) = _
    rw [if_pos (by decide), List.length_append, List.length_singleton]
    omega
  rw [e, HT.sIx_none]
  simp
theorem dp_ones {K : PySem.W.Frag} {H : Hp} {a : Addr} {α : Type} {l : List α} (h : H a = some (.lst (l.map fun _ => V.int 1))) : Dp K H (.ref a) (.list (l.map fun _ => PyData.int 1)) := by
  refine .lst (SqL.of h) ?_
  clear h
  induction l with
  | nil => exact .nil
  | cons x l ih => exact .cons (.int _) ih
theorem ones_lay {α : Type} {l : List α} : Lay (.list (l.map fun _ => PyData.int 1)) 1 := .list (.map fun x m => .int)
theorem eq_nil_ones {α : Type} {l : List α} : PyData.eqv (.list (l.map fun _ => PyData.int 1)) (.list []) = l.isEmpty := by
  cases l <;> rfl
def FitC (hs : List FdT) (f : FdT) (r : Rx) : Prop := (∀ cl, RowOk cl hs f r) ∧ r.goal = none
def spCallRows : Sp := fun vs H Q _ => ∃ (p e la : Addr) (f : FdT) (hs : List FdT), vs = [.ref p, .ref e, .ref la] ∧ WellAt H p ∧ HeadT Tru H e f ∧ HdG f ∧ LstR FdT (HeadT Tru) H la hs ∧ (∀ g ∈ hs, HdG g) ∧ 0 < hs.length ∧ hs.length ≤ 100 ∧
  ∀ (l : Addr) (rs : List Rx) (H' : Hp), But p H H' → WellAt H' p → H l = none → RowsL (New H) H' l rs → rs.length ≤ 20 → (∀ r ∈ rs, FitC hs f r) → Q (.ref l) H'
theorem sc_L_call_rows : FnScope ["_law_well_here", "_law_head", "_law_heads_here", "_law_called", "_law_sorts_so", "_law_some_here", "_law_kind", "_law_name"] ["_law_well_here", "_law_head", "_law_heads_here"] (defScope s_L_call_rows) := ⟨rfl, rfl, rfl, by decide +kernel, rfl, by decide +kernel, by decide +kernel⟩
theorem ok_L_call_rows (T : Ctx w K mg) (H_L_pick : Has P w K mg base 3 "_law_pick" ["_law_well_here", "_law_items"] (spPick K)) (H_L_named : Has P w K mg base 1 "_law_named" ["_law_head", "_law_kind"] spNamedL) : Has P w K mg base 4 "_law_call_rows" ["_law_well_here", "_law_head", "_law_heads_here"] spCallRows := by
  obtain ⟨fd, F⟩ := T.D_L_call_rows
  obtain ⟨fd_L_pick, G_L_pick, b_L_pick⟩ := H_L_pick.ex
  obtain ⟨fd_L_named, G_L_named, b_L_named⟩ := H_L_named.ex
  refine ⟨⟨fd, F.ok sc_L_call_rows (fun vs H Q E h => ?_) (fun cdv A outer s H vs Q E hr h => ?_), F.bindsN fun _ _ _ _ _ _ us hl => match us, hl with | [_, _, _], _ => rfl⟩, F.kp, T.g_L_call_rows⟩
  · obtain ⟨p, e, la, f, hs, rfl, hw, hh, hf, hc, hgs, h0, h1, k⟩ := h; rfl
  · obtain ⟨p, e, la, f, hs, rfl, hw, hh, hf, hc, hgs, h0, h1, k⟩ := h
    have hr_L_pick : Room 3 _ := hr.mono (by decide)
    have hr_L_named : Room 1 _ := hr.mono (by decide)
    have hu := hu_of hr
    refine ⟨_, PSs.nox (pss_cons (ps_set (i := 3) sc_L_call_rows.nd rfl (Or.inl rfl) (pe_call G_L_pick hr_L_pick (by rfl) H_L_pick.gl H_L_pick.kp b_L_pick .nil pass0 (pa_cons (pv 0) (pa_cons (pv 2) pa_nil))))
      (pss_cons (ps_set (i := 4) sc_L_call_rows.nd rfl (Or.inl rfl) (pe_op op_cat (pe_lc (own := [("_law_name", 7), ("_law_kind", 6)]) (g := gTup K 2 (gCons (gName 7) (gCons (gName 6) (gNil)))) (tt := tYes) rfl sc_L_call_rows.nd (pi_list (pe_ix ix_tup (pv 3) pe_int (fun _ _ => rfl))) (blkOk_by (N := ["_law_well_here", "_law_head", "_law_heads_here", "_law_called", "_law_sorts_so", "_law_some_here", "_law_kind", "_law_name"]) (sc := defScope s_L_call_rows) (by decide +kernel)) (fun _ _ _ _ _ => (pg_tup rfl (pgs_cons (pg_name (i := 7) sc_L_call_rows.nd rfl (Or.inl rfl)) (pgs_cons (pg_name (i := 6) sc_L_call_rows.nd rfl (Or.inl rfl)) pgs_nil)))) (fun _ _ _ _ _ => pts_nil) (fun _ _ _ _ _ => (pv 6))) (pe_lst (pa_cons (pe_ix ix_tup (pv 3) pe_int (fun _ _ => rfl)) pa_nil))))
      (pss_cons (ps_if (pt_cmpR (op_neD hr.units) (pe_lc (own := [("_law_kind", 6)]) (g := gName 6) rfl sc_L_call_rows.nd (pi_list (pv 4)) (blkOk_by (N := ["_law_well_here", "_law_head", "_law_heads_here", "_law_called", "_law_sorts_so", "_law_some_here", "_law_kind", "_law_name"]) (sc := defScope s_L_call_rows) (by decide +kernel)) (fun _ _ _ _ _ => (pg_name (i := 6) sc_L_call_rows.nd rfl (Or.inl rfl))) (fun _ _ _ _ _ => (pts_one (pt_cmpR (op_eqDK (K := K) rfl hr.units) (pe_call G_L_named hr_L_named (by rfl) H_L_named.gl H_L_named.kp b_L_named .nil pass0 (pa_cons (pv 1) (pa_cons (pv 6) pa_nil))) (pe_lst pa_nil) (nomark _)))) (fun _ _ _ _ _ => pe_int)) (pe_lst pa_nil) (nomark _)) (pss_one (ps_ret (pe_lst pa_nil))) pss_nil)
      (pss_cons (ps_setLc (i := 5) (own := [("_law_kind", 6)]) (g := gName 6) (tt := tYes) rfl sc_L_call_rows.nd rfl rfl (sw_true rfl rfl rfl (by decide +kernel)) (pi_list (pv 4)) (blkOk_by (N := ["_law_well_here", "_law_head", "_law_heads_here", "_law_called", "_law_sorts_so", "_law_some_here", "_law_kind", "_law_name"]) (sc := defScope s_L_call_rows) (by decide +kernel)) (fun _ _ _ _ _ => (pg_name (i := 6) sc_L_call_rows.nd rfl (Or.inl rfl))) (fun _ _ _ _ _ => pts_nil) (fun _ _ _ _ _ => (pe_call G_L_pick hr_L_pick (by rfl) H_L_pick.gl H_L_pick.kp b_L_pick .nil pass0 (pa_cons (pv 0) (pa_cons (pe_call G_L_named hr_L_named (by rfl) H_L_named.gl H_L_named.kp b_L_named .nil pass0 (pa_cons (pv 1) (pa_cons (pv 6) pa_nil))) pa_nil)))))
      (pss_one (ps_ret (pe_lst (pa_cons (pe_tup (pa_cons pe_str (pa_cons (pe_ix ix_list (pv 5) (pe_un un_neg pe_int) (fun _ _ => rfl)) (pa_cons (pe_ix ix_tup (pv 3) pe_int (fun _ _ => rfl)) (pa_cons (pe_slice sl_list (pv 5) po_none (po_some (pe_un un_neg pe_int))) pa_nil))))) pa_nil)))))))), ?_⟩
    obtain ⟨es, c1, c2, c3⟩ := hc
    refine ⟨_, rfl, _, rfl, p, la, _, rfl, hw, hw.neL c1 head_refs, c1, by rw [List.length_map, c2]; exact h0, by rw [List.length_map, c2]; omega, fun v H1 hv b1 w1 => ?_⟩
    obtain ⟨ge, mg, rfl⟩ := List.mem_map.mp hv
    obtain ⟨gg, mgg, hg⟩ := Each.at_ (R := HeadT Tru H) ⟨c2, c3⟩ mg
    obtain ⟨j, hj, ej⟩ := List.getElem_of_mem mgg
    have hj2 : hs[j]? = some gg := by rw [List.getElem?_eq_getElem hj, ej]
    have hG := hgs gg mgg
    have hGl := hG.l
    have hg1 := hg.but hw b1
    obtain ⟨pa, oa, ps, qs, k1, _, k2, k3, k4, k5⟩ := hg1
    refine ⟨_, rfl, ge, _, 1, _, rfl, rfl, SqT.of k1, at1, pa, rfl, ⟨_, SqL.of k2⟩, fun D gD => ?_⟩
    refine lc_any (walk_list (K := K) (a := pa) (xs := ps.map V.ref)) gD (fun i H2 v => ∃ q, gg.ns[i]? = some q ∧ v = .str q.2) (by rw [List.length_map, k3.len]; omega) (fun i H2 H3 v xs _ _ h => h) (fun H2 s2 => SqL.of (s2 _ _ k2)) (fun i H2 y H3 xs hi s2 hDl hy Qe qe => ?_) (fun H2 xs s2 hl hx h2 => ?_)
    · obtain ⟨rfl, hy⟩ := hy
      obtain ⟨a, pr, rfl, e1, e2, h1⟩ := k3.get hy
      exact ⟨a, _, rfl, SqT.of (s2 _ _ h1), rfl, _, _, rfl, _, _, rfl, rfl, rfl, _, rfl, qe _ _ (Same.refl _) ⟨pr, e2, rfl⟩⟩
    have ex := list_ext (l := gg.ns) (by rw [hl, List.length_map, k3.len]) hx
    subst ex
    have S2 := s2
    refine ⟨_, rfl, ge, _, 3, _, rfl, rfl, SqT.of (s2 _ _ k1), at3, sz_of (by show 1 ≤ 100000; decide), fun l1 g1 => ?_⟩
    have s3 := Same.new (o := .lst [.str gg.res]) g1
    refine ⟨D, l1, _, _, rfl, rfl, s3 _ _ h2, upd_same, sz_of (by rw [List.length_map]; show gg.ns.length + 1 ≤ 100000; omega), fun lo go => ?_⟩
    have s4 := Same.new (o := .lst (gg.ns.map (fun q => V.str q.2) ++ [.str gg.res])) go
    have S4 := s2.trans (s3.trans s4)
    have w4 := w1.mono S4
    have eso : gg.ns.map (fun q => V.str q.2) ++ [.str gg.res] = (gg.ns.map (·.2) ++ [gg.res]).map V.str := by simp
    have ho : upd (upd H2 l1 (.lst [.str gg.res])) lo (.lst (gg.ns.map (fun q => V.str q.2) ++ [.str gg.res])) lo = some (.lst ((gg.ns.map (·.2) ++ [gg.res]).map V.str)) := by rw [upd_same, eso]
    have lso : (gg.ns.map (·.2) ++ [gg.res]).length = gg.ns.length + 1 := by simp
    have B4 := b1.then S4
    have k14 := S4 _ _ k1
    clear hx hl eso
    generalize upd (upd H2 l1 (.lst [.str gg.res])) lo (.lst (gg.ns.map (fun q => V.str q.2) ++ [.str gg.res])) = H4 at s4 S4 w4 ho B4 k14
    generalize hso : gg.ns.map (·.2) ++ [gg.res] = so at ho lso
    refine ⟨_, rfl, lo, rfl, ⟨_, SqL.of ho⟩, fun D2 gD2 => ?_⟩
    refine lc_filt (walk_list (K := K) (a := lo) (xs := so.map V.str)) gD2 (fun _ => .int 1) (fun t => decide (namesOf f (so.getD t "") = [])) (by rw [List.length_map]; omega) (fun H5 s5 => SqL.of (s5 _ _ ho)) (fun t H5 y H6 ht s5 hy Qe Qn qe qn => ?_) (fun H5 s5 h5 => ?_)
    · obtain ⟨rfl, hy⟩ := hy
      obtain ⟨q, hq, rfl⟩ := map_get hy
      have exq : so.getD t "" = q := by
        rw [List.getD_eq_getElem?_getD, hq]
        rfl
      rw [exq] at qe qn
      refine ⟨rfl, _, rfl, _, rfl, e, f, q, rfl, (hh.but hw B4).to (fun _ z => z) (.of s5), hf.l, fun ln H7 s7 g7 h7 => ⟨sz_of (by show 0 ≤ 100000; decide), fun l3 g3 => ?_⟩⟩
      have s8 := Same.new (o := .lst []) g3
      refine ⟨_, _, dp_strs (s8 _ _ h7), .lst (SqL.of upd_same) .nil, (strs_lay (hf.names q)).shaped (by decide), rfl, ?_⟩
      rw [eq_nil_strs]
      by_cases c : namesOf f q = []
      · exact ⟨_, rfl, ifT (decide_eq_true c) (qe _ (s7.trans s8) (decide_eq_true c))⟩
      · exact ⟨_, rfl, ifF (decide_eq_false c) (qn _ (s7.trans s8) (decide_eq_false c))⟩
    refine ⟨sz_of (by show 0 ≤ 100000; decide), fun l3 g3 => ?_⟩
    have s6 := Same.new (o := .lst []) g3
    have w6 := (w4.mono s5).mono s6
    have B6 := B4.then (s5.trans s6)
    refine ⟨_, _, dp_ones (s6 _ _ h5), .lst (SqL.of upd_same) .nil, ones_lay.shaped (by decide), rfl, ?_⟩
    rw [eq_nil_ones]
    rcases (Classical.em (((List.range (so.map V.str).length).filter fun t => decide (namesOf f (so.getD t "") = [])) = [])).symm with cE | cE
    · have ev : (!(((List.range (so.map V.str).length).filter fun t => decide (namesOf f (so.getD t "") = [])).isEmpty)) = true := by
        rw [List.isEmpty_eq_false_iff.mpr cE]
        rfl
      refine ⟨_, rfl, ifT ev ⟨sz_of (by show 0 ≤ 100000; decide), fun l gl => ?_⟩⟩
      exact k l [] _ (B6.then (Same.new gl)) (w6.mono (Same.new gl)) (none_but B6 w6 gl) (.of upd_same .nil) (Nat.zero_le _) (fun r m => by cases m)
    have ev : (!(((List.range (so.map V.str).length).filter fun t => decide (namesOf f (so.getD t "") = [])).isEmpty)) = false := by
      rw [cE]
      rfl
    refine ⟨_, rfl, ifF ev ?_⟩
    have ne : ∀ t q, so[t]? = some q → 0 < (namesOf f q).length := fun t q hq => by
      refine List.length_pos_iff.mpr fun z => ?_
      have m : t ∈ (List.range (so.map V.str).length).filter fun t => decide (namesOf f (so.getD t "") = []) := by
        refine List.mem_filter.mpr ⟨List.mem_range.mpr (by rw [List.length_map]; exact (List.getElem?_eq_some_iff.mp hq).1), decide_eq_true ?_⟩
        rw [List.getD_eq_getElem?_getD, hq]
        exact z
      rw [cE] at m
      cases m
    have ho6 := s6 _ _ (s5 _ _ ho)
    refine ⟨_, rfl, lo, rfl, ⟨_, SqL.of ho6⟩, fun D3 gD3 => ?_⟩
    refine lc_p (walk_list (K := K) (a := lo) (xs := so.map V.str)) gD3 w6 (fun i _ v => ∃ x q, so[i]? = some q ∧ KO f x q ∧ v = .str x) (by rw [List.length_map]; omega) (fun _ _ _ _ _ _ _ _ h => h) (fun H7 b7 => SqL.of (w6.strs b7 ho6)) (fun i H7 y H8 xs hi b7 w7 hDl hy Qe qe => ?_) (fun H7 xs b7 w7 hl7 hx7 h7 => ?_)
    · obtain ⟨rfl, hy⟩ := hy
      obtain ⟨q, hq, rfl⟩ := map_get hy
      refine ⟨rfl, _, rfl, _, rfl, _, rfl, e, f, q, rfl, hh.but hw (B6.trans b7), hf.l, fun ln H9 s9 g9 h9 => ?_⟩
      have w9 := w7.mono s9
      have lq := hf.len q
      refine ⟨p, ln, _, rfl, w9, w9.neL h9 head_strs, h9, by rw [List.length_map]; exact ne i q hq, by rw [List.length_map]; omega, fun v H10 hv b10 w10 => ?_⟩
      obtain ⟨x, rfl, mx⟩ := str_in hv
      exact qe _ _ ((But.of s9).trans b10) w10 ⟨x, q, hq, names_ko.mp mx, rfl⟩
    obtain ⟨zs, rfl, hzs⟩ := strs_of (R := fun i x => ∃ q, so[i]? = some q ∧ KO f x q) (fun i v hv => by
      obtain ⟨x, q, h1, h2, h3⟩ := hx7 i v hv
      exact ⟨x, h3, q, h1, h2⟩)
    rw [List.length_map, List.length_map, lso] at hl7
    obtain ⟨as, x, rfl⟩ : ∃ as x, zs = as ++ [x] := by
      refine ⟨zs.dropLast, zs.getLast (fun z => by rw [z] at hl7; cases hl7), ?_⟩
      rw [List.dropLast_concat_getLast]
    have las : as.length = gg.ns.length := by
      rw [List.length_append, List.length_singleton] at hl7
      omega
    have B7 := B6.trans b7
    have eas : (as ++ [x]).map V.str = as.map V.str ++ [.str x] := by simp
    have k17 := w6.tup b7 (s6 _ _ (s5 _ _ k14))
    refine ⟨_, rfl, _, rfl, D3, _, -1, _, rfl, rfl, SqL.of h7, by rw [eas]; exact atI_last _ _, _, rfl, ge, _, 0, _, rfl, rfl, SqT.of k17, at0, _, rfl, _, rfl, _, rfl, D3, _, rfl, SqL.of h7, fun lb gb => ?_⟩
    have ecut : cutV ((as ++ [x]).map V.str) none (some (-1)) = as.map V.str := by rw [eas]; exact cut_init
    have s8 := Same.new (o := .lst (cutV ((as ++ [x]).map V.str) none (some (-1)))) gb
    have hb : upd H7 lb (.lst (cutV ((as ++ [x]).map V.str) none (some (-1)))) lb = some (.lst (as.map V.str)) := by rw [upd_same, ecut]
    refine ⟨sz_of (by show 4 ≤ 100000; decide), fun t gt => ⟨sz_of (by show 1 ≤ 100000; decide), fun l gl => ?_⟩⟩
    have s9 := Same.new (o := .tup [.str "call", .str x, .str gg.nm, .ref lb]) gt
    have s10 := Same.new (o := .lst [.ref t]) gl
    have S8 := s8.trans (s9.trans s10)
    refine k l [.call x gg.nm as] _ (B7.then S8) (w7.mono S8) (none_but (B7.then (s8.trans s9)) (w7.mono (s8.trans s9)) gl) (.of (es := [t]) upd_same ⟨rfl, fun i a r e1 e2 => ?_⟩) (by show 1 ≤ 20; decide) fun r m => ?_
    · match i, e1, e2 with
      | 0, e1, e2 =>
        cases e1
        cases e2
        refine ⟨lb, s10 _ _ upd_same, fun bs eb => ?_⟩
        cases eb
        exact ⟨none_but B7 w7 gb, s10 _ _ (s9 _ _ hb)⟩
      | n + 1, e1, e2 => simp at e1
    · rw [List.mem_singleton.mp m]
      refine ⟨fun cl => ⟨j, gg, hj2, rfl, las, fun i y q e1 e2 => ?_, ?_⟩, rfl⟩
      · have hi : i < as.length := (List.getElem?_eq_some_iff.mp e1).1
        obtain ⟨q2, h1, h2⟩ := hzs i y (by rw [List.getElem?_append_left hi]; exact e1)
        rw [← hso, List.getElem?_append_left (by rw [List.length_map, ← las]; exact hi), List.getElem?_map, e2] at h1
        rw [show q.2 = q2 from Option.some.inj h1]
        exact h2
      · obtain ⟨q2, h1, h2⟩ := hzs as.length x (by rw [List.getElem?_append_right (Nat.le_refl _), Nat.sub_self]; rfl)
        rw [← hso, List.getElem?_append_right (by rw [List.length_map, las]; exact Nat.le_refl _), List.length_map, las, Nat.sub_self] at h1
        rw [show gg.res = q2 from Option.some.inj h1]
        exact h2

end
end W1
set_option Elab.async false
set_option linter.all false
set_option maxRecDepth 100000
set_option maxHeartbeats 4000000
namespace W1
open PySem PySem.Spec PyProof.Rows L2 RZ CA
section
variable {P : Program} {w : World} {K : PySem.W.Frag} {mg : Str → Option Value} {base : Heap}

/-- a row that fits -/
def Fit (cl : ClsT) (hs : List FdT) (f : FdT) (many : Nat) (r : Rx) : Prop := RowOk cl hs f r ∧ Below many r
abbrev NewBut (H : Hp) (lF b : Addr) : Prop := New H b ∧ b ≠ lF
/-- rows gathered in a list -/
structure Bag (lF ls : Addr) (H H5 : Hp) (F : Rx → Prop) (n : Nat) (es : List Addr) (rs : List Rx) : Prop where
  at_ : H5 ls = some (.lst (es.map V.ref))
  ea : Each (RowT (NewBut H lF) H5) es rs
  pos : 0 < rs.length
  le : rs.length ≤ n
  ok : ∀ r ∈ rs, F r
theorem Bag.len {lF ls : Addr} {H H5 : Hp} {F : Rx → Prop} {n : Nat} {es : List Addr} {rs : List Rx} (B : Bag lF ls H H5 F n es rs) : 0 < es.length ∧ es.length ≤ n := by
  rw [B.ea.1]
  exact ⟨B.pos, B.le⟩
theorem Bag.but {lF ls p : Addr} {H H5 H6 : Hp} {F : Rx → Prop} {n : Nat} {es : List Addr} {rs : List Rx} (B : Bag lF ls H H5 F n es rs) (w : WellAt H5 p) (b : But p H5 H6) : Bag lF ls H H6 F n es rs :=
  ⟨w.refs b B.at_, B.ea.mono fun e x _ q => q.but w b, B.pos, B.le, B.ok⟩
theorem Bag.same {lF ls : Addr} {H H5 H6 : Hp} {F : Rx → Prop} {n : Nat} {es : List Addr} {rs : List Rx} (B : Bag lF ls H H5 F n es rs) (b : Same H5 H6) : Bag lF ls H H6 F n es rs :=
  ⟨b _ _ B.at_, B.ea.mono fun e x _ q => q.to (fun _ z => z) (.of b), B.pos, B.le, B.ok⟩
theorem rows_new {p lF : Addr} {H H5 H6 : Hp} {u : HO} {es : List Addr} {rs : List Rx} (b0 : But p H H5) (w5 : WellAt H5 p) (hF : H5 lF = some u) (R : Each (RowT (New H5) H6) es rs) : Each (RowT (NewBut H lF) H6) es rs :=
  R.mono fun e x _ q => q.to (fun b z => ⟨none_but b0 w5 z, (ne_of_none hF z).symm⟩) (.of (Same.refl _))
theorem Bag.add {lF ls l3 : Addr} {H H6 : Hp} {F : Rx → Prop} {n m : Nat} {es es2 : List Addr} {rs rs2 : List Rx} (B : Bag lF ls H H6 F n es rs) (R : Each (RowT (NewBut H lF) H6) es2 rs2) (le : rs2.length ≤ m) (ok : ∀ r ∈ rs2, F r) (g3 : H6 l3 = none) :
    Bag lF l3 H (upd H6 l3 (.lst (es.map V.ref ++ es2.map V.ref))) F (n + m) (es ++ es2) (rs ++ rs2) := by
  have s := Same.new (o := .lst (es.map V.ref ++ es2.map V.ref)) g3
  refine ⟨by rw [upd_same, List.map_append], (B.ea.append R).mono fun e x _ q => q.to (fun _ z => z) (.of s), by have := B.pos; rw [List.length_append]; omega, by have := B.le; rw [List.length_append]; omega, fun r m => ?_⟩
  rcases List.mem_append.mp m with m | m
  · exact B.ok r m
  · exact ok r m
/-- a row that is not changed by what is done to a list of rows -/
theorem RowT.put {Z : Addr → Prop} {H : Hp} {a ls : Addr} {r : Rx} {es : List Addr} {u : HO} (h : RowT Z H a r) (hl : H ls = some (.lst (es.map V.ref))) (pos : 0 < es.length) : RowT Z (upd H ls u) a r := by
  obtain ⟨l, h1, h2⟩ := h
  refine ⟨l, by rw [upd_ne (ne_of h1 hl (by intro z; cases z))]; exact h1, fun bs e => ⟨(h2 bs e).1, ?_⟩⟩
  have q := (h2 bs e).2
  rw [upd_ne (ne_of q hl ?_)]
  · exact q
  · intro z
    have z := HO.lst.inj z
    cases es with
    | nil => exact absurd pos (by decide)
    | cons a es =>
      cases bs with
      | nil => cases z
      | cons b bs => cases z
/-- where one stands while rows are drawn -/
structure Sts (H H5 : Hp) (p lF lN lO : Addr) (f : FdT) (es : List Addr) (rs : List Rx) : Prop where
  b : But p H H5
  w : WellAt H5 p
  n : H5 lN = some (.lst ((namesOf f "number").map V.str))
  o : H5 lO = some (.lst ((namesOf f "object").map V.str))
  e : H5 lF = some (.lst (es.map V.ref))
  E : Each (RowT (NewBut H lF) H5) es rs
theorem Sts.but {H H5 H6 : Hp} {p lF lN lO : Addr} {f : FdT} {es : List Addr} {rs : List Rx} (S : Sts H H5 p lF lN lO f es rs) (b : But p H5 H6) (w : WellAt H6 p) : Sts H H6 p lF lN lO f es rs :=
  ⟨S.b.trans b, w, S.w.strs b S.n, S.w.strs b S.o, S.w.refs b S.e, S.E.mono fun e x _ q => q.but S.w b⟩
theorem Sts.same {H H5 H6 : Hp} {p lF lN lO : Addr} {f : FdT} {es : List Addr} {rs : List Rx} (S : Sts H H5 p lF lN lO f es rs) (s : Same H5 H6) : Sts H H6 p lF lN lO f es rs := S.but (.of s) (S.w.mono s)
def Mid (H : Hp) (p e la ca lF lN lO : Addr) (many : Nat) (f : FdT) (F : Rx → Prop) (es : List Addr) (rs : List Rx) (n : Nat) (σ : L2.St) (H5 : Hp) : Prop := ∃ (v8 v9 v11 : Option V) (ls : Addr) (es2 : List Addr) (rs2 : List Rx),
  σ = [some (.ref p), some (.ref e), some (.ref la), some (.ref ca), some (.int many), some (.ref lF), some (.ref lN), some (.ref lO), v8, v9, some (.ref ls), v11] ∧ Sts H H5 p lF lN lO f es rs ∧ NewBut H lF ls ∧ Bag lF ls H H5 F n es2 rs2
theorem strs_refs {ns : List Str} {es : List Addr} (h : 0 < es.length) : HO.lst (ns.map V.str) ≠ HO.lst (es.map V.ref) := fun z => by
  have z := HO.lst.inj z
  cases es with
  | nil => exact absurd h (by decide)
  | cons a es =>
    cases ns with
    | nil => cases z
    | cons b bs => cases z
theorem Bag.more {lF ls : Addr} {H H5 : Hp} {F : Rx → Prop} {n m : Nat} {es : List Addr} {rs : List Rx} (B : Bag lF ls H H5 F n es rs) (h : n ≤ m) : Bag lF ls H H5 F m es rs := ⟨B.at_, B.ea, B.pos, Nat.le_trans B.le h, B.ok⟩
def spRows : Sp := fun vs H Q _ => ∃ (p e la ca : Addr) (f : FdT) (hs : List FdT) (cl : ClsT) (many : Nat), vs = [.ref p, .ref e, .ref la, .ref ca, .int many] ∧ WellAt H p ∧ (HeadT Tru H e f ∧ HdG f ∧ IsKind f.res) ∧ (LstR FdT (HeadT Tru) H la hs ∧ (∀ g ∈ hs, HdG g) ∧ 0 < hs.length ∧ hs.length ≤ 100) ∧ (TCls H ca cl ∧ ClG cl) ∧ 0 < many ∧ many ≤ 1000 ∧
  ∀ (l : Addr) (rs : List Rx) (H' : Hp), But p H H' → WellAt H' p → H l = none → RowsL (New H) H' l rs → rs.length = many → (∀ r ∈ rs, Fit cl hs f many r) → (∃ r0 rl, rs = r0 ++ [rl] ∧ (rl.word = ("jump" : Str) ∨ rl.word = ("return" : Str))) → Q (.ref l) H'
theorem sc_L_rows : FnScope ["_law_well_here", "_law_head", "_law_heads_here", "_law_classes_here", "_law_many", "_law_found", "_law_numbers", "_law_objects", "_law_turn", "_law_last", "_law_some_here", "_law_name"] ["_law_well_here", "_law_head", "_law_heads_here", "_law_classes_here", "_law_many"] (defScope s_L_rows) := ⟨rfl, rfl, rfl, by decide +kernel, rfl, by decide +kernel, by decide +kernel⟩
theorem ok_L_rows (T : Ctx w K mg) (H_L_draw : Has P w K mg base 2 "_law_draw" ["_law_well_here", "_law_many"] spDraw) (H_L_pick : Has P w K mg base 3 "_law_pick" ["_law_well_here", "_law_items"] (spPick K)) (H_L_named : Has P w K mg base 1 "_law_named" ["_law_head", "_law_kind"] spNamedL) (H_L_number_rows : Has P w K mg base 4 "_law_number_rows" ["_law_well_here", "_law_names", "_law_many"] spNumRows) (H_L_object_rows : Has P w K mg base 4 "_law_object_rows" ["_law_well_here", "_law_names", "_law_classes_here"] spObjRows) (H_L_field_rows : Has P w K mg base 4 "_law_field_rows" ["_law_well_here", "_law_head", "_law_classes_here"] (spFieldRows K)) (H_L_call_rows : Has P w K mg base 4 "_law_call_rows" ["_law_well_here", "_law_head", "_law_heads_here"] spCallRows) : Has P w K mg base 5 "_law_rows" ["_law_well_here", "_law_head", "_law_heads_here", "_law_classes_here", "_law_many"] spRows := by
  obtain ⟨fd, F⟩ := T.D_L_rows
  obtain ⟨fd_L_draw, G_L_draw, b_L_draw⟩ := H_L_draw.ex
  obtain ⟨fd_L_pick, G_L_pick, b_L_pick⟩ := H_L_pick.ex
  obtain ⟨fd_L_named, G_L_named, b_L_named⟩ := H_L_named.ex
  obtain ⟨fd_L_number_rows, G_L_number_rows, b_L_number_rows⟩ := H_L_number_rows.ex
  obtain ⟨fd_L_object_rows, G_L_object_rows, b_L_object_rows⟩ := H_L_object_rows.ex
  obtain ⟨fd_L_field_rows, G_L_field_rows, b_L_field_rows⟩ := H_L_field_rows.ex
  obtain ⟨fd_L_call_rows, G_L_call_rows, b_L_call_rows⟩ := H_L_call_rows.ex
  refine ⟨⟨fd, F.ok sc_L_rows (fun vs H Q E h => ?_) (fun cdv A outer s H vs Q E hr h => ?_), F.bindsN fun _ _ _ _ _ _ us hl => match us, hl with | [_, _, _, _, _], _ => rfl⟩, F.kp, T.g_L_rows⟩
  · obtain ⟨p, e, la, ca, f, hs, cl, many, rfl, hw, h1, h2, h3, m0, m1, k⟩ := h; rfl
  · obtain ⟨p, e, la, ca, f, hs, cl, many, rfl, hw, h1, h2, h3, m0, m1, k⟩ := h
    have hr_L_draw : Room 2 _ := hr.mono (by decide)
    have hr_L_pick : Room 3 _ := hr.mono (by decide)
    have hr_L_named : Room 1 _ := hr.mono (by decide)
    have hr_L_number_rows : Room 4 _ := hr.mono (by decide)
    have hr_L_object_rows : Room 4 _ := hr.mono (by decide)
    have hr_L_field_rows : Room 4 _ := hr.mono (by decide)
    have hr_L_call_rows : Room 4 _ := hr.mono (by decide)
    have hu := hu_of hr
    refine ⟨_, PSs.nox (pss_cons (ps_set (i := 5) sc_L_rows.nd rfl (Or.inl rfl) (pe_lst pa_nil))
      (pss_cons (ps_par (i := 6) (j := 7) (by rfl) sc_L_rows.nd rfl rfl (by decide) rfl rfl (pa_cons (pe_call G_L_named hr_L_named (by rfl) H_L_named.gl H_L_named.kp b_L_named .nil pass0 (pa_cons (pv 1) (pa_cons pe_str pa_nil))) (pa_cons (pe_call G_L_named hr_L_named (by rfl) H_L_named.gl H_L_named.kp b_L_named .nil pass0 (pa_cons (pv 1) (pa_cons pe_str pa_nil))) pa_nil)) (by rfl))
      (pss_cons (ps_for PassesOwn.never rfl (pi_range1 (by rfl) T.f_range (pa_cons (pe_op op_sub (pv 4) pe_int) pa_nil)) (pg_name (i := 8) sc_L_rows.nd rfl (Or.inl rfl))
      (pss_cons (ps_set (i := 10) sc_L_rows.nd rfl (Or.inl rfl) (pe_op op_cat (pe_lst (pa_cons (pe_tup (pa_cons pe_str (pa_cons (pe_call G_L_draw hr_L_draw (by rfl) H_L_draw.gl H_L_draw.kp b_L_draw .nil pass0 (pa_cons (pv 0) (pa_cons (pv 4) pa_nil))) pa_nil))) pa_nil)) (pe_call G_L_call_rows hr_L_call_rows (by rfl) H_L_call_rows.gl H_L_call_rows.kp b_L_call_rows .nil pass0 (pa_cons (pv 0) (pa_cons (pv 1) (pa_cons (pv 2) pa_nil))))))
      (pss_cons (ps_set (i := 10) sc_L_rows.nd rfl (Or.inl rfl) (pe_op op_cat (pv 10) (pe_call G_L_field_rows hr_L_field_rows (by rfl) H_L_field_rows.gl H_L_field_rows.kp b_L_field_rows .nil pass0 (pa_cons (pv 0) (pa_cons (pv 1) (pa_cons (pv 3) pa_nil))))))
      (C8.pss_cut (ps_if (pt_cmpR (op_neD hr.units) (pv 6) (pe_lst pa_nil) (nomark _)) (pss_one (ps_set (i := 10) sc_L_rows.nd rfl (Or.inl rfl) (pe_op op_cat (pv 10) (pe_call G_L_number_rows hr_L_number_rows (by rfl) H_L_number_rows.gl H_L_number_rows.kp b_L_number_rows .nil pass0 (pa_cons (pv 0) (pa_cons (pv 6) (pa_cons (pv 4) pa_nil))))))) pss_nil)
      (C8.pss_cut (ps_if (pt_cmpR (op_neD hr.units) (pv 7) (pe_lst pa_nil) (nomark _)) (pss_one (ps_set (i := 10) sc_L_rows.nd rfl (Or.inl rfl) (pe_op op_cat (pv 10) (pe_call G_L_object_rows hr_L_object_rows (by rfl) H_L_object_rows.gl H_L_object_rows.kp b_L_object_rows .nil pass0 (pa_cons (pv 0) (pa_cons (pv 7) (pa_cons (pv 3) pa_nil))))))) pss_nil)
      (C8.pss_cut (ps_if (PW.pt (pw_and (pt_cmpR (op_neD hr.units) (pv 6) (pe_lst pa_nil) (nomark _)) (pw_and1 (pt_cmpR (op_neD hr.units) (pv 7) (pe_lst pa_nil) (nomark _))))) (pss_one (ps_expr (pe_bm PySem.F.plainAttrs_list PySem.F.slot_list_append PySem.F.type_list_append mt_append (pv 10) (pa_cons (pe_tup (pa_cons pe_str (pa_cons (pe_call G_L_pick hr_L_pick (by rfl) H_L_pick.gl H_L_pick.kp b_L_pick .nil pass0 (pa_cons (pv 0) (pa_cons (pv 6) pa_nil))) (pa_cons (pe_call G_L_pick hr_L_pick (by rfl) H_L_pick.gl H_L_pick.kp b_L_pick .nil pass0 (pa_cons (pv 0) (pa_cons (pv 7) pa_nil))) (pa_cons (pe_call G_L_pick hr_L_pick (by rfl) H_L_pick.gl H_L_pick.kp b_L_pick .nil pass0 (pa_cons (pv 0) (pa_cons (pv 7) pa_nil))) pa_nil))))) pa_nil)))) pss_nil)
      (pss_one (ps_expr (pe_bm PySem.F.plainAttrs_list PySem.F.slot_list_append PySem.F.type_list_append mt_append (pv 5) (pa_cons (pe_call G_L_pick hr_L_pick (by rfl) H_L_pick.gl H_L_pick.kp b_L_pick .nil pass0 (pa_cons (pv 0) (pa_cons (pv 10) pa_nil))) pa_nil))))))))))
      (pss_cons (ps_set (i := 9) sc_L_rows.nd rfl (Or.inl rfl) (pe_op op_cat (pe_lst (pa_cons (pe_tup (pa_cons pe_str (pa_cons (pe_call G_L_draw hr_L_draw (by rfl) H_L_draw.gl H_L_draw.kp b_L_draw .nil pass0 (pa_cons (pv 0) (pa_cons (pv 4) pa_nil))) pa_nil))) pa_nil)) (pe_lc (own := [("_law_name", 11)]) (g := gName 11) (tt := tYes) rfl sc_L_rows.nd (pi_list (pe_call G_L_named hr_L_named (by rfl) H_L_named.gl H_L_named.kp b_L_named .nil pass0 (pa_cons (pv 1) (pa_cons (pe_ix ix_tup (pv 1) pe_int (fun _ _ => rfl)) pa_nil)))) (blkOk_by (N := ["_law_well_here", "_law_head", "_law_heads_here", "_law_classes_here", "_law_many", "_law_found", "_law_numbers", "_law_objects", "_law_turn", "_law_last", "_law_some_here", "_law_name"]) (sc := defScope s_L_rows) (by decide +kernel)) (fun _ _ _ _ _ => (pg_name (i := 11) sc_L_rows.nd rfl (Or.inl rfl))) (fun _ _ _ _ _ => pts_nil) (fun _ _ _ _ _ => (pe_tup (pa_cons pe_str (pa_cons (pv 11) pa_nil)))))))
      (pss_one (ps_ret (pe_op op_cat (pv 5) (pe_lst (pa_cons (pe_call G_L_pick hr_L_pick (by rfl) H_L_pick.gl H_L_pick.kp b_L_pick .nil pass0 (pa_cons (pv 0) (pa_cons (pv 9) pa_nil))) pa_nil))))))))), ?_⟩
    obtain ⟨hh, hf, hres⟩ := h1
    obtain ⟨hc, hgs, hs0, hs1⟩ := h2
    obtain ⟨hk, hG⟩ := h3
    refine ⟨sz_of (by show 0 ≤ 100000; decide), fun lF gF => ?_⟩
    have sF := Same.new (o := .lst []) gF
    have wF := hw.mono sF
    refine ⟨_, rfl, e, f, "number", rfl, hh.to (fun _ z => z) (.of sF), hf.l, fun lN H1 s1 g1 hN => ?_⟩
    refine ⟨_, rfl, e, f, "object", rfl, hh.to (fun _ z => z) (.of (sF.trans s1)), hf.l, fun lO H2 s2 g2 hO => ?_⟩
    have S2 := sF.trans (s1.trans s2)
    have w2 := hw.mono S2
    have hF2 := s2 _ _ (s1 _ _ (upd_same (a := lF) (o := .lst [])))
    have hN2 := s2 _ _ hN
    have okN := hf.names "number"
    have okO := hf.names "object"
    have lnN := hf.len "number"
    have lnO := hf.len "object"
    have nF : lF ≠ p := hw.nn gF
    have nNF : lN ≠ lF := (ne_of_none upd_same g1).symm
    have nOF : lO ≠ lF := (ne_of_none (s1 _ _ upd_same) g2).symm
    refine ⟨_, _, rfl, _, rfl, _, _, rfl, rfl, _, rfl, by omega, by omega, ?_⟩
    have em : ((many : Int) - 1).toNat = many - 1 := by omega
    rw [em]
    refine for_it (walk_range (lo := 0) (n := many - 1)) (fun i σ H4 => ∃ (v8 v9 v10 v11 : Option V), σ = [some (.ref p), some (.ref e), some (.ref la), some (.ref ca), some (.int many), some (.ref lF), some (.ref lN), some (.ref lO), v8, v9, v10, v11] ∧ ∃ (es : List Addr) (rs : List Rx), Sts H H4 p lF lN lO f es rs ∧ rs.length = i ∧ ∀ r ∈ rs, Fit cl hs f many r) ⟨_, _, _, _, rfl, [], [], ⟨But.of S2, w2, hN2, hO, hF2, .nil⟩, rfl, fun c m => by cases m⟩ (fun _ _ _ _ _ => trivial) ?_ ?_
    · rintro i y σ Hx H4 hi ⟨v8, v9, v10, v11, rfl, es, rs, T4, lrs, O4⟩ ⟨rfl, hy⟩
      have hi2 : i < many - 1 := hi
      refine ⟨_, rfl, _, rfl, p, many, rfl, T4.w, m0, m1, fun gg H5 hg b5 w5 => ⟨sz_of (by show 2 ≤ 100000; decide), fun t gt => ⟨sz_of (by show 1 ≤ 100000; decide), fun l1 gl1 => ?_⟩⟩⟩
      have s5 := Same.new (o := .tup [.str "jump", .int (gg : Int)]) gt
      have s6 := Same.new (o := .lst [.ref t]) gl1
      have B1 : Bag lF l1 H (upd (upd H5 t (.tup [.str "jump", .int (gg : Int)])) l1 (.lst [.ref t])) (Fit cl hs f many) 1 [t] [.jump gg] := ⟨upd_same, ⟨rfl, fun i a r e1 e2 => by
        match i, e1, e2 with
        | 0, e1, e2 => cases e1; cases e2; exact rowT_new (s6 _ _ upd_same) rfl
        | n + 1, e1, e2 => simp at e1⟩, by show 0 < 1; decide, by show 1 ≤ 1; decide, fun r m => by
        rw [List.mem_singleton.mp m]
        exact ⟨trivial, fun g z => by cases z; exact hg⟩⟩
      have T6 := (T4.but b5 w5).same (s5.trans s6)
      generalize upd (upd H5 t (.tup [.str "jump", .int (gg : Int)])) l1 (.lst [.ref t]) = H6 at B1 T6
      clear s5 s6 gl1 gt b5 w5 T4
      refine ⟨_, rfl, _, rfl, _, rfl, p, e, la, f, hs, rfl, T6.w, hh.but hw T6.b, hf, hc.but hw T6.b (fun e x q => q.but hw T6.b), hgs, hs0, hs1, fun l2 rs2 H7 b7 w7 g7 R7 le7 fit7 => ?_⟩
      obtain ⟨es2, r1, r2, r3⟩ := R7
      have R7 := rows_new T6.b T6.w T6.e ⟨r2, r3⟩
      have B2 := B1.but T6.w b7
      have L2 := B2.len
      have T7 := T6.but b7 w7
      refine ⟨l1, l2, _, _, rfl, rfl, B2.at_, r1, sz_of (by rw [List.length_map, List.length_map, r2]; omega), fun l3 g3 => ?_⟩
      have B3 : Bag lF l3 H (upd H7 l3 (.lst ([t].map V.ref ++ es2.map V.ref))) _ _ _ _ := B2.add R7 le7 (fun r m => ⟨(fit7 r m).1 cl, fun g z => by rw [(fit7 r m).2] at z; cases z⟩) g3
      have T8 := T7.same (Same.new (o := .lst ([t].map V.ref ++ es2.map V.ref)) g3)
      generalize upd H7 l3 (.lst ([t].map V.ref ++ es2.map V.ref)) = H8 at B3 T8
      clear g3 B1 B2 R7 r1 r2 r3 b7 w7 T6 T7
      refine ⟨_, rfl, _, rfl, _, rfl, _, rfl, p, e, ca, f, cl, rfl, T8.w, hh.but hw T8.b, hf, hk.but hw T8.b (fun e x q => q.but hw T8.b), hG, fun l4 rs4 H9 b9 w9 g9 R9 le9 fit9 => ?_⟩
      obtain ⟨es4, r1, r2, r3⟩ := R9
      have R9 := rows_new T8.b T8.w T8.e ⟨r2, r3⟩
      have B4 := B3.but T8.w b9
      have L4 := B4.len
      have T9 := T8.but b9 w9
      refine ⟨l3, l4, _, _, rfl, rfl, B4.at_, r1, sz_of (by rw [List.length_map, List.length_map, r2]; omega), fun l5 g5 => ?_⟩
      have B5 : Bag lF l5 H (upd H9 l5 (.lst ((([t] ++ es2)).map V.ref ++ es4.map V.ref))) _ _ _ _ := B4.add R9 le9 (fun r m => ⟨(fit9 r m).1 hs, fun g z => by rw [(fit9 r m).2] at z; cases z⟩) g5
      have T10 := T9.same (Same.new (o := .lst ((([t] ++ es2)).map V.ref ++ es4.map V.ref)) g5)
      have l50 : NewBut H lF l5 := ⟨none_but T9.b T9.w g5, (ne_of_none T9.e g5).symm⟩
      generalize upd H9 l5 (.lst ((([t] ++ es2)).map V.ref ++ es4.map V.ref)) = H10 at B5 T10
      clear g5 B3 B4 R9 r1 r2 r3 b9 w9 T8 T9
      refine ⟨Mid H p e la ca lF lN lO many f (Fit cl hs f many) es rs 61, ?_, ?_⟩
      · refine ⟨_, rfl, sz_of (by show 0 ≤ 100000; decide), fun z gz => ?_⟩
        have sz := Same.new (o := .lst []) gz
        have T11 := T10.same sz
        have B11 := B5.same sz
        refine ⟨_, _, dp_strs T11.n, .lst (SqL.of upd_same) .nil, (strs_lay okN).shaped (by decide), rfl, _, rfl, ?_⟩
        rw [eq_nil_strs]
        by_cases c : namesOf f "number" = []
        · exact ifF (by rw [decide_eq_true c]; rfl) ⟨_, _, _, l5, _, _, rfl, T11, l50, B11.more (by decide)⟩
        refine ifT (by rw [decide_eq_false c]; rfl) ?_
        refine ⟨_, rfl, _, rfl, _, rfl, _, rfl, p, lN, _, many, rfl, T11.w, T11.n, List.length_pos_iff.mpr c, lnN, m0, m1, fun l6 rs6 H12 b12 w12 g12 R12 pos12 le12 fit12 => ?_⟩
        obtain ⟨es6, r1, r2, r3⟩ := R12
        have R12 := rows_new T11.b T11.w T11.e ⟨r2, r3⟩
        have B12 := B11.but T11.w b12
        have L12 := B12.len
        have T12 := T11.but b12 w12
        refine ⟨l5, l6, _, _, rfl, rfl, B12.at_, r1, sz_of (by rw [List.length_map, List.length_map, r2]; omega), fun l7 g7 => ?_⟩
        have B13 := B12.add R12 le12 (fun r m => ⟨(fit12 r m).1 cl hs f (fun x mx => names_ko.mp mx), (fit12 r m).2⟩) g7
        exact ⟨_, _, _, l7, _, _, rfl, T12.same (Same.new g7), ⟨none_but T12.b T12.w g7, (ne_of_none T12.e g7).symm⟩, B13.more (by decide)⟩
      clear B5 T10 l50
      rintro σ H11 ⟨u8, u9, u11, ls, esM, rsM, rfl, T11, lsF, B11⟩
      refine ⟨Mid H p e la ca lF lN lO many f (Fit cl hs f many) es rs 81, ?_, ?_⟩
      · refine ⟨_, rfl, sz_of (by show 0 ≤ 100000; decide), fun z gz => ?_⟩
        have sz := Same.new (o := .lst []) gz
        have T12 := T11.same sz
        have B12 := B11.same sz
        refine ⟨_, _, dp_strs T12.o, .lst (SqL.of upd_same) .nil, (strs_lay okO).shaped (by decide), rfl, _, rfl, ?_⟩
        rw [eq_nil_strs]
        by_cases c : namesOf f "object" = []
        · exact ifF (by rw [decide_eq_true c]; rfl) ⟨_, _, _, ls, _, _, rfl, T12, lsF, B12.more (by decide)⟩
        refine ifT (by rw [decide_eq_false c]; rfl) ?_
        refine ⟨_, rfl, _, rfl, _, rfl, _, rfl, p, lO, ca, _, cl, rfl, hG.ok, T12.w, T12.o, List.length_pos_iff.mpr c, lnO, hk.but hw T12.b (fun e x q => q.but hw T12.b), hG.l6, fun l6 rs6 H13 b13 w13 g13 R13 pos13 le13 fit13 => ?_⟩
        obtain ⟨es6, r1, r2, r3⟩ := R13
        have R13 := rows_new T12.b T12.w T12.e ⟨r2, r3⟩
        have B13 := B12.but T12.w b13
        have L13 := B13.len
        have T13 := T12.but b13 w13
        refine ⟨ls, l6, _, _, rfl, rfl, B13.at_, r1, sz_of (by rw [List.length_map, List.length_map, r2]; omega), fun l7 g7 => ?_⟩
        have B14 := B13.add R13 le13 (fun r m => ⟨(fit13 r m).1 hs f (fun x mx => names_ko.mp mx), fun g z => by rw [(fit13 r m).2] at z; cases z⟩) g7
        exact ⟨_, _, _, l7, _, _, rfl, T13.same (Same.new g7), ⟨none_but T13.b T13.w g7, (ne_of_none T13.e g7).symm⟩, B14.more (by decide)⟩
      clear T11 lsF B11
      rintro σ H12 ⟨w8, w9, w11, ls, esM, rsM, rfl, T12, lsF, B12⟩
      refine ⟨Mid H p e la ca lF lN lO many f (Fit cl hs f many) es rs 82, ?_, ?_⟩
      · refine ⟨_, rfl, sz_of (by show 0 ≤ 100000; decide), fun z gz => ?_⟩
        have sz := Same.new (o := .lst []) gz
        have T13 := T12.same sz
        have B13 := B12.same sz
        refine ⟨_, _, dp_strs T13.n, .lst (SqL.of upd_same) .nil, (strs_lay okN).shaped (by decide), rfl, _, rfl, ?_⟩
        rw [eq_nil_strs]
        by_cases c : namesOf f "number" = []
        · exact ifF (by rw [decide_eq_true c]; rfl) (ifF (by decide) ⟨_, _, _, ls, _, _, rfl, T13, lsF, B13.more (by decide)⟩)
        refine ifT (by rw [decide_eq_false c]; rfl) ?_
        refine ⟨_, rfl, sz_of (by show 0 ≤ 100000; decide), fun z2 gz2 => ?_⟩
        have sz2 := Same.new (o := .lst []) gz2
        have T14 := T13.same sz2
        have B14 := B13.same sz2
        refine ⟨_, _, dp_strs T14.o, .lst (SqL.of upd_same) .nil, (strs_lay okO).shaped (by decide), rfl, _, rfl, ?_⟩
        rw [eq_nil_strs]
        by_cases c2 : namesOf f "object" = []
        · exact ifF (by rw [decide_eq_true c2]; rfl) ⟨_, _, _, ls, _, _, rfl, T14, lsF, B14.more (by decide)⟩
        refine ifT (by rw [decide_eq_false c2]; rfl) ?_
        clear B12 T12 B13 T13 sz sz2
        have pN : 0 < ((namesOf f "number").map V.str).length := by rw [List.length_map]; exact List.length_pos_iff.mpr c
        have pO : 0 < ((namesOf f "object").map V.str).length := by rw [List.length_map]; exact List.length_pos_iff.mpr c2
        have mN : ((namesOf f "number").map V.str).length ≤ 1000 := by rw [List.length_map]; omega
        have mO : ((namesOf f "object").map V.str).length ≤ 1000 := by rw [List.length_map]; omega
        refine ⟨_, rfl, .inl ⟨rfl, _, SqL.of B14.at_⟩, _, rfl, _, rfl, p, lN, _, rfl, T14.w, T14.w.neL T14.n head_strs, T14.n, pN, mN, fun v1 H15 hv1 b15 w15 => ?_⟩
        obtain ⟨x, rfl, mx⟩ := str_in hv1
        have T15 := T14.but b15 w15
        refine ⟨_, rfl, _, rfl, p, lO, _, rfl, T15.w, T15.w.neL T15.o head_strs, T15.o, pO, mO, fun v2 H16 hv2 b16 w16 => ?_⟩
        obtain ⟨y, rfl, my⟩ := str_in hv2
        have T16 := T15.but b16 w16
        refine ⟨_, rfl, _, rfl, p, lO, _, rfl, T16.w, T16.w.neL T16.o head_strs, T16.o, pO, mO, fun v3 H17 hv3 b17 w17 => ?_⟩
        obtain ⟨z, rfl, mz⟩ := str_in hv3
        have T17 := T16.but b17 w17
        have B17 := ((B14.but T14.w b15).but T15.w b16).but T16.w b17
        have L17 := B17.len
        refine ⟨sz_of (by show 4 ≤ 100000; decide), fun t gt => ?_⟩
        have st := Same.new (o := .tup [.str "same", .str x, .str y, .str z]) gt
        have T18 := T17.same st
        have B18 := B17.same st
        have tls : t ≠ ls := (ne_of_none B17.at_ gt).symm
        refine ⟨ls, _, _, rfl, rfl, B18.at_, sz_lt (by rw [List.length_map]; omega), ?_⟩
        refine ⟨_, _, _, ls, esM ++ [t], rsM ++ [.same x y z], rfl, ⟨T18.b.mut lsF.1, T18.w.put (hw.nn lsF.1), ?_, ?_, ?_, T18.E.mono fun e x _ q => q.put B18.at_ L17.1⟩, lsF, ⟨by rw [upd_same, List.map_append]; rfl, (B18.ea.mono fun e x _ q => q.put B18.at_ L17.1).snoc (rowT_new (by rw [upd_ne tls]; exact upd_same) rfl), by rw [List.length_append]; exact Nat.succ_pos _, by rw [List.length_append]; have := B18.le; exact Nat.succ_le_succ this, fun r m => ?_⟩⟩
        · rw [upd_ne (ne_of T18.n B18.at_ (strs_refs L17.1))]
          exact T18.n
        · rw [upd_ne (ne_of T18.o B18.at_ (strs_refs L17.1))]
          exact T18.o
        · rw [upd_ne lsF.2.symm]
          exact T18.e
        · rcases List.mem_append.mp m with m | m
          · exact B18.ok r m
          · rw [List.mem_singleton.mp m]
            exact ⟨⟨_, names_ko.mp mx, names_ko.mp my, names_ko.mp mz⟩, fun g z => by cases z⟩
      clear T12 lsF B12
      rintro σ H13 ⟨x8, x9, x11, ls, esM, rsM, rfl, T13, lsF, B13⟩
      have L13 := B13.len
      refine ⟨_, rfl, .inl ⟨rfl, _, SqL.of T13.e⟩, _, rfl, _, rfl, p, ls, _, rfl, T13.w, hw.nn lsF.1, B13.at_, by rw [List.length_map]; exact L13.1, by rw [List.length_map]; omega, fun v H14 hv b14 w14 => ?_⟩
      have T14 := T13.but b14 w14
      obtain ⟨a, ma, rfl⟩ := List.mem_map.mp hv
      obtain ⟨r, mr, hr⟩ := B13.ea.at_ ma
      have hr := hr.but T13.w b14
      have les : es.length = i := by rw [T14.E.1, lrs]
      have kz : KeepZ (NewBut H lF) H14 (upd H14 lF (.lst (es.map V.ref ++ [.ref a]))) := ⟨fun b xs h => by rw [upd_ne (ne_of h T14.e (by intro z; cases z))]; exact h, fun b xs z h => by rw [upd_ne z.2]; exact h⟩
      refine ⟨lF, _, _, rfl, rfl, T14.e, sz_lt (by rw [List.length_map]; omega), ?_⟩
      refine ⟨_, _, _, _, rfl, es ++ [a], rs ++ [r], ⟨T14.b.mut gF, T14.w.put nF, ?_, ?_, by rw [upd_same, List.map_append]; rfl, (T14.E.mono fun e x _ q => q.to (fun _ z => z) kz).snoc (hr.to (fun _ z => z) kz)⟩, by rw [List.length_append, lrs]; rfl, fun r2 m => ?_⟩
      · rw [upd_ne nNF]
        exact T14.n
      · rw [upd_ne nOF]
        exact T14.o
      · rcases List.mem_append.mp m with m | m
        · exact O4 r2 m
        · rw [List.mem_singleton.mp m]
          exact B13.ok r mr
    · rintro σ H4 ⟨v8, v9, v10, v11, rfl, es, rs, T4, lrs, O4⟩
      refine ⟨_, rfl, _, rfl, p, many, rfl, T4.w, m0, m1, fun gg H5 hg b5 w5 => ⟨sz_of (by show 2 ≤ 100000; decide), fun t gt => ⟨sz_of (by show 1 ≤ 100000; decide), fun l1 gl1 => ?_⟩⟩⟩
      have s5 := Same.new (o := .tup [.str "jump", .int (gg : Int)]) gt
      have s6 := Same.new (o := .lst [.ref t]) gl1
      have T6 := (T4.but b5 w5).same (s5.trans s6)
      have ht := s6 _ _ (upd_same (a := t) (o := .tup [.str "jump", .int (gg : Int)]))
      have hl1 := upd_same (H := upd H5 t (.tup [.str "jump", .int (gg : Int)])) (a := l1) (o := .lst [.ref t])
      generalize upd (upd H5 t (.tup [.str "jump", .int (gg : Int)])) l1 (.lst [.ref t]) = H6 at T6 ht hl1
      have h6 := hh.but hw T6.b
      obtain ⟨_, _, _, _, k1, _⟩ := id h6
      refine ⟨_, rfl, _, rfl, e, _, 3, _, rfl, rfl, SqT.of k1, at3, e, f, f.res, rfl, h6, hf.l, fun ln H7 s7 g7 h7 => ⟨ln, rfl, ⟨_, SqL.of h7⟩, fun D gD => ?_⟩⟩
      have lnR := hf.len f.res
      refine lc_tups (walk_list (K := K) (a := ln) (xs := (namesOf f f.res).map V.str)) gD (fun j => [.str "return", .str ((namesOf f f.res).getD j "")]) (by rw [List.length_map]; omega) (fun H8 s8 => SqL.of (s8 _ _ h7)) (fun j H8 y4 H9 hj s8 hy Qe qe => ?_) (fun H8 qs s8 hq hqs h8 => ?_)
      · obtain ⟨rfl, hy⟩ := hy
        obtain ⟨o, ho, rfl⟩ := map_get hy
        have ex : (namesOf f f.res).getD j "" = o := by
          rw [List.getD_eq_getElem?_getD, ho]
          rfl
        rw [ex] at qe
        exact ⟨rfl, _, rfl, sz_of (by show 2 ≤ 100000; decide), fun t ht => qe t _ (Same.new ht) upd_same⟩
      rw [List.length_map] at hq
      have T8 := T6.same (s7.trans s8)
      have hl8 := s8 _ _ (s7 _ _ hl1)
      have ht8 := s8 _ _ (s7 _ _ ht)
      refine ⟨l1, D, _, _, rfl, rfl, hl8, h8, sz_of (by rw [List.length_map, hq]; show 1 + _ ≤ 100000; omega), fun l2 g2 => ?_⟩
      have s9 := Same.new (o := .lst ([.ref t] ++ qs.map V.ref)) g2
      have T9 := T8.same s9
      have ht9 := s9 _ _ ht8
      have hqs9 : ∀ (i : Nat) q, qs[i]? = some q → _ = some (HO.tup _) := fun i q hi => s9 _ _ (hqs i q hi)
      have hl2 : upd H8 l2 (.lst ([.ref t] ++ qs.map V.ref)) l2 = some (.lst ((t :: qs).map V.ref)) := upd_same
      generalize upd H8 l2 (.lst ([.ref t] ++ qs.map V.ref)) = H9 at T9 ht9 hqs9 hl2
      refine ⟨_, rfl, _, rfl, _, rfl, p, l2, _, rfl, T9.w, T9.w.neL hl2 head_refs, hl2, by rw [List.length_map]; exact Nat.succ_pos _, by rw [List.length_map, List.length_cons, hq]; omega, fun v H10 hv b10 w10 => ?_⟩
      have T10 := T9.but b10 w10
      obtain ⟨a, ma, rfl⟩ := List.mem_map.mp hv
      obtain ⟨rl, hrl, frl, wrl⟩ : ∃ rl : Rx, RowT (New H) H10 a rl ∧ Fit cl hs f many rl ∧ (rl.word = ("jump" : Str) ∨ rl.word = ("return" : Str)) := by
        rcases List.mem_cons.mp ma with rfl | ma
        · exact ⟨.jump gg, rowT_new (T9.w.tup b10 ht9) rfl, ⟨trivial, fun g z => by cases z; exact hg⟩, .inl rfl⟩
        · obtain ⟨i, hi, rfl⟩ := List.getElem_of_mem ma
          have hi2 : i < (namesOf f f.res).length := by rw [← hq]; exact hi
          have hx : (namesOf f f.res).getD i "" = (namesOf f f.res)[i] := by
            rw [List.getD_eq_getElem?_getD, List.getElem?_eq_getElem hi2]
            rfl
          have h1 := T9.w.tup b10 (hqs9 i _ (List.getElem?_eq_getElem hi))
          rw [hx] at h1
          exact ⟨.ret _, rowT_new h1 rfl, ⟨names_ko.mp (List.getElem_mem hi2), fun g z => by cases z⟩, .inr rfl⟩
      refine ⟨sz_of (by show 1 ≤ 100000; decide), fun l3 g3 => ?_⟩
      have s11 := Same.new (o := .lst [.ref a]) g3
      have T11 := T10.same s11
      have les : es.length = many - 1 := by rw [T11.E.1, lrs]
      refine ⟨lF, l3, _, _, rfl, rfl, T11.e, upd_same, sz_of (by rw [List.length_map]; show _ + 1 ≤ 100000; omega), fun l gl => ?_⟩
      have s12 := Same.new (o := .lst (es.map V.ref ++ [.ref a])) gl
      have T12 := T11.same s12
      refine k l (rs ++ [rl]) _ T12.b T12.w (none_but T11.b T11.w gl) (.of (es := es ++ [a]) (by rw [upd_same, List.map_append]; rfl) ((T12.E.mono fun e x _ q => q.to (fun _ z => z.1) (.of (Same.refl _))).snoc (hrl.to (fun _ z => z) (.of (s11.trans s12))))) (by rw [List.length_append, lrs]; show many - 1 + 1 = many; omega) (fun r m => ?_) ⟨rs, rl, rfl, wrl⟩
      rcases List.mem_append.mp m with m | m
      · exact O4 r m
      · rw [List.mem_singleton.mp m]
        exact frl

end
end W1
set_option Elab.async false
set_option linter.all false
set_option maxRecDepth 100000
set_option maxHeartbeats 4000000
namespace W1
open PySem PySem.Spec PyProof.Rows L2 RZ
/-! ### drawn classes and functions are right ones -/
theorem fst_unique {tb : List (Str × Str)} (nd : (tb.map Prod.fst).Nodup) {x k l : Str} (h1 : (x, k) ∈ tb) (h2 : (x, l) ∈ tb) : k = l := by
  induction tb with
  | nil => cases h1
  | cons a tb ih =>
    obtain ⟨n1, n2⟩ := List.nodup_cons.mp (show (a.1 :: tb.map Prod.fst).Nodup from nd)
    rcases List.mem_cons.mp h1 with e1 | e1 <;> rcases List.mem_cons.mp h2 with e2 | e2
    · rw [← e1] at e2
      exact (congrArg Prod.snd e2).symm
    · exact absurd (List.mem_map.mpr ⟨_, e2, by rw [← e1]⟩) n1
    · exact absurd (List.mem_map.mpr ⟨_, e1, by rw [← e2]⟩) n1
    · exact ih n2 e1 e2
/-- the kinds of fields, all told by one table -/
structure Tab (tb : List (Str × Str)) (cl : ClsT) : Prop where
  nd : (tb.map Prod.fst).Nodup
  all : ∀ c ∈ cl, ∀ q ∈ c.2, q ∈ tb
def KT (tb : List (Str × Str)) (ks : List (Key × V)) : Prop := ∀ x v, valV ks (Sum.inr x : Key) = some v → ∃ k, v = .str k ∧ (x, k) ∈ tb
theorem KT.put {tb : List (Str × Str)} {ks : List (Key × V)} (h : KT tb ks) {q : Str × Str} (m : q ∈ tb) : KT tb (putK ks (Sum.inr q.1) (.str q.2)) := fun x v e => by
  rw [valV_put] at e
  split at e
  · rename_i c
    rw [← Option.some.inj e]
    rw [Sum.inr.inj c]
    exact ⟨_, rfl, m⟩
  · exact h x v e
theorem KT.fold {tb : List (Str × Str)} : ∀ {ns : List (Str × Str)} {ks : List (Key × V)}, KT tb ks → (∀ q ∈ ns, q ∈ tb) → KT tb (ksF ks ns)
  | [], _, h, _ => h
  | q :: ns, ks, h, m => KT.fold (ns := ns) (h.put (m q List.mem_cons_self)) fun r k => m r (List.mem_cons_of_mem _ k)
theorem KT.folds {tb : List (Str × Str)} : ∀ {cl : ClsT} {ks : List (Key × V)}, KT tb ks → (∀ c ∈ cl, ∀ q ∈ c.2, q ∈ tb) → KT tb (cl.foldl (fun ks c => ksF ks c.2) ks)
  | [], _, h, _ => h
  | c :: cl, ks, h, m => KT.folds (cl := cl) (h.fold (m c List.mem_cons_self)) fun r k => m r (List.mem_cons_of_mem _ k)
/-- what is there stays there -/
theorem put_there {ks : List (Key × V)} {k : Key} {q : Str × Str} (h : (valV ks k).isSome = true) : (valV (putK ks (Sum.inr q.1) (.str q.2)) k).isSome = true := by
  rw [valV_put]
  split
  · rfl
  · exact h
theorem fold_there {k : Key} : ∀ {ns : List (Str × Str)} {ks : List (Key × V)}, (valV ks k).isSome = true → (valV (ksF ks ns) k).isSome = true
  | [], _, h => h
  | _ :: ns, _, h => fold_there (ns := ns) (put_there h)
theorem folds_there {k : Key} : ∀ {cl : ClsT} {ks : List (Key × V)}, (valV ks k).isSome = true → (valV (cl.foldl (fun ks c => ksF ks c.2) ks) k).isSome = true
  | [], _, h => h
  | _ :: cl, _, h => folds_there (cl := cl) (fold_there h)
theorem fold_in : ∀ {ns : List (Str × Str)} {ks : List (Key × V)} {q : Str × Str}, q ∈ ns → (valV (ksF ks ns) (Sum.inr q.1 : Key)).isSome = true
  | a :: ns, ks, q, m => by
    rcases List.mem_cons.mp m with e | m
    · subst e
      exact fold_there (ns := ns) (by rw [valV_put, if_pos rfl]; rfl)
    · exact fold_in (ns := ns) m
theorem folds_in : ∀ {cl : ClsT} {ks : List (Key × V)} {c : Str × List (Str × Str)} {q : Str × Str}, c ∈ cl → q ∈ c.2 → (valV (cl.foldl (fun ks c => ksF ks c.2) ks) (Sum.inr q.1 : Key)).isSome = true
  | a :: cl, ks, c, q, m, k => by
    rcases List.mem_cons.mp m with e | m
    · subst e
      exact folds_there (cl := cl) (fold_in k)
    · exact folds_in (cl := cl) m k
theorem Tab.ks {tb : List (Str × Str)} {cl : ClsT} (T : Tab tb cl) : KsOk cl := fun c m q k => by
  have h := folds_in (ks := []) m k
  obtain ⟨v, hv⟩ := Option.isSome_iff_exists.mp h
  obtain ⟨l, rfl, ml⟩ := KT.folds (tb := tb) (ks := []) (fun x v e => by cases e) T.all q.1 v hv
  unfold ksM
  rw [hv, fst_unique T.nd (T.all c m q k) ml]
theorem Tab.fit {tb : List (Str × Str)} {cl : ClsT} (T : Tab tb cl) (i : Nat) (c : Str × List (Str × Str)) (hc : cl[i]? = some c) : ∀ q ∈ c.2, valV (ksM (cl.take i)) (Sum.inr q.1 : Key) = none ∨ valV (ksM (cl.take i)) (Sum.inr q.1 : Key) = some (.str q.2) := fun q k => by
  cases e : valV (ksM (cl.take i)) (Sum.inr q.1 : Key) with
  | none => exact .inl rfl
  | some v =>
    obtain ⟨l, rfl, ml⟩ := KT.folds (tb := tb) (cl := cl.take i) (ks := []) (fun x v e => by cases e) (fun d m => T.all d (List.take_subset _ _ m)) q.1 v e
    rw [fst_unique T.nd (T.all c (List.mem_of_getElem? hc) q k) ml]
    exact .inr rfl
/-- a name, decided -/
def nameB (x : Str) : Bool := decide (0 < x.cps.size) && (decide (x.cps.size ≤ 8) && (x.cps[0]?.any (fun c => decide (c ∈ LETS.cps.toList)) && x.cps.toList.all fun c => decide (c ∈ MRKS.cps.toList)))
theorem nam_of {x : Str} (h : nameB x = true) : Nam x := by
  unfold nameB at h
  simp only [Bool.and_eq_true, decide_eq_true_eq, List.all_eq_true] at h
  obtain ⟨h1, h2, h3, h4⟩ := h
  refine ⟨h1, h2, ?_, fun i c e => h4 c ?_⟩
  · cases e : x.cps[0]? with
    | none => rw [e] at h3; cases h3
    | some c =>
      rw [e] at h3
      exact ⟨c, rfl, of_decide_eq_true h3⟩
  · have := Array.mem_of_getElem? e
    simpa using this
theorem names_of {l : List Str} (h : l.all nameB = true) : ∀ x ∈ l, Nam x := fun x m => nam_of (List.all_eq_true.mp h x m)
theorem CWS_nam : ∀ x ∈ CWS, Nam x := names_of (by decide +kernel)
theorem TIT_nam : ∀ x ∈ TIT, Nam x := names_of (by decide +kernel)
theorem W12_nam : ∀ x ∈ W12, Nam x := names_of (by decide +kernel)
theorem FLD_nam : ∀ q ∈ FLD, Nam q.1 ∧ IsKind q.2 := fun q m => by
  have h1 := names_of (l := FLD.map Prod.fst) (by decide +kernel) q.1 (List.mem_map.mpr ⟨q, m, rfl⟩)
  refine ⟨h1, ?_⟩
  have : ∀ q ∈ FLD, decide (q.2 = "number") || decide (q.2 = "object") = true := by decide +kernel
  have := this q m
  simp only [Bool.or_eq_true, decide_eq_true_eq] at this
  exact this
theorem CWS_nd : CWS.Nodup := by decide +kernel
theorem TIT_nd : TIT.Nodup := by decide +kernel
theorem W12_nd : W12.Nodup := by decide +kernel
theorem FLD_nd : (FLD.map Prod.fst).Nodup := by decide +kernel
theorem ClW.tab {cl : ClsT} (h : ClW cl) : Tab FLD cl := ⟨FLD_nd, fun c m q k => (h.fl c m).1.mem q k⟩
theorem ClW.cok {cl : ClsT} (h : ClW cl) : ClsOk cl := by
  refine ⟨h.nm.nodup CWS_nd, fun c m => ⟨CWS_nam _ (h.nm.mem _ (List.mem_map.mpr ⟨c, m, rfl⟩)), fun q k => FLD_nam q ((h.fl c m).1.mem q k), ((h.fl c m).1.map Prod.fst).nodup FLD_nd, (h.fl c m).2⟩, ?_, h.tab.fit⟩
  have := h.nm.len
  rw [List.length_map] at this
  exact this
theorem ClsOk.okc {cl : ClsT} (h : ClsOk cl) : OkCs cl := fun c m => ⟨(h.one c m).1.ok, fun q k => ⟨((h.one c m).2.1 q k).1.ok, ((h.one c m).2.1 q k).2.ok⟩⟩
theorem ClW.g {cl : ClsT} (h : ClW cl) : ClG cl := ⟨h.cok.okc, h.tab.ks, h.cok.l6, fun c m => (h.fl c m).2⟩
theorem HOk.nam {f : FdT} (h : HOk f) : ∀ q ∈ f.ns ++ f.ms, Nam q.1 ∧ IsKind q.2 := fun q m => ⟨W12_nam _ (h.vs.mem _ (List.mem_map.mpr ⟨q, m, rfl⟩)), h.kd q m⟩
theorem HOk.g {f : FdT} (h : HOk f) : HdG f := ⟨fun q m => (h.nam q m).1.ok, by have := h.l4; have := h.l8; omega⟩
/-- rows speak of functions by their heads alone -/
def SameHd (hs fds : List FdT) : Prop := hs.length = fds.length ∧ ∀ (i : Nat) h f, hs[i]? = some h → fds[i]? = some f → f.nm = h.nm ∧ f.res = h.res ∧ f.ns = h.ns ∧ f.ms = h.ms
theorem RowOk.heads {cl : ClsT} {hs fds : List FdT} {h f : FdT} {r : Rx} (o : RowOk cl hs h r) (s : SameHd hs fds) (e1 : f.res = h.res) (e2 : f.ns = h.ns) (e3 : f.ms = h.ms) : RowOk cl fds f r := by
  have ko : ∀ x q, KO h x q → KO f x q := fun x q m => by
    unfold KO at m ⊢
    rw [e2, e3]
    exact m
  cases r with
  | num x n => exact ⟨ko _ _ o.1, o.2⟩
  | nil x => exact ko _ _ o
  | copy x y => exact o.imp fun q z => ⟨ko _ _ z.1, ko _ _ z.2⟩
  | bin k x y z => exact ⟨ko _ _ o.1, ko _ _ o.2.1, ko _ _ o.2.2⟩
  | same x y z => exact o.imp fun q w => ⟨ko _ _ w.1, ko _ _ w.2.1, ko _ _ w.2.2⟩
  | new x c => exact ⟨ko _ _ o.1, o.2⟩
  | get x y g => exact o.imp fun q w => ⟨ko _ _ w.1, ko _ _ w.2.1, w.2.2⟩
  | put x g y => exact o.imp fun q w => ⟨ko _ _ w.1, ko _ _ w.2.1, w.2.2⟩
  | call x F as =>
    obtain ⟨j, g, h1, h2, h3, h4, h5⟩ := o
    have hj : j < fds.length := by
      rw [← s.1]
      exact (List.getElem?_eq_some_iff.mp h1).1
    obtain ⟨s1, s2, s3, s4⟩ := s.2 j g _ h1 (List.getElem?_eq_getElem hj)
    exact ⟨j, _, List.getElem?_eq_getElem hj, by rw [s1, h2], by rw [h3, s3], fun i y q a b => ko _ _ (h4 i y q a (by rw [← s3]; exact b)), by rw [s2]; exact ko _ _ h5⟩
  | see x => exact o.imp fun q z => ko _ _ z
  | ifz x n => exact ko _ _ o
  | jump n => trivial
  | ret x =>
    show KO f x f.res
    rw [e1]
    exact ko _ _ o
end W1
set_option Elab.async false
set_option linter.all false
set_option maxRecDepth 100000
set_option maxHeartbeats 4000000
namespace W1
open PySem PySem.Spec PyProof.Rows L2 RZ CA
section
variable {P : Program} {w : World} {K : PySem.W.Frag} {mg : Str → Option Value} {base : Heap}

/-- a function that was made of a head -/
structure Made (cl : ClsT) (hs : List FdT) (h f : FdT) : Prop where
  nm : f.nm = h.nm
  rs : f.res = h.res
  ns : f.ns = h.ns
  ms : f.ms = h.ms
  ok : ∀ r ∈ f.rws, Fit cl hs h f.rws.length r
  le : f.rws.length ≤ 40
  last : ∃ r0 rl, f.rws = r0 ++ [rl] ∧ (rl.word = ("jump" : Str) ∨ rl.word = ("return" : Str))
/-- drawn classes and functions -/
structure SrcW (cl : ClsT) (fds : List FdT) : Prop where
  cw : ClW cl
  nm : fds.map FdT.nm = TIT.take fds.length
  l1 : 1 ≤ fds.length
  l6 : fds.length ≤ 6
  ho : ∀ f ∈ fds, HOk f
  rows : ∀ f ∈ fds, ∀ r ∈ f.rws, RowOk cl fds f r
  okg : ∀ f ∈ fds, OkG f.rws
theorem LstR.chg {α : Type} {R S : Hp → Addr → α → Prop} {H H' : Hp} {a : Addr} {xs : List α} (h : LstR α R H a xs) (k : ∀ es : List Addr, H a = some (.lst (es.map V.ref)) → H' a = some (.lst (es.map V.ref))) (f : ∀ e x, R H e x → S H' e x) : LstR α S H' a xs := by
  obtain ⟨es, h1, h2, h3⟩ := h
  exact ⟨es, k _ h1, h2, fun i e x a b => f _ _ (h3 i e x a b)⟩
theorem ClsZ.nb {Z : Addr → Prop} {H : Hp} {l e : Addr} {c : Str × List (Str × Str)} (h : ClsZ Z H e c) (hl : H l = none) : ClsZ (fun b => Z b ∧ b ≠ l) H e c := by
  obtain ⟨la, ps, h1, z, h2, h3⟩ := h
  exact ⟨la, ps, h1, ⟨z, ne_of_none h2 hl⟩, h2, h3⟩
theorem HeadT.nb {Z : Addr → Prop} {H : Hp} {l e : Addr} {f : FdT} (h : HeadT Z H e f) (hl : H l = none) : HeadT (fun b => Z b ∧ b ≠ l) H e f := by
  obtain ⟨pa, oa, ps, qs, h1, ⟨z1, z2⟩, h2, h3, h4, h5⟩ := h
  exact ⟨pa, oa, ps, qs, h1, ⟨⟨z1, ne_of_none h2 hl⟩, ⟨z2, ne_of_none h4 hl⟩⟩, h2, h3, h4, h5⟩
def spParts : Sp := fun vs H Q _ => ∃ (p : Addr), vs = [.ref p] ∧ WellAt H p ∧ ∀ (t ca fa : Addr) (cl : ClsT) (fds : List FdT) (H' : Hp), But p H H' → WellAt H' p → H' t = some (.tup [.ref ca, .ref fa]) → (H ca = none ∧ H fa = none) → LstR _ (ClsZ (New H)) H' ca cl → LstR _ (EntryT (New H)) H' fa fds → SrcW cl fds → Q (.ref t) H'
theorem made_all {cl : ClsT} {hs fds : List FdT} (hl : fds.length = hs.length) (hm : ∀ (i : Nat) h f, hs[i]? = some h → fds[i]? = some f → Made cl hs h f) (W : HdW hs) (C : ClW cl) : SrcW cl fds := by
  have sh : SameHd hs fds := ⟨hl.symm, fun i h f a b => ⟨(hm i h f a b).nm, (hm i h f a b).rs, (hm i h f a b).ns, (hm i h f a b).ms⟩⟩
  have mem : ∀ f ∈ fds, ∃ h ∈ hs, Made cl hs h f := fun f m => by
    obtain ⟨i, hi, rfl⟩ := List.getElem_of_mem m
    have h2 : i < hs.length := by rw [← hl]; exact hi
    exact ⟨hs[i], List.getElem_mem h2, hm i _ _ (List.getElem?_eq_getElem h2) (List.getElem?_eq_getElem hi)⟩
  refine ⟨C, ?_, by rw [hl]; exact W.l1, by rw [hl]; exact W.l6, fun f m => ?_, fun f m r k => ?_, fun f m => ?_⟩
  · rw [hl, ← W.nm]
    apply List.ext_getElem?
    intro i
    rw [List.getElem?_map, List.getElem?_map]
    cases e : fds[i]? with
    | none =>
      have : hs[i]? = none := by
        rw [List.getElem?_eq_none_iff] at e ⊢
        omega
      rw [this]
    | some f =>
      have hi : i < hs.length := by
        rw [← hl]
        exact (List.getElem?_eq_some_iff.mp e).1
      rw [List.getElem?_eq_getElem hi]
      exact congrArg some (hm i _ f (List.getElem?_eq_getElem hi) e).nm
  · obtain ⟨h, mh, M⟩ := mem f m
    have O := W.ok h mh
    exact ⟨by rw [M.ns, M.ms]; exact O.vs, by rw [M.ns, M.ms]; exact O.kd, by rw [M.ns]; exact O.l4, by rw [M.ms]; exact O.l8, by rw [M.rs]; exact O.rs⟩
  · obtain ⟨h, mh, M⟩ := mem f m
    exact (M.ok r k).1.heads sh M.rs M.ns M.ms
  · obtain ⟨h, mh, M⟩ := mem f m
    exact ⟨fun r k g e => (M.ok r k).2 g e, M.last, M.le⟩
theorem sc_L_parts : FnScope ["_law_well_here", "_law_classes_here", "_law_heads_here", "_law_functions", "_law_head", "_law_many"] ["_law_well_here"] (defScope s_L_parts) := ⟨rfl, rfl, rfl, by decide +kernel, rfl, by decide +kernel, by decide +kernel⟩
theorem ok_L_parts (T : Ctx w K mg) (H_L_pick : Has P w K mg base 3 "_law_pick" ["_law_well_here", "_law_items"] (spPick K)) (H_L_draw : Has P w K mg base 2 "_law_draw" ["_law_well_here", "_law_many"] spDraw) (H_L_classes : Has P w K mg base 4 "_law_classes" ["_law_well_here"] spClassesL) (H_L_heads : Has P w K mg base 4 "_law_heads" ["_law_well_here"] spHeads) (H_L_rows : Has P w K mg base 5 "_law_rows" ["_law_well_here", "_law_head", "_law_heads_here", "_law_classes_here", "_law_many"] spRows) : Has P w K mg base 6 "_law_parts" ["_law_well_here"] spParts := by
  obtain ⟨fd, F⟩ := T.D_L_parts
  obtain ⟨fd_L_pick, G_L_pick, b_L_pick⟩ := H_L_pick.ex
  obtain ⟨fd_L_draw, G_L_draw, b_L_draw⟩ := H_L_draw.ex
  obtain ⟨fd_L_classes, G_L_classes, b_L_classes⟩ := H_L_classes.ex
  obtain ⟨fd_L_heads, G_L_heads, b_L_heads⟩ := H_L_heads.ex
  obtain ⟨fd_L_rows, G_L_rows, b_L_rows⟩ := H_L_rows.ex
  refine ⟨⟨fd, F.ok sc_L_parts (fun vs H Q E h => ?_) (fun cdv A outer s H vs Q E hr h => ?_), F.bindsN fun _ _ _ _ _ _ us hl => match us, hl with | [_], _ => rfl⟩, F.kp, T.g_L_parts⟩
  · obtain ⟨p, rfl, hw, k⟩ := h; rfl
  · obtain ⟨p, rfl, hw, k⟩ := h
    have hr_L_pick : Room 3 _ := hr.mono (by decide)
    have hr_L_draw : Room 2 _ := hr.mono (by decide)
    have hr_L_classes : Room 4 _ := hr.mono (by decide)
    have hr_L_heads : Room 4 _ := hr.mono (by decide)
    have hr_L_rows : Room 5 _ := hr.mono (by decide)
    have hu := hu_of hr
    refine ⟨_, PSs.nox (pss_cons (ps_par (i := 1) (j := 2) (by rfl) sc_L_parts.nd rfl rfl (by decide) rfl rfl (pa_cons (pe_call G_L_classes hr_L_classes (by rfl) H_L_classes.gl H_L_classes.kp b_L_classes .nil pass0 (pa_cons (pv 0) pa_nil)) (pa_cons (pe_call G_L_heads hr_L_heads (by rfl) H_L_heads.gl H_L_heads.kp b_L_heads .nil pass0 (pa_cons (pv 0) pa_nil)) pa_nil)) (by rfl))
      (pss_cons (ps_set (i := 3) sc_L_parts.nd rfl (Or.inl rfl) (pe_lst pa_nil))
      (pss_cons (ps_for PassesOwn.never rfl (pi_list (pv 2)) (pg_name (i := 4) sc_L_parts.nd rfl (Or.inl rfl))
      (pss_cons (ps_set (i := 5) sc_L_parts.nd rfl (Or.inl rfl) (pe_call G_L_pick hr_L_pick (by rfl) H_L_pick.gl H_L_pick.kp b_L_pick .nil pass0 (pa_cons (pv 0) (pa_cons (pe_lst (pa_cons (pe_op op_add pe_int (pe_call G_L_draw hr_L_draw (by rfl) H_L_draw.gl H_L_draw.kp b_L_draw .nil pass0 (pa_cons (pv 0) (pa_cons pe_int pa_nil)))) (pa_cons (pe_op op_add pe_int (pe_call G_L_draw hr_L_draw (by rfl) H_L_draw.gl H_L_draw.kp b_L_draw .nil pass0 (pa_cons (pv 0) (pa_cons pe_int pa_nil)))) (pa_cons (pe_op op_add pe_int (pe_call G_L_draw hr_L_draw (by rfl) H_L_draw.gl H_L_draw.kp b_L_draw .nil pass0 (pa_cons (pv 0) (pa_cons pe_int pa_nil)))) pa_nil)))) pa_nil))))
      (pss_one (ps_expr (pe_bm PySem.F.plainAttrs_list PySem.F.slot_list_append PySem.F.type_list_append mt_append (pv 3) (pa_cons (pe_op op_catT (pv 4) (pe_tup (pa_cons (pe_call G_L_rows hr_L_rows (by rfl) H_L_rows.gl H_L_rows.kp b_L_rows .nil pass0 (pa_cons (pv 0) (pa_cons (pv 4) (pa_cons (pv 2) (pa_cons (pv 1) (pa_cons (pv 5) pa_nil)))))) pa_nil))) pa_nil))))))
      (pss_one (ps_ret (pe_tup (pa_cons (pv 1) (pa_cons (pv 3) pa_nil)))))))), ?_⟩
    refine ⟨_, rfl, p, rfl, hw, fun ca cl H1 b1 w1 n1 C1 W1 => ?_⟩
    refine ⟨_, rfl, p, rfl, w1, fun la hs H2 b2 w2 n2 C2 W2 => ?_⟩
    have c2 := C1.but w1 b2 (fun e x q => q.but w1 b2)
    have l6 := W2.l6
    refine ⟨_, _, rfl, sz_of (by show 0 ≤ 100000; decide), fun lF gF => ?_⟩
    have sF := Same.new (o := .lst []) gF
    have w3 := w2.mono sF
    have b3 := (b1.trans b2).then sF
    have c3 : LstR _ (ClsZ (NewBut H lF)) _ ca cl := c2.chg (fun es q => sF _ _ q) (fun e x q => (q.nb gF).to (fun _ z => z) (.of sF))
    have h3 : LstR _ (HeadT (NewBut H lF)) _ la hs := C2.chg (fun es q => sF _ _ q) (fun e x q => (q.nb gF).to (fun _ z => ⟨none_but b1 w1 z.1, z.2⟩) (.of sF))
    have nF : H lF = none := none_but (b1.trans b2) w2 gF
    have nca : ca ≠ lF := by
      obtain ⟨_, q, _⟩ := c2
      exact ne_of_none q gF
    have nla : la ≠ lF := by
      obtain ⟨_, q, _⟩ := C2
      exact ne_of_none q gF
    have hl3 := upd_same (H := H2) (a := lF) (o := .lst [])
    obtain ⟨ees, q1, q2, q3⟩ := h3
    generalize upd H2 lF (.lst []) = H3 at w3 b3 c3 q1 q3 hl3
    refine ⟨_, rfl, la, rfl, ⟨_, SqL.of q1⟩, ?_⟩
    have hE : Each (HeadT (NewBut H lF) H3) ees hs := ⟨q2, q3⟩
    refine for_it (walk_list (K := K) (a := la) (xs := ees.map V.ref)) (fun i σ H4 => ∃ (v5 v6 : Option V), σ = [some (.ref p), some (.ref ca), some (.ref la), some (.ref lF), v5, v6] ∧ But p H H4 ∧ WellAt H4 p ∧ LstR _ (ClsZ (NewBut H lF)) H4 ca cl ∧ H4 la = some (.lst (ees.map V.ref)) ∧ Each (HeadT (NewBut H lF) H4) ees hs ∧ ∃ (es : List Addr) (fds : List FdT), H4 lF = some (.lst (es.map V.ref)) ∧ Each (EntryT (NewBut H lF) H4) es fds ∧ fds.length = i ∧ ∀ (j : Nat) h f, hs[j]? = some h → fds[j]? = some f → Made cl hs h f) ⟨_, _, rfl, b3, w3, c3, q1, hE, [], [], hl3, .nil, rfl, fun j h f a b => by simp at b⟩ (fun i σ H4 _ ⟨_, _, _, _, _, _, h, _⟩ => SqL.of h) ?_ ?_
    · rintro i y σ Hx H4 hi ⟨v5, v6, rfl, b4, w4, c4, k4, E4, es, fds, e4, F4, l4, O4⟩ ⟨rfl, hy⟩
      obtain ⟨he, hhe, rfl⟩ := map_get hy
      have hih : i < hs.length := by
        rw [← hE.1]
        exact (List.getElem?_eq_some_iff.mp hhe).1
      have hhi : hs[i]? = some hs[i] := List.getElem?_eq_getElem hih
      generalize hs[i] = h at hhi
      have hO := W2.ok h (List.mem_of_getElem? hhi)
      refine ⟨_, rfl, _, rfl, p, 8, rfl, w4, by decide, by decide, fun j1 H5 hj1 b5 w5 => ⟨_, _, rfl, rfl, ?_⟩⟩
      refine ⟨_, rfl, p, 8, rfl, w5, by decide, by decide, fun j2 H6 hj2 b6 w6 => ⟨_, _, rfl, rfl, ?_⟩⟩
      refine ⟨_, rfl, p, 40, rfl, w6, by decide, by decide, fun j3 H7 hj3 b7 w7 => ⟨_, _, rfl, rfl, ?_⟩⟩
      refine ⟨sz_of (by show 3 ≤ 100000; decide), fun lk gk => ?_⟩
      have sk := Same.new (o := .lst [.int (1 + (j1 : Int)), .int (1 + (j2 : Int)), .int (1 + (j3 : Int))]) gk
      refine ⟨p, lk, _, rfl, w7.mono sk, w7.nn gk, upd_same, by show 0 < 3; decide, by show 3 ≤ 1000; decide, fun v H8 hv b8 w8 => ?_⟩
      obtain ⟨many, rfl, m0, m40⟩ : ∃ many : Nat, v = .int (many : Int) ∧ 0 < many ∧ many ≤ 40 := by
        simp only [List.mem_cons, List.not_mem_nil, or_false] at hv
        rcases hv with rfl | rfl | rfl
        · exact ⟨1 + j1, by rfl, by omega, by omega⟩
        · exact ⟨1 + j2, by rfl, by omega, by omega⟩
        · exact ⟨1 + j3, by rfl, by omega, by omega⟩
      have b48 : But p H4 H8 := ((b5.trans b6).trans b7).trans ((But.of sk).trans b8)
      have b8' := b4.trans b48
      have k8 := w4.refs b48 k4
      have c8 := c4.but w4 b48 (fun e x q => q.but w4 b48)
      have E8 := E4.mono fun e x _ q => q.but w4 b48
      have F8 := F4.mono fun e x _ q => q.but w4 b48
      have e8 := w4.refs b48 e4
      have hh8 := E8.2 i he h hhe hhi
      obtain ⟨pa, oa, ps, qs, x1, ⟨z1, z2⟩, x2, x3, x4, x5⟩ := id hh8
      refine ⟨_, rfl, .inl ⟨rfl, _, SqL.of e8⟩, _, rfl, _, rfl, _, rfl, _, rfl, _, rfl, _, rfl, p, he, la, ca, h, hs, cl, many, rfl, w8, ⟨hh8.to (fun _ _ => trivial) (.of (Same.refl _)), hO.g, hO.rs⟩, ⟨⟨ees, k8, E8.1, fun i e x a b => (E8.2 i e x a b).to (fun _ _ => trivial) (.of (Same.refl _))⟩, fun g m => (W2.ok g m).g, by have := W2.l1; omega, by have := W2.l6; omega⟩, ⟨c8.chg (fun es q => q) (fun e x q => q.to (fun _ _ => trivial) (.of (Same.refl _))), W1.g⟩, m0, by omega, fun lr rws H9 b9 w9 n9 R9 len9 fit9 last9 => ?_⟩
      refine ⟨sz_of (by show 1 ≤ 100000; decide), fun tr gr => ?_⟩
      have st := Same.new (o := .tup [.ref lr]) gr
      refine ⟨he, tr, _, _, rfl, rfl, SqT.of (st _ _ (w8.tup b9 x1)), SqT.of upd_same, by simp, sz_of (by show 4 + 1 ≤ 100000; decide), fun z => (List.cons_ne_nil _ _ z).elim, fun _ e ge => ?_⟩
      have se := Same.new (o := .tup ([.str h.nm, .ref pa, .ref oa, .str h.res] ++ [.ref lr])) ge
      have s9 := st.trans se
      have e9 := s9 _ _ (w8.refs b9 e8)
      refine ⟨lF, _, _, rfl, rfl, e9, sz_lt (by rw [List.length_map, F4.1, l4]; have := W2.l6; omega), ?_⟩
      have b49 : But p H4 _ := b48.trans (b9.then s9)
      have w10 := w9.mono s9
      have nlF : lF ≠ p := hw.nn nF
      have kz : KeepZ (NewBut H lF) _ (upd _ lF (.lst (es.map V.ref ++ [.ref e]))) := ⟨fun b xs q => by rw [upd_ne (ne_of q e9 (by intro z; cases z))]; exact q, fun b xs z q => by rw [upd_ne z.2]; exact q⟩
      have rw9 : LstR _ (RowT (NewBut H lF)) H9 lr rws := R9.chg (fun es q => q) (fun e x q => q.to (fun b z => ⟨none_but b8' w8 z, (ne_of_none e8 z).symm⟩) (.of (Same.refl _)))
      obtain ⟨rs, y1, y2, y3⟩ := rw9
      have nlr : NewBut H lF lr := ⟨none_but b8' w8 n9, (ne_of_none e8 n9).symm⟩
      have elF : e ≠ lF := (ne_of_none (st _ _ (w8.refs b9 e8)) ge).symm
      have M1 : Made cl hs h ⟨h.nm, h.res, h.ns, h.ms, rws⟩ := ⟨rfl, rfl, rfl, rfl, fun r m => by rw [len9]; exact fit9 r m, by rw [len9]; exact m40, last9⟩
      refine ⟨_, _, rfl, ((b4.trans b49)).mut nF, w10.put nlF, ?_, ?_, ?_, es ++ [e], fds ++ [⟨h.nm, h.res, h.ns, h.ms, rws⟩], by rw [upd_same, List.map_append]; rfl, ?_, by rw [List.length_append, l4]; rfl, fun j g f a b => ?_⟩
      · exact (c8.but w8 b9 (fun e x q => q.but w8 b9)).chg (fun es q => kz.2 _ _ ⟨n1, nca⟩ (s9 _ _ q)) (fun e x q => (q.to (fun _ z => z) (.of s9)).to (fun _ z => z) kz)
      · rw [upd_ne nla]
        exact s9 _ _ (w8.refs b9 k8)
      · exact E8.mono fun e x _ q => ((q.but w8 b9).to (fun _ z => z) (.of s9)).to (fun _ z => z) kz
      · refine (F8.mono fun e x _ q => ((q.but w8 b9).to (fun _ z => z) (.of s9)).to (fun _ z => z) kz).snoc ⟨pa, oa, lr, ps, qs, rs, ?_, ⟨z1, z2, nlr⟩, kz.2 _ _ z1 (s9 _ _ (w8.refs b9 x2)), (((x3.but w8 b9).mono s9).keepZ kz), kz.2 _ _ z2 (s9 _ _ (w8.refs b9 x4)), (((x5.but w8 b9).mono s9).keepZ kz), kz.2 _ _ nlr (s9 _ _ y1), ⟨y2, fun i a r u v => ((y3 i a r u v).to (fun _ z => z) (.of s9)).to (fun _ z => z) kz⟩⟩
        rw [upd_ne elF]
        exact upd_same
      · by_cases c : j < fds.length
        · rw [List.getElem?_append_left c] at b
          exact O4 j g f a b
        · have cj : j = fds.length := by
            have := (List.getElem?_eq_some_iff.mp b).1
            rw [List.length_append, List.length_singleton] at this
            omega
          subst cj
          rw [List.getElem?_append_right (Nat.le_refl _), Nat.sub_self] at b
          rw [l4, hhi] at a
          rw [← Option.some.inj a, ← Option.some.inj b]
          exact M1
    · rintro σ H4 ⟨v5, v6, rfl, b4, w4, c4, k4, E4, es, fds, e4, F4, l4, O4⟩
      have hl : fds.length = hs.length := by
        rw [l4, List.length_map, hE.1]
      refine ⟨_, rfl, _, rfl, sz_of (by show 2 ≤ 100000; decide), fun t gt => ?_⟩
      have st := Same.new (o := .tup [.ref ca, .ref lF]) gt
      exact k t ca lF cl fds _ (b4.then st) (w4.mono st) upd_same ⟨n1, nF⟩ (c4.chg (fun es q => st _ _ q) (fun e x q => q.to (fun _ z => z.1) (.of st))) (.of (st _ _ e4) (F4.mono fun e x _ q => q.to (fun _ z => z.1) (.of st))) (made_all hl O4 W2 W1)

end
end W1
set_option Elab.async false
set_option linter.all false
set_option maxRecDepth 100000
set_option maxHeartbeats 4000000
namespace W1
open PySem PySem.Spec PyProof.Rows L2 RZ CA
section
variable {P : Program} {w : World} {K : PySem.W.Frag} {mg : Str → Option Value} {base : Heap}

/-- the parts put together again -/
theorem parts_row {F H : Hp} {D q l : Addr} {r : Rx} {xs : List V} (hl : xs.length = (V.str r.word :: r.parts (.ref l)).length) (hx : ∀ (i : Nat) v, xs[i]? = some v → PartT F D r (.ref l) i H v) (hq : H q = none) : RowT (New F) (upd H q (.tup xs)) q r := by
  have same : ∀ (i : Nat) v, xs[i]? = some v → (r.args.isSome && (i == 3)) = false → v = (V.str r.word :: r.parts (.ref l)).getD i .non := fun i v e c => by
    rcases hx i v e with ⟨_, h⟩ | ⟨h, _⟩
    · exact h
    · rw [c] at h
      cases h
  cases e : r.args with
  | none =>
    refine ⟨l, ?_, fun bs z => by rw [e] at z; cases z⟩
    rw [upd_same]
    have ex : xs = V.str r.word :: r.parts (.ref l) := by
      apply List.ext_getElem hl
      intro i h1 h3
      have := same i xs[i] (List.getElem?_eq_getElem h1) (by rw [e]; rfl)
      rw [this, List.getD_eq_getElem?_getD, List.getElem?_eq_getElem h3]
      rfl
    rw [ex]
  | some bs =>
    cases r with
    | call x F as =>
      obtain rfl : as = bs := Option.some.inj e
      have h4 : xs.length = 4 := hl
      match xs, h4 with
      | [a0, a1, a2, a3], _ =>
        have e0 := same 0 a0 rfl rfl
        have e1 := same 1 a1 rfl rfl
        have e2 := same 2 a2 rfl rfl
        rcases hx 3 a3 rfl with ⟨z, _⟩ | ⟨_, q3, e3, _, n0, h3⟩
        · cases z
        · subst e0 e1 e2 e3
          exact ⟨q3, upd_same, fun bs2 z => by
            obtain rfl := Option.some.inj z
            exact ⟨n0, Same.new hq _ _ h3⟩⟩
    | _ => cases e
theorem pi_tupK {X : Cx} {K : PySem.W.Frag} {tg l : Expr} {tl : TE} (hk : X.K = K) (hl : PE X l tl) : PI X tg l (iTup K tl) := by
  subst hk
  exact pi_tup hl
def spCopied : Sp := fun vs H Q _ => ∃ (ca fa : Addr) (cl : ClsT) (fds : List FdT), vs = [.ref ca, .ref fa] ∧ TCls H ca cl ∧ TFns H fa fds ∧ cl.length ≤ 6 ∧ fds.length ≤ 6 ∧ (∀ f ∈ fds, f.rws.length ≤ 40) ∧
  ∀ (t c2 f2 : Addr) (H' : Hp), Same H H' → H' t = some (.tup [.ref c2, .ref f2]) → (H c2 = none ∧ H f2 = none) → LstR _ (ClsZ (New H)) H' c2 cl → LstR _ (EntryT (New H)) H' f2 fds → Q (.ref t) H'
theorem call_tuple_ofK {X : Cx} {K : PySem.W.Frag} (hk : X.K = K) : CallR X (.type "tuple") (fun xs H Q => ∃ p ys, xs = [.ref p] ∧ ((SqL K H p ys ∧ ∀ l, H l = none → Q (.ref l) (upd H l (.tup ys))) ∨ (SqT K H p ys ∧ Q (.ref p) H))) := by
  subst hk
  exact call_tuple_of
theorem sc_L_copied : FnScope ["_law_classes_here", "_law_functions", "_law_some_here", "_law_found", "_law_name", "_law_inputs", "_law_others", "_law_kind", "_law_rows_here", "_law_its", "_law_fields", "_law_row", "_law_part"] ["_law_classes_here", "_law_functions"] (defScope s_L_copied) := ⟨rfl, rfl, rfl, by decide +kernel, rfl, by decide +kernel, by decide +kernel⟩
theorem ok_L_copied (T : Ctx w K mg) : Has P w K mg base 1 "_law_copied" ["_law_classes_here", "_law_functions"] spCopied := by
  obtain ⟨fd, F⟩ := T.D_L_copied
  refine ⟨⟨fd, F.ok sc_L_copied (fun vs H Q E h => ?_) (fun cdv A outer s H vs Q E hr h => ?_), F.bindsN fun _ _ _ _ _ _ us hl => match us, hl with | [_, _], _ => rfl⟩, F.kp, T.g_L_copied⟩
  · obtain ⟨ca, fa, cl, fds, rfl, hc, hf, lc, lf, lr, k⟩ := h; rfl
  · obtain ⟨ca, fa, cl, fds, rfl, hc, hf, lc, lf, lr, k⟩ := h
    have hu := hu_of hr
    refine ⟨_, PSs.nox (pss_cons (ps_setLc (i := 2) (own := [("_law_name", 4), ("_law_fields", 10)]) (g := gTup K 2 (gCons (gName 4) (gCons (gName 10) (gNil)))) (tt := tYes) rfl sc_L_copied.nd rfl rfl (sw_true rfl rfl rfl (by decide +kernel)) (pi_list (pv 0)) (blkOk_by (N := ["_law_classes_here", "_law_functions", "_law_some_here", "_law_found", "_law_name", "_law_inputs", "_law_others", "_law_kind", "_law_rows_here", "_law_its", "_law_fields", "_law_row", "_law_part"]) (sc := defScope s_L_copied) (by decide +kernel)) (fun _ _ _ _ _ => (pg_tup rfl (pgs_cons (pg_name (i := 4) sc_L_copied.nd rfl (Or.inl rfl)) (pgs_cons (pg_name (i := 10) sc_L_copied.nd rfl (Or.inl rfl)) pgs_nil)))) (fun _ _ _ _ _ => pts_nil) (fun _ _ _ _ _ => (pe_tup (pa_cons (pv 4) (pa_cons (pe_callTy (call_list_ofK (K := K) rfl) (by rfl) T.f_list (by decide +kernel) (pa_cons (pv 10) pa_nil)) pa_nil)))))
      (pss_cons (ps_set (i := 3) sc_L_copied.nd rfl (Or.inl rfl) (pe_lst pa_nil))
      (pss_cons (ps_for PassesOwn.never rfl (pi_list (pv 1)) (pg_tup rfl (pgs_cons (pg_name (i := 4) sc_L_copied.nd rfl (Or.inl rfl)) (pgs_cons (pg_name (i := 5) sc_L_copied.nd rfl (Or.inl rfl)) (pgs_cons (pg_name (i := 6) sc_L_copied.nd rfl (Or.inl rfl)) (pgs_cons (pg_name (i := 7) sc_L_copied.nd rfl (Or.inl rfl)) (pgs_cons (pg_name (i := 8) sc_L_copied.nd rfl (Or.inl rfl)) pgs_nil))))))
      (pss_cons (ps_setLc (i := 9) (own := [("_law_row", 11)]) (g := gName 11) (tt := tYes) rfl sc_L_copied.nd rfl rfl (sw_true rfl rfl rfl (by decide +kernel)) (pi_list (pv 8)) (blkOk_by (N := ["_law_classes_here", "_law_functions", "_law_some_here", "_law_found", "_law_name", "_law_inputs", "_law_others", "_law_kind", "_law_rows_here", "_law_its", "_law_fields", "_law_row", "_law_part"]) (sc := defScope s_L_copied) (by decide +kernel)) (fun _ _ _ _ _ => (pg_name (i := 11) sc_L_copied.nd rfl (Or.inl rfl))) (fun _ _ _ _ _ => pts_nil) (fun s1 H1 C1 cl1 fp1 => (pe_callTy (call_tuple_ofK (K := K) rfl) (by rfl) T.f_tuple (by decide +kernel) (pa_cons (pe_lc (X := ((cxOf CX0 P w K mg base ["_law_classes_here", "_law_functions", "_law_some_here", "_law_found", "_law_name", "_law_inputs", "_law_others", "_law_kind", "_law_rows_here", "_law_its", "_law_fields", "_law_row", "_law_part"] "_law_copied" (defScope s_L_copied) (He.ga K "_law_copied") cdv A outer s H E).nox.blk s1 H1 ({ kind := .function, names := [(".0", .local), ("_law_row", .local), ("tuple", .globalImplicit)], isGenerator := false, isCoroutine := false } : Scope) (compEnvC ({ kind := .function, names := [(".0", .local), ("_law_row", .local), ("tuple", .globalImplicit)], isGenerator := false, isCoroutine := false } : Scope) cl1 C1 (cxOf CX0 P w K mg base ["_law_classes_here", "_law_functions", "_law_some_here", "_law_found", "_law_name", "_law_inputs", "_law_others", "_law_kind", "_law_rows_here", "_law_its", "_law_fields", "_law_row", "_law_part"] "_law_copied" (defScope s_L_copied) (He.ga K "_law_copied") cdv A outer s H E).nox.env) fp1)) (own := [("_law_part", 12)]) (g := gName 12) (tt := tYes) rfl sc_L_copied.nd (pi_tupK (K := K) rfl (pv 11)) (blkOk_by (N := ["_law_classes_here", "_law_functions", "_law_some_here", "_law_found", "_law_name", "_law_inputs", "_law_others", "_law_kind", "_law_rows_here", "_law_its", "_law_fields", "_law_row", "_law_part"]) (sc := ({ kind := .function, names := [(".0", .local), ("_law_row", .local), ("tuple", .globalImplicit)], isGenerator := false, isCoroutine := false } : Scope)) (by decide +kernel)) (fun _ _ _ _ _ => (pg_name (i := 12) sc_L_copied.nd rfl (Or.inl rfl))) (fun _ _ _ _ _ => pts_nil) (fun _ _ _ _ _ => (pe_ifExp (pt_val ((pe_callB (call_isiK (K := K) rfl) (by rfl) T.f_isinstance (by decide +kernel) (pa_cons (pv 12) (pa_cons (pe_bltn (v := .ty "list") (u := .type "list") rfl T.f_list (by decide +kernel) rfl) pa_nil))))) (pe_callTy (call_list_ofK (K := K) rfl) (by rfl) T.f_list (by decide +kernel) (pa_cons (pv 12) pa_nil)) (pv 12)))) pa_nil))))
      (pss_one (ps_expr (pe_bm PySem.F.plainAttrs_list PySem.F.slot_list_append PySem.F.type_list_append mt_append (pv 3) (pa_cons (pe_tup (pa_cons (pv 4) (pa_cons (pe_callTy (call_list_ofK (K := K) rfl) (by rfl) T.f_list (by decide +kernel) (pa_cons (pv 5) pa_nil)) (pa_cons (pe_callTy (call_list_ofK (K := K) rfl) (by rfl) T.f_list (by decide +kernel) (pa_cons (pv 6) pa_nil)) (pa_cons (pv 7) (pa_cons (pv 9) pa_nil)))))) pa_nil))))))
      (pss_one (ps_ret (pe_tup (pa_cons (pv 2) (pa_cons (pv 3) pa_nil)))))))), ?_⟩
    obtain ⟨ces, c1, c2, c3⟩ := hc
    obtain ⟨fes, f1, f2, f3⟩ := hf
    refine ⟨_, rfl, ca, rfl, ⟨_, SqL.of c1⟩, fun D gD => ?_⟩
    refine lc_any (walk_list (K := K) (a := ca) (xs := ces.map V.ref)) gD (fun i H1 v => ∃ e, v = .ref e ∧ ∀ c, cl[i]? = some c → ClsZ (fun b => New H b ∧ b ≠ D) H1 e c) (by rw [List.length_map]; omega) (fun i H1 H2 v xs h1 b h => ?_) (fun H2 s2 => SqL.of (s2 _ _ c1)) (fun i H2 y H3 xs hi s2 hDl hy Qe qe => ?_) (fun H1 xs s1 hl hx h1 => ?_)
    · obtain ⟨e, rfl, h⟩ := h
      exact ⟨e, rfl, fun c ec => (h c ec).to (fun _ z => z) (.butZ h1 (fun _ z => z.2) b)⟩
    · obtain ⟨rfl, hy⟩ := hy
      obtain ⟨a, ha, rfl⟩ := map_get hy
      have hic : i < cl.length := by rw [← c2]; exact (List.getElem?_eq_some_iff.mp ha).1
      have ec : cl[i]? = some cl[i] := List.getElem?_eq_getElem hic
      obtain ⟨la, ps, k1, _, k2, k3⟩ := c3 i a _ ha ec
      refine ⟨a, _, rfl, SqT.of (s2 _ _ k1), rfl, _, _, rfl, _, _, rfl, rfl, rfl, _, rfl, _, rfl, la, _, rfl, .inl (SqL.of (s2 _ _ k2)), fun ln gn => ⟨sz_of (by show 2 ≤ 100000; decide), fun e ge => ?_⟩⟩
      have sn := Same.new (o := .lst (ps.map V.ref)) gn
      have se := Same.new (o := .tup [.str cl[i].1, .ref ln]) ge
      refine qe _ _ (sn.trans se) ⟨e, rfl, fun c z => ?_⟩
      rw [ec] at z
      rw [← Option.some.inj z]
      exact ⟨ln, ps, upd_same, ⟨none_of s2 gn, (ne_of_none hDl gn).symm⟩, se _ _ upd_same, k3.mono (s2.trans (sn.trans se))⟩
    obtain ⟨ts, rfl, hts⟩ := refs_of hx
    have C2 : LstR _ (ClsZ (New H)) H1 D cl := ⟨ts, h1, by rw [List.length_map] at hl; rw [hl, List.length_map, c2], fun i e c a b => (hts i e a c b).to (fun _ z => z.1) (.of (Same.refl _))⟩
    refine ⟨sz_of (by show 0 ≤ 100000; decide), fun lF gF => ?_⟩
    have sF := Same.new (o := .lst []) gF
    have S2 := s1.trans sF
    have nF : H lF = none := none_of s1 gF
    have C3 : LstR _ (ClsZ (NewBut H lF)) _ D cl := C2.chg (fun es q => sF _ _ q) (fun e x q => (q.nb gF).to (fun _ z => z) (.of sF))
    have nDF : D ≠ lF := ne_of_none h1 gF
    refine ⟨_, rfl, fa, rfl, ⟨_, SqL.of (S2 _ _ f1)⟩, ?_⟩
    refine for_it (walk_list (K := K) (a := fa) (xs := fes.map V.ref)) (fun i σ H4 => ∃ (v4 v5 v6 v7 v8 v9 v10 v11 v12 : Option V), σ = [some (.ref ca), some (.ref fa), some (.ref D), some (.ref lF), v4, v5, v6, v7, v8, v9, v10, v11, v12] ∧ Same H H4 ∧ LstR _ (ClsZ (NewBut H lF)) H4 D cl ∧ ∃ es : List Addr, H4 lF = some (.lst (es.map V.ref)) ∧ Each (EntryT (NewBut H lF) H4) es (fds.take i)) ⟨_, _, _, _, _, _, _, _, _, rfl, S2, C3, [], upd_same, by rw [List.take_zero]; exact .nil⟩ (fun i σ H4 _ ⟨_, _, _, _, _, _, _, _, _, _, s, _⟩ => SqL.of (s _ _ f1)) ?_ ?_
    · rintro i y σ Hx H4 hi ⟨v4, v5, v6, v7, v8, v9, v10, v11, v12, rfl, s4, C4, es, e4, F4⟩ ⟨rfl, hy⟩
      obtain ⟨a, ha, rfl⟩ := map_get hy
      have hif : i < fds.length := by rw [← f2]; exact (List.getElem?_eq_some_iff.mp ha).1
      have ef : fds[i]? = some fds[i] := List.getElem?_eq_getElem hif
      have hle := lr _ (List.getElem_mem hif)
      have hfe := f3 i a _ ha ef
      generalize fds[i] = f at ef hle hfe
      obtain ⟨pa, oa, ra, ps, qs, rs, k1, _, k2, k3, k4, k5, k6, k7⟩ := hfe
      refine ⟨a, _, rfl, SqT.of (s4 _ _ k1), rfl, _, _, rfl, _, _, rfl, _, _, rfl, _, _, rfl, _, _, rfl, rfl, ?_⟩
      refine ⟨_, rfl, ra, rfl, ⟨_, SqL.of (s4 _ _ k6)⟩, fun E gE => ?_⟩
      refine lc_any (walk_list (K := K) (a := ra) (xs := rs.map V.ref)) gE (fun i H1 v => ∃ e, v = .ref e ∧ ∀ r, f.rws[i]? = some r → RowT (fun b => H4 b = none ∧ b ≠ E) H1 e r) (by rw [List.length_map, k7.len]; omega) (fun i H1 H2 v xs h1 b h => ?_) (fun H2 s2 => SqL.of (s2 _ _ (s4 _ _ k6))) (fun j H5 y H6 xs hj s5 hDl hy2 Qe qe => ?_) (fun H5 xs s5 hl5 hx5 h5 => ?_)
      · obtain ⟨e, rfl, h⟩ := h
        exact ⟨e, rfl, fun r er => (h r er).to (fun _ z => z) (.butZ h1 (fun _ z => z.2) b)⟩
      · obtain ⟨rfl, hy2⟩ := hy2
        obtain ⟨p1, hp1, rfl⟩ := map_get hy2
        have hjr : j < f.rws.length := by
          rw [← k7.len]
          exact (List.getElem?_eq_some_iff.mp hp1).1
        have er : f.rws[j]? = some f.rws[j] := List.getElem?_eq_getElem hjr
        obtain ⟨l, hr1, hr2⟩ := k7.at_ j p1 _ hp1 er
        generalize f.rws[j] = r at er hr1 hr2
        have ha5 := s5 _ _ (s4 _ _ hr1)
        refine ⟨rfl, _, rfl, p1, rfl, ⟨_, SqT.of ha5⟩, fun G gG => ?_⟩
        have hlp : (V.str r.word :: r.parts (.ref l)).length ≤ 4 := by cases r <;> simp [Rx.parts]
        refine lc_any (walk_tup (K := K) (a := p1) (xs := V.str r.word :: r.parts (.ref l))) gG (fun i H1 v => PartT H6 G r (.ref l) i H1 v) (by omega) (fun i H1 H2 v xs h1 b h => ?_) (fun H2 s2 => SqT.of (s2 _ _ ha5)) (fun m H7 y H8 xs hm s7 hGl hy3 Qf qf => ?_) (fun H7 xs s7 hl7 hx7 h7 => ?_)
        · rcases h with h | ⟨c, q, e, n, n0, h⟩
          · exact .inl h
          · exact .inr ⟨c, q, e, n, n0, b _ _ h n⟩
        · obtain ⟨rfl, hy3⟩ := hy3
          rcases parts_at hy3 with ⟨g1, d1⟩ | ⟨bs, hb, rfl, rfl⟩
          · have hy4 := (getD_of hy3).symm
            cases g1 with
            | str x => exact ⟨rfl, _, rfl, _, _, _, _, false, rfl, .ty _, .base (.str x), kit_ty (by decide +kernel), false, rfl, iteF ⟨_, rfl, qf _ _ (Same.refl _) (.inl ⟨d1, hy4⟩)⟩⟩
            | int x => exact ⟨rfl, _, rfl, _, _, _, _, false, rfl, .ty _, .base (.int x), kit_ty (by decide +kernel), false, rfl, iteF ⟨_, rfl, qf _ _ (Same.refl _) (.inl ⟨d1, hy4⟩)⟩⟩
          · have q2 := s7 _ _ (s5 _ _ (s4 _ _ (hr2 bs hb).2))
            refine ⟨rfl, _, rfl, _, _, _, _, true, rfl, .ty _, .base (.lst q2), kit_ty (by decide +kernel), true, rfl, iteT ⟨_, rfl, l, bs.map V.str, rfl, .inl (SqL.of q2), fun q hq => qf _ _ (Same.new hq) (.inr ⟨by rw [hb]; rfl, q, rfl, fun z => ?_, none_of s7 hq, ?_⟩)⟩⟩
            · rw [z, hGl] at hq
              cases hq
            · rw [upd_same]
              unfold Rx.namesOf
              rw [hb]
              rfl
        refine ⟨G, xs, rfl, .inl ⟨SqL.of h7, fun q hq => qe _ _ (s7.trans (Same.new hq)) ⟨q, rfl, fun r2 e2 => ?_⟩⟩⟩
        rw [er] at e2
        rw [← Option.some.inj e2]
        refine (parts_row hl7 hx7 hq).to (fun b z => ⟨none_of s5 z, fun w => ?_⟩) (.of (Same.refl _))
        rw [w] at z
        exact nomatch (z.symm.trans hDl)
      obtain ⟨rt, rfl, hrt⟩ := refs_of hx5
      rw [List.length_map] at hl5
      have e5 := s5 _ _ e4
      have S5 := s4.trans s5
      refine ⟨_, rfl, .inl ⟨rfl, _, SqL.of e5⟩, _, rfl, _, rfl, pa, _, rfl, .inl (SqL.of (S5 _ _ k2)), fun l1 g1 => ?_⟩
      have t1 := Same.new (o := .lst (ps.map V.ref)) g1
      refine ⟨_, rfl, oa, _, rfl, .inl (SqL.of (t1 _ _ (S5 _ _ k4))), fun l2 g2 => ?_⟩
      have t2 := Same.new (o := .lst (qs.map V.ref)) g2
      refine ⟨_, rfl, _, rfl, sz_of (by show 5 ≤ 100000; decide), fun e ge => ?_⟩
      have t3 := Same.new (o := .tup [.str f.nm, .ref l1, .ref l2, .str f.res, .ref E]) ge
      have t13 := t1.trans (t2.trans t3)
      have e8 := t13 _ _ e5
      have hes : es.length = i := by rw [F4.1, List.length_take]; omega
      refine ⟨lF, _, _, rfl, rfl, e8, sz_lt (by rw [List.length_map]; omega), ?_⟩
      have kz : KeepZ (NewBut H lF) _ (upd _ lF (.lst (es.map V.ref ++ [.ref e]))) := ⟨fun b xs q => by rw [upd_ne (ne_of q e8 (by intro z; cases z))]; exact q, fun b xs z q => by rw [upd_ne z.2]; exact q⟩
      have S8 := S5.trans t13
      have elF : e ≠ lF := (ne_of_none (t2 _ _ (t1 _ _ e5)) ge).symm
      have nE : NewBut H lF E := ⟨none_of s4 gE, (ne_of_none e4 gE).symm⟩
      have nl1 : NewBut H lF l1 := ⟨none_of S5 g1, (ne_of_none e5 g1).symm⟩
      have nl2 : NewBut H lF l2 := ⟨none_of S5 (none_of t1 g2), (ne_of_none (t1 _ _ e5) g2).symm⟩
      refine ⟨_, _, _, _, _, _, _, _, _, rfl, Same.mut S8 nF, ?_, es ++ [e], by rw [upd_same, List.map_append]; rfl, ?_⟩
      · exact C4.chg (fun es q => kz.2 _ _ ⟨gD, nDF⟩ (t13 _ _ (s5 _ _ q))) (fun e x q => (q.to (fun _ z => z) (.of (s5.trans t13))).to (fun _ z => z) kz)
      · rw [take_succ_at ef]
        refine (F4.mono fun e x _ q => (q.to (fun _ z => z) (.of (s5.trans t13))).to (fun _ z => z) kz).snoc ⟨l1, l2, E, ps, qs, rt, ?_, ⟨nl1, nl2, nE⟩, kz.2 _ _ nl1 (t3 _ _ (t2 _ _ upd_same)), (k3.mono S8).keepZ kz, kz.2 _ _ nl2 (t3 _ _ upd_same), (k5.mono S8).keepZ kz, kz.2 _ _ nE (t13 _ _ h5), ⟨by rw [List.length_map] at hl5; rw [hl5, k7.len], fun j a r u v => ?_⟩⟩
        · rw [upd_ne elF]
          exact upd_same
        · refine ((hrt j a u r v).to (fun b z => (⟨none_of s4 z.1, (ne_of_none e4 z.1).symm⟩ : NewBut H lF b)) (.of t13)).to (fun _ z => z) kz
    · rintro σ H4 ⟨v4, v5, v6, v7, v8, v9, v10, v11, v12, rfl, s4, C4, es, e4, F4⟩
      refine ⟨_, rfl, _, rfl, sz_of (by show 2 ≤ 100000; decide), fun t gt => ?_⟩
      have st := Same.new (o := .tup [.ref D, .ref lF]) gt
      rw [List.length_map, f2, List.take_length] at F4
      exact k t D lF _ (s4.trans st) upd_same ⟨gD, nF⟩ (C4.chg (fun es q => st _ _ q) (fun e x q => q.to (fun _ z => z.1) (.of st))) (.of (st _ _ e4) (F4.mono fun e x _ q => q.to (fun _ z => z.1) (.of st)))

end
end W1
set_option Elab.async false
set_option linter.all false
set_option maxRecDepth 100000
set_option maxHeartbeats 4000000
namespace W1
open PySem PySem.Spec PyProof.Rows L2 RZ CA
section
variable {P : Program} {w : World} {K : PySem.W.Frag} {mg : Str → Option Value} {base : Heap}

/-- all but what Z speaks of stays -/
def KeepNot (Z : Addr → Prop) (H H' : Hp) : Prop := ∀ b u, H b = some u → ¬ Z b → H' b = some u
def spSpoilt : Sp := fun vs H Q _ => ∃ (Z : Addr → Prop) (ca fa : Addr) (cl : ClsT) (fds : List FdT), vs = [.ref ca, .ref fa] ∧ (Z ca ∧ Z fa) ∧ LstR _ (ClsZ Z) H ca cl ∧ LstR _ (EntryT Z) H fa fds ∧ (cl.length ≤ 6 ∧ ∀ c ∈ cl, c.2.length ≤ 4) ∧ (0 < fds.length ∧ fds.length ≤ 6) ∧ (∀ f ∈ fds, f.ns.length ≤ 4 ∧ f.ms.length ≤ 8 ∧ 0 < f.rws.length ∧ f.rws.length ≤ 40 ∧ ∀ r ∈ f.rws, r.namesOf.length ≤ 4) ∧
  ∀ H', KeepNot Z H H' → Q .non H'
section
variable {Z : Addr → Prop} {H : Hp} {ca fa : Addr} {cl : ClsT} {fds : List FdT} {ces fes : List Addr}
/-- the lists of rows; the lists of arguments -/
def RlB (H : Hp) (fes : List Addr) (fds : List FdT) (b : Addr) : Prop := ∃ (i : Nat) (e : Addr) (f : FdT) (pa oa : Addr) (rs : List Addr), fes[i]? = some e ∧ fds[i]? = some f ∧ H e = some (.tup [.str f.nm, .ref pa, .ref oa, .str f.res, .ref b]) ∧ H b = some (.lst (rs.map V.ref)) ∧ rs.length = f.rws.length ∧ ∀ (j : Nat) a r, rs[j]? = some a → f.rws[j]? = some r → RowT Tru H a r
def ArB (Z : Addr → Prop) (H : Hp) (b : Addr) : Prop := Z b ∧ ∃ as : List Str, H b = some (.lst (as.map V.str)) ∧ as.length ≤ 4
/-- a tuple that a list of rows may have -/
def RowL (Z : Addr → Prop) (H H4 : Hp) (r : Addr) : Prop := ∃ ys : List V, H4 r = some (.tup ys) ∧ ys.length ≤ 4 ∧ ∀ y ∈ ys, Fl y ∨ ∃ l, y = .ref l ∧ ArB Z H l
/-- where one stands while things are spoilt -/
structure Jn (Z : Addr → Prop) (H : Hp) (fa : Addr) (fes : List Addr) (fds : List FdT) (n m : Nat) (H4 : Hp) : Prop where
  k1 : KeepNot Z H H4
  k2 : ∀ b xs, H b = some (.tup xs) → H4 b = some (.tup xs)
  k3 : ∀ b xs, Z b → H b = some (.lst xs) → ∃ ys, H4 b = some (.lst ys) ∧ ys.length ≤ xs.length + n
  k4 : ∀ b, RlB H fes fds b → ∃ rs : List Addr, H4 b = some (.lst (rs.map V.ref)) ∧ rs.length ≤ 40 + m ∧ ∀ r ∈ rs, RowL Z H H4 r
  k5 : H4 fa = some (.lst (fes.map V.ref))
theorem Jn.same {n m : Nat} {H4 H5 : Hp} (J : Jn Z H fa fes fds n m H4) (s : Same H4 H5) : Jn Z H fa fes fds n m H5 :=
  ⟨fun b u e z => s _ _ (J.k1 b u e z), fun b xs e => s _ _ (J.k2 b xs e), fun b xs z e => by
    obtain ⟨ys, h1, h2⟩ := J.k3 b xs z e
    exact ⟨ys, s _ _ h1, h2⟩, fun b r => by
    obtain ⟨rs, h1, h2, h3⟩ := J.k4 b r
    exact ⟨rs, s _ _ h1, h2, fun a m => by
      obtain ⟨ys, q1, q2⟩ := h3 a m
      exact ⟨ys, s _ _ q1, q2⟩⟩, s _ _ J.k5⟩
theorem Jn.more {n n' m m' : Nat} {H4 : Hp} (J : Jn Z H fa fes fds n m H4) (h : n ≤ n') (h2 : m ≤ m') : Jn Z H fa fes fds n' m' H4 :=
  ⟨J.k1, J.k2, fun b xs z e => by
    obtain ⟨ys, h1, h2⟩ := J.k3 b xs z e
    exact ⟨ys, h1, by omega⟩, fun b r => by
    obtain ⟨rs, h1, h2, h3⟩ := J.k4 b r
    exact ⟨rs, h1, by omega, h3⟩, J.k5⟩
/-- a list of Z is changed -/
theorem Jn.put {n m : Nat} {H4 : Hp} {b : Addr} {ys zs : List V} (J : Jn Z H fa fes fds n m H4) (zb : Z b) (hb : H4 b = some (.lst ys)) (hl : zs.length ≤ ys.length + 1) (hR : RlB H fes fds b → ∃ rs : List Addr, zs = rs.map V.ref ∧ rs.length ≤ 40 + (m + 1) ∧ ∀ r ∈ rs, RowL Z H H4 r) (hf : b ≠ fa) : Jn Z H fa fes fds (n + 1) (m + 1) (upd H4 b (.lst zs)) := by
  have tt : ∀ a xs, H4 a = some (.tup xs) → upd H4 b (.lst zs) a = some (.tup xs) := fun a xs e => by
    rw [upd_ne (ne_of e hb (by intro z; cases z))]
    exact e
  refine ⟨fun c u e z => ?_, fun c xs e => tt _ _ (J.k2 c xs e), fun c xs z e => ?_, fun c r => ?_, ?_⟩
  · rw [upd_ne (fun w => z (by rw [w]; exact zb))]
    exact J.k1 c u e z
  · obtain ⟨ws, h1, h2⟩ := J.k3 c xs z e
    by_cases w : c = b
    · subst w
      rw [upd_same]
      rw [hb] at h1
      have e2 := HO.lst.inj (Option.some.inj h1)
      exact ⟨zs, rfl, by rw [← e2] at h2; omega⟩
    · rw [upd_ne w]
      exact ⟨ws, h1, by omega⟩
  · by_cases w : c = b
    · subst w
      obtain ⟨rs, rfl, e2, e3⟩ := hR r
      rw [upd_same]
      exact ⟨rs, rfl, e2, fun a m => by
        obtain ⟨ys, q1, q2⟩ := e3 a m
        exact ⟨ys, tt _ _ q1, q2⟩⟩
    · obtain ⟨rs, h1, h2, h3⟩ := J.k4 c r
      rw [upd_ne w]
      exact ⟨rs, h1, by omega, fun a m => by
        obtain ⟨ys, q1, q2⟩ := h3 a m
        exact ⟨ys, tt _ _ q1, q2⟩⟩
  · rw [upd_ne hf.symm]
    exact J.k5
/-- the same where no list of rows is changed -/
theorem Jn.putA {n m : Nat} {H4 : Hp} {b : Addr} {ys zs : List V} (J : Jn Z H fa fes fds n m H4) (zb : Z b) (hb : H4 b = some (.lst ys)) (hl : zs.length ≤ ys.length + 1) (hR : ¬ RlB H fes fds b) (hf : b ≠ fa) : Jn Z H fa fes fds (n + 1) m (upd H4 b (.lst zs)) := by
  have J2 := J.put zb hb hl (fun r => absurd r hR) hf
  refine ⟨J2.k1, J2.k2, J2.k3, fun c r => ?_, J2.k5⟩
  obtain ⟨rs, h1, h2, h3⟩ := J.k4 c r
  have w : c ≠ b := fun z => hR (z ▸ r)
  refine ⟨rs, by rw [upd_ne w]; exact h1, h2, fun a m => ?_⟩
  obtain ⟨ys, q1, q2⟩ := h3 a m
  exact ⟨ys, by rw [upd_ne (ne_of q1 hb (by intro z; cases z))]; exact q1, q2⟩
theorem Jn.clear {n m : Nat} {H4 : Hp} {b : Addr} {ys : List V} (J : Jn Z H fa fes fds n m H4) (zb : Z b) (hb : H4 b = some (.lst ys)) (hf : b ≠ fa) : Jn Z H fa fes fds n m (upd H4 b (.lst [])) := by
  have J2 := J.put (zs := []) zb hb (Nat.zero_le _) (fun _ => ⟨[], rfl, Nat.zero_le _, fun r m => by cases m⟩) hf
  refine ⟨J2.k1, J2.k2, fun c xs z e => ?_, fun c r => ?_, J2.k5⟩
  · obtain ⟨ws, h1, h2⟩ := J.k3 c xs z e
    by_cases w : c = b
    · subst w
      exact ⟨[], upd_same, Nat.zero_le _⟩
    · exact ⟨ws, by rw [upd_ne w]; exact h1, h2⟩
  · by_cases w : c = b
    · subst w
      exact ⟨[], upd_same, Nat.zero_le _, fun r m => by cases m⟩
    · obtain ⟨rs, h1, h2, h3⟩ := J.k4 c r
      refine ⟨rs, by rw [upd_ne w]; exact h1, h2, fun a m => ?_⟩
      obtain ⟨ys, q1, q2⟩ := h3 a m
      exact ⟨ys, by rw [upd_ne (ne_of q1 hb (by intro z; cases z))]; exact q1, q2⟩
theorem mref_inj : ∀ {as bs : List Addr}, as.map V.ref = bs.map V.ref → as = bs
  | [], [], _ => rfl
  | [], _ :: _, h => nomatch h
  | _ :: _, [], h => nomatch h
  | a :: as, b :: bs, h => by
    rw [List.map_cons, List.map_cons] at h
    obtain ⟨h1, h2⟩ := List.cons.inj h
    rw [V.ref.inj h1, mref_inj h2]
theorem refs_inj {as bs : List Addr} (h : HO.lst (as.map V.ref) = HO.lst (bs.map V.ref)) : as = bs := mref_inj (HO.lst.inj h)
def isR : V → Bool
  | .ref _ => true
  | _ => false
/-- a list of pairs is no list of functions -/
theorem pairs_ne {b : Addr} {ps : List Addr} {qs : List (Str × Str)} {es : List Addr} (hb : H b = some (.lst (ps.map V.ref))) (P : PairsG H ps qs) (hc : H ca = some (.lst (es.map V.ref))) (pos : 0 < es.length) (hn : ∀ e ∈ es, ∀ x y : Str, H e ≠ some (.tup [.str x, .str y])) : b ≠ ca := fun z => by
  subst z
  rw [hb] at hc
  have e := refs_inj (Option.some.inj hc)
  subst e
  cases ps with
  | nil => exact absurd pos (by decide)
  | cons p ps =>
    cases qs with
    | nil => have := P.len; simp at this
    | cons q qs => exact hn p List.mem_cons_self _ _ (P.at_ 0 p q rfl rfl)
end
theorem sc_L_spoilt : FnScope ["_law_classes_here", "_law_functions", "_law_name", "_law_fields", "_law_inputs", "_law_others", "_law_kind", "_law_rows_here", "_law_row", "_law_some_here", "_law_part"] ["_law_classes_here", "_law_functions"] (defScope s_L_spoilt) := ⟨rfl, rfl, rfl, by decide +kernel, rfl, by decide +kernel, by decide +kernel⟩
theorem ok_L_spoilt (T : Ctx w K mg) : Has P w K mg base 1 "_law_spoilt" ["_law_classes_here", "_law_functions"] spSpoilt := by
  obtain ⟨fd, F⟩ := T.D_L_spoilt
  refine ⟨⟨fd, F.ok sc_L_spoilt (fun vs H Q E h => ?_) (fun cdv A outer s H vs Q E hr h => ?_), F.bindsN fun _ _ _ _ _ _ us hl => match us, hl with | [_, _], _ => rfl⟩, F.kp, T.g_L_spoilt⟩
  · obtain ⟨Z, ca, fa, cl, fds, rfl, hz, hc, hf, lc, lf, lr, k⟩ := h; rfl
  · obtain ⟨Z, ca, fa, cl, fds, rfl, hz, hc, hf, lc, lf, lr, k⟩ := h
    have hu := hu_of hr
    refine ⟨_, PSs.nox (pss_cons (ps_for PassesOwn.never rfl (pi_list (pv 0)) (pg_tup rfl (pgs_cons (pg_name (i := 2) sc_L_spoilt.nd rfl (Or.inl rfl)) (pgs_cons (pg_name (i := 3) sc_L_spoilt.nd rfl (Or.inl rfl)) pgs_nil)))
      (pss_one (ps_expr (pe_bm PySem.F.plainAttrs_list PySem.F.slot_list_append PySem.F.type_list_append mt_append (pv 3) (pa_cons (pe_tup (pa_cons pe_str (pa_cons pe_str pa_nil))) pa_nil)))))
      (pss_cons (ps_for PassesOwn.never rfl (pi_list (pv 1)) (pg_tup rfl (pgs_cons (pg_name (i := 2) sc_L_spoilt.nd rfl (Or.inl rfl)) (pgs_cons (pg_name (i := 4) sc_L_spoilt.nd rfl (Or.inl rfl)) (pgs_cons (pg_name (i := 5) sc_L_spoilt.nd rfl (Or.inl rfl)) (pgs_cons (pg_name (i := 6) sc_L_spoilt.nd rfl (Or.inl rfl)) (pgs_cons (pg_name (i := 7) sc_L_spoilt.nd rfl (Or.inl rfl)) pgs_nil))))))
      (pss_cons (ps_for PassesOwn.never rfl (pi_list (pv 7)) (pg_name (i := 8) sc_L_spoilt.nd rfl (Or.inl rfl))
      (pss_one (ps_for PassesOwn.never rfl (pi_list (pe_lc (own := [("_law_part", 10)]) (g := gName 10) rfl sc_L_spoilt.nd (pi_tup (pv 8)) (blkOk_by (N := ["_law_classes_here", "_law_functions", "_law_name", "_law_fields", "_law_inputs", "_law_others", "_law_kind", "_law_rows_here", "_law_row", "_law_some_here", "_law_part"]) (sc := defScope s_L_spoilt) (by decide +kernel)) (fun _ _ _ _ _ => (pg_name (i := 10) sc_L_spoilt.nd rfl (Or.inl rfl))) (fun _ _ _ _ _ => (pts_one (pt_val (pe_callB (call_isiK (K := K) rfl) (by rfl) T.f_isinstance (by decide +kernel) (pa_cons (pv 10) (pa_cons (pe_bltn (v := .ty "list") (u := .type "list") rfl T.f_list (by decide +kernel) rfl) pa_nil)))))) (fun _ _ _ _ _ => (pv 10)))) (pg_name (i := 10) sc_L_spoilt.nd rfl (Or.inl rfl))
      (pss_one (ps_expr (pe_bm PySem.F.plainAttrs_list PySem.F.slot_list_append PySem.F.type_list_append mt_append (pv 10) (pa_cons pe_str pa_nil)))))))
      (pss_one (ps_for PassesOwn.never rfl (pi_tup (pe_tup (pa_cons (pv 4) (pa_cons (pv 5) (pa_cons (pv 7) pa_nil))))) (pg_name (i := 9) sc_L_spoilt.nd rfl (Or.inl rfl))
      (pss_one (ps_expr ((pe_bm0 PySem.F.plainAttrs_list PySem.F.slot_list_clear PySem.F.type_list_clear mt_clear (pv 9)))))))))
      (pss_cons (ps_expr (pe_bm PySem.F.plainAttrs_list PySem.F.slot_list_append PySem.F.type_list_append mt_append (pv 0) (pa_cons pe_non pa_nil)))
      (pss_one (ps_expr ((pe_bm0 PySem.F.plainAttrs_list PySem.F.slot_list_clear PySem.F.type_list_clear mt_clear (pv 1)))))))), ?_⟩
    obtain ⟨zca, zfa⟩ := hz
    obtain ⟨ces, c1, c2, c3⟩ := hc
    obtain ⟨fes, f1, f2, f3⟩ := hf
    obtain ⟨lc1, lc2⟩ := lc
    obtain ⟨lf1, lf2⟩ := lf
    have pf : 0 < fes.length := by rw [f2]; exact lf1
    have hcn : ∀ e ∈ ces, ∀ x y : Str, H e ≠ some (.tup [.str x, .str y]) := fun e m x y z => by
      obtain ⟨c, _, la, ps, q, _⟩ := Each.at_ (R := ClsZ Z H) ⟨c2, c3⟩ m
      rw [q] at z
      cases z
    have hfn : ∀ e ∈ fes, ∀ x y : Str, H e ≠ some (.tup [.str x, .str y]) := fun e m x y z => by
      obtain ⟨c, _, _, _, _, _, _, _, q, _⟩ := Each.at_ (R := EntryT Z H) ⟨f2, f3⟩ m
      rw [q] at z
      cases z
    have row4 : ∀ {r : Rx} {l : V}, (V.str r.word :: r.parts l).length ≤ 4 := fun {r l} => by cases r <;> simp [Rx.parts]
    have frow : ∀ (i : Nat) (e : Addr) (f : FdT), fes[i]? = some e → fds[i]? = some f → ∃ (pa oa ra : Addr) (ps qs rs : List Addr), H e = some (.tup [.str f.nm, .ref pa, .ref oa, .str f.res, .ref ra]) ∧ (Z pa ∧ Z oa ∧ Z ra) ∧ H pa = some (.lst (ps.map V.ref)) ∧ PairsG H ps f.ns ∧ H oa = some (.lst (qs.map V.ref)) ∧ PairsG H qs f.ms ∧ H ra = some (.lst (rs.map V.ref)) ∧ RowsT Z H rs f.rws := fun i e f a b => f3 i e f a b
    have noA : ∀ {b : Addr}, ArB Z H b → ¬ RlB H fes fds b := fun {b} ⟨_, as, q, _⟩ ⟨i, e, f, pa, oa, rs, x1, x2, x3, x4, x5, x6⟩ => by
      rw [q] at x4
      have p0 := (lr f (List.mem_of_getElem? x2)).2.2.1
      exact strs_refs (by rw [x5]; exact p0) (Option.some.inj x4)
    have J0 : Jn Z H fa fes fds 0 0 H := ⟨fun b u e _ => e, fun b xs e => e, fun b xs _ e => ⟨xs, e, Nat.le_refl _⟩, fun b ⟨i, e, f, pa, oa, rs, x1, x2, x3, x4, x5, x6⟩ => by
      refine ⟨rs, x4, by rw [x5]; exact (lr f (List.mem_of_getElem? x2)).2.2.2.1, fun r m => ?_⟩
      obtain ⟨j, hj, rfl⟩ := List.getElem_of_mem m
      have hj2 : j < f.rws.length := by rw [← x5]; exact hj
      obtain ⟨pa2, oa2, ra2, ps2, qs2, rs2, y1, _, _, _, _, _, y7, y8⟩ := frow i e f x1 x2
      rw [x3] at y1
      have ez : b = ra2 := by
        have := HO.tup.inj (Option.some.inj y1)
        simp only [List.cons.injEq, V.ref.injEq] at this
        exact this.2.2.2.2.1
      rw [← ez, x4] at y7
      obtain rfl := refs_inj (Option.some.inj y7)
      obtain ⟨l, q1, q2⟩ := y8.at_ j _ _ (List.getElem?_eq_getElem hj) (List.getElem?_eq_getElem hj2)
      refine ⟨_, q1, row4, fun y my => ?_⟩
      obtain ⟨m2, hm, rfl⟩ := List.getElem_of_mem my
      rcases parts_at (List.getElem?_eq_getElem hm) with ⟨w, _⟩ | ⟨bs, hb, _, w⟩
      · exact .inl w
      · refine .inr ⟨l, w, (q2 bs hb).1, bs, (q2 bs hb).2, ?_⟩
        have := (lr f (List.mem_of_getElem? x2)).2.2.2.2 _ (List.getElem_mem hj2)
        unfold Rx.namesOf at this
        rw [hb] at this
        exact this, f1⟩
    refine ⟨_, rfl, ca, rfl, ⟨_, SqL.of c1⟩, ?_⟩
    refine for_it (walk_list (K := K) (a := ca) (xs := ces.map V.ref)) (fun i σ H4 => ∃ (v2 v3 v4 v5 v6 v7 v8 v9 v10 : Option V), σ = [some (.ref ca), some (.ref fa), v2, v3, v4, v5, v6, v7, v8, v9, v10] ∧ Jn Z H fa fes fds i i H4 ∧ H4 ca = some (.lst (ces.map V.ref))) ⟨_, _, _, _, _, _, _, _, _, rfl, J0, c1⟩ (fun i σ H4 _ ⟨_, _, _, _, _, _, _, _, _, _, _, h⟩ => SqL.of h) ?_ ?_
    · rintro i y σ Hx H4 hi ⟨v2, v3, v4, v5, v6, v7, v8, v9, v10, rfl, J, k4⟩ ⟨rfl, hy⟩
      obtain ⟨e, he, rfl⟩ := map_get hy
      have hic : i < cl.length := by rw [← c2]; exact (List.getElem?_eq_some_iff.mp he).1
      have ec : cl[i]? = some cl[i] := List.getElem?_eq_getElem hic
      have l4 := lc2 _ (List.getElem_mem hic)
      obtain ⟨la, ps, q1, z1, q2, q3⟩ := c3 i e _ he ec
      generalize cl[i] = c at ec l4 q1 q3
      have pc : 0 < ces.length := by omega
      have nca : la ≠ ca := pairs_ne q2 q3 c1 pc hcn
      have nfa : la ≠ fa := pairs_ne q2 q3 f1 pf hfn
      obtain ⟨ys, y1, y2⟩ := J.k3 la _ z1 q2
      rw [List.length_map, q3.len] at y2
      refine ⟨e, _, rfl, SqT.of (J.k2 _ _ q1), rfl, _, _, rfl, _, _, rfl, rfl, ?_⟩
      refine ⟨_, rfl, .inl ⟨rfl, _, SqL.of y1⟩, sz_of (by show 2 ≤ 100000; decide), fun t gt => ?_⟩
      have st := Same.new (o := .tup [.str "zz", .str "number"]) gt
      refine ⟨la, _, _, rfl, rfl, st _ _ y1, sz_lt (by omega), ?_⟩
      refine ⟨_, _, _, _, _, _, _, _, _, rfl, (J.same st).put z1 (st _ _ y1) (by rw [List.length_append]; exact Nat.le_refl _) (fun R => ?_) nfa, ?_⟩
      · obtain ⟨rs, r1, r2, r3⟩ := (J.same st).k4 la R
        rw [st _ _ y1] at r1
        rw [HO.lst.inj (Option.some.inj r1)]
        refine ⟨rs ++ [t], by rw [List.map_append]; rfl, by rw [List.length_append]; exact Nat.succ_le_succ r2, fun r m => ?_⟩
        rcases List.mem_append.mp m with m | m
        · exact r3 r m
        · rw [List.mem_singleton.mp m]
          refine ⟨_, upd_same, by show 2 ≤ 4; decide, fun y my => .inl ?_⟩
          simp only [List.mem_cons, List.not_mem_nil, or_false] at my
          rcases my with rfl | rfl
          · exact .str _
          · exact .str _
      · rw [upd_ne nca.symm]
        exact st _ _ k4
    rintro σ H4 ⟨v2, v3, v4, v5, v6, v7, v8, v9, v10, rfl, J, k4⟩
    have J6 := J.more (n' := 6) (m' := 6) (by rw [List.length_map, c2]; exact lc1) (by rw [List.length_map, c2]; exact lc1)
    refine ⟨_, rfl, fa, rfl, ⟨_, SqL.of J6.k5⟩, ?_⟩
    clear J k4
    refine for_it (walk_list (K := K) (a := fa) (xs := fes.map V.ref)) (fun i σ H4 => ∃ (v2 v3 v4 v5 v6 v7 v8 v9 v10 : Option V), σ = [some (.ref ca), some (.ref fa), v2, v3, v4, v5, v6, v7, v8, v9, v10] ∧ Jn Z H fa fes fds (6 + 200 * i) 6 H4) ⟨_, _, _, _, _, _, _, _, _, rfl, J6⟩ (fun i σ H4 _ ⟨_, _, _, _, _, _, _, _, _, _, J⟩ => SqL.of J.k5) ?_ ?_
    · rintro i y σ Hx H5 hi ⟨v2, v3, v4, v5, v6, v7, v8, v9, v10, rfl, J⟩ ⟨rfl, hy⟩
      obtain ⟨e, he, rfl⟩ := map_get hy
      have hif : i < fds.length := by rw [← f2]; exact (List.getElem?_eq_some_iff.mp he).1
      have ef : fds[i]? = some fds[i] := List.getElem?_eq_getElem hif
      have hlr := lr _ (List.getElem_mem hif)
      have hfe := frow i e _ he ef
      generalize fds[i] = f at ef hlr hfe
      obtain ⟨pa, oa, ra, ps, qs, rs, q1, ⟨z1, z2, z3⟩, q2, q3, q4, q5, q6, q7⟩ := hfe
      have Rra : RlB H fes fds ra := ⟨i, e, f, pa, oa, rs, he, ef, q1, q6, q7.len, fun j a r u v => (q7.at_ j a r u v).to (fun _ _ => trivial) (.of (Same.refl _))⟩
      refine ⟨e, _, rfl, SqT.of (J.k2 _ _ q1), rfl, _, _, rfl, _, _, rfl, _, _, rfl, _, _, rfl, _, _, rfl, rfl, ?_⟩
      obtain ⟨rw_, w1, w2, w3⟩ := J.k4 ra Rra
      refine ⟨_, rfl, ra, rfl, ⟨_, SqL.of w1⟩, ?_⟩
      refine for_it (walk_list (K := K) (a := ra) (xs := rw_.map V.ref)) (fun j σ H6 => ∃ (v8 v9 v10 : Option V), σ = [some (.ref ca), some (.ref fa), some (.str f.nm), v3, some (.ref pa), some (.ref oa), some (.str f.res), some (.ref ra), v8, v9, v10] ∧ Jn Z H fa fes fds (6 + 200 * i + 4 * j) 6 H6 ∧ H6 ra = some (.lst (rw_.map V.ref))) ⟨_, _, _, rfl, J, w1⟩ (fun j σ H6 _ ⟨_, _, _, _, _, h⟩ => SqL.of h) ?_ ?_
      · rintro j y σ Hx H6 hj ⟨u8, u9, u10, rfl, J2, r4⟩ ⟨rfl, hy⟩
        obtain ⟨r, hr2, rfl⟩ := map_get hy
        have RL : RowL Z H H6 r := by
          obtain ⟨rs3, x1, x2, x3⟩ := J2.k4 ra Rra
          rw [r4] at x1
          obtain rfl := refs_inj (Option.some.inj x1)
          exact x3 r (List.mem_of_getElem? hr2)
        obtain ⟨ys, t1, t2, t3⟩ := RL
        refine ⟨_, rfl, r, rfl, ⟨_, SqT.of t1⟩, fun D gD => ?_⟩
        refine lc_filt (walk_tup (K := K) (a := r) (xs := ys)) gD (fun i => ys.getD i .non) (fun i => isR (ys.getD i .non)) (by omega) (fun H4 s4 => SqT.of (s4 _ _ t1)) (fun i H4 y H5 hi s4 hy Qe Qn qe qn => ?_) (fun H4 s4 h4 => ?_)
        · obtain ⟨rfl, hy⟩ := hy
          have ex : ys.getD i .non = y := by rw [List.getD_eq_getElem?_getD, hy]; rfl
          rw [ex] at qe qn
          rcases t3 y (List.mem_of_getElem? hy) with h | ⟨l, rfl, h⟩
          · cases h with
            | str x => exact ⟨rfl, _, rfl, _, _, _, _, false, rfl, .ty _, .base (.str x), kit_ty (by decide +kernel), false, rfl, iteF (qn _ (Same.refl _) rfl)⟩
            | int x => exact ⟨rfl, _, rfl, _, _, _, _, false, rfl, .ty _, .base (.int x), kit_ty (by decide +kernel), false, rfl, iteF (qn _ (Same.refl _) rfl)⟩
          · obtain ⟨ws, h1, _⟩ := J2.k3 l _ h.1 h.2.choose_spec.1
            exact ⟨rfl, _, rfl, _, _, _, _, true, rfl, .ty _, .base (.lst (s4 _ _ h1)), kit_ty (by decide +kernel), true, rfl, iteT ⟨_, rfl, qe _ (Same.refl _) rfl⟩⟩
        · have J3 := J2.same s4
          have r5 := s4 _ _ r4
          have RL2 : ∀ y ∈ ys, Fl y ∨ ∃ l, y = .ref l ∧ ArB Z H l := t3
          have hxs : ∀ (k : Nat) y, (((List.range ys.length).filter fun i => isR (ys.getD i .non)).map fun i => ys.getD i .non)[k]? = some y → ∃ l, y = .ref l ∧ ArB Z H l := fun k y e => by
            rw [filt_range V.non isR ys] at e
            obtain ⟨m1, m2⟩ := List.mem_filter.mp (List.mem_of_getElem? e)
            rcases t3 y m1 with h | h
            · cases h <;> cases m2
            · exact h
          have hln : (((List.range ys.length).filter fun i => isR (ys.getD i .non)).map fun i => ys.getD i .non).length ≤ 4 := by
            rw [filt_range V.non isR ys]
            exact Nat.le_trans (List.length_filter_le _ _) t2
          generalize (((List.range ys.length).filter fun i => isR (ys.getD i .non)).map fun i => ys.getD i .non) = xs at h4 hxs hln
          have nD : ∀ l, ArB Z H l → l ≠ D := fun l h z => by
            obtain ⟨ws, h1, _⟩ := J2.k3 l _ h.1 h.2.choose_spec.1
            rw [z, gD] at h1
            cases h1
          refine ⟨D, rfl, ⟨_, SqL.of h4⟩, ?_⟩
          refine for_it (walk_list (K := K) (a := D) (xs := xs)) (fun k σ H6 => ∃ (v10 : Option V), σ = [some (.ref ca), some (.ref fa), some (.str f.nm), v3, some (.ref pa), some (.ref oa), some (.str f.res), some (.ref ra), some (.ref r), u9, v10] ∧ Jn Z H fa fes fds (6 + 200 * i + 4 * j + k) 6 H6 ∧ H6 ra = some (.lst (rw_.map V.ref)) ∧ H6 D = some (.lst xs)) ⟨_, rfl, J3, r5, h4⟩ (fun k σ H6 _ ⟨_, _, _, _, h⟩ => SqL.of h) ?_ ?_
          · rintro k y σ Hx H7 hk ⟨w10, rfl, J4, r6, d4⟩ ⟨rfl, hy⟩
            obtain ⟨l, rfl, hA⟩ := hxs k y hy
            obtain ⟨zl, as, a1, a2⟩ := hA
            have nR := noA ⟨zl, as, a1, a2⟩
            obtain ⟨ws, y1, y2⟩ := J4.k3 l _ zl a1
            rw [List.length_map] at y2
            have ll : l ≠ fa := fun z => by
              rw [z, f1] at a1
              exact strs_refs pf (Option.some.inj a1).symm
            have hj2 : j < rw_.length := by rw [List.length_map] at hj; exact hj
            have hi2 : i < fds.length := hif
            refine ⟨_, rfl, .inl ⟨rfl, _, SqL.of y1⟩, l, _, _, rfl, rfl, y1, sz_lt (by omega), ?_⟩
            refine ⟨_, rfl, J4.putA zl y1 (by rw [List.length_append]; exact Nat.le_refl _) nR ll, ?_, ?_⟩
            · rw [upd_ne (fun z => nR (by rw [← z]; exact Rra))]
              exact r6
            · rw [upd_ne (nD l ⟨zl, as, a1, a2⟩).symm]
              exact d4
          · rintro σ H7 ⟨w10, rfl, J4, r6, d4⟩
            exact ⟨_, _, _, rfl, J4.more (by omega) (Nat.le_refl _), r6⟩
      · rintro σ H6 ⟨u8, u9, u10, rfl, J2, r4⟩
        have lw : (rw_.map V.ref).length ≤ 46 := by rw [List.length_map]; exact w2
        have J3 := J2.more (n' := 6 + 200 * (i + 1)) (m' := 6) (by omega) (Nat.le_refl _)
        refine ⟨_, rfl, _, rfl, _, rfl, sz_of (by show 3 ≤ 100000; decide), fun t gt => ?_⟩
        have st := Same.new (o := .tup [.ref pa, .ref oa, .ref ra]) gt
        refine ⟨t, rfl, ⟨_, SqT.of upd_same⟩, ?_⟩
        have all3 : ∀ (k : Nat) v, [V.ref pa, V.ref oa, V.ref ra][k]? = some v → ∃ b ws, v = .ref b ∧ Z b ∧ H b = some (.lst ws) ∧ b ≠ fa := fun k v e => by
          rcases k with _ | _ | _ | k
          · exact ⟨pa, _, (Option.some.inj e).symm, z1, q2, pairs_ne q2 q3 f1 pf hfn⟩
          · exact ⟨oa, _, (Option.some.inj e).symm, z2, q4, pairs_ne q4 q5 f1 pf hfn⟩
          · refine ⟨ra, _, (Option.some.inj e).symm, z3, q6, fun z => ?_⟩
            rw [z, f1] at q6
            have ee := refs_inj (Option.some.inj q6)
            have h0 : fes[0]? = some fes[0] := List.getElem?_eq_getElem pf
            have h1 : rs[0]? = some fes[0] := by rw [← ee]; exact h0
            have p0 := hlr.2.2.1
            have h2 : f.rws[0]? = some f.rws[0] := List.getElem?_eq_getElem p0
            obtain ⟨l, g1, _⟩ := q7.at_ 0 _ _ h1 h2
            have p1 : 0 < fds.length := lf1
            obtain ⟨_, _, _, _, _, _, g2, _⟩ := frow 0 _ _ h0 (List.getElem?_eq_getElem p1)
            rw [g1] at g2
            have g3 := congrArg List.length (HO.tup.inj (Option.some.inj g2))
            have g4 := @row4 f.rws[0] (.ref l)
            rw [g3] at g4
            exact absurd g4 (by show ¬ 5 ≤ 4; decide)
          · cases e
        refine for_it (walk_tup (K := K) (a := t) (xs := [.ref pa, .ref oa, .ref ra])) (fun k σ H7 => ∃ (v9 : Option V), σ = [some (.ref ca), some (.ref fa), some (.str f.nm), v3, some (.ref pa), some (.ref oa), some (.str f.res), some (.ref ra), u8, v9, u10] ∧ Jn Z H fa fes fds (6 + 200 * (i + 1)) 6 H7 ∧ H7 t = some (.tup [.ref pa, .ref oa, .ref ra])) ⟨_, rfl, J3.same st, upd_same⟩ (fun k σ H6 _ ⟨_, _, _, h⟩ => SqT.of h) ?_ ?_
        · rintro k y σ Hx H7 hk ⟨w9, rfl, J4, t4⟩ ⟨rfl, hy⟩
          obtain ⟨b, ws, rfl, zb, hb, nf⟩ := all3 k y hy
          obtain ⟨ys, y1, _⟩ := J4.k3 b _ zb hb
          refine ⟨_, rfl, .inl ⟨rfl, _, SqL.of y1⟩, b, _, rfl, rfl, y1, ?_⟩
          exact ⟨_, rfl, J4.clear zb y1 nf, by rw [upd_ne (ne_of t4 y1 (by intro z; cases z))]; exact t4⟩
        · rintro σ H7 ⟨w9, rfl, J4, t4⟩
          exact ⟨_, _, _, _, _, _, _, _, _, rfl, J4⟩
    · rintro σ H5 ⟨v2, v3, v4, v5, v6, v7, v8, v9, v10, rfl, J⟩
      have lw : (fes.map V.ref).length ≤ 6 := by rw [List.length_map, f2]; exact lf2
      obtain ⟨ys, y1, y2⟩ := J.k3 ca _ zca c1
      rw [List.length_map, c2] at y2
      refine ⟨_, rfl, .inl ⟨rfl, _, SqL.of y1⟩, ca, _, _, rfl, rfl, y1, sz_lt (by omega), ?_⟩
      have fl : ∃ zs, upd H5 ca (.lst (ys ++ [.non])) fa = some (.lst zs) := by
        by_cases z : fa = ca
        · exact ⟨_, by rw [z]; exact upd_same⟩
        · exact ⟨_, by rw [upd_ne z]; exact J.k5⟩
      obtain ⟨zs, hz⟩ := fl
      refine ⟨_, rfl, .inl ⟨rfl, _, SqL.of hz⟩, fa, _, rfl, rfl, hz, ?_⟩
      refine k _ fun b u e nz => ?_
      rw [upd_ne (fun z => nz (by rw [z]; exact zfa)), upd_ne (fun z => nz (by rw [z]; exact zca))]
      exact J.k1 b u e nz

end
end W1
set_option Elab.async false
set_option linter.all false
set_option maxRecDepth 100000
set_option maxHeartbeats 4000000
namespace W1
open PySem PySem.Spec PyProof.Rows L2 RZ
/-! ### others than the drawn classes and functions -/
/-- classes and functions that a source takes -/
structure Good (cl : ClsT) (fds : List FdT) : Prop where
  oc : ClsOk cl
  nn : (fds.map FdT.nm).Nodup
  l1 : 1 ≤ fds.length
  l6 : fds.length ≤ 6
  ok : ∀ f ∈ fds, FdOk cl fds f
theorem eqvAll_at : ∀ {xs ys : List PyData}, PyData.eqvAll xs ys = true → xs.length = ys.length ∧ ∀ (i : Nat) x y, xs[i]? = some x → ys[i]? = some y → PyData.eqv x y = true
  | [], [], _ => ⟨rfl, fun i x y h _ => by simp at h⟩
  | [], _ :: _, h => by rw [PyData.eqvAll] at h; cases h; all_goals (intros; simp_all)
  | _ :: _, [], h => by rw [PyData.eqvAll] at h; cases h; all_goals (intros; simp_all)
  | x :: xs, y :: ys, h => by
    rw [PyData.eqvAll, Bool.and_eq_true] at h
    obtain ⟨h1, h2⟩ := eqvAll_at h.2
    refine ⟨congrArg (· + 1) h1, fun i a b u v => ?_⟩
    cases i with
    | zero =>
      rw [← Option.some.inj u, ← Option.some.inj v]
      exact h.1
    | succ i => exact h2 i a b (by simpa using u) (by simpa using v)
theorem list_at {xs ys : List PyData} (h : PyData.eqv (.list xs) (.list ys) = true) : xs.length = ys.length ∧ ∀ (i : Nat) x y, xs[i]? = some x → ys[i]? = some y → PyData.eqv x y = true := by
  rw [PyData.eqv] at h
  exact eqvAll_at h
theorem tup_at {xs ys : List PyData} (h : PyData.eqv (.tuple xs) (.tuple ys) = true) : xs.length = ys.length ∧ ∀ (i : Nat) x y, xs[i]? = some x → ys[i]? = some y → PyData.eqv x y = true := by
  rw [PyData.eqv] at h
  exact eqvAll_at h
theorem str_at {a b : Str} (h : PyData.eqv (.str a) (.str b) = true) : a = b := by
  rw [PyData.eqv] at h
  simpa using h
theorem cls_at {a b : ClsT} (h : PyData.eqv (clsD a) (clsD b) = true) : a.length = b.length ∧ ∀ (i : Nat) c d, a[i]? = some c → b[i]? = some d → c.1 = d.1 ∧ c.2.length = d.2.length := by
  obtain ⟨h1, h2⟩ := list_at h
  rw [List.length_map, List.length_map] at h1
  refine ⟨h1, fun i c d x y => ?_⟩
  have := h2 i (clsD1 c) (clsD1 d) (by rw [List.getElem?_map, x]; rfl) (by rw [List.getElem?_map, y]; rfl)
  obtain ⟨_, q⟩ := tup_at this
  refine ⟨str_at (q 0 _ _ rfl rfl), ?_⟩
  have := (list_at (q 1 _ _ rfl rfl)).1
  rwa [List.length_map, List.length_map] at this
theorem fns_at {a b : List FdT} (h : PyData.eqv (fnsD a) (fnsD b) = true) : a.length = b.length ∧ ∀ (i : Nat) f g, a[i]? = some f → b[i]? = some g → f.nm = g.nm ∧ f.ms.length = g.ms.length ∧ f.rws.length = g.rws.length := by
  obtain ⟨h1, h2⟩ := list_at h
  rw [List.length_map, List.length_map] at h1
  refine ⟨h1, fun i c d x y => ?_⟩
  have := h2 i (fnD c) (fnD d) (by rw [List.getElem?_map, x]; rfl) (by rw [List.getElem?_map, y]; rfl)
  obtain ⟨_, q⟩ := tup_at this
  refine ⟨str_at (q 0 _ _ rfl rfl), ?_, ?_⟩
  · have := (list_at (q 2 _ _ rfl rfl)).1
    rwa [List.length_map, List.length_map] at this
  · have := (list_at (q 4 _ _ rfl rfl)).1
    rwa [List.length_map, List.length_map] at this
theorem unC {cl cl2 : ClsT} {fds fds2 : List FdT} (h : PyData.eqv (clsD cl) (clsD cl2) = true → False) : sameS cl cl2 fds fds2 = false := by
  unfold sameS
  cases c : PyData.eqv (clsD cl) (clsD cl2) with
  | false => rfl
  | true => exact (h c).elim
theorem unF {cl cl2 : ClsT} {fds fds2 : List FdT} (h : PyData.eqv (fnsD fds) (fnsD fds2) = true → False) : sameS cl cl2 fds fds2 = false := by
  unfold sameS
  cases c : PyData.eqv (fnsD fds) (fnsD fds2) with
  | false => rw [Bool.and_false]
  | true => exact (h c).elim
/-- a kind that a table of fields tells stands in one of the classes -/
theorem ks_from {cl : ClsT} {g q : Str} (h : valV (ksM cl) (Sum.inr g : Key) = some (.str q)) : ∃ c ∈ cl, (g, q) ∈ c.2 := by
  obtain ⟨k, e, m⟩ := KT.folds (tb := cl.flatMap Prod.snd) (cl := cl) (ks := []) (fun x v e => by cases e) (fun c m q k => List.mem_flatMap.mpr ⟨c, m, k⟩) g _ h
  obtain rfl := V.str.inj e
  exact List.mem_flatMap.mp m
theorem RowOk.chg {cl cl' : ClsT} {fds fds' : List FdT} {f f' : FdT} {r : Rx} (o : RowOk cl fds f r) (hc : ∀ x ∈ cl.map Prod.fst, x ∈ cl'.map Prod.fst) (hk : ∀ c ∈ cl, ∀ q ∈ c.2, ∃ c' ∈ cl', q ∈ c'.2) (T : KsOk cl') (hf : ∀ g ∈ fds, ∃ g' ∈ fds', g'.nm = g.nm ∧ g'.ns = g.ns ∧ g'.res = g.res) (ko : ∀ x q, KO f x q → KO f' x q) (er : f'.res = f.res) : RowOk cl' fds' f' r := by
  have kk : ∀ g q, valV (ksM cl) (Sum.inr g : Key) = some (.str q) → valV (ksM cl') (Sum.inr g : Key) = some (.str q) := fun g q h => by
    obtain ⟨c, m, k⟩ := ks_from h
    obtain ⟨c', m', k'⟩ := hk c m _ k
    exact T c' m' _ k'
  cases r with
  | num x n => exact ⟨ko _ _ o.1, o.2⟩
  | nil x => exact ko _ _ o
  | copy x y => exact o.imp fun q z => ⟨ko _ _ z.1, ko _ _ z.2⟩
  | bin k x y z => exact ⟨ko _ _ o.1, ko _ _ o.2.1, ko _ _ o.2.2⟩
  | same x y z => exact o.imp fun q w => ⟨ko _ _ w.1, ko _ _ w.2.1, ko _ _ w.2.2⟩
  | new x c => exact ⟨ko _ _ o.1, hc _ o.2⟩
  | get x y g => exact o.imp fun q w => ⟨ko _ _ w.1, ko _ _ w.2.1, kk _ _ w.2.2⟩
  | put x g y => exact o.imp fun q w => ⟨ko _ _ w.1, ko _ _ w.2.1, kk _ _ w.2.2⟩
  | call x F as =>
    obtain ⟨j, g, h1, h2, h3, h4, h5⟩ := o
    obtain ⟨g', m', s1, s3, s2⟩ := hf g (List.mem_of_getElem? h1)
    obtain ⟨j', hj, rfl⟩ := List.getElem_of_mem m'
    exact ⟨j', _, List.getElem?_eq_getElem hj, by rw [s1, h2], by rw [h3, s3], fun i y q a b => ko _ _ (h4 i y q a (by rw [← s3]; exact b)), by rw [s2]; exact ko _ _ h5⟩
  | see x => exact o.imp fun q z => ko _ _ z
  | ifz x n => exact ko _ _ o
  | jump n => trivial
  | ret x =>
    show KO f' x f'.res
    rw [er]
    exact ko _ _ o
theorem FdOk.chg {cl cl' : ClsT} {fds fds' : List FdT} {f : FdT} (h : FdOk cl fds f) (hc : ∀ x ∈ cl.map Prod.fst, x ∈ cl'.map Prod.fst) (hk : ∀ c ∈ cl, ∀ q ∈ c.2, ∃ c' ∈ cl', q ∈ c'.2) (T : KsOk cl') (hf : ∀ g ∈ fds, ∃ g' ∈ fds', g'.nm = g.nm ∧ g'.ns = g.ns ∧ g'.res = g.res) : FdOk cl' fds' f :=
  ⟨h.nf, h.kd, h.nam, h.nd, h.l1, h.l2, fun r m => (h.rows r m).chg hc hk T hf (fun _ _ z => z) rfl, h.ok⟩
theorem SrcW.nd {cl : ClsT} {fds : List FdT} (S : SrcW cl fds) : (fds.map FdT.nm).Nodup := by
  rw [S.nm]
  exact TIT_nd.sublist (List.take_sublist _ _)
theorem SrcW.nam {cl : ClsT} {fds : List FdT} (S : SrcW cl fds) {f : FdT} (m : f ∈ fds) : f.nm ∈ TIT := by
  have : f.nm ∈ fds.map FdT.nm := List.mem_map.mpr ⟨f, m, rfl⟩
  rw [S.nm] at this
  exact List.take_subset _ _ this
theorem SrcW.fd {cl : ClsT} {fds : List FdT} (S : SrcW cl fds) {f : FdT} (m : f ∈ fds) : FdOk cl fds f :=
  ⟨TIT_nam _ (S.nam m), (S.ho f m).rs, (S.ho f m).nam, (S.ho f m).vs.nodup W12_nd, (S.ho f m).l4, (S.ho f m).l8, S.rows f m, S.okg f m⟩
theorem SrcW.good {cl : ClsT} {fds : List FdT} (S : SrcW cl fds) : Good cl fds := ⟨S.cw.cok, S.nd, S.l1, S.l6, fun _ m => S.fd m⟩
def zyC : Str × List (Str × Str) := ("zy", [])
def zyN : Str × Str := ("zy", "number")
def zyO : Str × Str := ("zy", "object")
def zyF : FdT := ⟨"zy", "number", [], [], [.jump 0]⟩
theorem zy_nam : Nam "zy" := nam_of (by decide +kernel)
theorem selfH {fds : List FdT} : ∀ g ∈ fds, ∃ g' ∈ fds, g'.nm = g.nm ∧ g'.ns = g.ns ∧ g'.res = g.res := fun g m => ⟨g, m, rfl, rfl, rfl⟩
/-- other classes, which have all that is there -/
theorem Good.cls {cl cl' : ClsT} {fds : List FdT} (G : Good cl fds) (oc : ClsOk cl') (hc : ∀ x ∈ cl.map Prod.fst, x ∈ cl'.map Prod.fst) (hk : ∀ c ∈ cl, ∀ q ∈ c.2, ∃ c' ∈ cl', q ∈ c'.2) (T : KsOk cl') : Good cl' fds :=
  ⟨oc, G.nn, G.l1, G.l6, fun f m => (G.ok f m).chg hc hk T selfH⟩
/-- one class more -/
theorem alt1 {cl : ClsT} {fds : List FdT} (S : SrcW cl fds) (h : cl.length < 6) : Good (cl ++ [zyC]) fds ∧ sameS cl (cl ++ [zyC]) fds fds = false := by
  have T : Tab FLD (cl ++ [zyC]) := ⟨FLD_nd, fun c m q k => by
    rcases List.mem_append.mp m with m | m
    · exact S.cw.tab.all c m q k
    · rw [List.mem_singleton.mp m] at k
      cases k⟩
  have nz : ("zy" : Str) ∉ cl.map Prod.fst := fun m => by
    have := S.cw.nm.mem _ m
    revert this
    decide +kernel
  refine ⟨S.good.cls ⟨?_, fun c m => ?_, ?_, T.fit⟩ (fun x m => by rw [List.map_append]; exact List.mem_append_left _ m) (fun c m q k => ⟨c, List.mem_append_left _ m, k⟩) T.ks, unC fun e => ?_⟩
  · rw [List.map_append, List.nodup_append]
    exact ⟨S.cw.cok.nd, by decide +kernel, fun a m b k z => by
      rw [show b = "zy" from List.mem_singleton.mp k] at z
      exact nz (z ▸ m)⟩
  · rcases List.mem_append.mp m with m | m
    · exact S.cw.cok.one c m
    · rw [List.mem_singleton.mp m]
      exact ⟨zy_nam, (fun q k => absurd k List.not_mem_nil), List.nodup_nil, Nat.zero_le _⟩
  · rw [List.length_append]
    exact h
  · have := (cls_at e).1
    simp at this
/-- one function more -/
theorem alt2 {cl : ClsT} {fds : List FdT} (S : SrcW cl fds) (h : fds.length < 6) : Good cl (fds ++ [zyF]) ∧ sameS cl cl fds (fds ++ [zyF]) = false := by
  have nz : ("zy" : Str) ∉ fds.map FdT.nm := fun m => by
    obtain ⟨f, k, e⟩ := List.mem_map.mp m
    have := S.nam k
    rw [e] at this
    revert this
    decide +kernel
  have hf : ∀ g ∈ fds, ∃ g' ∈ fds ++ [zyF], g'.nm = g.nm ∧ g'.ns = g.ns ∧ g'.res = g.res := fun g m => ⟨g, List.mem_append_left _ m, rfl, rfl, rfl⟩
  refine ⟨⟨S.cw.cok, ?_, by rw [List.length_append]; exact Nat.le_add_left _ _, by rw [List.length_append]; exact h, fun f m => ?_⟩, unF fun e => ?_⟩
  · rw [List.map_append, List.nodup_append]
    exact ⟨S.nd, by decide +kernel, fun a m b k z => by
      rw [show b = "zy" from List.mem_singleton.mp k] at z
      exact nz (z ▸ m)⟩
  · rcases List.mem_append.mp m with m | m
    · exact (S.fd m).chg (fun _ z => z) (fun c m q k => ⟨c, m, k⟩) S.cw.tab.ks hf
    · rw [List.mem_singleton.mp m]
      refine ⟨zy_nam, .inl rfl, fun q k => (by cases k), List.nodup_nil, Nat.zero_le _, Nat.zero_le _, fun r k => ?_, ⟨fun r k g e => ?_, ⟨[], _, rfl, .inl rfl⟩, by decide⟩⟩
      · rw [List.mem_singleton.mp k]
        trivial
      · rw [List.mem_singleton.mp k] at e
        cases e
        exact Nat.zero_lt_one
  · have := (fns_at e).1
    simp at this
theorem rev_get {α : Type} {l : List α} (h : 1 < l.length) : ∃ a b, l[0]? = some a ∧ l[l.length - 1]? = some b ∧ l.reverse[0]? = some b := by
  refine ⟨l[0], l[l.length - 1], List.getElem?_eq_getElem _, List.getElem?_eq_getElem _, ?_⟩
  rw [List.getElem?_reverse (by omega), Nat.sub_zero]
  exact List.getElem?_eq_getElem _
theorem ends_ne {α : Type} {l : List α} (nd : l.Nodup) (h : 1 < l.length) {a b : α} (ha : l[0]? = some a) (hb : l[l.length - 1]? = some b) : a ≠ b := fun z => by
  subst z
  obtain ⟨h1, e1⟩ := List.getElem?_eq_some_iff.mp ha
  obtain ⟨h2, e2⟩ := List.getElem?_eq_some_iff.mp hb
  have := (List.nodup_iff_pairwise_ne.mp nd |> List.pairwise_iff_getElem.mp) 0 (l.length - 1) h1 h2 (by omega)
  exact this (by rw [e1, e2])
/-- the classes the other way round -/
theorem alt3 {cl : ClsT} {fds : List FdT} (S : SrcW cl fds) (h : 1 < cl.length) : Good cl.reverse fds ∧ sameS cl cl.reverse fds fds = false := by
  have T : Tab FLD cl.reverse := ⟨FLD_nd, fun c m q k => S.cw.tab.all c (List.mem_reverse.mp m) q k⟩
  refine ⟨S.good.cls ⟨?_, fun c m => S.cw.cok.one c (List.mem_reverse.mp m), by rw [List.length_reverse]; exact S.cw.cok.l6, T.fit⟩ (fun x m => by rw [List.map_reverse]; exact List.mem_reverse.mpr m) (fun c m q k => ⟨c, List.mem_reverse.mpr m, k⟩) T.ks, unC fun e => ?_⟩
  · rw [List.map_reverse]
    exact (List.reverse_perm _).nodup_iff.mpr S.cw.cok.nd
  · obtain ⟨a, b, e1, e2, e3⟩ := rev_get h
    have := ((cls_at e).2 0 a b e1 e3).1
    refine ends_ne (l := cl.map Prod.fst) S.cw.cok.nd (by rw [List.length_map]; exact h) (a := a.1) (b := b.1) (by rw [List.getElem?_map, e1]; rfl) (by rw [List.length_map, List.getElem?_map, e2]; rfl) this
/-- the functions the other way round -/
theorem alt4 {cl : ClsT} {fds : List FdT} (S : SrcW cl fds) (h : 1 < fds.length) : Good cl fds.reverse ∧ sameS cl cl fds fds.reverse = false := by
  refine ⟨⟨S.cw.cok, ?_, by rw [List.length_reverse]; exact S.l1, by rw [List.length_reverse]; exact S.l6, fun f m => (S.fd (List.mem_reverse.mp m)).chg (fun _ z => z) (fun c m q k => ⟨c, m, k⟩) S.cw.tab.ks fun g m => ⟨g, List.mem_reverse.mpr m, rfl, rfl, rfl⟩⟩, unF fun e => ?_⟩
  · rw [List.map_reverse]
    exact (List.reverse_perm _).nodup_iff.mpr S.nd
  · obtain ⟨a, b, e1, e2, e3⟩ := rev_get h
    have := ((fns_at e).2 0 a b e1 e3).1
    refine ends_ne (l := fds.map FdT.nm) S.nd (by rw [List.length_map]; exact h) (a := a.nm) (b := b.nm) (by rw [List.getElem?_map, e1]; rfl) (by rw [List.length_map, List.getElem?_map, e2]; rfl) this
/-- one function put in another's place -/
def setF (fds : List FdT) (i : Nat) (g : FdT) : List FdT := fds.take i ++ [g] ++ fds.drop (i + 1)
theorem setF_eq {fds : List FdT} {i : Nat} {g : FdT} (h : i < fds.length) : setF fds i g = fds.set i g := by
  unfold setF
  rw [List.set_eq_take_append_cons_drop, if_pos h, List.append_assoc]
  rfl
theorem set_good {cl : ClsT} {fds : List FdT} (S : SrcW cl fds) {i : Nat} {f g : FdT} (hf : fds[i]? = some f) (e1 : g.nm = f.nm) (e2 : g.ns = f.ns) (e3 : g.res = f.res) (ko : ∀ x q, KO f x q → KO g x q)
    (hr : ∀ r ∈ g.rws, r ∈ f.rws ∨ r = .jump 0) (nam : ∀ q ∈ g.ms, Nam q.1 ∧ IsKind q.2) (nd : ((g.ns ++ g.ms).map Prod.fst).Nodup) (l2 : g.ms.length ≤ 8) (ok : OkG g.rws) : Good cl (setF fds i g) := by
  have hi := (List.getElem?_eq_some_iff.mp hf).1
  have F := S.fd (List.mem_of_getElem? hf)
  rw [setF_eq hi]
  have hh : ∀ h ∈ fds, ∃ h' ∈ fds.set i g, h'.nm = h.nm ∧ h'.ns = h.ns ∧ h'.res = h.res := fun h m => by
    obtain ⟨j, hj, rfl⟩ := List.getElem_of_mem m
    by_cases c : j = i
    · subst c
      refine ⟨g, List.mem_of_getElem? (i := j) (by rw [List.getElem?_set_self hi]), ?_⟩
      have : fds[j] = f := Option.some.inj (by rw [← hf]; exact (List.getElem?_eq_getElem hj).symm)
      rw [this]
      exact ⟨e1, e2, e3⟩
    · exact ⟨fds[j], List.mem_of_getElem? (i := j) (by rw [List.getElem?_set_ne (Ne.symm c)]; exact List.getElem?_eq_getElem hj), rfl, rfl, rfl⟩
  refine ⟨S.cw.cok, ?_, by rw [List.length_set]; exact S.l1, by rw [List.length_set]; exact S.l6, fun h m => ?_⟩
  · have : (fds.set i g).map FdT.nm = fds.map FdT.nm := by
      apply List.ext_getElem?
      intro j
      rw [List.getElem?_map, List.getElem?_map]
      by_cases c : j = i
      · subst c
        rw [List.getElem?_set_self hi, hf]
        exact congrArg some e1
      · rw [List.getElem?_set_ne (Ne.symm c)]
    rw [this]
    exact S.nd
  · rcases List.mem_or_eq_of_mem_set m with m | rfl
    · exact (S.fd m).chg (fun _ z => z) (fun c m q k => ⟨c, m, k⟩) S.cw.tab.ks hh
    · refine ⟨by rw [e1]; exact F.nf, by rw [e3]; exact F.kd, fun q m => ?_, nd, by rw [e2]; exact F.l1, l2, fun r m => ?_, ok⟩
      · rcases List.mem_append.mp m with m | m
        · exact F.nam q (List.mem_append_left _ (by rw [← e2]; exact m))
        · exact nam q m
      · rcases hr r m with m | rfl
        · exact (F.rows r m).chg (fun _ z => z) (fun c m q k => ⟨c, m, k⟩) S.cw.tab.ks hh ko e3
        · trivial
/-- one row more -/
theorem alt5 {cl : ClsT} {fds : List FdT} (S : SrcW cl fds) {i : Nat} {f : FdT} (hf : fds[i]? = some f) (h : f.rws.length < 40) : Good cl (setF fds i ⟨f.nm, f.res, f.ns, f.ms, f.rws ++ [.jump 0]⟩) ∧ sameS cl cl fds (setF fds i ⟨f.nm, f.res, f.ns, f.ms, f.rws ++ [.jump 0]⟩) = false := by
  have F := S.fd (List.mem_of_getElem? hf)
  have hi := (List.getElem?_eq_some_iff.mp hf).1
  refine ⟨set_good S hf rfl rfl rfl (fun _ _ z => z) (fun r m => ?_) (fun q m => F.nam q (List.mem_append_right _ m)) F.nd F.l2 ⟨fun r m g e => ?_, ⟨f.rws, _, rfl, .inl rfl⟩, by rw [List.length_append]; exact h⟩, unF fun e => ?_⟩
  · rcases List.mem_append.mp m with m | m
    · exact .inl m
    · exact .inr (List.mem_singleton.mp m)
  · rw [List.length_append]
    rcases List.mem_append.mp m with m | m
    · exact Nat.lt_succ_of_lt (F.ok.ok r m g e)
    · rw [List.mem_singleton.mp m] at e
      cases e
      exact Nat.succ_pos _
  · rw [setF_eq hi] at e
    have := ((fns_at e).2 i f _ hf (List.getElem?_set_self hi)).2.2
    simp at this
/-- one variable more -/
theorem alt6 {cl : ClsT} {fds : List FdT} (S : SrcW cl fds) {i : Nat} {f : FdT} (hf : fds[i]? = some f) (h : f.ms.length < 8) : Good cl (setF fds i ⟨f.nm, f.res, f.ns, f.ms ++ [zyO], f.rws⟩) ∧ sameS cl cl fds (setF fds i ⟨f.nm, f.res, f.ns, f.ms ++ [zyO], f.rws⟩) = false := by
  have mf := List.mem_of_getElem? hf
  have F := S.fd mf
  have hi := (List.getElem?_eq_some_iff.mp hf).1
  refine ⟨set_good S hf rfl rfl rfl (fun x q z => ?_) (fun r m => .inl m) (fun q m => ?_) ?_ (by rw [List.length_append]; exact h) F.ok, unF fun e => ?_⟩
  · unfold KO at z ⊢
    rw [← List.append_assoc]
    exact List.mem_append_left _ z
  · rcases List.mem_append.mp m with m | m
    · exact F.nam q (List.mem_append_right _ m)
    · rw [List.mem_singleton.mp m]
      exact ⟨zy_nam, .inr rfl⟩
  · show ((f.ns ++ (f.ms ++ [zyO])).map Prod.fst).Nodup
    rw [← List.append_assoc, List.map_append, List.nodup_append]
    exact ⟨F.nd, by decide +kernel, fun a m b k z => by
      rw [show b = "zy" from List.mem_singleton.mp k] at z
      have := (S.ho f mf).vs.mem _ m
      rw [z] at this
      revert this
      decide +kernel⟩
  · rw [setF_eq hi] at e
    have := ((fns_at e).2 i f _ hf (List.getElem?_set_self hi)).2.1
    simp at this
/-- one field more -/
theorem alt7 {c : Str × List (Str × Str)} {cl : ClsT} {fds : List FdT} (S : SrcW (c :: cl) fds) (h : c.2.length < 4) : Good ((c.1, c.2 ++ [zyN]) :: cl) fds ∧ sameS (c :: cl) ((c.1, c.2 ++ [zyN]) :: cl) fds fds = false := by
  have T : Tab (FLD ++ [zyN]) ((c.1, c.2 ++ [zyN]) :: cl) := ⟨by decide +kernel, fun d m q k => by
    rcases List.mem_cons.mp m with rfl | m
    · rcases List.mem_append.mp k with k | k
      · exact List.mem_append_left _ (S.cw.tab.all c List.mem_cons_self q k)
      · exact List.mem_append_right _ k
    · exact List.mem_append_left _ (S.cw.tab.all d (List.mem_cons_of_mem _ m) q k)⟩
  have O := S.cw.cok.one c List.mem_cons_self
  refine ⟨S.good.cls ⟨S.cw.cok.nd, fun d m => ?_, S.cw.cok.l6, T.fit⟩ (fun x m => m) (fun d m q k => ?_) T.ks, unC fun e => ?_⟩
  · rcases List.mem_cons.mp m with rfl | m
    · refine ⟨O.1, fun q k => ?_, ?_, by rw [List.length_append]; exact h⟩
      · rcases List.mem_append.mp k with k | k
        · exact O.2.1 q k
        · rw [List.mem_singleton.mp k]
          exact ⟨zy_nam, .inl rfl⟩
      · rw [List.map_append, List.nodup_append]
        exact ⟨O.2.2.1, by decide +kernel, fun a m b k z => by
          rw [show b = "zy" from List.mem_singleton.mp k] at z
          obtain ⟨q, mq, eq⟩ := List.mem_map.mp m
          have : q.1 ∈ FLD.map Prod.fst := List.mem_map.mpr ⟨q, (S.cw.fl c List.mem_cons_self).1.mem q mq, rfl⟩
          rw [eq, z] at this
          revert this
          show ("zy" : Str) ∈ FLD.map Prod.fst → False
          decide +kernel⟩
    · exact S.cw.cok.one d (List.mem_cons_of_mem _ m)
  · rcases List.mem_cons.mp m with rfl | m
    · exact ⟨_, List.mem_cons_self, List.mem_append_left _ k⟩
    · exact ⟨d, List.mem_cons_of_mem _ m, k⟩
  · have := ((cls_at e).2 0 _ _ rfl rfl).2
    simp at this
/-- their texts -/
theorem RowOk.strs {cl : ClsT} {fds : List FdT} {f : FdT} {r : Rx} (o : RowOk cl fds f r) (C : ClsOk cl) (G : ∀ g ∈ fds, Nam g.nm) (F : ∀ x q, KO f x q → Nam x) : ∀ x ∈ r.strs, PyData.strOk x = true := by
  have fld : ∀ g q, valV (ksM cl) (Sum.inr g : Key) = some (.str q) → PyData.strOk g = true := fun g q h => by
    obtain ⟨c, m, k⟩ := ks_from h
    exact ((C.one c m).2.1 _ k).1.ok
  have v : ∀ x q, KO f x q → PyData.strOk x = true := fun x q h => (F x q h).ok
  intro s m
  cases r with
  | num x n => simp only [Rx.strs, List.mem_cons, List.not_mem_nil, or_false] at m; rw [m]; exact v _ _ o.1
  | nil x => simp only [Rx.strs, List.mem_cons, List.not_mem_nil, or_false] at m; rw [m]; exact v _ _ o
  | copy x y =>
    obtain ⟨q, h1, h2⟩ := o
    simp only [Rx.strs, List.mem_cons, List.not_mem_nil, or_false] at m
    rcases m with rfl | rfl
    · exact v _ _ h1
    · exact v _ _ h2
  | bin k x y z =>
    obtain ⟨h1, h2, h3⟩ := o
    simp only [Rx.strs, List.mem_cons, List.not_mem_nil, or_false] at m
    rcases m with rfl | rfl | rfl
    · exact v _ _ h1
    · exact v _ _ h2
    · exact v _ _ h3
  | same x y z =>
    obtain ⟨q, h1, h2, h3⟩ := o
    simp only [Rx.strs, List.mem_cons, List.not_mem_nil, or_false] at m
    rcases m with rfl | rfl | rfl
    · exact v _ _ h1
    · exact v _ _ h2
    · exact v _ _ h3
  | new x c =>
    obtain ⟨h1, h2⟩ := o
    simp only [Rx.strs, List.mem_cons, List.not_mem_nil, or_false] at m
    rcases m with rfl | rfl
    · exact v _ _ h1
    · obtain ⟨d, md, rfl⟩ := List.mem_map.mp h2
      exact (C.one d md).1.ok
  | get x y g =>
    obtain ⟨q, h1, h2, h3⟩ := o
    simp only [Rx.strs, List.mem_cons, List.not_mem_nil, or_false] at m
    rcases m with rfl | rfl | rfl
    · exact v _ _ h2
    · exact v _ _ h1
    · exact fld _ _ h3
  | put x g y =>
    obtain ⟨q, h1, h2, h3⟩ := o
    simp only [Rx.strs, List.mem_cons, List.not_mem_nil, or_false] at m
    rcases m with rfl | rfl | rfl
    · exact v _ _ h1
    · exact fld _ _ h3
    · exact v _ _ h2
  | call x F2 as =>
    obtain ⟨j, g, h1, h2, h3, h4, h5⟩ := o
    simp only [Rx.strs, List.mem_cons] at m
    rcases m with rfl | rfl | m
    · exact v _ _ h5
    · rw [← h2]
      exact (G g (List.mem_of_getElem? h1)).ok
    · obtain ⟨i, hi, rfl⟩ := List.getElem_of_mem m
      have hg : i < g.ns.length := by omega
      exact v _ _ (h4 i _ _ (List.getElem?_eq_getElem hi) (List.getElem?_eq_getElem hg))
  | see x =>
    obtain ⟨q, h1⟩ := o
    simp only [Rx.strs, List.mem_cons, List.not_mem_nil, or_false] at m
    rw [m]
    exact v _ _ h1
  | ifz x n => simp only [Rx.strs, List.mem_cons, List.not_mem_nil, or_false] at m; rw [m]; exact v _ _ o
  | jump n => simp only [Rx.strs, List.not_mem_nil] at m
  | ret x => simp only [Rx.strs, List.mem_cons, List.not_mem_nil, or_false] at m; rw [m]; exact v _ _ o
theorem Good.okf {cl : ClsT} {fds : List FdT} (G : Good cl fds) : ∀ f ∈ fds, OkF f := fun f m =>
  ⟨(G.ok f m).nf.ok, (G.ok f m).kd.ok, fun q k => ⟨((G.ok f m).nam q (List.mem_append_left _ k)).1.ok, ((G.ok f m).nam q (List.mem_append_left _ k)).2.ok⟩, fun q k => ⟨((G.ok f m).nam q (List.mem_append_right _ k)).1.ok, ((G.ok f m).nam q (List.mem_append_right _ k)).2.ok⟩,
    fun r k => ((G.ok f m).rows r k).strs G.oc (fun g mg => (G.ok g mg).nf) fun x q h => (G.ok f m).name h⟩
theorem Good.sc {cl : ClsT} {fds : List FdT} (G : Good cl fds) : SeqAt.shaped (clsD cl) = true := (cls_lay G.oc.okc).shaped (by decide)
theorem Good.sf {cl : ClsT} {fds : List FdT} (G : Good cl fds) : SeqAt.shaped (fnsD fds) = true := (fns_lay G.okf).shaped (by decide)
theorem Good.raw {Z : Addr → Prop} {H : Hp} {ca fa : Addr} {cl : ClsT} {fds : List FdT} (G : Good cl fds) (h1 : LstR _ (ClsZ Z) H ca cl) (h2 : LstR _ (EntryT Z) H fa fds) : RawSrc H ca fa cl fds := by
  obtain ⟨es, a1, a2, a3⟩ := h1
  obtain ⟨gs, b1, b2, b3⟩ := h2
  refine ⟨⟨es, a1, a2, fun i e c x y => ?_⟩, G.oc, ⟨gs, b1, b2, fun i e f x y => ?_⟩, G.nn, G.l1, G.l6, G.ok⟩
  · obtain ⟨la, ps, q1, _, q2, q3⟩ := a3 i e c x y
    exact ⟨la, ps, q1, q2, q3⟩
  · obtain ⟨pa, oa, ra, ps, qs, rs, q1, _, q2, q3, q4, q5, q6, q7⟩ := b3 i e f x y
    have F := G.ok f (List.mem_of_getElem? y)
    refine ⟨pa, oa, ra, ps, qs, rs, ?_, ?_⟩
    · refine ⟨q1, F.nf, F.kd, q2, q3, q4, q5, F.nam, F.nd, F.l1, F.l2, q6, ?_, ?_⟩
      · rw [List.length_map, q7.len]
        obtain ⟨r0, rl, e, _⟩ := F.ok.last
        rw [e, List.length_append]
        exact Nat.le_add_left _ _
      · rw [List.length_map, q7.len]
        exact F.ok.le
    · refine ⟨q7.len, fun j a r u v => ?_⟩
      obtain ⟨l, w1, w2⟩ := q7.at_ j a r u v
      refine ⟨l, w1, fun bs eb => ⟨(w2 bs eb).2, ?_⟩⟩
      have R := F.rows r (List.mem_of_getElem? v)
      cases r with
      | call x2 F2 as =>
        obtain rfl : as = bs := Option.some.inj eb
        obtain ⟨j2, g, h1, _, h3, _⟩ := R
        have := (G.ok g (List.mem_of_getElem? h1)).l1
        omega
      | _ => cases eb
end W1
set_option Elab.async false
set_option linter.all false
set_option maxRecDepth 100000
set_option maxHeartbeats 4000000
namespace RVL
open PySem PySem.Spec PyProof.Rows L2
section
variable {X : Cx}
/-- xs[::-1] of a list: a new list, the other way round -/
def tRevL (K : PySem.W.Frag) (te ts : TE) : TE := fun σ H Q => te σ H fun x H1 => ts σ H1 fun y H2 => y = .int (-1) ∧ ∃ a xs, x = .ref a ∧ SqL K H2 a xs ∧ ∀ p, H2 p = none → Q (.ref p) (upd H2 p (.lst xs.reverse))
theorem vals_snoc {x : V} {v : Value} (h : L2.RelV x v) : ∀ {xs : List V} {its : List Value}, Vals xs its → Vals (xs ++ [x]) (its ++ [v])
  | _, _, .nil => .cons h .nil
  | _, _, .cons a t => .cons a (vals_snoc h t)
theorem vals_back : ∀ {xs : List V} {its : List Value}, Vals xs its → Vals xs.reverse its.reverse
  | _, _, .nil => .nil
  | _, _, .cons a t => by
    rw [List.reverse_cons, List.reverse_cons]
    exact vals_snoc a (vals_back t)
theorem pe_revL {e st : Expr} {te ts : TE} {p2 pos : Pos} (he : PE X e te) (hs : PE X st ts) (hq : ∀ a b : Addr, subscripted (.Slice none none (some st) p2) false (.ref a) (.ref b) = operate [.ref a, .ref b] (getItem (.ref a) (.ref b))) : PE X (.Subscript e (.Slice none none (some st) p2) pos) (tRevL X.K te ts) := by
  refine ⟨fun pins s σ H Q I h => ?_⟩
  refine Subscript_ (thn (he.run pins s σ H _ I h) fun v s1 ⟨x, H1, I1, r1, q1⟩ => ?_)
  refine wpAny_Slice ?_
  rw [evalPart_none]
  refine wpAny_pure ?_
  refine wpAny_pure ?_
  rw [evalPart_some]
  refine thn (hs.run pins s1 σ H1 _ I1 q1) fun vs s3 ⟨y, H3, I3, r3, q3⟩ => ?_
  obtain ⟨rfl, a, xs, rfl, hx, q⟩ := q3
  cases r1
  obtain ⟨t, rfl⟩ := r3
  have I4 : Inv X pins σ H3 { s3 with heap := s3.heap.push { cls := .type "slice", data := .fields #[.none, .none, .int (-1) t] } } := I3.kept (t' := s3.toks) fun b ob q => Heap.get?_push_of_some _ q
  obtain ⟨its, r, ht, hz⟩ := I4.list hx
  have hlen := r.length
  show wpAny (model X.prog X.w) X.A (subscriptTail e (.Slice none none (some st) p2) (.ref a) (.ref s3.heap.objs.size)) (EP X pins σ Q) X.xe { s3 with heap := s3.heap.push { cls := .type "slice", data := .fields #[.none, .none, .int (-1) t] } }
  refine tail_any (ops := [.ref a, .ref s3.heap.objs.size]) ht.isList.typeIs slot_list_getitem.lookup ?_ (hq _ _)
  refine wpAny_getItem_list_slice ht.isList (Heap.IsSliceOf.new ..) .none .none (.int (-1) t) (by decide) ?_ (by rw [List.size_toArray] <;> omega)
  rw [PySem.W.krv_pick]
  refine ⟨.ref _, _, I4.laid (t' := s3.toks) (o := .lst xs.reverse) (fun b ob q => Heap.get?_push_of_some _ q) (Nat.le_refl _) ?_, rfl, q _ (I4.hok.fresh (Nat.le_refl _))⟩
  exact ⟨by rw [List.length_reverse]; exact hz, _, 0, vals_back r, Heap.get?_push_size _ rfl⟩
end
end RVL
set_option Elab.async false
set_option linter.all false
set_option maxRecDepth 100000
set_option maxHeartbeats 4000000
namespace W1
open PySem PySem.Spec PyProof.Rows L2 RZ CA
section
variable {P : Program} {w : World} {K : PySem.W.Frag} {mg : Str → Option Value} {base : Heap}

/-- another pair of classes and functions, as it is handed in; l is the list of all of them -/
def AltT (l : Addr) (cl : ClsT) (fds : List FdT) (H : Hp) (t : Addr) (x : ClsT × List FdT) : Prop := ∃ (ca fa : Addr), H t = some (.tup [.ref ca, .ref fa]) ∧ (ca ≠ l ∧ fa ≠ l) ∧ LstR _ (ClsZ (· ≠ l)) H ca x.1 ∧ LstR _ (EntryT (· ≠ l)) H fa x.2 ∧ Good x.1 x.2 ∧ sameS cl x.1 fds x.2 = false
structure AltS (l p ca fa : Addr) (cl : ClsT) (fds : List FdT) (H H5 : Hp) (n : Nat) : Prop where
  b : But p H H5
  w : WellAt H5 p
  c : LstR _ (ClsZ (· ≠ l)) H5 ca cl
  f : LstR _ (EntryT (· ≠ l)) H5 fa fds
  nl : ca ≠ l ∧ fa ≠ l ∧ l ≠ p
  hl : H l = none
  al : ∃ (ts : List Addr) (xs : List (ClsT × List FdT)), H5 l = some (.lst (ts.map V.ref)) ∧ Each (AltT l cl fds H5) ts xs ∧ xs.length ≤ n
theorem LstR.to {α : Type} {R : Hp → Addr → α → Prop} {H H' : Hp} {a : Addr} {xs : List α} (h : LstR α R H a xs) (e : ∀ es : List Addr, H a = some (.lst (es.map V.ref)) → H' a = some (.lst (es.map V.ref))) (f : ∀ b x, R H b x → R H' b x) : LstR α R H' a xs := h.chg e f
theorem AltT.keep {l t : Addr} {cl : ClsT} {fds : List FdT} {H H' : Hp} {x : ClsT × List FdT} (h : AltT l cl fds H t x) (k : KeepZ (· ≠ l) H H') : AltT l cl fds H' t x := by
  obtain ⟨ca, fa, h1, ⟨n1, n2⟩, h2, h3, h4⟩ := h
  exact ⟨ca, fa, k.1 _ _ h1, ⟨n1, n2⟩, h2.to (fun es q => k.2 _ _ n1 q) (fun b x q => q.to (fun _ z => z) k), h3.to (fun es q => k.2 _ _ n2 q) (fun b x q => q.to (fun _ z => z) k), h4⟩
theorem AltT.but {l t p : Addr} {cl : ClsT} {fds : List FdT} {H H' : Hp} {x : ClsT × List FdT} (h : AltT l cl fds H t x) (w : WellAt H p) (b : But p H H') : AltT l cl fds H' t x := by
  obtain ⟨ca, fa, h1, n, h2, h3, h4⟩ := h
  exact ⟨ca, fa, w.tup b h1, n, h2.but w b (fun e x q => q.but w b), h3.but w b (fun e x q => q.but w b), h4⟩
theorem AltS.but {l p ca fa : Addr} {cl : ClsT} {fds : List FdT} {H H5 H6 : Hp} {n : Nat} (S : AltS l p ca fa cl fds H H5 n) (b : But p H5 H6) (w : WellAt H6 p) : AltS l p ca fa cl fds H H6 n := by
  obtain ⟨ts, xs, h1, h2, h3⟩ := S.al
  exact ⟨S.b.trans b, w, S.c.but S.w b (fun e x q => q.but S.w b), S.f.but S.w b (fun e x q => q.but S.w b), S.nl, S.hl, ts, xs, S.w.refs b h1, h2.mono fun e x _ q => q.but S.w b, h3⟩
theorem AltS.same {l p ca fa : Addr} {cl : ClsT} {fds : List FdT} {H H5 H6 : Hp} {n : Nat} (S : AltS l p ca fa cl fds H H5 n) (s : Same H5 H6) : AltS l p ca fa cl fds H H6 n := S.but (.of s) (S.w.mono s)
theorem AltS.more {l p ca fa : Addr} {cl : ClsT} {fds : List FdT} {H H5 : Hp} {n m : Nat} (S : AltS l p ca fa cl fds H H5 n) (h : n ≤ m) : AltS l p ca fa cl fds H H5 m := by
  obtain ⟨ts, xs, h1, h2, h3⟩ := S.al
  exact ⟨S.b, S.w, S.c, S.f, S.nl, S.hl, ts, xs, h1, h2, Nat.le_trans h3 h⟩
/-- one more of them is put at the list's end -/
theorem AltS.push {l p ca fa t : Addr} {cl : ClsT} {fds : List FdT} {H H5 : Hp} {n : Nat} {ys : List V} {x : ClsT × List FdT} (S : AltS l p ca fa cl fds H H5 n) (T : AltT l cl fds H5 t x) (e : H5 l = some (.lst ys)) : AltS l p ca fa cl fds H (upd H5 l (.lst (ys ++ [.ref t]))) (n + 1) := by
  obtain ⟨ts, xs, h1, h2, h3⟩ := S.al
  have b : But l H5 (upd H5 l (.lst (ys ++ [.ref t]))) := .upd
  have k : KeepZ (· ≠ l) H5 (upd H5 l (.lst (ys ++ [.ref t]))) := .but e b
  have ey : ys = ts.map V.ref := by
    rw [e] at h1
    exact HO.lst.inj (Option.some.inj h1)
  refine ⟨S.b.mut S.hl, S.w.put S.nl.2.2, S.c.to (fun es q => k.2 _ _ S.nl.1 q) (fun b x q => q.to (fun _ z => z) k), S.f.to (fun es q => k.2 _ _ S.nl.2.1 q) (fun b x q => q.to (fun _ z => z) k), S.nl, S.hl, ts ++ [t], xs ++ [x], ?_, (h2.mono fun e x _ q => q.keep k).snoc (T.keep k), ?_⟩
  · rw [upd_same, ey, List.map_append]
    rfl
  · rw [List.length_append]
    exact Nat.succ_le_succ h3
theorem LstR.app {α : Type} {R : Hp → Addr → α → Prop} {H : Hp} {a : Addr} {es fs : List Addr} {xs ys : List α} (h : H a = some (.lst (es.map V.ref ++ fs.map V.ref))) (e : Each (R H) es xs) (f : Each (R H) fs ys) : LstR α R H a (xs ++ ys) := by
  rw [← List.map_append] at h
  exact .of h (e.append f)
theorem Each.one {α : Type} {R : Addr → α → Prop} {e : Addr} {x : α} (h : R e x) : Each R [e] [x] := Each.nil.snoc h
theorem Each.rev {α : Type} {R : Addr → α → Prop} {es : List Addr} {xs : List α} (h : Each R es xs) : Each R es.reverse xs.reverse := by
  refine ⟨by rw [List.length_reverse, List.length_reverse]; exact h.1, fun i e x a b => ?_⟩
  have hi : i < es.length := by
    have := (List.getElem?_eq_some_iff.mp a).1
    rwa [List.length_reverse] at this
  rw [List.getElem?_reverse hi] at a
  rw [List.getElem?_reverse (by rw [← h.1]; exact hi), ← h.1] at b
  exact h.2 _ e x a b
theorem pairs_nil {H : Hp} : PairsG H [] [] := ⟨rfl, fun i p q a _ => by simp at a⟩
/-- a function as it is handed in, its lists named -/
def EntryB (Z : Addr → Prop) (H : Hp) (e : Addr) (f : FdT) (pa oa ra : Addr) : Prop := ∃ (ps qs rs : List Addr), H e = some (.tup [.str f.nm, .ref pa, .ref oa, .str f.res, .ref ra]) ∧ (Z pa ∧ Z oa ∧ Z ra) ∧ H pa = some (.lst (ps.map V.ref)) ∧ PairsG H ps f.ns ∧ H oa = some (.lst (qs.map V.ref)) ∧ PairsG H qs f.ms ∧ H ra = some (.lst (rs.map V.ref)) ∧ RowsT Z H rs f.rws
theorem EntryB.to {Z Y : Addr → Prop} {H H' : Hp} {e pa oa ra : Addr} {f : FdT} (h : EntryB Z H e f pa oa ra) (g : ∀ b, Z b → Y b) (k : KeepZ Z H H') : EntryB Y H' e f pa oa ra := by
  obtain ⟨ps, qs, rs, h1, ⟨z1, z2, z3⟩, h2, h3, h4, h5, h6, h7⟩ := h
  exact ⟨ps, qs, rs, k.1 _ _ h1, ⟨g _ z1, g _ z2, g _ z3⟩, k.2 _ _ z1 h2, h3.keepZ k, k.2 _ _ z2 h4, h5.keepZ k, k.2 _ _ z3 h6, h7.to g k⟩
theorem Each.rows {Z : Addr → Prop} {H : Hp} {es : List Addr} {rs : List Rx} (h : Each (RowT Z H) es rs) : RowsT Z H es rs := ⟨h.1, h.2⟩
theorem Each.take_drop {R : Addr → FdT → Prop} {es : List Addr} {xs : List FdT} {t : Addr} {g : FdT} (h : Each R es xs) (r : R t g) (k : Nat) : Each R (es.take k ++ [t] ++ es.drop (k + 1)) (setF xs k g) := by
  refine Each.append (Each.append ⟨?_, fun i e x a b => ?_⟩ (.one r)) ⟨?_, fun i e x a b => ?_⟩
  · rw [List.length_take, List.length_take, h.1]
  · rw [List.getElem?_take] at a b
    split at a
    · rename_i c
      rw [if_pos c] at b
      exact h.2 i e x a b
    · cases a
  · rw [List.length_drop, List.length_drop, h.1]
  · rw [List.getElem?_drop] at a b
    exact h.2 _ e x a b
def spUnlike : Sp := fun vs H Q _ => ∃ (p ca fa : Addr) (cl : ClsT) (fds : List FdT), vs = [.ref p, .ref ca, .ref fa] ∧ WellAt H p ∧ LstR _ (ClsZ Tru) H ca cl ∧ LstR _ (EntryT Tru) H fa fds ∧ SrcW cl fds ∧
  ∀ (l : Addr) (H' : Hp), AltS l p ca fa cl fds H H' 7 → Q (.ref l) H'
theorem sc_L_unlike : FnScope ["_law_well_here", "_law_classes_here", "_law_functions", "_law_found", "_law_at", "_law_name", "_law_inputs", "_law_others", "_law_kind", "_law_rows_here", "_law_more"] ["_law_well_here", "_law_classes_here", "_law_functions"] (defScope s_L_unlike) := ⟨rfl, rfl, rfl, by decide +kernel, rfl, by decide +kernel, by decide +kernel⟩
theorem ok_L_unlike (T : Ctx w K mg) (H_L_draw : Has P w K mg base 2 "_law_draw" ["_law_well_here", "_law_many"] spDraw) : Has P w K mg base 3 "_law_unlike" ["_law_well_here", "_law_classes_here", "_law_functions"] spUnlike := by
  obtain ⟨fd, F⟩ := T.D_L_unlike
  obtain ⟨fd_L_draw, G_L_draw, b_L_draw⟩ := H_L_draw.ex
  refine ⟨⟨fd, F.ok sc_L_unlike (fun vs H Q E h => ?_) (fun cdv A outer s H vs Q E hr h => ?_), F.bindsN fun _ _ _ _ _ _ us hl => match us, hl with | [_, _, _], _ => rfl⟩, F.kp, T.g_L_unlike⟩
  · obtain ⟨p, ca, fa, cl, fds, rfl, hw, hc, hf, S, k⟩ := h; rfl
  · obtain ⟨p, ca, fa, cl, fds, rfl, hw, hc, hf, S, k⟩ := h
    have hr_L_draw : Room 2 _ := hr.mono (by decide)
    have hu := hu_of hr
    refine ⟨_, PSs.nox (pss_cons (ps_set (i := 3) sc_L_unlike.nd rfl (Or.inl rfl) (pe_lst pa_nil))
      (C8.pss_cut (ps_if (pt_cmpR op_lt (pe_callB (call_lenK (K := K) rfl) (by rfl) T.f_len (by decide +kernel) (pa_cons (pv 1) pa_nil)) pe_int (nomark _)) (pss_one (ps_expr (pe_bm PySem.F.plainAttrs_list PySem.F.slot_list_append PySem.F.type_list_append mt_append (pv 3) (pa_cons (pe_tup (pa_cons (pe_op op_cat (pv 1) (pe_lst (pa_cons (pe_tup (pa_cons pe_str (pa_cons (pe_lst pa_nil) pa_nil))) pa_nil))) (pa_cons (pv 2) pa_nil))) pa_nil)))) pss_nil)
      (C8.pss_cut (ps_if (pt_cmpR op_lt (pe_callB (call_lenK (K := K) rfl) (by rfl) T.f_len (by decide +kernel) (pa_cons (pv 2) pa_nil)) pe_int (nomark _)) (pss_one (ps_expr (pe_bm PySem.F.plainAttrs_list PySem.F.slot_list_append PySem.F.type_list_append mt_append (pv 3) (pa_cons (pe_tup (pa_cons (pv 1) (pa_cons (pe_op op_cat (pv 2) (pe_lst (pa_cons (pe_tup (pa_cons pe_str (pa_cons (pe_lst pa_nil) (pa_cons (pe_lst pa_nil) (pa_cons pe_str (pa_cons (pe_lst (pa_cons (pe_tup (pa_cons pe_str (pa_cons pe_int pa_nil))) pa_nil)) pa_nil)))))) pa_nil))) pa_nil))) pa_nil)))) pss_nil)
      (C8.pss_cut (ps_if (pt_cmpR op_gt (pe_callB (call_lenK (K := K) rfl) (by rfl) T.f_len (by decide +kernel) (pa_cons (pv 1) pa_nil)) pe_int (nomark _)) (pss_one (ps_expr (pe_bm PySem.F.plainAttrs_list PySem.F.slot_list_append PySem.F.type_list_append mt_append (pv 3) (pa_cons (pe_tup (pa_cons ((RVL.pe_revL (pv 1) (pe_un un_neg pe_int) (by intros; with_unfolding_all rfl))) (pa_cons (pv 2) pa_nil))) pa_nil)))) pss_nil)
      (C8.pss_cut (ps_if (pt_cmpR op_gt (pe_callB (call_lenK (K := K) rfl) (by rfl) T.f_len (by decide +kernel) (pa_cons (pv 2) pa_nil)) pe_int (nomark _)) (pss_one (ps_expr (pe_bm PySem.F.plainAttrs_list PySem.F.slot_list_append PySem.F.type_list_append mt_append (pv 3) (pa_cons (pe_tup (pa_cons (pv 1) (pa_cons ((RVL.pe_revL (pv 2) (pe_un un_neg pe_int) (by intros; with_unfolding_all rfl))) pa_nil))) pa_nil)))) pss_nil)
      (pss_cons (ps_set (i := 4) sc_L_unlike.nd rfl (Or.inl rfl) (pe_call G_L_draw hr_L_draw (by rfl) H_L_draw.gl H_L_draw.kp b_L_draw .nil pass0 (pa_cons (pv 0) (pa_cons (pe_callB (call_lenK (K := K) rfl) (by rfl) T.f_len (by decide +kernel) (pa_cons (pv 2) pa_nil)) pa_nil))))
      (pss_cons (ps_asg (pe_ix ix_list (pv 2) (pv 4) (fun _ _ => rfl)) (pg_tup rfl (pgs_cons (pg_name (i := 5) sc_L_unlike.nd rfl (Or.inl rfl)) (pgs_cons (pg_name (i := 6) sc_L_unlike.nd rfl (Or.inl rfl)) (pgs_cons (pg_name (i := 7) sc_L_unlike.nd rfl (Or.inl rfl)) (pgs_cons (pg_name (i := 8) sc_L_unlike.nd rfl (Or.inl rfl)) (pgs_cons (pg_name (i := 9) sc_L_unlike.nd rfl (Or.inl rfl)) pgs_nil)))))))
      (C8.pss_cut (ps_if (pt_cmpR op_lt (pe_callB (call_lenK (K := K) rfl) (by rfl) T.f_len (by decide +kernel) (pa_cons (pv 9) pa_nil)) pe_int (nomark _)) (pss_cons (ps_set (i := 10) sc_L_unlike.nd rfl (Or.inl rfl) (pe_tup (pa_cons (pv 5) (pa_cons (pv 6) (pa_cons (pv 7) (pa_cons (pv 8) (pa_cons (pe_op op_cat (pv 9) (pe_lst (pa_cons (pe_tup (pa_cons pe_str (pa_cons pe_int pa_nil))) pa_nil))) pa_nil)))))))
      (pss_one (ps_expr (pe_bm PySem.F.plainAttrs_list PySem.F.slot_list_append PySem.F.type_list_append mt_append (pv 3) (pa_cons (pe_tup (pa_cons (pv 1) (pa_cons (pe_op op_cat (pe_op op_cat (pe_slice sl_list (pv 2) po_none (po_some (pv 4))) (pe_lst (pa_cons (pv 10) pa_nil))) (pe_slice sl_list (pv 2) (po_some (pe_op op_add (pv 4) pe_int)) po_none)) pa_nil))) pa_nil))))) pss_nil)
      (C8.pss_cut (ps_if (pt_cmpR op_lt (pe_callB (call_lenK (K := K) rfl) (by rfl) T.f_len (by decide +kernel) (pa_cons (pv 7) pa_nil)) pe_int (nomark _)) (pss_cons (ps_set (i := 10) sc_L_unlike.nd rfl (Or.inl rfl) (pe_tup (pa_cons (pv 5) (pa_cons (pv 6) (pa_cons (pe_op op_cat (pv 7) (pe_lst (pa_cons (pe_tup (pa_cons pe_str (pa_cons pe_str pa_nil))) pa_nil))) (pa_cons (pv 8) (pa_cons (pv 9) pa_nil)))))))
      (pss_one (ps_expr (pe_bm PySem.F.plainAttrs_list PySem.F.slot_list_append PySem.F.type_list_append mt_append (pv 3) (pa_cons (pe_tup (pa_cons (pv 1) (pa_cons (pe_op op_cat (pe_op op_cat (pe_slice sl_list (pv 2) po_none (po_some (pv 4))) (pe_lst (pa_cons (pv 10) pa_nil))) (pe_slice sl_list (pv 2) (po_some (pe_op op_add (pv 4) pe_int)) po_none)) pa_nil))) pa_nil))))) pss_nil)
      (C8.pss_cut (ps_if (PW.pt (pw_and (pt_cmpR (op_neD hr.units) (pv 1) (pe_lst pa_nil) (nomark _)) (pw_and1 (pt_cmpR op_lt (pe_callB (call_lenK (K := K) rfl) (by rfl) T.f_len (by decide +kernel) (pa_cons (pe_ix ix_tup (pe_ix ix_list (pv 1) pe_int (fun _ _ => rfl)) pe_int (fun _ _ => rfl)) pa_nil)) pe_int (nomark _))))) (pss_one (ps_expr (pe_bm PySem.F.plainAttrs_list PySem.F.slot_list_append PySem.F.type_list_append mt_append (pv 3) (pa_cons (pe_tup (pa_cons (pe_op op_cat (pe_lst (pa_cons (pe_tup (pa_cons (pe_ix ix_tup (pe_ix ix_list (pv 1) pe_int (fun _ _ => rfl)) pe_int (fun _ _ => rfl)) (pa_cons (pe_op op_cat (pe_ix ix_tup (pe_ix ix_list (pv 1) pe_int (fun _ _ => rfl)) pe_int (fun _ _ => rfl)) (pe_lst (pa_cons (pe_tup (pa_cons pe_str (pa_cons pe_str pa_nil))) pa_nil))) pa_nil))) pa_nil)) (pe_slice sl_list (pv 1) (po_some pe_int) po_none)) (pa_cons (pv 2) pa_nil))) pa_nil)))) pss_nil)
      (pss_one (ps_ret (pv 3))))))))))))), ?_⟩
    have lc6 := S.cw.cok.l6
    have lf6 := S.l6
    have lf1 := S.l1
    have lz : ∀ {l : Addr} {H0 : Hp}, H l = none → Same H H0 → H0 l ≠ none → ca ≠ l ∧ fa ≠ l ∧ l ≠ p := fun {l H0} a b c => by
      obtain ⟨_, q1, _⟩ := hc
      obtain ⟨_, q2, _⟩ := hf
      exact ⟨ne_of_none q1 a, ne_of_none q2 a, hw.nn a⟩
    refine ⟨sz_of (by show 0 ≤ 100000; decide), fun l gl => ?_⟩
    have s0 := Same.new (o := .lst []) gl
    have A0 : AltS l p ca fa cl fds H (upd H l (.lst [])) 0 := ⟨.of s0, hw.mono s0, hc.chg (fun es q => s0 _ _ q) (fun e x q => (q.nb gl).to (fun _ z => z.2) (.of s0)), hf.chg (fun es q => s0 _ _ q) (fun e x q => by
      obtain ⟨pa, oa, ra, ps, qs, rs, x1, _, x2, x3, x4, x5, x6, x7⟩ := q
      exact ⟨pa, oa, ra, ps, qs, rs, s0 _ _ x1, ⟨ne_of_none x2 gl, ne_of_none x4 gl, ne_of_none x6 gl⟩, s0 _ _ x2, x3.mono s0, s0 _ _ x4, x5.mono s0, s0 _ _ x6, ⟨x7.len, fun i a r u v => by
        obtain ⟨m, y1, y2⟩ := x7.at_ i a r u v
        exact ⟨m, s0 _ _ y1, fun bs z => ⟨ne_of_none (y2 bs z).2 gl, s0 _ _ (y2 bs z).2⟩⟩⟩⟩), lz gl s0 (by rw [upd_same]; intro z; cases z), gl, [], [], upd_same, .nil, Nat.zero_le _⟩
    generalize upd H l (.lst []) = H1 at A0
    have J : ∀ {H5 : Hp} {n : Nat}, AltS l p ca fa cl fds H H5 n → ∃ ys : List V, H5 l = some (.lst ys) ∧ ys.length ≤ n := fun {H5 n} A => by
      obtain ⟨ts, xs, h1, h2, h3⟩ := A.al
      exact ⟨_, h1, by rw [List.length_map, h2.1]; exact h3⟩
    let Mi : Nat → L2.St → Hp → Prop := fun n σ H5 => ∃ v4 v5 v6 v7 v8 v9 v10 : Option V, σ = [some (.ref p), some (.ref ca), some (.ref fa), some (.ref l), v4, v5, v6, v7, v8, v9, v10] ∧ AltS l p ca fa cl fds H H5 n
    refine ⟨Mi 1, ?_, ?_⟩
    · obtain ⟨ces, c1, c2, c3⟩ := id A0.c
      obtain ⟨ys, y1, y2⟩ := J A0
      refine ⟨_, rfl, ca, _, rfl, SqL.of c1, _, _, rfl, rfl, _, rfl, ?_⟩
      by_cases c : cl.length < 6
      · refine ifT (decide_eq_true (by rw [List.length_map, c2]; omega)) ?_
        refine ⟨_, rfl, .inl ⟨rfl, _, SqL.of y1⟩, _, rfl, sz_of (by show 0 ≤ 100000; decide), fun le ge => ⟨sz_of (by show 2 ≤ 100000; decide), fun t1 g1 => ⟨sz_of (by show 1 ≤ 100000; decide), fun l1 gl1 => ?_⟩⟩⟩
        have s1 := Same.new (o := .lst []) ge
        have s2 := Same.new (o := .tup [.str "zy", .ref le]) g1
        have s3 := Same.new (o := .lst [.ref t1]) gl1
        have s13 := s1.trans (s2.trans s3)
        refine ⟨_, _, _, _, rfl, rfl, s13 _ _ c1, upd_same, sz_of (by rw [List.length_map, c2]; show cl.length + 1 ≤ 100000; omega), fun l2 g2 => ?_⟩
        have s4 := Same.new (o := .lst (ces.map V.ref ++ [.ref t1])) g2
        have s14 := s13.trans s4
        have hl2 := upd_same (H := upd (upd (upd H1 le (.lst [])) t1 (.tup [.str "zy", .ref le])) l1 (.lst [.ref t1])) (a := l2) (o := .lst (ces.map V.ref ++ [.ref t1]))
        have ht1 := (s3.trans s4) _ _ (upd_same (H := upd H1 le (.lst [])) (a := t1) (o := .tup [.str "zy", .ref le]))
        have hle := ((s2.trans s3).trans s4) _ _ (upd_same (H := H1) (a := le) (o := .lst []))
        have nle := (ne_of_none y1 ge).symm
        have nl2 := (ne_of_none (s13 _ _ y1) g2).symm
        generalize upd (upd (upd (upd H1 le (.lst [])) t1 (.tup [.str "zy", .ref le])) l1 (.lst [.ref t1])) l2 (.lst (ces.map V.ref ++ [.ref t1])) = H2 at s14 hl2 ht1 hle
        have A2 := A0.same s14
        have CC : LstR _ (ClsZ (· ≠ l)) H2 l2 (cl ++ [zyC]) := LstR.app (fs := [t1]) hl2 ⟨c2, fun i e x a b => (c3 i e x a b).to (fun _ z => z) (.of s14)⟩ (.one ⟨le, [], ht1, nle, hle, pairs_nil⟩)
        obtain ⟨G, U⟩ := alt1 S c
        refine ⟨_, rfl, sz_of (by show 2 ≤ 100000; decide), fun t gt => ?_⟩
        have st := Same.new (o := .tup [.ref l2, .ref fa]) gt
        have A3 := A2.same st
        refine ⟨l, _, _, rfl, rfl, st _ _ (s14 _ _ y1), sz_lt (by omega), ?_⟩
        exact ⟨_, _, _, _, _, _, _, rfl, A3.push (x := (cl ++ [zyC], fds)) ⟨l2, fa, upd_same, ⟨nl2, A0.nl.2.1⟩, CC.to (fun es q => st _ _ q) (fun b x q => q.to (fun _ z => z) (.of st)), A3.f, G, U⟩ (st _ _ (s14 _ _ y1))⟩
      · refine ifF (decide_eq_false (by rw [List.length_map, c2]; omega)) ?_
        exact ⟨_, _, _, _, _, _, _, rfl, A0.more (by decide)⟩
    rintro σ H1 ⟨v4, v5, v6, v7, v8, v9, v10, rfl, A0⟩
    refine ⟨Mi 2, ?_, ?_⟩
    · obtain ⟨ces, c1, c2, c3⟩ := id A0.f
      obtain ⟨ys, y1, y2⟩ := J A0
      refine ⟨_, rfl, fa, _, rfl, SqL.of c1, _, _, rfl, rfl, _, rfl, ?_⟩
      by_cases c : fds.length < 6
      · refine ifT (decide_eq_true (by rw [List.length_map, c2]; omega)) ?_
        refine ⟨_, rfl, .inl ⟨rfl, _, SqL.of y1⟩, _, rfl, _, rfl, sz_of (by show 0 ≤ 100000; decide), fun pe g0 => ⟨sz_of (by show 0 ≤ 100000; decide), fun oe g1 => ⟨sz_of (by show 2 ≤ 100000; decide), fun tj g2 => ⟨sz_of (by show 1 ≤ 100000; decide), fun re g3 => ⟨sz_of (by show 5 ≤ 100000; decide), fun t1 g4 => ⟨sz_of (by show 1 ≤ 100000; decide), fun l1 g5 => ?_⟩⟩⟩⟩⟩⟩
        have s0 := Same.new (o := .lst []) g0
        have s1 := Same.new (o := .lst []) g1
        have s2 := Same.new (o := .tup [.str "jump", .int 0]) g2
        have s3 := Same.new (o := .lst [.ref tj]) g3
        have s4 := Same.new (o := .tup [.str "zy", .ref pe, .ref oe, .str "number", .ref re]) g4
        have s5 := Same.new (o := .lst [.ref t1]) g5
        have s15 := s1.trans (s2.trans (s3.trans (s4.trans s5)))
        have s05 := s0.trans s15
        refine ⟨fa, l1, _, _, rfl, rfl, s05 _ _ c1, upd_same, sz_of (by rw [List.length_map, c2]; show fds.length + 1 ≤ 100000; omega), fun l2 g6 => ?_⟩
        have s6 := Same.new (o := .lst (ces.map V.ref ++ [.ref t1])) g6
        have hpe := (s15.trans s6) _ _ (upd_same (H := H1) (a := pe) (o := .lst []))
        have hoe := (s2.trans (s3.trans (s4.trans (s5.trans s6)))) _ _ (upd_same (H := upd H1 pe (.lst [])) (a := oe) (o := .lst []))
        have htj := (s3.trans (s4.trans (s5.trans s6))) _ _ (upd_same (H := upd (upd H1 pe (.lst [])) oe (.lst [])) (a := tj) (o := .tup [.str "jump", .int 0]))
        have hre := (s4.trans (s5.trans s6)) _ _ (upd_same (H := upd (upd (upd H1 pe (.lst [])) oe (.lst [])) tj (.tup [.str "jump", .int 0])) (a := re) (o := .lst [.ref tj]))
        have ht1 := (s5.trans s6) _ _ (upd_same (H := upd (upd (upd (upd H1 pe (.lst [])) oe (.lst [])) tj (.tup [.str "jump", .int 0])) re (.lst [.ref tj])) (a := t1) (o := .tup [.str "zy", .ref pe, .ref oe, .str "number", .ref re]))
        have npe := (ne_of_none y1 g0).symm
        have noe := (ne_of_none (s0 _ _ y1) g1).symm
        have nre := (ne_of_none ((s0.trans (s1.trans s2)) _ _ y1) g3).symm
        have nl2 := (ne_of_none (s05 _ _ y1) g6).symm
        have s06 := s05.trans s6
        have hl2 := upd_same (H := upd (upd (upd (upd (upd (upd H1 pe (.lst [])) oe (.lst [])) tj (.tup [.str "jump", .int 0])) re (.lst [.ref tj])) t1 (.tup [.str "zy", .ref pe, .ref oe, .str "number", .ref re])) l1 (.lst [.ref t1])) (a := l2) (o := .lst (ces.map V.ref ++ [.ref t1]))
        generalize upd (upd (upd (upd (upd (upd (upd H1 pe (.lst [])) oe (.lst [])) tj (.tup [.str "jump", .int 0])) re (.lst [.ref tj])) t1 (.tup [.str "zy", .ref pe, .ref oe, .str "number", .ref re])) l1 (.lst [.ref t1])) l2 (.lst (ces.map V.ref ++ [.ref t1])) = H2 at s06 hl2 hpe hoe htj hre ht1
        have A2 := A0.same s06
        have EZ : EntryT (· ≠ l) H2 t1 zyF := ⟨pe, oe, re, [], [], [tj], ht1, ⟨npe, noe, nre⟩, hpe, pairs_nil, hoe, pairs_nil, hre, ⟨rfl, fun i a r u v => by
          match i, u, v with
          | 0, u, v =>
            rw [← Option.some.inj u, ← Option.some.inj v]
            exact ⟨0, htj, fun bs z => by cases z⟩⟩⟩
        have CC : LstR _ (EntryT (· ≠ l)) H2 l2 (fds ++ [zyF]) := LstR.app (fs := [t1]) hl2 ⟨c2, fun i e x a b => (c3 i e x a b).to (fun _ z => z) (.of s06)⟩ (.one EZ)
        obtain ⟨G, U⟩ := alt2 S c
        refine ⟨sz_of (by show 2 ≤ 100000; decide), fun t gt => ?_⟩
        have st := Same.new (o := .tup [.ref ca, .ref l2]) gt
        have A3 := A2.same st
        refine ⟨l, _, _, rfl, rfl, st _ _ (s06 _ _ y1), sz_lt (by omega), ?_⟩
        exact ⟨_, _, _, _, _, _, _, rfl, A3.push (x := (cl, fds ++ [zyF])) ⟨ca, l2, upd_same, ⟨A0.nl.1, nl2⟩, A3.c, CC.to (fun es q => st _ _ q) (fun b x q => q.to (fun _ z => z) (.of st)), G, U⟩ (st _ _ (s06 _ _ y1))⟩
      · refine ifF (decide_eq_false (by rw [List.length_map, c2]; omega)) ?_
        exact ⟨_, _, _, _, _, _, _, rfl, A0.more (by decide)⟩
    rintro σ H1 ⟨v4, v5, v6, v7, v8, v9, v10, rfl, A0⟩
    refine ⟨Mi 3, ?_, ?_⟩
    · obtain ⟨ces, c1, c2, c3⟩ := id A0.c
      obtain ⟨ys, y1, y2⟩ := J A0
      refine ⟨_, rfl, ca, _, rfl, SqL.of c1, _, _, rfl, rfl, _, rfl, ?_⟩
      by_cases c : 1 < cl.length
      · refine ifT (decide_eq_true (by rw [List.length_map, c2]; omega)) ?_
        refine ⟨_, rfl, .inl ⟨rfl, _, SqL.of y1⟩, _, rfl, _, rfl, rfl, ca, _, rfl, SqL.of c1, fun l2 g2 => ?_⟩
        rw [← List.map_reverse]
        have s4 := Same.new (o := .lst (ces.reverse.map V.ref)) g2
        have hl2 := upd_same (H := H1) (a := l2) (o := .lst (ces.reverse.map V.ref))
        have nl2 := (ne_of_none y1 g2).symm
        generalize upd H1 l2 (.lst (ces.reverse.map V.ref)) = H2 at s4 hl2
        have A2 := A0.same s4
        have CC : LstR _ (ClsZ (· ≠ l)) H2 l2 cl.reverse := .of hl2 (Each.rev ⟨c2, fun i e x a b => (c3 i e x a b).to (fun _ z => z) (.of s4)⟩)
        obtain ⟨G, U⟩ := alt3 S c
        refine ⟨_, rfl, sz_of (by show 2 ≤ 100000; decide), fun t gt => ?_⟩
        have st := Same.new (o := .tup [.ref l2, .ref fa]) gt
        have A3 := A2.same st
        refine ⟨l, _, _, rfl, rfl, st _ _ (s4 _ _ y1), sz_lt (by omega), ?_⟩
        exact ⟨_, _, _, _, _, _, _, rfl, A3.push (x := (cl.reverse, fds)) ⟨l2, fa, upd_same, ⟨nl2, A0.nl.2.1⟩, CC.to (fun es q => st _ _ q) (fun b x q => q.to (fun _ z => z) (.of st)), A3.f, G, U⟩ (st _ _ (s4 _ _ y1))⟩
      · refine ifF (decide_eq_false (by rw [List.length_map, c2]; omega)) ?_
        exact ⟨_, _, _, _, _, _, _, rfl, A0.more (by decide)⟩
    rintro σ H1 ⟨v4, v5, v6, v7, v8, v9, v10, rfl, A0⟩
    refine ⟨Mi 4, ?_, ?_⟩
    · obtain ⟨ces, c1, c2, c3⟩ := id A0.f
      obtain ⟨ys, y1, y2⟩ := J A0
      refine ⟨_, rfl, fa, _, rfl, SqL.of c1, _, _, rfl, rfl, _, rfl, ?_⟩
      by_cases c : 1 < fds.length
      · refine ifT (decide_eq_true (by rw [List.length_map, c2]; omega)) ?_
        refine ⟨_, rfl, .inl ⟨rfl, _, SqL.of y1⟩, _, rfl, _, rfl, _, rfl, rfl, fa, _, rfl, SqL.of c1, fun l2 g2 => ?_⟩
        rw [← List.map_reverse]
        have s4 := Same.new (o := .lst (ces.reverse.map V.ref)) g2
        have hl2 := upd_same (H := H1) (a := l2) (o := .lst (ces.reverse.map V.ref))
        have nl2 := (ne_of_none y1 g2).symm
        generalize upd H1 l2 (.lst (ces.reverse.map V.ref)) = H2 at s4 hl2
        have A2 := A0.same s4
        have CC : LstR _ (EntryT (· ≠ l)) H2 l2 fds.reverse := .of hl2 (Each.rev ⟨c2, fun i e x a b => (c3 i e x a b).to (fun _ z => z) (.of s4)⟩)
        obtain ⟨G, U⟩ := alt4 S c
        refine ⟨sz_of (by show 2 ≤ 100000; decide), fun t gt => ?_⟩
        have st := Same.new (o := .tup [.ref ca, .ref l2]) gt
        have A3 := A2.same st
        refine ⟨l, _, _, rfl, rfl, st _ _ (s4 _ _ y1), sz_lt (by omega), ?_⟩
        exact ⟨_, _, _, _, _, _, _, rfl, A3.push (x := (cl, fds.reverse)) ⟨ca, l2, upd_same, ⟨A0.nl.1, nl2⟩, A3.c, CC.to (fun es q => st _ _ q) (fun b x q => q.to (fun _ z => z) (.of st)), G, U⟩ (st _ _ (s4 _ _ y1))⟩
      · refine ifF (decide_eq_false (by rw [List.length_map, c2]; omega)) ?_
        exact ⟨_, _, _, _, _, _, _, rfl, A0.more (by decide)⟩
    rintro σ H1 ⟨v4, v5, v6, v7, v8, v9, v10, rfl, A0⟩
    obtain ⟨fes, f1, f2, f3⟩ := id A0.f
    have lfe : (fes.map V.ref).length = fds.length := by rw [List.length_map, f2]
    refine ⟨_, rfl, _, rfl, fa, _, rfl, SqL.of f1, p, (fes.map V.ref).length, rfl, A0.w, by omega, by omega, fun k0 H2 hk b2 w2 => ?_⟩
    have A2 := A0.but b2 w2
    have f1' := A0.w.refs b2 f1
    have kf : k0 < fes.length := by rw [List.length_map] at hk; exact hk
    have k2 : k0 < fds.length := by omega
    have he : fes[k0]? = some fes[k0] := List.getElem?_eq_getElem kf
    have hfk : fds[k0]? = some fds[k0] := List.getElem?_eq_getElem k2
    have E2 := (f3 k0 _ _ he hfk).but A0.w b2
    generalize fes[k0] = ek at he E2
    generalize fds[k0] = f at hfk E2
    obtain ⟨pa, oa, ra, ps, qs, rs, x1, ⟨z1, z2, z3⟩, x2, x3, x4, x5, x6, x7⟩ := id E2
    have EB : EntryB (· ≠ l) H2 ek f pa oa ra := ⟨ps, qs, rs, x1, ⟨z1, z2, z3⟩, x2, x3, x4, x5, x6, x7⟩
    refine ⟨_, rfl, _, rfl, fa, _, (k0 : Int), _, rfl, rfl, SqL.of f1', atI_nat (by rw [List.getElem?_map, he]; rfl), ?_⟩
    refine ⟨ek, _, rfl, SqT.of x1, rfl, _, _, rfl, _, _, rfl, _, _, rfl, _, _, rfl, _, _, rfl, rfl, ?_⟩
    clear A0 f1 f3
    let Mj : Nat → L2.St → Hp → Prop := fun n σ H5 => ∃ v10 : Option V, σ = [some (.ref p), some (.ref ca), some (.ref fa), some (.ref l), some (.int (k0 : Int)), some (.str f.nm), some (.ref pa), some (.ref oa), some (.str f.res), some (.ref ra), v10] ∧ AltS l p ca fa cl fds H H5 n ∧ EntryB (· ≠ l) H5 ek f pa oa ra ∧ H5 fa = some (.lst (fes.map V.ref))
    refine ⟨Mj 5, ?_, ?_⟩
    · obtain ⟨ys, y1, y2⟩ := J A2
      refine ⟨_, rfl, ra, _, rfl, SqL.of x6, _, _, rfl, rfl, _, rfl, ?_⟩
      by_cases c : f.rws.length < 40
      · refine ifT (decide_eq_true (by rw [List.length_map, x7.len]; omega)) ?_
        refine ⟨_, rfl, _, rfl, _, rfl, _, rfl, _, rfl, sz_of (by show 2 ≤ 100000; decide), fun tj g2 => ⟨sz_of (by show 1 ≤ 100000; decide), fun l1 g3 => ?_⟩⟩
        have s2 := Same.new (o := .tup [.str "jump", .int 0]) g2
        have s3 := Same.new (o := .lst [.ref tj]) g3
        have s23 := s2.trans s3
        refine ⟨ra, l1, _, _, rfl, rfl, s23 _ _ x6, upd_same, sz_of (by rw [List.length_map, x7.len]; show f.rws.length + 1 ≤ 100000; omega), fun re g4 => ?_⟩
        have s4 := Same.new (o := .lst (rs.map V.ref ++ [.ref tj])) g4
        refine ⟨sz_of (by show 5 ≤ 100000; decide), fun t10 g5 => ?_⟩
        have s5 := Same.new (o := .tup [.str f.nm, .ref pa, .ref oa, .str f.res, .ref re]) g5
        have s04 := s23.trans (s4.trans s5)
        have f4 := s04 _ _ f1'
        have nre := (ne_of_none (s23 _ _ y1) g4).symm
        have htj := (s3.trans (s4.trans s5)) _ _ (upd_same (H := H2) (a := tj) (o := .tup [.str "jump", .int 0]))
        have hre := s5 _ _ (upd_same (H := upd (upd H2 tj (.tup [.str "jump", .int 0])) l1 (.lst [.ref tj])) (a := re) (o := .lst (rs.map V.ref ++ [.ref tj])))
        have ET : EntryT (· ≠ l) (upd (upd (upd (upd H2 tj (.tup [.str "jump", .int 0])) l1 (.lst [.ref tj])) re (.lst (rs.map V.ref ++ [.ref tj]))) t10 (.tup [.str f.nm, .ref pa, .ref oa, .str f.res, .ref re])) t10 ⟨f.nm, f.res, f.ns, f.ms, f.rws ++ [.jump 0]⟩ := ⟨pa, oa, re, ps, qs, rs ++ [tj], upd_same, ⟨z1, z2, nre⟩, s04 _ _ x2, x3.mono s04, s04 _ _ x4, x5.mono s04, by rw [hre, List.map_append]; rfl, (show Each (RowT (· ≠ l) _) (rs ++ [tj]) (f.rws ++ [.jump 0]) from Each.snoc ⟨x7.len, fun i a r u v => (x7.at_ i a r u v).to (fun _ z => z) (.of s04)⟩ ⟨0, htj, fun bs z => by cases z⟩).rows⟩
        have AX := A2
        have hfm : fes[k0]? = some ek := he
        generalize upd (upd (upd (upd H2 tj (.tup [.str "jump", .int 0])) l1 (.lst [.ref tj])) re (.lst (rs.map V.ref ++ [.ref tj]))) t10 (.tup [.str f.nm, .ref pa, .ref oa, .str f.res, .ref re]) = H3 at s04 ET f4
        have A4 := AX.same s04
        have y4 := s04 _ _ y1
        refine ⟨_, rfl, .inl ⟨rfl, _, SqL.of y4⟩, _, rfl, _, rfl, _, rfl, _, rfl, fa, _, rfl, SqL.of f4, fun la g6 => ?_⟩
        rw [cut_take]
        have s6 := Same.new (o := .lst ((fes.map V.ref).take k0)) g6
        refine ⟨_, rfl, sz_of (by show 1 ≤ 100000; decide), fun lb g7 => ?_⟩
        have s7 := Same.new (o := .lst [.ref t10]) g7
        refine ⟨la, lb, _, _, rfl, rfl, s7 _ _ upd_same, upd_same, sz_of (by rw [List.length_take, lfe]; show min k0 fds.length + 1 ≤ 100000; omega), fun lc g8 => ?_⟩
        have s8 := Same.new (o := .lst ((fes.map V.ref).take k0 ++ [.ref t10])) g8
        refine ⟨_, rfl, _, rfl, _, _, rfl, rfl, _, rfl, fa, _, rfl, SqL.of ((s6.trans (s7.trans s8)) _ _ f4), fun ld g9 => ?_⟩
        have ek1 : ((k0 : Int) + 1) = ((k0 + 1 : Nat) : Int) := by omega
        rw [ek1, cut_drop (by rw [lfe]; omega)]
        have s9 := Same.new (o := .lst ((fes.map V.ref).drop (k0 + 1))) g9
        refine ⟨lc, ld, _, _, rfl, rfl, s9 _ _ upd_same, upd_same, sz_of (by rw [List.length_append, List.length_take, List.length_drop, lfe]; show min k0 fds.length + 1 + (fds.length - (k0 + 1)) ≤ 100000; omega), fun l2 g10 => ?_⟩
        have s10 := Same.new (o := .lst ((fes.map V.ref).take k0 ++ [.ref t10] ++ (fes.map V.ref).drop (k0 + 1))) g10
        have e10 : (fes.map V.ref).take k0 ++ [.ref t10] ++ (fes.map V.ref).drop (k0 + 1) = (fes.take k0 ++ [t10] ++ fes.drop (k0 + 1)).map V.ref := by
          rw [List.map_append, List.map_append, List.map_take, List.map_drop]
          rfl
        rw [e10] at s10 ⊢
        have s6a := s6.trans (s7.trans (s8.trans (s9.trans s10)))
        have nl2 := (ne_of_none ((s6.trans (s7.trans (s8.trans s9))) _ _ y4) g10).symm
        have A5 := A4.same s6a
        have fcs := A4.f
        obtain ⟨fes', r1, r2, r3⟩ := fcs
        rw [f4] at r1
        obtain rfl := refs_inj (Option.some.inj r1)
        have CC : LstR _ (EntryT (· ≠ l)) _ l2 (setF fds k0 ⟨f.nm, f.res, f.ns, f.ms, f.rws ++ [.jump 0]⟩) := .of upd_same (((Each.mono ⟨r2, r3⟩ fun e x _ q => q.to (fun _ z => z) (.of s6a)).take_drop (ET.to (fun _ z => z) (.of s6a)) k0))
        obtain ⟨G, U⟩ := alt5 S hfk c
        refine ⟨sz_of (by show 2 ≤ 100000; decide), fun t gt => ?_⟩
        have st := Same.new (o := .tup [.ref ca, .ref l2]) gt
        have A3 := A5.same st
        refine ⟨l, _, _, rfl, rfl, st _ _ (s6a _ _ y4), sz_lt (by omega), ?_⟩
        refine ⟨_, rfl, A3.push (x := (cl, setF fds k0 ⟨f.nm, f.res, f.ns, f.ms, f.rws ++ [.jump 0]⟩)) ⟨ca, l2, upd_same, ⟨A3.nl.1, nl2⟩, A3.c, CC.to (fun es q => st _ _ q) (fun b x q => q.to (fun _ z => z) (.of st)), G, U⟩ (st _ _ (s6a _ _ y4)), ((EB.to (fun _ z => z) (.of (s04.trans (s6a.trans st)))).to (fun _ z => z) (.but (st _ _ (s6a _ _ y4)) .upd)), ?_⟩
        · rw [upd_ne A3.nl.2.1]
          exact st _ _ (s6a _ _ f4)
      · refine ifF (decide_eq_false (by rw [List.length_map, x7.len]; omega)) ?_
        exact ⟨_, rfl, A2.more (by decide), EB, f1'⟩
    clear A2 E2 EB x1 x2 x3 x4 x5 x6 x7 f1' b2 w2
    rintro σ H2 ⟨v10, rfl, A2, EB, f1'⟩
    obtain ⟨ps, qs, rs, x1, _, x2, x3, x4, x5, x6, x7⟩ := id EB
    refine ⟨Mj 6, ?_, ?_⟩
    · obtain ⟨ys, y1, y2⟩ := J A2
      refine ⟨_, rfl, oa, _, rfl, SqL.of x4, _, _, rfl, rfl, _, rfl, ?_⟩
      by_cases c : f.ms.length < 8
      · refine ifT (decide_eq_true (by rw [List.length_map, x5.len]; omega)) ?_
        refine ⟨_, rfl, _, rfl, _, rfl, sz_of (by show 2 ≤ 100000; decide), fun tj g2 => ⟨sz_of (by show 1 ≤ 100000; decide), fun l1 g3 => ?_⟩⟩
        have s2 := Same.new (o := .tup [.str "zy", .str "object"]) g2
        have s3 := Same.new (o := .lst [.ref tj]) g3
        have s23 := s2.trans s3
        refine ⟨oa, l1, _, _, rfl, rfl, s23 _ _ x4, upd_same, sz_of (by rw [List.length_map, x5.len]; show f.ms.length + 1 ≤ 100000; omega), fun re g4 => ?_⟩
        have s4 := Same.new (o := .lst (qs.map V.ref ++ [.ref tj])) g4
        refine ⟨_, rfl, _, rfl, sz_of (by show 5 ≤ 100000; decide), fun t10 g5 => ?_⟩
        have s5 := Same.new (o := .tup [.str f.nm, .ref pa, .ref re, .str f.res, .ref ra]) g5
        have s04 := s23.trans (s4.trans s5)
        have f4 := s04 _ _ f1'
        have nre := (ne_of_none (s23 _ _ y1) g4).symm
        have htj := (s3.trans (s4.trans s5)) _ _ (upd_same (H := H2) (a := tj) (o := .tup [.str "zy", .str "object"]))
        have hre := s5 _ _ (upd_same (H := upd (upd H2 tj (.tup [.str "zy", .str "object"])) l1 (.lst [.ref tj])) (a := re) (o := .lst (qs.map V.ref ++ [.ref tj])))
        have P1 : PairsG (upd (upd (upd (upd H2 tj (.tup [.str "zy", .str "object"])) l1 (.lst [.ref tj])) re (.lst (qs.map V.ref ++ [.ref tj]))) t10 (.tup [.str f.nm, .ref pa, .ref re, .str f.res, .ref ra])) [tj] [zyO] := ⟨rfl, fun i a q u v => by
          match i, u, v with
          | 0, u, v =>
            rw [← Option.some.inj u, ← Option.some.inj v]
            exact htj⟩
        have ET : EntryT (· ≠ l) (upd (upd (upd (upd H2 tj (.tup [.str "zy", .str "object"])) l1 (.lst [.ref tj])) re (.lst (qs.map V.ref ++ [.ref tj]))) t10 (.tup [.str f.nm, .ref pa, .ref re, .str f.res, .ref ra])) t10 ⟨f.nm, f.res, f.ns, f.ms ++ [zyO], f.rws⟩ := ⟨pa, re, ra, ps, qs ++ [tj], rs, upd_same, ⟨z1, nre, z3⟩, s04 _ _ x2, x3.mono s04, by rw [hre, List.map_append]; rfl, (x5.mono s04).append P1, s04 _ _ x6, x7.to (fun _ z => z) (.of s04)⟩
        have AX := A2
        have hfm : fes[k0]? = some ek := he
        generalize upd (upd (upd (upd H2 tj (.tup [.str "zy", .str "object"])) l1 (.lst [.ref tj])) re (.lst (qs.map V.ref ++ [.ref tj]))) t10 (.tup [.str f.nm, .ref pa, .ref re, .str f.res, .ref ra]) = H3 at s04 ET f4
        have A4 := AX.same s04
        have y4 := s04 _ _ y1
        refine ⟨_, rfl, .inl ⟨rfl, _, SqL.of y4⟩, _, rfl, _, rfl, _, rfl, _, rfl, fa, _, rfl, SqL.of f4, fun la g6 => ?_⟩
        rw [cut_take]
        have s6 := Same.new (o := .lst ((fes.map V.ref).take k0)) g6
        refine ⟨_, rfl, sz_of (by show 1 ≤ 100000; decide), fun lb g7 => ?_⟩
        have s7 := Same.new (o := .lst [.ref t10]) g7
        refine ⟨la, lb, _, _, rfl, rfl, s7 _ _ upd_same, upd_same, sz_of (by rw [List.length_take, lfe]; show min k0 fds.length + 1 ≤ 100000; omega), fun lc g8 => ?_⟩
        have s8 := Same.new (o := .lst ((fes.map V.ref).take k0 ++ [.ref t10])) g8
        refine ⟨_, rfl, _, rfl, _, _, rfl, rfl, _, rfl, fa, _, rfl, SqL.of ((s6.trans (s7.trans s8)) _ _ f4), fun ld g9 => ?_⟩
        have ek1 : ((k0 : Int) + 1) = ((k0 + 1 : Nat) : Int) := by omega
        rw [ek1, cut_drop (by rw [lfe]; omega)]
        have s9 := Same.new (o := .lst ((fes.map V.ref).drop (k0 + 1))) g9
        refine ⟨lc, ld, _, _, rfl, rfl, s9 _ _ upd_same, upd_same, sz_of (by rw [List.length_append, List.length_take, List.length_drop, lfe]; show min k0 fds.length + 1 + (fds.length - (k0 + 1)) ≤ 100000; omega), fun l2 g10 => ?_⟩
        have s10 := Same.new (o := .lst ((fes.map V.ref).take k0 ++ [.ref t10] ++ (fes.map V.ref).drop (k0 + 1))) g10
        have e10 : (fes.map V.ref).take k0 ++ [.ref t10] ++ (fes.map V.ref).drop (k0 + 1) = (fes.take k0 ++ [t10] ++ fes.drop (k0 + 1)).map V.ref := by
          rw [List.map_append, List.map_append, List.map_take, List.map_drop]
          rfl
        rw [e10] at s10 ⊢
        have s6a := s6.trans (s7.trans (s8.trans (s9.trans s10)))
        have nl2 := (ne_of_none ((s6.trans (s7.trans (s8.trans s9))) _ _ y4) g10).symm
        have A5 := A4.same s6a
        have fcs := A4.f
        obtain ⟨fes', r1, r2, r3⟩ := fcs
        rw [f4] at r1
        obtain rfl := refs_inj (Option.some.inj r1)
        have CC : LstR _ (EntryT (· ≠ l)) _ l2 (setF fds k0 ⟨f.nm, f.res, f.ns, f.ms ++ [zyO], f.rws⟩) := .of upd_same (((Each.mono ⟨r2, r3⟩ fun e x _ q => q.to (fun _ z => z) (.of s6a)).take_drop (ET.to (fun _ z => z) (.of s6a)) k0))
        obtain ⟨G, U⟩ := alt6 S hfk c
        refine ⟨sz_of (by show 2 ≤ 100000; decide), fun t gt => ?_⟩
        have st := Same.new (o := .tup [.ref ca, .ref l2]) gt
        have A3 := A5.same st
        refine ⟨l, _, _, rfl, rfl, st _ _ (s6a _ _ y4), sz_lt (by omega), ?_⟩
        refine ⟨_, rfl, A3.push (x := (cl, setF fds k0 ⟨f.nm, f.res, f.ns, f.ms ++ [zyO], f.rws⟩)) ⟨ca, l2, upd_same, ⟨A3.nl.1, nl2⟩, A3.c, CC.to (fun es q => st _ _ q) (fun b x q => q.to (fun _ z => z) (.of st)), G, U⟩ (st _ _ (s6a _ _ y4)), ((EB.to (fun _ z => z) (.of (s04.trans (s6a.trans st)))).to (fun _ z => z) (.but (st _ _ (s6a _ _ y4)) .upd)), ?_⟩
        · rw [upd_ne A3.nl.2.1]
          exact st _ _ (s6a _ _ f4)
      · refine ifF (decide_eq_false (by rw [List.length_map, x5.len]; omega)) ?_
        exact ⟨_, rfl, A2.more (by decide), EB, f1'⟩
    clear A2 EB x1 x2 x3 x4 x5 x6 x7 f1'
    rintro σ H2 ⟨v10, rfl, A2, EB, f1'⟩
    refine ⟨Mj 7, ?_, ?_⟩
    · obtain ⟨ces, c1, c2, c3⟩ := id A2.c
      obtain ⟨ys, y1, y2⟩ := J A2
      refine ⟨_, rfl, sz_of (by show 0 ≤ 100000; decide), fun le ge => ?_⟩
      have s1 := Same.new (o := .lst []) ge
      have A3 := A2.same s1
      have EB3 := EB.to (fun _ z => z) (.of s1)
      have f3' := s1 _ _ f1'
      have k1 := s1 _ _ c1
      have z1 := s1 _ _ y1
      have E3 : Each (ClsZ (· ≠ l) (upd H2 le (.lst []))) ces cl := Each.mono ⟨c2, c3⟩ fun e x _ q => q.to (fun _ z => z) (.of s1)
      refine ⟨_, _, dp_cls (A3.c.chg (fun es q => q) fun e x q => q.to (fun _ _ => trivial) (.of (Same.refl _))), .lst (SqL.of upd_same) .nil, S.good.sc, rfl, ?_⟩
      by_cases ce : cl = []
      · refine ⟨_, rfl, ifF (by rw [ce]; rfl) ?_⟩
        exact ifF rfl ⟨_, rfl, A3.more (by decide), EB3, f3'⟩
      · obtain ⟨c, cl2, hcl⟩ : ∃ c cl2, cl = c :: cl2 := by
          cases h : cl with
          | nil => exact absurd h ce
          | cons c cl2 => exact ⟨c, cl2, rfl⟩
        obtain ⟨e0, es2, rfl⟩ : ∃ e0 es2, ces = e0 :: es2 := by
          cases h : ces with
          | nil => rw [h, hcl] at c2; cases c2
          | cons e0 es2 => exact ⟨e0, es2, rfl⟩
        have E0 := E3.2 0 e0 c rfl (by rw [hcl]; rfl)
        have ER : Each (ClsZ (· ≠ l) (upd H2 le (.lst []))) es2 cl2 := ⟨by rw [hcl] at c2; simpa using c2, fun i e x a b => E3.2 (i + 1) e x (by simpa using a) (by rw [hcl]; simpa using b)⟩
        obtain ⟨la, ps0, q1, zla, q2, q3⟩ := id E0
        have l4 := (S.cw.fl c (by rw [hcl]; exact List.mem_cons_self)).2
        have lcl2 : cl2.length < 6 := by rw [hcl] at lc6; exact lc6
        refine ⟨_, rfl, ifT (by rw [hcl]; rfl) ?_⟩
        refine ⟨_, rfl, ca, _, 0, _, rfl, rfl, SqL.of k1, at0, e0, _, 1, _, rfl, rfl, SqT.of q1, at1, la, _, rfl, SqL.of q2, _, _, rfl, rfl, _, rfl, ?_⟩
        by_cases c4 : c.2.length < 4
        · refine ifT (decide_eq_true (by rw [List.length_map, q3.len]; omega)) ?_
          refine ⟨_, rfl, .inl ⟨rfl, _, SqL.of z1⟩, ?_⟩
          clear s1 A2 EB f1' c1 c3 ge
          generalize upd H2 le (.lst []) = H4 at A3 EB3 f3' z1 k1 E3 E0 ER q1 q2 q3
          refine ⟨_, rfl, ca, _, 0, _, rfl, rfl, SqL.of k1, at0, e0, _, 0, _, rfl, rfl, SqT.of q1, at0, ?_⟩
          refine ⟨_, rfl, ca, _, 0, _, rfl, rfl, SqL.of k1, at0, e0, _, 1, _, rfl, rfl, SqT.of q1, at1, sz_of (by show 2 ≤ 100000; decide), fun tj gj => ⟨sz_of (by show 1 ≤ 100000; decide), fun l1 g1 => ?_⟩⟩
          have sj := Same.new (o := .tup [.str "zy", .str "number"]) gj
          have s1 := Same.new (o := .lst [.ref tj]) g1
          refine ⟨la, l1, _, _, rfl, rfl, (sj.trans s1) _ _ q2, upd_same, sz_of (by rw [List.length_map, q3.len]; show c.2.length + 1 ≤ 100000; omega), fun lb gb => ?_⟩
          have sb := Same.new (o := .lst (ps0.map V.ref ++ [.ref tj])) gb
          refine ⟨sz_of (by show 2 ≤ 100000; decide), fun t2 g2 => ⟨sz_of (by show 1 ≤ 100000; decide), fun l3 g3 => ?_⟩⟩
          have s2 := Same.new (o := .tup [.str c.1, .ref lb]) g2
          have s3 := Same.new (o := .lst [.ref t2]) g3
          have s23 := (sj.trans s1).trans (sb.trans (s2.trans s3))
          refine ⟨_, rfl, _, rfl, ca, _, rfl, SqL.of (s23 _ _ k1), fun ld gd => ?_⟩
          have ecut : cutV ((e0 :: es2).map V.ref) (some 1) none = es2.map V.ref := cut_drop (n := 1) (by simp)
          rw [ecut]
          have sd := Same.new (o := .lst (es2.map V.ref)) gd
          refine ⟨l3, ld, _, _, rfl, rfl, sd _ _ upd_same, upd_same, sz_of (by rw [List.length_map, ER.1]; show 1 + cl2.length ≤ 100000; omega), fun l5 g5 => ?_⟩
          have s5 := Same.new (o := .lst ([.ref t2] ++ es2.map V.ref)) g5
          have sAll := s23.trans (sd.trans s5)
          have hl5 := upd_same (H := upd (upd (upd (upd (upd (upd H4 tj (.tup [.str "zy", .str "number"])) l1 (.lst [.ref tj])) lb (.lst (ps0.map V.ref ++ [.ref tj]))) t2 (.tup [.str c.1, .ref lb])) l3 (.lst [.ref t2])) ld (.lst (es2.map V.ref))) (a := l5) (o := .lst ([.ref t2] ++ es2.map V.ref))
          have htj := (s1.trans (sb.trans (s2.trans (s3.trans (sd.trans s5))))) _ _ (upd_same (H := H4) (a := tj) (o := .tup [.str "zy", .str "number"]))
          have hlb := (s2.trans (s3.trans (sd.trans s5))) _ _ (upd_same (H := upd (upd H4 tj (.tup [.str "zy", .str "number"])) l1 (.lst [.ref tj])) (a := lb) (o := .lst (ps0.map V.ref ++ [.ref tj])))
          have ht2 := (s3.trans (sd.trans s5)) _ _ (upd_same (H := upd (upd (upd H4 tj (.tup [.str "zy", .str "number"])) l1 (.lst [.ref tj])) lb (.lst (ps0.map V.ref ++ [.ref tj]))) (a := t2) (o := .tup [.str c.1, .ref lb]))
          have nlb := (ne_of_none ((sj.trans s1) _ _ z1) gb).symm
          have nl5 := (ne_of_none ((s23.trans sd) _ _ z1) g5).symm
          generalize upd (upd (upd (upd (upd (upd (upd H4 tj (.tup [.str "zy", .str "number"])) l1 (.lst [.ref tj])) lb (.lst (ps0.map V.ref ++ [.ref tj]))) t2 (.tup [.str c.1, .ref lb])) l3 (.lst [.ref t2])) ld (.lst (es2.map V.ref))) l5 (.lst ([.ref t2] ++ es2.map V.ref)) = H5 at sAll hl5 htj hlb ht2
          have P1 : PairsG H5 [tj] [zyN] := ⟨rfl, fun i a q u v => by
            match i, u, v with
            | 0, u, v =>
              rw [← Option.some.inj u, ← Option.some.inj v]
              exact htj⟩
          have CZ : ClsZ (· ≠ l) H5 t2 (c.1, c.2 ++ [zyN]) := ⟨lb, ps0 ++ [tj], ht2, nlb, by rw [hlb, List.map_append]; rfl, (q3.mono sAll).append P1⟩
          have CC : LstR _ (ClsZ (· ≠ l)) H5 l5 ((c.1, c.2 ++ [zyN]) :: cl2) := LstR.app (es := [t2]) (xs := [(c.1, c.2 ++ [zyN])]) hl5 (.one CZ) (ER.mono fun e x _ q => q.to (fun _ z => z) (.of sAll))
          have AU : Good ((c.1, c.2 ++ [zyN]) :: cl2) fds ∧ sameS cl ((c.1, c.2 ++ [zyN]) :: cl2) fds fds = false := by
            rw [hcl]
            exact alt7 (by rw [← hcl]; exact S) c4
          obtain ⟨G, U⟩ := AU
          have A5 := A3.same sAll
          refine ⟨_, rfl, sz_of (by show 2 ≤ 100000; decide), fun t gt => ?_⟩
          have st := Same.new (o := .tup [.ref l5, .ref fa]) gt
          have A6 := A5.same st
          refine ⟨l, _, _, rfl, rfl, st _ _ (sAll _ _ z1), sz_lt (by omega), ?_⟩
          refine ⟨_, rfl, A6.push (x := ((c.1, c.2 ++ [zyN]) :: cl2, fds)) ⟨l5, fa, upd_same, ⟨nl5, A6.nl.2.1⟩, CC.to (fun es q => st _ _ q) (fun b x q => q.to (fun _ z => z) (.of st)), A6.f, G, U⟩ (st _ _ (sAll _ _ z1)), (EB3.to (fun _ z => z) (.of (sAll.trans st))).to (fun _ z => z) (.but (st _ _ (sAll _ _ z1)) .upd), ?_⟩
          rw [upd_ne A6.nl.2.1]
          exact st _ _ (sAll _ _ f3')
        · refine ifF (decide_eq_false (by rw [List.length_map, q3.len]; omega)) ?_
          exact ⟨_, rfl, A3.more (by decide), EB3, f3'⟩
    · rintro σ H3 ⟨v10, rfl, A3, _, _⟩
      exact ⟨_, rfl, k l _ A3⟩

end
end W1
set_option Elab.async false
set_option linter.all false
set_option maxRecDepth 100000
set_option maxHeartbeats 4000000
namespace W1
open PySem PySem.Spec PyProof.Rows L2 RZ
section
variable {P : Program} {w : World} {K : PySem.W.Frag} {mg : Str → Option Value} {base : Heap}
def spClassesN (K : PySem.W.Frag) : Sp := fun vs H Q _ => ∃ (p : Addr) (cl : ClsT) (fds : List FdT), vs = [.ref p] ∧ SrcX K H p cl fds ∧ TellS cl fds ∧ ∀ a H', Same H H' → H a = none → LstR _ (ClsZ (fun b => H b = none)) H' a cl → Q (.ref a) H'
theorem ok_Source_classesN (T : Ctx w K mg) : HasM P w K mg base 1 "Source" "classes" ["self"] (spClassesN K) := by
  obtain ⟨fd, F⟩ := T.D_Source_classes
  refine ⟨⟨fd, F.ok sc_Source_classes (fun vs H Q E h => ?_) (fun cdv A outer s H vs Q E hr h => ?_), F.bindsN fun _ _ _ _ _ _ us hl => match us, hl with | [_], _ => rfl⟩⟩
  · obtain ⟨p, cl, fds, rfl, X, TS, k⟩ := h; rfl
  · obtain ⟨p, cl, fds, rfl, X, TS, k⟩ := h
    have hu := hu_of hr
    refine ⟨_, PSs.nox (pss_one (ps_ret (pe_lock (pe_lc (own := [("name", 1)]) (g := gName 1) (tt := tYes) rfl sc_Source_classes.nd (pi_keys (pe_fldK (K := K) rfl (pv 0) (by rfl))) (blkOk_by (N := ["self", "name"]) (sc := defScope s_Source_classes) (by decide +kernel)) (fun _ _ _ _ _ => (pg_name (i := 1) sc_Source_classes.nd rfl (Or.inl rfl))) (fun _ _ _ _ _ => pts_nil) (fun _ _ _ _ _ => (pe_tup (pa_cons (pv 1) (pa_cons (pe_callTy (call_list_ofK (K := K) rfl) (by rfl) T.f_list (by decide +kernel) (pa_cons (pe_dget hu (pe_fldK (K := K) rfl (pv 0) (by rfl)) (pv 1) (fun _ _ => rfl)) pa_nil)) pa_nil)))))))), ?_⟩
    obtain ⟨fps, qs, hq, ⟨dx, df, dk, du, fs, S⟩, hfl, hF⟩ := X
    refine ⟨df, .dK (csM cl qs), S.d1, trivial, fun od => ?_⟩
    have obl : upd H df (.frz od (.dK (csM cl qs))) p = some (.ins (He.ga K "Source") dx fs) := by
      rw [upd_ne (ne_of S.ob S.d1 (by intro z; cases z))]
      exact S.ob
    have hdl : upd H df (.frz od (.dK (csM cl qs))) df = some (.frz od (.dK (csM cl qs))) := upd_same
    have kN : KeepN H (upd H df (.frz od (.dK (csM cl qs)))) := fun b u e n => by
      rw [upd_ne (fun z => n (.inl ⟨csM cl qs, by rw [z, S.d1] at e; exact (Option.some.inj e).symm⟩))]
      exact e
    have hql := hq.keepN kN
    refine ⟨_, rfl, p, _, dx, fs, _, rfl, obl, T.c_Source, T.n_Source_fields, S.f1, df, od, rfl, .inl ⟨_, hdl, fun D hD => ?_⟩⟩
    have hlen : (csM cl qs).length = cl.length := by
      unfold csM
      rw [List.length_map, List.length_zip, hq.len, Nat.min_self]
    have lc := TS.lc
    have hlow : ∀ {b : Addr}, upd H df (.frz od (.dK (csM cl qs))) b = none → H b = none := fun {b} z => by
      by_cases w : b = df
      · rw [w, upd_same] at z
        cases z
      · rw [upd_ne w] at z
        exact z
    generalize hHl : upd H df (.frz od (.dK (csM cl qs))) = Hl at *
    refine lc_any (walk_keys (d := df) (o := od) (kvs := csM cl qs)) hD (fun i H1 v => ∃ e, v = .ref e ∧ ∀ c, cl[i]? = some c → ClsZ (fun b => b ≠ D ∧ H b = none) H1 e c) (by omega) (fun i H1 H2 v xs h1 b h => ?_) (fun H2 s2 => s2 _ _ hdl) (fun i H2 y H3 xs hi s2 hDl hy Qe qe => ?_) (fun H2 xs s2 hl hx h2 => ?_)
    · obtain ⟨e, rfl, h⟩ := h
      exact ⟨e, rfl, fun c ec => (h c ec).to (fun _ z => z) (.butZ h1 (fun _ z => z.1) b)⟩
    · obtain ⟨rfl, kk, v, hkv, rfl⟩ := hy
      obtain ⟨c, q, hc, hqi, rfl, rfl⟩ := csM_get hkv
      obtain ⟨ps, tq, pq⟩ := (hql.at_ i c q hc hqi)
      have tq2 := tq.mono s2
      refine ⟨rfl, _, rfl, _, rfl, p, _, dx, fs, _, rfl, s2 _ _ obl, T.c_Source, T.n_Source_fields, S.f1, _, rfl, df, .ref q, rfl, .inl ⟨_, Sum.inr c.1, .inr ⟨od, s2 _ _ hdl⟩, rfl, (cs_at TS.nc hc hqi).symm⟩, q, ps.map V.ref, rfl, .inr tq2.sq, fun l1 hl1 => ?_⟩
      have s3 := Same.new (o := .lst (ps.map V.ref)) hl1
      refine ⟨sz_of (by show 2 ≤ 100000; decide), fun e he => ?_⟩
      have s4 := Same.new (o := .tup [.str c.1, .ref l1]) he
      refine qe _ _ (s3.trans s4) ⟨e, rfl, fun c2 ec => ?_⟩
      rw [hc] at ec
      rw [← Option.some.inj ec]
      refine ⟨l1, ps, upd_same, ⟨fun z => ?_, hlow (none_of s2 hl1)⟩, s4 _ _ upd_same, (pq.mono s2).mono (s3.trans s4)⟩
      rw [z, hDl] at hl1
      cases hl1
    obtain ⟨ts, rfl, hts⟩ := refs_of hx
    rw [List.length_map, hlen] at hl
    refine ⟨s2 _ _ hdl, k D _ (Same.locked S.d1 (by rw [hHl]; exact s2)) (hlow hD) ⟨ts, ?_, hl, fun i e c e1 e2 => (hts i e e1 c e2).to (fun _ z => z.2) (.free (s2 _ _ hdl))⟩⟩
    rw [upd_ne (ne_of h2 (s2 _ _ hdl) (by intro z; cases z))]
    exact h2
/-- all but lists stays -/
def KeepNL (H H' : Hp) : Prop := ∀ b u, H b = some u → (∀ xs, u ≠ .lst xs) → H' b = some u
theorem TupP.nl {H H' : Hp} {a : Addr} {xs : List V} (h : TupP H a xs) (k : KeepNL H H') : TupP H' a xs := by
  obtain ⟨o, e, q⟩ := h
  exact ⟨o, k _ _ e (fun _ z => by cases z), q⟩
theorem PairsG.nl {H H' : Hp} {ps : List Addr} {qs : List (Str × Str)} (h : PairsG H ps qs) (k : KeepNL H H') : PairsG H' ps qs := ⟨h.len, fun i p x a b => k _ _ (h.at_ i p x a b) (fun _ z => by cases z)⟩
theorem SrcX.nl {H H' : Hp} {p : Addr} {cl : ClsT} {fds : List FdT} (h : SrcX K H p cl fds) (k : KeepNL H H') : SrcX K H' p cl fds := by
  obtain ⟨fps, qs, hq, ⟨dx, df, dk, du, fs, S⟩, h2, h3⟩ := h
  refine ⟨fps, qs, ⟨hq.len, fun i c x a b => ?_⟩, ⟨dx, df, dk, du, fs, ⟨k _ _ S.ob (fun _ z => by cases z), S.f1, S.f2, S.f3, S.nm, k _ _ S.d1 (fun _ z => by cases z), k _ _ S.d2 (fun _ z => by cases z), k _ _ S.d3 (fun _ z => by cases z)⟩⟩, h2, fun j f a e1 e2 => ?_⟩
  · obtain ⟨ps, h4, h5⟩ := hq.at_ i c x a b
    exact ⟨ps, h4.nl k, h5.nl k⟩
  · obtain ⟨dx, pa, va, ba, fs, ps, rs, F⟩ := h3 j f a e1 e2
    refine ⟨dx, pa, va, ba, fs, ps, rs, k _ _ F.ob (fun _ z => by cases z), F.f1, F.f2, F.f3, F.f4, F.nohas, F.d1.nl k, F.pr.nl k, k _ _ F.vd (fun _ z => by cases z), F.tb.nl k, ⟨F.kr.len, fun i a r x y => ?_⟩, ?_⟩
    · obtain ⟨l, h4, h5⟩ := F.kr.at_ i a r x y
      refine ⟨l, k _ _ h4 (fun _ z => by cases z), fun bs q => ?_⟩
      have z := h5 bs q
      rw [if_pos rfl] at z ⊢
      exact k _ _ z (fun _ z => by cases z)
    · obtain ⟨h4, oa, qs2, h5, h6, h7⟩ := F.ot
      exact ⟨h4, oa, qs2, h5, h6.nl k, h7.nl k⟩
/-- a source is made of what is right -/
theorem make_src {H : Hp} {x dx ca fa : Addr} {cl : ClsT} {fds : List FdT} {Z : Addr → Prop} {Q : VK} {E : XK} (G : Good cl fds) (h1 : LstR _ (ClsZ Z) H ca cl) (h2 : LstR _ (EntryT Z) H fa fds) (hx : H x = none) (hd : H dx = none) (nd : dx ≠ x)
    (k : ∀ H', Same H H' → SrcX K H' x cl fds → Q .non H') : spSrcInitG K [.ref x, .ref ca, .ref fa] (upd (upd H dx (.own x)) x (.ins (He.ga K "Source") dx [])) Q E := by
  have s1 := Same.new (o := .own x) hd
  have hx2 : upd H dx (.own x) x = none := by
    rw [upd_ne nd.symm]
    exact hx
  have s2 := Same.new (o := .ins (He.ga K "Source") dx []) hx2
  have s := s1.trans s2
  refine ⟨x, dx, ca, fa, cl, fds, rfl, upd_same, G.raw (h1.mono s fun e y q => q.to (fun _ z => z) (.of s)) (h2.mono s fun e y q => q.to (fun _ z => z) (.of s)), fun H' b SX => k H' (fun c u e => ?_) SX⟩
  exact b _ _ (s _ _ e) fun z => by
    rw [z, hx] at e
    cases e
/-- the lists of what is told are lists -/
def Ls (H0 H : Hp) (b : Addr) : Prop := H0 b = none ∧ ∃ xs, H b = some (.lst xs)
theorem ClsZ.ls {H0 H : Hp} {e : Addr} {c : Str × List (Str × Str)} (h : ClsZ (New H0) H e c) : ClsZ (Ls H0 H) H e c := by
  obtain ⟨la, ps, h1, z, h2, h3⟩ := h
  exact ⟨la, ps, h1, ⟨z, _, h2⟩, h2, h3⟩
theorem EntryT.ls {H0 H : Hp} {e : Addr} {f : FdT} (h : EntryT (New H0) H e f) : EntryT (Ls H0 H) H e f := by
  obtain ⟨pa, oa, ra, ps, qs, rs, h1, ⟨z1, z2, z3⟩, h2, h3, h4, h5, h6, h7⟩ := h
  refine ⟨pa, oa, ra, ps, qs, rs, h1, ⟨⟨z1, _, h2⟩, ⟨z2, _, h4⟩, ⟨z3, _, h6⟩⟩, h2, h3, h4, h5, h6, h7.len, fun i a r x y => ?_⟩
  obtain ⟨l, q1, q2⟩ := h7.at_ i a r x y
  exact ⟨l, q1, fun bs z => ⟨⟨(q2 bs z).1, _, (q2 bs z).2⟩, (q2 bs z).2⟩⟩
theorem KeepNot.old {H0 H H' : Hp} (k : KeepNot (Ls H0 H) H H') (s : Same H0 H) : Same H0 H' := fun b u e => k b u (s _ _ e) fun z => by
  rw [z.1] at e
  cases e
theorem KeepNot.nl {H0 H H' : Hp} (k : KeepNot (Ls H0 H) H H') : KeepNL H H' := fun b u e n => k b u e fun z => by
  obtain ⟨_, xs, q⟩ := z
  rw [e] at q
  exact n _ (Option.some.inj q)
/-- what a source is asked -/
theorem SrcW.eqs {cl : ClsT} {fds : List FdT} (S : SrcW cl fds) : EqS cl fds := ⟨⟨S.cw.cok.nd, S.nd, S.cw.cok.l6, S.l6, fun f m => (S.okg f m).le⟩, S.good.sc, S.good.sf⟩
theorem Good.eqs {cl : ClsT} {fds : List FdT} (G : Good cl fds) : EqS cl fds := ⟨⟨G.oc.nd, G.nn, G.oc.l6, G.l6, fun f m => (G.ok f m).ok.le⟩, G.sc, G.sf⟩
theorem Good.both {cl : ClsT} {fds : List FdT} (G : Good cl fds) : SeqAt.shaped (.tuple [clsD cl, fnsD fds]) = true := (Lay.tup (.cons ⟨(cls_lay G.oc.okc).1, Nat.le_trans (cls_lay G.oc.okc).2 (by decide)⟩ (.cons (fns_lay G.okf) .nil))).shaped (n := 6) (by decide)
theorem dp_both {H : Hp} {t a b : Addr} {cl : ClsT} {fds : List FdT} (h : H t = some (.tup [.ref a, .ref b])) (h1 : TCls H a cl) (h2 : TFns H b fds) : Dp K H (.ref t) (.tuple [clsD cl, fnsD fds]) := .tup (SqT.of h) (.cons (dp_cls h1) (.cons (dp_fns h2) .nil))
theorem Good.same {cl : ClsT} {fds : List FdT} (G : Good cl fds) : sameS cl cl fds fds = true := by
  unfold sameS
  rw [self_eq G.sc, self_eq G.sf]
  rfl
end
end W1
set_option Elab.async false
set_option linter.all false
set_option maxRecDepth 100000
set_option maxHeartbeats 4000000
namespace W1
open PySem PySem.Spec PyProof.Rows L2 RZ CA
section
variable {P : Program} {w : World} {K : PySem.W.Frag} {mg : Str → Option Value} {base : Heap}

def spRight (K : PySem.W.Frag) : Sp := fun vs H Q _ => ∃ p, vs = [.ref p] ∧ WellAt H p ∧ ∀ H', But p H H' → Q (.bl true) H'
theorem sc_L_right : FnScope ["_law_well_here", "_law_classes_here", "_law_functions", "_law_handed", "_law_one", "_law_other", "_law_turn", "_law_some_here", "_law_its", "_law_thing", "_law_told"] ["_law_well_here"] (defScope s_L_right) := ⟨rfl, rfl, rfl, by decide +kernel, rfl, by decide +kernel, by decide +kernel⟩
theorem ok_L_right (T : Ctx w K mg) (H_L_parts : Has P w K mg base 6 "_law_parts" ["_law_well_here"] spParts) (H_L_copied : Has P w K mg base 1 "_law_copied" ["_law_classes_here", "_law_functions"] spCopied) (H_L_spoilt : Has P w K mg base 1 "_law_spoilt" ["_law_classes_here", "_law_functions"] spSpoilt) (H_L_unlike : Has P w K mg base 3 "_law_unlike" ["_law_well_here", "_law_classes_here", "_law_functions"] spUnlike) (H_Src : HasM P w K mg base 8 "Source" "__init__" ["self", "classes", "functions"] (spSrcInitG K)) (H_classes : HasM P w K mg base 1 "Source" "classes" ["self"] (spClassesN K)) (H_functions : HasM P w K mg base 3 "Source" "functions" ["self"] (spFunctions K)) (H_eq : HasM P w K mg base 4 "Source" "__eq__" ["self", "other"] (spSrcEq K)) (H_eqN : HasM P w K mg base 4 "Source" "__eq__" ["self", "other"] (spSrcEqN K)) : Has P w K mg base 10 "_law_right" ["_law_well_here"] (spRight K) := by
  obtain ⟨fd, F⟩ := T.D_L_right
  obtain ⟨fd_L_parts, G_L_parts, b_L_parts⟩ := H_L_parts.ex
  obtain ⟨fd_L_copied, G_L_copied, b_L_copied⟩ := H_L_copied.ex
  obtain ⟨fd_L_spoilt, G_L_spoilt, b_L_spoilt⟩ := H_L_spoilt.ex
  obtain ⟨fd_L_unlike, G_L_unlike, b_L_unlike⟩ := H_L_unlike.ex
  refine ⟨⟨fd, F.ok sc_L_right (fun vs H Q E h => ?_) (fun cdv A outer s H vs Q E hr h => ?_), F.bindsN fun _ _ _ _ _ _ us hl => match us, hl with | [_], _ => rfl⟩, F.kp, T.g_L_right⟩
  · obtain ⟨p, rfl, hw, k⟩ := h; rfl
  · obtain ⟨p, rfl, hw, k⟩ := h
    have hr_L_parts : Room 6 _ := hr.mono (by decide)
    have hr_L_copied : Room 1 _ := hr.mono (by decide)
    have hr_L_spoilt : Room 1 _ := hr.mono (by decide)
    have hr_L_unlike : Room 3 _ := hr.mono (by decide)
    have hu := hu_of hr
    obtain ⟨fd_Src, G_Src, b_Src⟩ := H_Src.ex
    obtain ⟨fd_Src_classes, G_Src_classes, b_Src_classes⟩ := H_classes.ex
    obtain ⟨fd_Src_functions, G_Src_functions, b_Src_functions⟩ := H_functions.ex
    obtain ⟨fd_eq, G_eq, b_eq⟩ := H_eq.ex
    obtain ⟨fd_eqN, G_eqN, b_eqN⟩ := H_eqN.ex
    have hr_Src : Room 9 _ := hr.mono (by decide)
    have hr_classes : Room 1 _ := hr.mono (by decide)
    have hr_functions : Room 3 _ := hr.mono (by decide)
    have hr_eq : Room 4 _ := hr.mono (by decide)
    have hr_eq1 : Room 5 _ := hr.mono (by decide)
    refine ⟨_, PSs.nox (pss_cons (ps_asg (pe_call G_L_parts hr_L_parts (by rfl) H_L_parts.gl H_L_parts.kp b_L_parts .nil pass0 (pa_cons (pv 0) pa_nil)) (pg_tup rfl (pgs_cons (pg_name (i := 1) sc_L_right.nd rfl (Or.inl rfl)) (pgs_cons (pg_name (i := 2) sc_L_right.nd rfl (Or.inl rfl)) pgs_nil))))
      (pss_cons (ps_set (i := 3) sc_L_right.nd rfl (Or.inl rfl) (pe_call G_L_copied hr_L_copied (by rfl) H_L_copied.gl H_L_copied.kp b_L_copied .nil pass0 (pa_cons (pv 1) (pa_cons (pv 2) pa_nil))))
      (pss_cons (ps_par (i := 4) (j := 5) (by rfl) sc_L_right.nd rfl rfl (by decide) rfl rfl (pa_cons (pe_make T.k_Source G_Src hr_Src rfl T.g_Source b_Src .nil pass0 (pa_cons (pe_ix ix_tup (pv 3) pe_int (fun _ _ => rfl)) (pa_cons (pe_ix ix_tup (pv 3) pe_int (fun _ _ => rfl)) pa_nil))) (pa_cons (pe_make T.k_Source G_Src hr_Src rfl T.g_Source b_Src .nil pass0 (pa_cons (pv 1) (pa_cons (pv 2) pa_nil))) pa_nil)) (by rfl))
      (pss_cons (ps_expr (pe_call G_L_spoilt hr_L_spoilt (by rfl) H_L_spoilt.gl H_L_spoilt.kp b_L_spoilt .nil pass0 (pa_cons (pe_ix ix_tup (pv 3) pe_int (fun _ _ => rfl)) (pa_cons (pe_ix ix_tup (pv 3) pe_int (fun _ _ => rfl)) pa_nil))))
      (pss_cons (ps_for PassesOwn.never rfl (pi_range1 (by rfl) T.f_range (pa_cons pe_int pa_nil)) (pg_name (i := 6) sc_L_right.nd rfl (Or.inl rfl))
      (pss_cons (ps_set (i := 10) sc_L_right.nd rfl (Or.inl rfl) (pe_tup (pa_cons (pe_meth0 (pv 4) T.c_Source T.m_Source_classes G_Src_classes hr_classes b_Src_classes .nil pass0) (pa_cons (pe_meth0 (pv 4) T.c_Source T.m_Source_functions G_Src_functions hr_functions b_Src_functions .nil pass0) pa_nil))))
      (pss_cons (ps_if (PW.pt (pw_or (pt_cmpR (op_neD hr.units) (pv 10) (pe_tup (pa_cons (pv 1) (pa_cons (pv 2) pa_nil))) (nomark _)) (pw_or (pt_cmpR (GD.op_neI G_eq T.eqFn.1 T.eqFn.2.1 T.eqFn.2.2.1 T.eqFn.2.2.2 b_eq pass0 hr_eq1) (pv 4) (pv 5) (nomark _)) (pw_or1 (pt_not (pt_cmpR (GD.op_eqI G_eq T.eqFn.1 T.eqFn.2.2.2 b_eq pass0 hr_eq) (pv 4) (pv 5) (nomark _))))))) (pss_one (ps_ret pe_bl)) pss_nil)
      (pss_one (ps_expr (pe_call G_L_spoilt hr_L_spoilt (by rfl) H_L_spoilt.gl H_L_spoilt.kp b_L_spoilt .nil pass0 (pa_cons (pe_ix ix_tup (pv 10) pe_int (fun _ _ => rfl)) (pa_cons (pe_ix ix_tup (pv 10) pe_int (fun _ _ => rfl)) pa_nil))))))))
      (pss_cons (ps_for PassesOwn.never rfl (pi_list (pe_call G_L_unlike hr_L_unlike (by rfl) H_L_unlike.gl H_L_unlike.kp b_L_unlike .nil pass0 (pa_cons (pv 0) (pa_cons (pv 1) (pa_cons (pv 2) pa_nil))))) (pg_tup rfl (pgs_cons (pg_name (i := 7) sc_L_right.nd rfl (Or.inl rfl)) (pgs_cons (pg_name (i := 8) sc_L_right.nd rfl (Or.inl rfl)) pgs_nil)))
      (pss_one (ps_if (PW.pt (pw_or (pt_cmpR (GD.op_eqI G_eq T.eqFn.1 T.eqFn.2.2.2 b_eq pass0 hr_eq) (pv 4) (pe_make T.k_Source G_Src hr_Src rfl T.g_Source b_Src .nil pass0 (pa_cons (pv 7) (pa_cons (pv 8) pa_nil))) (nomark _)) (pw_or1 (pt_not (pt_cmpR (GD.op_neI G_eq T.eqFn.1 T.eqFn.2.1 T.eqFn.2.2.1 T.eqFn.2.2.2 b_eq pass0 hr_eq1) (pe_make T.k_Source G_Src hr_Src rfl T.g_Source b_Src .nil pass0 (pa_cons (pv 7) (pa_cons (pv 8) pa_nil))) (pv 4) (nomark _)))))) (pss_one (ps_ret pe_bl)) pss_nil)))
      (pss_cons (ps_for PassesOwn.never rfl (pi_list (pe_lst (pa_cons pe_non (pa_cons pe_int (pa_cons pe_str (pa_cons (pe_tup (pa_cons (pv 1) (pa_cons (pv 2) pa_nil))) (pa_cons (pe_lst (pa_cons (pv 4) pa_nil)) pa_nil))))))) (pg_name (i := 9) sc_L_right.nd rfl (Or.inl rfl))
      (pss_one (ps_if (PW.pt (pw_or (pt_cmpR (GD.op_eqG G_eqN T.eqFn.1 T.eqFn.2.2.2 b_eqN pass0 hr_eq) (pv 4) (pv 9) (nomark _)) (pw_or1 (pt_not (pt_cmpR (GD.op_neG G_eqN T.eqFn.1 T.eqFn.2.1 T.eqFn.2.2.1 T.eqFn.2.2.2 b_eqN pass0 hr_eq1) (pv 4) (pv 9) (nomark _)))))) (pss_one (ps_ret pe_bl)) pss_nil)))
      (pss_one (ps_ret (pe_cmpR (op_eqD hr.units) (pe_tup (pa_cons (pe_meth0 (pv 5) T.c_Source T.m_Source_classes G_Src_classes hr_classes b_Src_classes .nil pass0) (pa_cons (pe_meth0 (pv 5) T.c_Source T.m_Source_functions G_Src_functions hr_functions b_Src_functions .nil pass0) pa_nil))) (pe_tup (pa_cons (pv 1) (pa_cons (pv 2) pa_nil))) (nomark _))))))))))), ?_⟩
    refine ⟨_, rfl, p, rfl, hw, fun t0 ca fa cl fds H1 b1 w1 ht0 ⟨nca, nfa⟩ C1 F1 S => ?_⟩
    have G := S.good
    have C1t : TCls H1 ca cl := C1.chg (fun es q => q) fun e x q => q.to (fun _ _ => trivial) (.of (Same.refl _))
    have F1t : TFns H1 fa fds := F1.chg (fun es q => q) fun e x q => q.to (fun _ _ => trivial) (.of (Same.refl _))
    have lr : ∀ f ∈ fds, f.ns.length ≤ 4 ∧ f.ms.length ≤ 8 ∧ 0 < f.rws.length ∧ f.rws.length ≤ 40 ∧ ∀ r ∈ f.rws, r.namesOf.length ≤ 4 := fun f m => by
      have F := G.ok f m
      refine ⟨F.l1, F.l2, ?_, F.ok.le, fun r k => ?_⟩
      · obtain ⟨r0, rl, e, _⟩ := F.ok.last
        rw [e, List.length_append]
        exact Nat.le_add_left _ _
      · have R := F.rows r k
        cases r with
        | call x2 F2 as =>
          obtain ⟨j2, g, h1, _, h3, _⟩ := R
          have := (G.ok g (List.mem_of_getElem? h1)).l1
          show as.length ≤ 4
          omega
        | _ => exact Nat.zero_le _
    refine ⟨t0, _, rfl, SqT.of ht0, rfl, _, _, rfl, _, _, rfl, rfl, ?_⟩
    refine ⟨_, rfl, _, rfl, ca, fa, cl, fds, rfl, C1t, F1t, G.oc.l6, G.l6, fun f m => (lr f m).2.2.2.1, fun t1 c2 f2 H2 s2 ht1 ⟨n1, n2⟩ C2 F2 => ?_⟩
    refine ⟨_, rfl, t1, _, 0, _, rfl, rfl, SqT.of ht1, at0, _, rfl, t1, _, 1, _, rfl, rfl, SqT.of ht1, at1, fun x1 dx1 hx1 hd1 nd1 => make_src G C2 F2 hx1 hd1 nd1 fun H3 s3 X1 => ⟨rfl, ?_⟩⟩
    have s23 := s2.trans s3
    refine ⟨_, rfl, _, rfl, fun x2 dx2 hx2 hd2 nd2 => make_src G (C1t.mono s23 fun e x q => q.to (fun _ z => z) (.of s23)) (F1t.mono s23 fun e x q => q.to (fun _ z => z) (.of s23)) hx2 hd2 nd2 fun H4 s4 X2 => ⟨rfl, ?_⟩⟩
    have s24 := s23.trans s4
    have s34 := s3.trans s4
    have X1' := X1.mono s4
    have C4 : LstR _ (ClsZ (New H1)) H4 c2 cl := C2.mono s34 fun e x q => q.to (fun _ z => z) (.of s34)
    have F4 : LstR _ (EntryT (New H1)) H4 f2 fds := F2.mono s34 fun e x q => q.to (fun _ z => z) (.of s34)
    have ht4 := s34 _ _ ht1
    have lsC : Ls H1 H4 c2 := ⟨n1, by obtain ⟨es, q, _⟩ := C4; exact ⟨_, q⟩⟩
    have lsF : Ls H1 H4 f2 := ⟨n2, by obtain ⟨es, q, _⟩ := F4; exact ⟨_, q⟩⟩
    have l4 : ∀ c ∈ cl, c.2.length ≤ 4 := fun c m => (G.oc.one c m).2.2.2
    refine ⟨_, _, rfl, _, rfl, t1, _, 0, _, rfl, rfl, SqT.of ht4, at0, _, rfl, t1, _, 1, _, rfl, rfl, SqT.of ht4, at1, ?_⟩
    refine ⟨Ls H1 H4, c2, f2, cl, fds, rfl, ⟨lsC, lsF⟩, C4.chg (fun es q => q) (fun e x q => q.ls), F4.chg (fun es q => q) (fun e x q => q.ls), ⟨G.oc.l6, l4⟩, ⟨G.l1, G.l6⟩, lr, fun H5 k5 => ?_⟩
    have sP := k5.old s24
    have Y1 := X1'.nl k5.nl
    have Y2 := X2.nl k5.nl
    let Co : Hp → Prop := fun H' => But p H H' ∧ WellAt H' p ∧ SrcX K H' x1 cl fds ∧ SrcX K H' x2 cl fds ∧ TCls H' ca cl ∧ TFns H' fa fds
    have CoS : ∀ {H6 H7 : Hp}, Co H6 → Same H6 H7 → Co H7 := fun {H6 H7} ⟨q1, q2, q3, q4, q5, q6⟩ s => ⟨q1.then s, q2.mono s, q3.mono s, q4.mono s, tcls_mono q5 s, tfns_mono q6 s⟩
    have Co5 : Co H5 := ⟨b1.then sP, w1.mono sP, Y1, Y2, tcls_mono C1t sP, tfns_mono F1t sP⟩
    clear C2 F2 X1 X2 X1' C4 F4 ht4 lsC lsF k5 sP Y1 Y2 s24 s34 s23 s2 s3 s4 C1 F1 C1t F1t hx1 hd1 nd1 hx2 hd2 nd2 n1 n2 b1 w1 ht0 ht1
    refine ⟨_, rfl, by decide, by decide, ?_⟩
    refine for_it (walk_range (lo := 0) (n := 2)) (fun i σ H' => ∃ v6 v7 v8 v9 v10 : Option V, σ = [some (.ref p), some (.ref ca), some (.ref fa), some (.ref t1), some (.ref x1), some (.ref x2), v6, v7, v8, v9, v10] ∧ Co H') ⟨_, _, _, _, _, rfl, Co5⟩ (fun _ _ _ _ _ => trivial) ?_ ?_
    · rintro i y σ Hx H6 hi ⟨v6, v7, v8, v9, v10, rfl, CO⟩ ⟨rfl, hy⟩
      obtain ⟨q1, q2, q3, q4, q5, q6⟩ := id CO
      obtain ⟨dx, fs, ob, o1, o2⟩ := q3.ins
      refine ⟨_, rfl, x1, dx, fs, rfl, ob, o1, x1, cl, fds, rfl, q3, G.eqs.toTellS, fun a1 H7 s7 na1 D7 => ?_⟩
      refine ⟨_, rfl, x1, dx, fs, rfl, s7 _ _ ob, o2, x1, cl, fds, rfl, q3.mono s7, G.eqs.toTellS, fun a2 H8 s8 na2 D8 => ⟨sz_of (by show 2 ≤ 100000; decide), fun t3 g3 => ?_⟩⟩
      have s9 := Same.new (o := .tup [.ref a1, .ref a2]) g3
      have na2' : H6 a2 = none := none_of s7 na2
      have D7' : LstR _ (ClsZ (New H6)) (upd H8 t3 (.tup [.ref a1, .ref a2])) a1 cl := (D7.mono (s8.trans s9) fun e x q => q.to (fun _ z => z) (.of (s8.trans s9)))
      have D8' : LstR _ (EntryT (New H6)) (upd H8 t3 (.tup [.ref a1, .ref a2])) a2 fds := (D8.chg (fun es q => s9 _ _ q) fun e x q => q.to (fun _ z => none_of s7 z) (.of s9))
      have h3 := upd_same (H := H8) (a := t3) (o := .tup [.ref a1, .ref a2])
      have s69 := s7.trans (s8.trans s9)
      generalize upd H8 t3 (.tup [.ref a1, .ref a2]) = H9 at s69 h3 D7' D8'
      clear D7 D8 s7 s8 s9 g3 na2
      have tc9 : TCls H9 a1 cl := D7'.chg (fun es q => q) fun e x q => q.to (fun _ _ => trivial) (.of (Same.refl _))
      have tf9 : TFns H9 a2 fds := D8'.chg (fun es q => q) fun e x q => q.to (fun _ _ => trivial) (.of (Same.refl _))
      have CO9 := CoS CO s69
      obtain ⟨r1, r2, r3, r4, r5, r6⟩ := id CO9
      refine ⟨_, rfl, _, rfl, _, rfl, sz_of (by show 2 ≤ 100000; decide), fun t4 g4 => ?_⟩
      have s10 := Same.new (o := .tup [.ref ca, .ref fa]) g4
      refine ⟨_, _, dp_both (s10 _ _ h3) (tcls_mono tc9 s10) (tfns_mono tf9 s10), dp_both upd_same (tcls_mono r5 s10) (tfns_mono r6 s10), G.both, G.both, ?_⟩
      refine ⟨_, rfl, ifF (by rw [self_eq G.both]; rfl) ?_⟩
      obtain ⟨dy, gs, ob2, _, _⟩ := r4.ins
      refine ⟨_, rfl, _, rfl, x1, x2, dx, dy, fs, gs, rfl, rfl, s10 _ _ (s69 _ _ ob), s10 _ _ ob2, x1, x2, cl, cl, fds, fds, rfl, r3.mono s10, r4.mono s10, G.eqs, G.eqs, fun H11 s11 => ⟨_, rfl, ?_⟩⟩
      refine ⟨_, rfl, ifF (by rw [G.same]; rfl) ?_⟩
      have s911 := s10.trans s11
      refine ⟨_, rfl, _, rfl, x1, x2, dx, dy, fs, gs, rfl, rfl, s911 _ _ (s69 _ _ ob), s911 _ _ ob2, x1, x2, cl, cl, fds, fds, rfl, r3.mono s911, r4.mono s911, G.eqs, G.eqs, fun H12 s12 => ⟨_, rfl, ?_⟩⟩
      have s912 := s911.trans s12
      refine ⟨_, rfl, ifF (by rw [G.same]; rfl) ?_⟩
      have h12 := s912 _ _ h3
      have s612 := s69.trans s912
      refine ⟨_, rfl, t3, _, 0, _, rfl, rfl, SqT.of h12, at0, _, rfl, t3, _, 1, _, rfl, rfl, SqT.of h12, at1, ?_⟩
      have C12 : LstR _ (ClsZ (New H6)) H12 a1 cl := D7'.mono s912 fun e x q => q.to (fun _ z => z) (.of s912)
      have F12 : LstR _ (EntryT (New H6)) H12 a2 fds := D8'.mono s912 fun e x q => q.to (fun _ z => z) (.of s912)
      have lsC : Ls H6 H12 a1 := ⟨na1, by obtain ⟨es, q, _⟩ := C12; exact ⟨_, q⟩⟩
      have lsF : Ls H6 H12 a2 := ⟨na2', by obtain ⟨es, q, _⟩ := F12; exact ⟨_, q⟩⟩
      refine ⟨Ls H6 H12, a1, a2, cl, fds, rfl, ⟨lsC, lsF⟩, C12.chg (fun es q => q) (fun e x q => q.ls), F12.chg (fun es q => q) (fun e x q => q.ls), ⟨G.oc.l6, l4⟩, ⟨G.l1, G.l6⟩, lr, fun H13 k13 => ?_⟩
      exact ⟨_, _, _, _, _, rfl, CoS CO (k13.old s612)⟩
    rintro σ H6 ⟨v6, v7, v8, v9, v10, rfl, CO⟩
    obtain ⟨q1, q2, q3, q4, q5, q6⟩ := id CO
    refine ⟨_, rfl, _, rfl, _, rfl, p, ca, fa, cl, fds, rfl, q2, q5, q6, S, fun l H7 AL => ?_⟩
    have nl7 : KeepNL H6 H7 := fun b u e n => AL.b _ _ e fun z => by
      obtain ⟨_, _, _, q⟩ := q2
      rw [z, q] at e
      exact n _ (Option.some.inj e).symm
    have CO7 : Co H7 := ⟨q1.trans AL.b, AL.w, q3.nl nl7, q4.nl nl7, AL.c.chg (fun es q => q) (fun e x q => q.to (fun _ _ => trivial) (.of (Same.refl _))), AL.f.chg (fun es q => q) (fun e x q => q.to (fun _ _ => trivial) (.of (Same.refl _)))⟩
    obtain ⟨ts, xs, a1, a2, a3⟩ := AL.al
    clear q1 q2 q3 q4 q5 q6 CO nl7 AL Co5
    refine ⟨l, rfl, ⟨_, SqL.of a1⟩, ?_⟩
    refine for_it (walk_list (K := K) (a := l) (xs := ts.map V.ref)) (fun i σ H8 => ∃ v6 v7 v8 v9 v10 : Option V, σ = [some (.ref p), some (.ref ca), some (.ref fa), some (.ref t1), some (.ref x1), some (.ref x2), v6, v7, v8, v9, v10] ∧ Same H7 H8) ⟨_, _, _, _, _, rfl, Same.refl _⟩ (fun i σ H8 _ ⟨_, _, _, _, _, _, s⟩ => SqL.of (s _ _ a1)) ?_ ?_
    · rintro i y σ Hx H8 hi ⟨v6, v7, v8, v9, v10, rfl, s8⟩ ⟨rfl, hy⟩
      obtain ⟨t, ht, rfl⟩ := map_get hy
      have hix : i < xs.length := by rw [← a2.1]; exact (List.getElem?_eq_some_iff.mp ht).1
      have hxi : xs[i]? = some xs[i] := List.getElem?_eq_getElem hix
      obtain ⟨cc, ff, b1, _, b2, b3, G2, U2⟩ := a2.2 i t _ ht hxi
      generalize xs[i] = x at hxi b2 b3 G2 U2
      obtain ⟨cl2, fd2⟩ := x
      have CO8 := CoS CO7 s8
      obtain ⟨r1, r2, r3, r4, r5, r6⟩ := id CO8
      obtain ⟨dx, fs, ob, _, _⟩ := r3.ins
      refine ⟨t, _, rfl, SqT.of (s8 _ _ b1), rfl, _, _, rfl, _, _, rfl, rfl, ?_⟩
      have U3 : sameS cl2 cl fd2 fds = false := by
        unfold sameS at U2 ⊢
        rw [PySem.W.eqv_comm (clsD cl2), PySem.W.eqv_comm (fnsD fd2)]
        exact U2
      refine ⟨_, rfl, _, rfl, _, rfl, fun x3 dx3 hx3 hd3 nd3 => make_src G2 (b2.mono s8 fun e x q => q.to (fun _ z => z) (.of s8)) (b3.mono s8 fun e x q => q.to (fun _ z => z) (.of s8)) hx3 hd3 nd3 fun H9 s9 X3 => ⟨rfl, ?_⟩⟩
      obtain ⟨dz, gs, oz, _, _⟩ := X3.ins
      refine ⟨x1, x3, dx, dz, fs, gs, rfl, rfl, s9 _ _ ob, oz, x1, x3, cl, cl2, fds, fd2, rfl, r3.mono s9, X3, G.eqs, G2.eqs, fun H10 s10 => ⟨_, rfl, ?_⟩⟩
      refine ⟨_, rfl, ifF (by rw [U2]; rfl) ?_⟩
      have s80 := s8.trans (s9.trans s10)
      refine ⟨_, rfl, _, rfl, fun x4 dx4 hx4 hd4 nd4 => make_src G2 (b2.mono s80 fun e x q => q.to (fun _ z => z) (.of s80)) (b3.mono s80 fun e x q => q.to (fun _ z => z) (.of s80)) hx4 hd4 nd4 fun H11 s11 X4 => ⟨rfl, ?_⟩⟩
      obtain ⟨dw, gw, ow, _, _⟩ := X4.ins
      have s911 := s9.trans (s10.trans s11)
      refine ⟨_, rfl, x4, x1, dw, dx, gw, fs, rfl, rfl, ow, s911 _ _ ob, x4, x1, cl2, cl, fd2, fds, rfl, X4, r3.mono s911, G2.eqs, G.eqs, fun H12 s12 => ⟨_, rfl, ?_⟩⟩
      refine ⟨_, rfl, ifF (by rw [U3]; rfl) ?_⟩
      exact ⟨_, _, _, _, _, rfl, s8.trans (s911.trans s12)⟩
    rintro σ H8 ⟨v6, v7, v8, v9, v10, rfl, s8⟩
    have CO8 := CoS CO7 s8
    clear CO7 s8 a1 a2 a3
    obtain ⟨r1, r2, r3, r4, r5, r6⟩ := id CO8
    obtain ⟨dx, fs, ob, _, _⟩ := r3.ins
    refine ⟨_, rfl, _, rfl, sz_of (by show 2 ≤ 100000; decide), fun t5 g5 => ⟨_, rfl, sz_of (by show 1 ≤ 100000; decide), fun l5 h5 => ⟨sz_of (by show 5 ≤ 100000; decide), fun l6 h6 => ?_⟩⟩⟩
    have s1 := Same.new (o := .tup [.ref ca, .ref fa]) g5
    have s2 := Same.new (o := .lst [.ref x1]) h5
    have s3 := Same.new (o := .lst [.non, .int 5, .str "source", .ref t5, .ref l5]) h6
    have s13 := s1.trans (s2.trans s3)
    have e5 := (s2.trans s3) _ _ (upd_same (H := H8) (a := t5) (o := .tup [.ref ca, .ref fa]))
    have e6 := s3 _ _ (upd_same (H := upd H8 t5 (.tup [.ref ca, .ref fa])) (a := l5) (o := .lst [.ref x1]))
    have e7 := upd_same (H := upd (upd H8 t5 (.tup [.ref ca, .ref fa])) l5 (.lst [.ref x1])) (a := l6) (o := .lst [.non, .int 5, .str "source", .ref t5, .ref l5])
    generalize upd (upd (upd H8 t5 (.tup [.ref ca, .ref fa])) l5 (.lst [.ref x1])) l6 (.lst [.non, .int 5, .str "source", .ref t5, .ref l5]) = H9 at s13 e5 e6 e7
    have CO9 := CoS CO8 s13
    have ob9 := s13 _ _ ob
    clear r1 r2 r3 r4 r5 r6 CO8 s1 s2 s3 g5 h5 h6
    have thing : ∀ (k : Nat) v, [V.non, .int 5, .str "source", .ref t5, .ref l5][k]? = some v → ∀ H', Same H9 H' → ∃ t : String, TyX K H' v (.type t) ∧ PySem.W.kitOne K (.type t) (.ref (He.ga K "Source")) = some false := fun k v e H' s => by
      rcases k with _ | _ | _ | _ | _ | k
      · rw [← Option.some.inj e]
        exact ⟨"NoneType", .base .non, T.noSrc (by decide +kernel)⟩
      · rw [← Option.some.inj e]
        exact ⟨"int", .base (.int 5), T.noSrc (by decide +kernel)⟩
      · rw [← Option.some.inj e]
        exact ⟨"str", .base (.str _), T.noSrc (by decide +kernel)⟩
      · rw [← Option.some.inj e]
        exact ⟨"tuple", .base (.tup (s _ _ e5)), T.noSrc (by decide +kernel)⟩
      · rw [← Option.some.inj e]
        exact ⟨"list", .base (.lst (s _ _ e6)), T.noSrc (by decide +kernel)⟩
      · cases e
    refine ⟨l6, rfl, ⟨_, SqL.of e7⟩, ?_⟩
    refine for_it (walk_list (K := K) (a := l6) (xs := [.non, .int 5, .str "source", .ref t5, .ref l5])) (fun i σ H' => ∃ v6 v7 v8 v9 v10 : Option V, σ = [some (.ref p), some (.ref ca), some (.ref fa), some (.ref t1), some (.ref x1), some (.ref x2), v6, v7, v8, v9, v10] ∧ Same H9 H') ⟨_, _, _, _, _, rfl, Same.refl _⟩ (fun i σ H' _ ⟨_, _, _, _, _, _, s⟩ => SqL.of (s _ _ e7)) ?_ ?_
    · rintro i y σ Hx H10 hi ⟨v6, v7, v8, v9, v10, rfl, s10⟩ ⟨rfl, hy⟩
      obtain ⟨r1, r2, r3, r4, r5, r6⟩ := CoS CO9 s10
      obtain ⟨tt, ty, tn⟩ := thing i y hy H10 s10
      refine ⟨_, rfl, _, rfl, x1, dx, fs, _, rfl, s10 _ _ ob9, ty, GD.first_no tn, x1, y, _, cl, fds, rfl, r3, ty, tn, fun H11 s11 => ⟨_, rfl, ?_⟩⟩
      refine ⟨_, rfl, ifF rfl ?_⟩
      obtain ⟨tt2, ty2, tn2⟩ := thing i y hy H11 (s10.trans s11)
      refine ⟨_, rfl, _, rfl, x1, dx, fs, _, rfl, s11 _ _ (s10 _ _ ob9), ty2, GD.first_no tn2, x1, y, _, cl, fds, rfl, r3.mono s11, ty2, tn2, fun H12 s12 => ⟨_, rfl, ?_⟩⟩
      refine ⟨_, rfl, ifF rfl ?_⟩
      exact ⟨_, _, _, _, _, rfl, s10.trans (s11.trans s12)⟩
    rintro σ H10 ⟨v6, v7, v8, v9, v10, rfl, s10⟩
    obtain ⟨r1, r2, r3, r4, r5, r6⟩ := CoS CO9 s10
    obtain ⟨dy, gs, ob2, o1, o2⟩ := r4.ins
    refine ⟨_, rfl, x2, dy, gs, rfl, ob2, o1, x2, cl, fds, rfl, r4, G.eqs.toTellS, fun a1 H11 s11 na1 D11 => ?_⟩
    refine ⟨_, rfl, x2, dy, gs, rfl, s11 _ _ ob2, o2, x2, cl, fds, rfl, r4.mono s11, G.eqs.toTellS, fun a2 H12 s12 na2 D12 => ⟨sz_of (by show 2 ≤ 100000; decide), fun t7 g7 => ?_⟩⟩
    have s13 := Same.new (o := .tup [.ref a1, .ref a2]) g7
    refine ⟨_, rfl, _, rfl, sz_of (by show 2 ≤ 100000; decide), fun t8 g8 => ?_⟩
    have s14 := Same.new (o := .tup [.ref ca, .ref fa]) g8
    have sB := s13.trans s14
    have sA := s11.trans (s12.trans sB)
    have tc : TCls _ a1 cl := tcls_mono (D11.chg (fun es q => q) fun e x q => q.to (fun _ _ => trivial) (.of (Same.refl _))) (s12.trans sB)
    have tf : TFns _ a2 fds := tfns_mono (tfns_any D12) sB
    refine ⟨_, _, dp_both (s14 _ _ upd_same) tc tf, dp_both upd_same (tcls_mono r5 sA) (tfns_mono r6 sA), G.both, G.both, ?_⟩
    rw [self_eq G.both]
    exact k _ (r1.then sA)

end
end W1
set_option Elab.async false
set_option linter.all false
set_option maxRecDepth 100000
set_option maxHeartbeats 4000000
namespace W1
open PySem PySem.Spec PyProof.Rows L2 RZ CA
section
variable {P : Program} {w : World} {K : PySem.W.Frag} {mg : Str → Option Value} {base : Heap}

def spLaw (K : PySem.W.Frag) : Sp := fun vs H Q _ => ∃ (a : Addr) (ns : List Int), vs = [.ref a] ∧ SqL K H a (ns.map V.int) ∧ ns.length ≤ 63 ∧ ∀ H', Q (.bl true) H'
theorem sc_law : FnScope ["_law_script", "_law_k"] ["_law_script"] (defScope s_law) := ⟨rfl, rfl, rfl, by decide +kernel, rfl, by decide +kernel, by decide +kernel⟩
theorem ok_law {fd : FuncData} (T : Ctx w K mg) (F : FunD K "law" "law" (defArgs s_law) (defBody s_law) (defScope s_law) [] [] (He.ga K "law") fd) (H_L_well : Has P w K mg base 1 "_law_well" ["_law_script", "_law_k"] (spWell K)) (H_L_right : Has P w K mg base 10 "_law_right" ["_law_well_here"] (spRight K)) : FnOk P w K mg base CX0 11 (He.ga K "law") fd ["_law_script"] (spLaw K) := by
  obtain ⟨fd_L_right, G_L_right, b_L_right⟩ := H_L_right.ex
  obtain ⟨fd_L_well, G_L_well, b_L_well⟩ := H_L_well.ex
  refine F.ok sc_law (fun vs H Q E h => ?_) (fun cdv A outer s H vs Q E hr h => ?_)
  · obtain ⟨a, ns, rfl, hS, hl, k⟩ := h; rfl
  · obtain ⟨a, ns, rfl, hS, hl, k⟩ := h
    have hr_L_right : Room 10 _ := hr.mono (by decide)
    have hr_L_well : Room 1 _ := hr.mono (by decide)
    have hu := hu_of hr
    refine ⟨_, PSs.nox (pss_cons (ps_for PassesOwn.never rfl (pi_range1 (by rfl) T.f_range (pa_cons (pe_callB (call_max2 rfl) (by rfl) T.f_max (by decide +kernel) (pa_cons pe_int (pa_cons (pe_callB (call_min2 rfl) (by rfl) T.f_min (by decide +kernel) (pa_cons pe_int (pa_cons (pe_callB (call_lenK (K := K) rfl) (by rfl) T.f_len (by decide +kernel) (pa_cons (pv 0) pa_nil)) pa_nil))) pa_nil))) pa_nil)) (pg_name (i := 1) sc_law.nd rfl (Or.inl rfl))
      (pss_one (ps_if (pt_not (pt_val (pe_call G_L_right hr_L_right (by rfl) H_L_right.gl H_L_right.kp b_L_right .nil pass0 (pa_cons (pe_call G_L_well hr_L_well (by rfl) H_L_well.gl H_L_well.kp b_L_well .nil pass0 (pa_cons (pv 0) (pa_cons (pv 1) pa_nil))) pa_nil)))) (pss_one (ps_ret pe_bl)) pss_nil)))
      (pss_one (ps_ret pe_bl))), ?_⟩
    have hlen : (ns.map V.int).length ≤ 63 := by rw [List.length_map]; exact hl
    refine ⟨_, rfl, a, _, rfl, hS, 4, _, rfl, 1, _, rfl, _, rfl, ?_⟩
    obtain ⟨n, en, hn⟩ : ∃ n : Nat, (if (if (↑(ns.map V.int).length : Int) < 4 then (↑(ns.map V.int).length : Int) else 4) > 1 then (if (↑(ns.map V.int).length : Int) < 4 then (↑(ns.map V.int).length : Int) else 4) else 1) = (n : Int) ∧ n ≤ 4 := by
      by_cases c1 : ((ns.map V.int).length : Int) < 4
      · rw [if_pos c1]
        by_cases c2 : ((ns.map V.int).length : Int) > 1
        · rw [if_pos c2]
          exact ⟨_, rfl, by omega⟩
        · rw [if_neg c2]
          exact ⟨1, rfl, by decide⟩
      · rw [if_neg c1, if_pos (by decide)]
        exact ⟨4, rfl, by decide⟩
    rw [en]
    refine ⟨by omega, by omega, ?_⟩
    have em : ((n : Int)).toNat = n := Int.toNat_natCast n
    rw [em]
    refine for_it (walk_range (lo := 0) (n := n)) (fun j σ H6 => Same H H6 ∧ ∃ v1 : Option V, σ = [some (.ref a), v1]) ⟨Same.refl _, _, rfl⟩ (fun _ _ _ _ _ => trivial) ?_ (fun σ H6 q => k _)
    rintro j y σ H6' H6 hj ⟨s6, v1, rfl⟩ ⟨rfl, hy⟩
    have hy2 : y = .int (j : Int) := by
      rw [hy]
      exact congrArg V.int (Int.zero_add _)
    subst hy2
    refine ⟨_, rfl, _, rfl, a, ns, j, rfl, sql_mono hS s6, by omega, fun p H7 s7 hp w7 => ⟨p, rfl, w7, fun H8 b8 => ⟨_, rfl, ifF rfl ⟨?_, _, rfl⟩⟩⟩⟩
    refine s6.trans fun b u e => b8 _ _ (s7 _ _ e) fun z => ?_
    rw [z, hp] at e
    cases e

end
end W1
set_option Elab.async false
set_option linter.all false
set_option maxRecDepth 100000
set_option maxHeartbeats 4000000
namespace W1
open PySem PySem.Spec PyProof.Rows L2 RZ
theorem law_has {P : Program} {w : World} {K : PySem.W.Frag} {mg : Str → Option Value} {base : Heap} {fd : FuncData} (T : Ctx w K mg) (F : FunD K "law" "law" (defArgs s_law) (defBody s_law) (defScope s_law) [] [] (He.ga K "law") fd) : FnOk P w K mg base CX0 11 (He.ga K "law") fd ["_law_script"] (spLaw K) := by
  have h_is_integer := ok_is_integer (P := P) (base := base) T
  have h_is_integer_in := ok_is_integer_in (P := P) (base := base) T (H_is_integer := h_is_integer)
  have h_is_written_number := ok_is_written_number (P := P) (base := base) T (H_is_integer_in := h_is_integer_in)
  have h_is_name := ok_is_name (P := P) (base := base) T
  have h_is_tuple_of := ok_is_tuple_of (P := P) (base := base) T
  have h_is_list_of := ok_is_list_of (P := P) (base := base) T
  have h_is_word_tuple := ok_is_word_tuple (P := P) (base := base) T
  have h_frozen0 := ok_frozen0 (P := P) (base := base) T
  have h_frozen1 := ok_frozen1 (P := P) (base := base) T (H_frozen := h_frozen0)
  have h_frozen2 := ok_frozen2 (P := P) (base := base) T (H_frozen := h_frozen1)
  have h_Source_fields_of := ok_Source_fields_of (P := P) (base := base) T
  have h_Source_field_kind := ok_Source_field_kind (P := P) (base := base) T
  have h_Source_function_at := ok_Source_function_at (P := P) (base := base) T
  have h_is_list_of_names := ok_is_list_of_names (P := P) (base := base) T (H_is_name := h_is_name)
  have h_fills := ok_fills (P := P) (base := base) T (H_is_name := h_is_name) (H_is_written_number := h_is_written_number) (H_is_integer := h_is_integer) (H_Source_fields_of := h_Source_fields_of) (H_Source_field_kind := h_Source_field_kind) (H_Source_function_at := h_Source_function_at) (H_is_list_of_names := h_is_list_of_names)
  have h_is_row := ok_is_row (P := P) (base := base) T (H_is_word_tuple := h_is_word_tuple) (H_fills := h_fills)
  have h_row_sets := ok_row_sets (P := P) (base := base) T
  have h_row_reads := ok_row_reads (P := P) (base := base) T
  have h_names_in := ok_names_in (P := P) (base := base) T (H_row_reads := h_row_reads) (H_row_sets := h_row_sets)
  have h_call_fits := ok_call_fits (P := P) (base := base) T
  have h_row_kinds_fit := ok_row_kinds_fit (P := P) (base := base) T (H_names_in := h_names_in) (H_call_fits := h_call_fits) (H_Source_field_kind := h_Source_field_kind) (H_Source_function_at := h_Source_function_at)
  have h_frozenM := ok_frozenM (P := P) (base := base) T (H_frozen := h_frozen0)
  have h_frozenR := ok_frozenR (P := P) (base := base) T (H_frozen := h_frozenM)
  have h_frozenW := ok_frozenW (P := P) (base := base) T (H_frozen := h_frozenR)
  have h_Source_is_row_of := ok_Source_is_row_of (P := P) (base := base) T (H_is_row := h_is_row) (H_row_sets := h_row_sets) (H_row_reads := h_row_reads) (H_row_kinds_fit := h_row_kinds_fit)
  have h_Source_take_rows := ok_Source_take_rows (P := P) (base := base) T (H_Source_is_row_of := h_Source_is_row_of) (H_frozen := h_frozenW)
  have h_is_kindG := ok_is_kindG (P := P) (base := base) T
  have h_are_named_kindsG := ok_are_named_kindsG (P := P) (base := base) T (H_is_list_of := h_is_list_of) (H_is_tuple_of := h_is_tuple_of) (H_is_name := h_is_name) (H_is_kind := h_is_kindG)
  have h_is_head := ok_is_head (P := P) (base := base) T (H_is_tuple_of := h_is_tuple_of) (H_is_name := h_is_name) (H_is_kind := h_is_kindG) (H_are_named_kinds := h_are_named_kindsG) (H_is_list_of := h_is_list_of)
  have h_is_class := ok_is_class (P := P) (base := base) T (H_is_tuple_of := h_is_tuple_of) (H_is_name := h_is_name) (H_are_named_kinds := h_are_named_kindsG)
  have h_Source_kinds_differ := ok_Source_kinds_differ (P := P) (base := base) T
  have h_Source_take_classes := ok_Source_take_classes (P := P) (base := base) T (H_is_list_of := h_is_list_of) (H_is_class := h_is_class) (H_Source_kinds_differ := h_Source_kinds_differ) (H_frozen := h_frozen2)
  have h_Function_init := ok_Function_init (P := P) (base := base) T (H_frozen := h_frozen2)
  have h_Source_take_heads := ok_Source_take_heads (P := P) (base := base) T (H_is_list_of := h_is_list_of) (H_is_head := h_is_head) (H_Function_init := h_Function_init)
  have h_Source_init := ok_Source_init (P := P) (base := base) T (H_Source_take_classes := h_Source_take_classes) (H_Source_take_heads := h_Source_take_heads) (H_Source_take_rows := h_Source_take_rows)
  have h_told_row := ok_told_row (P := P) (base := base) T
  have h_told_function := ok_told_function (P := P) (base := base) T (H_told_row := h_told_row)
  have h_Source_classes := ok_Source_classes (P := P) (base := base) T
  have h_Source_functions := ok_Source_functions (P := P) (base := base) T (H_told_function := h_told_function)
  have h_L_mix := ok_L_mix (P := P) (base := base) T
  have h_L_well := ok_L_well (P := P) (base := base) T
  have h_L_draw := ok_L_draw (P := P) (base := base) T (H_L_mix := h_L_mix)
  have h_L_pick := ok_L_pick (P := P) (base := base) T (H_L_draw := h_L_draw)
  have h_Source_eq := ok_Source_eq (P := P) (base := base) T (H_Source_classes := h_Source_classes) (H_Source_functions := h_Source_functions)
  have h_Source_eqN := ok_Source_eqN (P := P) (base := base) T (H_Source_classes := h_Source_classes) (H_Source_functions := h_Source_functions)
  have h_Source_classesN := ok_Source_classesN (P := P) (base := base) T
  have h_L_some := ok_L_some (P := P) (base := base) T (H_L_draw := h_L_draw)
  have h_L_classes := ok_L_classes (P := P) (base := base) T (H_L_some := h_L_some)
  have h_L_heads := ok_L_heads (P := P) (base := base) T (H_L_draw := h_L_draw) (H_L_pick := h_L_pick) (H_L_some := h_L_some)
  have h_L_named := ok_L_named (P := P) (base := base) T
  have h_L_number_rows := ok_L_number_rows (P := P) (base := base) T (H_L_draw := h_L_draw) (H_L_pick := h_L_pick)
  have h_L_object_rows := ok_L_object_rows (P := P) (base := base) T (H_L_pick := h_L_pick)
  have h_L_field_rows := ok_L_field_rows (P := P) (base := base) T (H_L_pick := h_L_pick) (H_L_named := h_L_named)
  have h_L_call_rows := ok_L_call_rows (P := P) (base := base) T (H_L_pick := h_L_pick) (H_L_named := h_L_named)
  have h_L_rows := ok_L_rows (P := P) (base := base) T (H_L_draw := h_L_draw) (H_L_pick := h_L_pick) (H_L_named := h_L_named) (H_L_number_rows := h_L_number_rows) (H_L_object_rows := h_L_object_rows) (H_L_field_rows := h_L_field_rows) (H_L_call_rows := h_L_call_rows)
  have h_L_parts := ok_L_parts (P := P) (base := base) T (H_L_pick := h_L_pick) (H_L_draw := h_L_draw) (H_L_classes := h_L_classes) (H_L_heads := h_L_heads) (H_L_rows := h_L_rows)
  have h_L_copied := ok_L_copied (P := P) (base := base) T
  have h_L_spoilt := ok_L_spoilt (P := P) (base := base) T
  have h_L_unlike := ok_L_unlike (P := P) (base := base) T (H_L_draw := h_L_draw)
  have h_L_right := ok_L_right (P := P) (base := base) T (H_L_parts := h_L_parts) (H_L_copied := h_L_copied) (H_L_spoilt := h_L_spoilt) (H_L_unlike := h_L_unlike) (H_Src := h_Source_init) (H_classes := h_Source_classesN) (H_functions := h_Source_functions) (H_eq := h_Source_eq) (H_eqN := h_Source_eqN)
  have h_law := ok_law (P := P) (base := base) (fd := fd) T F (H_L_well := h_L_well) (H_L_right := h_L_right)
  exact h_law
theorem facts {P : Program} {w : World} {K : PySem.W.Frag} {h : Heap} {mg : Str → Option Value} {f : Addr} (X : K.In h) (G : h.Ns mainGlobals mg) (hfa : mg ("law" : Str) = some (.ref f)) (c : He.SaysX fa fn ts [] ex w h K) :
    ∃ fd : FuncData, (∀ (s : Shared) (v : Value), BindsTo s fd ⟨[v], []⟩ [("_law_script", v)]) ∧ ∀ base : Heap, K.In base → base.Ns mainGlobals mg → FnOk P w K mg base CX0 11 f fd ["_law_script"] (spLaw K) := by
  have T : Ctx w K mg := ⟨⟨h, X, G⟩, c.t, c.more⟩
  obtain ⟨fd, F⟩ := T.D_law
  have e := hfa.symm.trans T.g_law
  cases e
  have b := FunD.bindsA (ps := ["_law_script"]) F fun _ _ _ _ _ _ us hl => match us, hl with | [_], _ => rfl
  exact ⟨fd, fun s v => b s [v] rfl, fun base _ _ => law_has T F⟩
end W1
set_option Elab.async false
set_option linter.all false
set_option maxRecDepth 100000
set_option maxHeartbeats 0
open PySem PySem.W PySem.Calls PyProof.Rows
theorem PySem.Challenge.cw_backframes_k01_sources_made_holds : PySem.Challenge.rw_backframes_k01_sources_made.Holds := by
  w_on; o_law
  refine HandSHeadRun.head_any (r := OpenLaw.row PySem.Challenge.rw_backframes_k01_sources_made) (q := view (OpenLaw.row PySem.Challenge.rw_backframes_k01_sources_made).prog [64]) (H := W1.hk) (ob := W1.ob) (M := 8000) (loose := W1.nms) (d := HandSHeadRun.topDef (OpenLaw.row PySem.Challenge.rw_backframes_k01_sources_made).prog 64) (kwd := []) W1.ob_eq
    (by kernel_rfl) (fun s => by kernel_rfl) W1.run (by kernel_rfl) (by kernel_rfl) (by kernel_rfl) (by rfl) (by first | assumption | decide +kernel) (by decide +kernel) ⟨rfl, rfl, rfl, rfl, rfl, by decide +kernel⟩ ?hw ?hc
  case hw => w_witness2
  case hc =>
    refine L2.walk_ofE (l := PySem.Challenge.rw_backframes_k01_sources_made) (n := 63) (k := 11) (x := "_law_script") (CX := L2.CX0) rfl (by decide) (by kernel_rfl) ⟨rfl, by decide, by decide⟩ ?F (fun _ _ _ _ z => z)
    intro w mg fa h Y G hmg0
    obtain ⟨K, KX, c⟩ := Y
    have hmg : mg ("law" : PySem.Str) = some (.ref fa) := by
      have e : (HandSHeadRun.topDef (OpenLaw.row PySem.Challenge.rw_backframes_k01_sources_made).prog 64).name = ("law" : PySem.Str) := by kernel_rfl
      rw [← e]
      exact hmg0
    obtain ⟨fd, hb, hF⟩ := W1.facts (P := (PySem.Challenge.rw_backframes_k01_sources_made).prog) (w := w) KX G hmg c
    exact ⟨K, fd, W1.spLaw K, KX, hb, fun H a ns hl _ hS => ⟨a, ns, rfl, hS, hl, fun _ => rfl⟩, hF⟩
