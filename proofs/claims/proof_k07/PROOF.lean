import PyProof.Rows.All
import Wide.All
import OpenK.AllK
import Wide.FinOn
import HandS.ExcInit
import HandS.ExcField
import KE.KExcInit
import HandS.TryMany
import HandS.ExcIs
import HandS.IsInst
import HandS.List
import HandS.Iter
import PyProof.AutoSeq1
import PyProof.ListOps
import KE.KStateDown
import HandS.ForMost
import HandS.More
import HandS.Words
import HandS.Defaults
import HandS.Head0
import HandS.Head1
import HandS.Head2
import HandS.HeadEnd
import HandS.HeadHook1
import HandS.HeadHook2
import HandS.HeadHook3
import HandS.HeadHook4
import HandS.Zip
import HandS.Conv
import HandS.Evl
import HandS.Wide
import HandS.WrittenGet
import HandS.Walk
import KE.KDictPairs
import HandS.Star
import HandS.TupAny
import HandS.Ends
import PyProof.Rows.ReprR
import HandS.MakeKwOnly
import HandS.MakeKw
import HandS.OwnEq
import PyProof.InstEq
import PyProof.InstNe
import HandS.RaiseMore
import HandS.NoneIn
import PySem.Challenge.RW_backframes_k07_names_of_sources
set_option Elab.async false
set_option linter.all false
set_option maxRecDepth 100000
set_option maxHeartbeats 4000000
namespace AE
open PySem PySem.Spec PyProof.Rows PySem.W PySem.Calls PySem.HandSPX
open Builtin Builtin.ObjectAttr
/-- the built-in classes below an error of the program -/
def low : List Value := [.type "ArithmeticError", .type "Exception", .type "BaseException", .type "object"]
/-- what is asked of an error's class whose __init__ is its own -/
structure AeC (K : Frag) (C : Addr) : Prop where
  cls : excInitIn K C low "ArithmeticError.__new__" = true
  ov : excOver K C low = true
  sa : findIn K (.ref C) "__setattr__" = some (some (.builtin "object.__setattr__"))
  exC : subIn K (.ref C) (.type "BaseException") = some true
  tyC : typeIn K (.ref C) = some (.type "type")
  kC : keepIn K (.ref C) = true
  hd : hasDictIn K C = true
def aeB (K : Frag) (C : Addr) : Bool := excInitIn K C low "ArithmeticError.__new__" && (excOver K C low && (decide (findIn K (.ref C) "__setattr__" = some (some (.builtin "object.__setattr__"))) && (decide (subIn K (.ref C) (.type "BaseException") = some true) && (decide (typeIn K (.ref C) = some (.type "type")) && (keepIn K (.ref C) && hasDictIn K C)))))
theorem aeB_ok {K : Frag} {C : Addr} (h : aeB K C = true) : AeC K C := by
  unfold aeB at h
  simp only [Bool.and_eq_true, decide_eq_true_eq] at h
  exact ⟨h.1, h.2.1, h.2.2.1, h.2.2.2.1, h.2.2.2.2.1, h.2.2.2.2.2.1, h.2.2.2.2.2.2⟩
section
variable {prog : Program} {w : World} {A : Around} {E : Value → Shared → Prop} {R : Result → Shared → Prop} {hp : Heap} {g : Array GenState} {d : Drawn} {t : Nat} {os : OsState}
/-- the first field of such an error: its dict is made -/
theorem ae_osa {K : Frag} {name : Str} {tk : Tok} {v : Value} {x C : Addr} {fv : Array Value} (T : AeC K C) (X : K.In hp)
    (hx : hp.get? x = some { cls := .ref C, data := .fields fv }) (ha : findIn K (.ref C) name = some none)
    (k : ∀ (G : Heap) (tk' : Nat) (y : Addr), (∀ b o, b ≠ x → hp.get? b = some o → G.get? b = some o) → hp.objs.size ≤ y → y ≠ x →
      G.get? x = some { cls := .ref C, dict := some y, data := .fields fv } → G.Ns1 y (fun z => if z = name then some v else none) → R (.ok (.ret .none)) ⟨G, g, d, tk', os⟩) :
    codeAny (model prog w) A (.call (.builtin "object.__setattr__") ⟨[.ref x, .str name tk, v], []⟩) R ⟨hp, g, d, t, os⟩ := by
  have I : InstAt hp x { cls := .ref C, data := .fields fv } C none := ⟨hx, rfl, rfl, trivial⟩
  obtain ⟨cd, hcd, hh⟩ := any_some T.hd
  have Lc : Looks (model prog w) hp (classData C) cd := looks_clsIn X hcd
  have nx : x ≠ hp.objs.size := Nat.ne_of_lt (Heap.lt_size hx)
  refine osa_openX F.store_ArithmeticError X I T.ov (r := none) (by unfold takerIn; rw [ha]; rfl) fun b => ?_
  show wpAny _ _ (storeInOwnDict (.ref x) (.ref C) (.str name tk) name v b) _ _ _
  obtain ⟨nm, bs, mro, ns, qn, hd, sn, sb, ab, col, del⟩ := cd
  have hh : hd = true := hh
  subst hh
  unfold storeInOwnDict ownDictForStores
  repeat first
    | with_reducible refine store_in_new ?_ ?_
    | with_reducible refine wpAny_loadPart_at hx ?_
    | with_reducible refine Lc.at ?_
    | wp_step
  · have made : ∀ o : Obj → Obj, ((hp.push { cls := .type "dict", data := .dict #[] }).update x o).get? hp.objs.size = some { cls := .type "dict", data := .dict #[] } := fun o => by
      rw [Heap.get?_update_ne _ _ _ _ nx.symm]
      exact Heap.get?_push_at rfl rfl
    exact ⟨_, #[], _, made _, rfl, fun e m => by simp at m, fun _ => rfl⟩
  · intro G t2 hG hs
    have hx2 : (hp.push { cls := .type "dict", data := .dict #[] }).get? x = some { cls := .ref C, data := .fields fv } := Heap.get?_push_of_some _ hx
    have keep : ∀ b o, b ≠ x → hp.get? b = some o → G.get? b = some o := fun b o nb q =>
      (hs.2 b (Nat.ne_of_lt (Heap.lt_size q))).trans ((Heap.get?_update_ne _ _ _ _ nb).trans (Heap.get?_push_of_some _ q))
    exact k G t2 hp.objs.size keep (Nat.le_refl _) nx.symm ((hs.2 x nx).trans (Heap.get?_update_self _ hx2 rfl)) hG
end
end AE
set_option Elab.async false
set_option linter.all false
set_option maxRecDepth 100000
set_option maxHeartbeats 4000000
namespace AE
open PySem PySem.Spec PyProof.Rows L2
section
variable {X : Cx} {pins : List (Addr × Obj)} {σ : L2.St} {H : Hp} {s : Shared} {a C dx : Addr} {f : Str} {y : V} {u : Value} {Q : Unit → Shared → Prop} {E : Value → Shared → Prop} {A : Around}
/-- two places of a heap with unlike things are two -/
theorem apart {b c : Addr} {o v : HO} (h1 : H b = some o) (h2 : H c = some v) (n : o ≠ v) : c ≠ b := at_ne h1 h2 n
theorem ae_new (T : AeC X.K C) (I : Inv X pins σ H s) (e : H a = some (exo a C none)) (hno : PySem.W.findIn X.K (.ref C) f = some none) (ry : RelV y u)
    (k : ∀ dx s', H dx = none → dx ≠ a → Inv X pins σ (upd (upd H dx (exd dx [(f, y)])) a (exo a C (some dx))) s' → Q () s') : wpAny (model X.prog X.w) A (setAttr (.ref a) f u) Q E s := by
  obtain ⟨t1, ho⟩ := exo_at I.hok e
  obtain ⟨hp, g, d, t, os⟩ := s
  refine PySem.W.set_plain I.kIn (od := none) ⟨ho, rfl, rfl, trivial⟩ T.sa (ae_osa T I.kIn ho hno fun G t2 dx keep new ne hx hns => ?_)
  have hd : H dx = none := I.hok.fresh new
  have nd : ∀ {b o}, hp.get? b = some o → b ≠ dx := fun q => Nat.ne_of_lt (Nat.lt_of_lt_of_le (Heap.lt_size q) new)
  have na : ∀ {b}, H b = none → b ≠ a := fun n z => by
    rw [z, e] at n
    cases n
  have same : ∀ {b o}, b ≠ a → b ≠ dx → (upd (upd H dx (exd dx [(f, y)])) a (exo a C (some dx))) b = o → H b = o := fun n1 n2 q => by
    rw [upd_ne n1, upd_ne n2] at q
    exact q
  have put : ∀ {b o}, b ≠ a → H b = some o → (upd (upd H dx (exd dx [(f, y)])) a (exo a C (some dx))) b = some o := fun {b o} n q => by
    rw [upd_ne n, upd_ne (ne_of_none q hd)]
    exact q
  have U : Un X.fs [] H (upd (upd H dx (exd dx [(f, y)])) a (exo a C (some dx))) hp G := by
    refine ⟨?_, ?_, ?_, ?_, ?_, ?_, ?_⟩
    · intro b o q n _ _
      exact keep b o (na n) q
    · intro b o q n _ _
      exact ⟨o.slots, keep b o (na n) q⟩
    · intro b o q n _
      rw [upd_ne (na n), upd_ne (nd q)]
      exact n
    · intro b o q _
      by_cases z : b = a
      · exact ⟨_, by rw [z]; exact hx⟩
      · exact ⟨o, keep b o z q⟩
    · intro b xs q
      exact put (apart e q exo_tup) q
    · intro b o v q
      exact put (apart e q exo_frz) q
    · intro b ps q
      exact ⟨#[], by rw [put (apart e q exo_tbl) q]; simp⟩
  refine k dx _ hd ne (I.un (t' := t2) U fun b o q => ?_)
  by_cases z : b = a
  · subst z
    rw [upd_same] at q
    cases q
    exact exo_ok hx
  · by_cases w : b = dx
    · subst w
      rw [upd_ne z, upd_same] at q
      cases q
      exact exd_ok hns (relO_put (fs := []) ry fun _ => True.intro)
    · refine (I.hok b o (same z w q)).stay (fun c v hc m => keep c v ?_ m) (fun c hc => put (apart e hc exo_own) hc) (fun c xs hc => put (apart e hc exo_tup) hc)
      rcases hc with rfl | hc
      · exact z
      · exact apart e hc exo_own
end
/-- self.f = e, the first field of an error that is made -/
def tAst (K : PySem.W.Frag) (f : Str) (to te : TE) : TS := fun D σ H => te σ H fun y H1 => to σ H1 fun x H2 => ∃ a C : Addr, x = .ref a ∧ AeC K C ∧ PySem.W.findIn K (.ref C) f = some none ∧ H2 a = some (exo a C none) ∧
  ∀ dx, H2 dx = none → dx ≠ a → D.nx σ (upd (upd H2 dx (exd dx [(f, y)])) a (exo a C (some dx)))
theorem ps_ast {X : Cx} {o e : Expr} {to te : TE} {f : Str} {p pos : Pos} (ho : PE X o to) (he : PE X e te) (hs : swapsWith e (some (.Attribute o f p)) pos.line X.env = pure false := by rfl) : PS X (.Assign [.Attribute o f p] e pos) (tAst X.K f to te) := by
  refine ⟨fun pins s σ H D I h => plainObj_wpAny_Assign_Attribute (thn (he.run pins s σ H _ I h) fun v s1 ⟨y, H1, I1, r1, q1⟩ => thn (ho.run pins s1 σ H1 _ I1 q1) fun u s2 q2 => ?_) hs⟩
  obtain ⟨x, H2, I2, r2, a, C, rfl, T, hno, ea, q⟩ := q2
  obtain rfl : u = Value.ref a := r2
  exact ae_new T I2 ea hno r1 fun dx s' n ne J => ⟨σ, _, J, q dx n ne⟩
end AE
set_option Elab.async false
set_option linter.all false
set_option maxRecDepth 100000
set_option maxHeartbeats 4000000
namespace AE
open PySem PySem.Spec PyProof.Rows L2
/-- an error of such a class is made by its own __init__ -/
theorem pmk_ae {X : Cx} {CX : CXT} {e : Expr} {es : List Expr} {ta : TA} {p pos : Pos} {x : Str} {C fI : Addr} {k : Nat} {fd : FuncData} {ps : List Str} {sp : Sp} (T : AeC X.K C)
    (iC : PySem.W.findIn X.K (.ref C) "__init__" = some (some (.ref fI))) (tI : PySem.W.typeIn X.K (.ref fI) = some (.type "function")) (F1 : FnOk X.prog X.w X.K X.mg X.base CX k fI fd ps sp)
    (hr : Room (k + 1) X.A) (hb : Binds X.K fd ps []) (hx : Passes CX X (fun _ _ _ => False)) (hg : Gl X x) (hm : X.mg x = some (.ref C)) (ha : PA X (e :: es) ta)
    (hdb : (x == ("__debug__" : Str)) = false := by decide) (he : starEach (e :: es) X.env = (false, eval e X.env) :: starEach es X.env := by rfl) (hpl : (backTo pos (starEach es X.env)).any (·.1) = false := by rfl) :
    PMk X (.Call (.Name x p) (e :: es) [] pos) (tMkO C sp [] ta) := by
  intro pins s σ H Q I h
  refine wpAny_Call_Name_kw (ld_glob I hg hm ?_ hdb)
  refine PySem.W.callWith_K (h₀ := X.base) I.ok.mod.kin T.kC (thn (ha.run pos pins s σ H _ I h) fun us s1 q1 => ?_) he hpl
  obtain ⟨vs, H1, I1, r1, hz, q1⟩ := q1
  refine ⟨I1.kIn, ?_⟩
  show wpAny _ _ (call (.ref C) us) _ _ _
  obtain ⟨hp, g, dr, tk, os⟩ := s1
  obtain ⟨nm, N, qn, bs, bm, hd, sn, sub, ab, col, dd, k0, k1, k2, k3, k5, hC, hbm⟩ := PySem.W.excInit_of I1.kIn T.cls
  generalize hG : (hp.push (PySem.W.kdv_tup us)).push (PySem.HandSPX.excO C hp.objs.size) = G
  have new : hp.objs.size ≤ hp.objs.size + 1 := Nat.le_succ _
  have hn : H1 (hp.objs.size + 1) = none := I1.hok.fresh new
  have keep : ∀ b o, hp.get? b = some o → G.get? b = some o := fun b o q => by
    rw [← hG]
    exact Heap.get?_push_of_some _ (Heap.get?_push_of_some _ q)
  have there : G.get? (hp.objs.size + 1) = some (PySem.HandSPX.excO C hp.objs.size) := by
    rw [← hG]
    heap_get
  have I2 : Inv X pins σ (upd H1 (hp.objs.size + 1) (exo (hp.objs.size + 1) C none)) ⟨G, g, dr, tk, os⟩ := I1.laid (t' := tk) (a := hp.objs.size + 1) keep new (exo_ok there)
  have hq := q1 (hp.objs.size + 1) hn
  rw [List.append_nil] at hq
  have r2 : Vals (V.ref (hp.objs.size + 1) :: vs) (Value.ref (hp.objs.size + 1) :: us) := .cons rfl r1
  have len : (Value.ref (hp.objs.size + 1) :: us ++ []).length = ps.length := by
    rw [List.append_nil, ← r2.length, F1.len _ _ _ _ hq]
  have few : us.length ≤ sizeLine := by
    rw [← Paired.length r1, sizeLine_eq]
    omega
  have run := F1.run _ X.stack _ _ ⟨Value.ref (hp.objs.size + 1) :: us, []⟩ (Value.ref (hp.objs.size + 1) :: us) _ _ (fun _ _ _ => False) (hr.make C us []) (I2.env0.make C us []) (by
    have z := hb _ (Value.ref (hp.objs.size + 1) :: us) I2.kIn len
    rw [List.append_nil] at z
    exact z) r2 hq
  refine wpAny_call (PySem.HandSPX.call_own F.excBase_ArithmeticError hbm hC (PySem.W.looks_findIn I1.kIn iC) (fun self => PySem.W.bind_fn I1.kIn self tI) few ?_)
  rw [hG]
  refine codeAny_mono run fun r s' z => ?_
  match r, z with
  | .error er, z => exact hx pins σ _ _ er s' I2 z
  | .ok (.ret v), z =>
    obtain ⟨y, H2, os2, bare2, un2, hok2, rv, ev, d, fs, ea, ed, hd1, q2⟩ := z
    subst ev
    obtain ⟨h2, g2, d2, t2, os'⟩ := s'
    exact ⟨rv, mk_end (raises_own T.exC T.tyC) I1 new keep un2 hok2 os2 bare2 ea ed hd1 q2⟩
  | .ok .next, z => exact z.elim
  | .ok .brk, z => exact z.elim
  | .ok .cont, z => exact z.elim
end AE
set_option Elab.async false
set_option linter.all false
set_option maxRecDepth 100000
set_option maxHeartbeats 4000000
namespace TR
open PySem PySem.Spec PyProof.Rows L2
/-- an error that a frame has in hand, noted and on the ground; sI is the state without it -/
structure Hand (X : Cx) (pins : List (Addr × Obj)) (B : Heap) (sI : Shared) (a : Addr) (cls : Value) (d : Option Addr) (σ : L2.St) (H : Hp) (s : Shared) : Prop where
  inv : Inv X pins σ H sI
  gr : ∀ b o, sI.heap.get? b = some o → b ∉ frs X.stack → B.get? b = some o
  up : sI.heap.UpToSlots s.heap
  fl : HandSPX.FlyingZ B X.stack a (Zc cls d) s.heap
  na : H a = none
  os : s.os = sI.os
  ag : AllBare s.gens
section
variable {X : Cx} {pins : List (Addr × Obj)} {B : Heap} {sI s : Shared} {a : Addr} {cls c : Value} {d : Option Addr} {σ : L2.St} {H : Hp} {x n : Str} {np : Pos}
theorem Hand.here (h : Hand X pins B sI a cls d σ H s) : Inv X pins σ H s := Inv.landed h.inv h.gr h.fl.1 h.up h.os h.ag
theorem Hand.off (h : Hand X pins B sI a cls d σ H s) : a ∉ frs X.stack := fun m => by
  obtain ⟨oe, vs, e1, _, e2⟩ := HandSPX.FlyingZ.there h.fl
  obtain ⟨_, o, e3, nf⟩ := Heap.FunFrames.mem h.fl.2.2.1 m
  exact nf vs (by rw [Option.some.inj (e3.symm.trans e1)]; exact e2)
theorem Hand.suite (h : Hand X pins B sI a cls d σ H s) (hs : X.stack = X.env :: X.outer) (hf : X.env.frame = some X.env.locals) :
    ∃ oe : Obj, Zc cls d oe ∧ (∃ vs, oe.data = .fields vs) ∧ s.heap.get? a = some oe ∧ Inv (X.suite a ((a, oe) :: (X.pn ++ pins))) [] σ H s := by
  obtain ⟨oe, vs, e1, z, e2⟩ := HandSPX.FlyingZ.there h.fl
  have off := h.off
  rw [hs] at off
  refine ⟨oe, z, ⟨vs, e2⟩, e1, Inv.suite h.here e1 e2 h.na (fun w => off ?_) (fun m => off ?_)⟩
  · rw [w]
    exact List.mem_filterMap.mpr ⟨X.env, List.mem_cons_self, hf⟩
  · obtain ⟨e, m1, m2⟩ := List.mem_filterMap.mp m
    exact List.mem_filterMap.mpr ⟨e, List.mem_cons_of_mem _ m1, m2⟩
/-- the test of a clause -/
theorem Hand.test (h : Hand X pins B sI a cls d σ H s) (hs : X.stack = X.env :: X.outer) (hf : X.env.frame = some X.env.locals) (hc : Names X x c) {b : Bool} (hb : PySem.W.exmOne X.K cls c = some b) {pos : Pos} {R : Result → Shared → Prop}
    (q : R (.ok (if b then .brk else .next)) s) : codeAny (model X.prog X.w) (X.A.mark (some (.ref a))) (.handlers (.ref a) [.ExceptHandler (some (.Name x np)) none [] pos] X.env) R s := by
  obtain ⟨oe, z, _, e1, S⟩ := h.suite hs hf
  have ty : PySem.W.Looks (model X.prog X.w) s.heap (typeOf (.ref a)) cls := fun _ _ _ _ k r => wpAny_typeOf_ref (k _ _ e1) (by rw [z.1]; exact r)
  have hit := PySem.W.exm_one (M := model X.prog X.w) S.kIn ty hb
  refine codeAny_handlers_test ?_
  obtain ⟨g, nd, m | ⟨m, v, nn⟩⟩ := hc
  · exact ld_glob S g m (hit.here q) nd
  · exact ld_blt S g m v (hit.here q) nn nd
theorem Hand.again (h : Hand X pins B sI a cls d σ H s) {A : Around} {E : Value → Shared → Prop} {Q : Unit → Shared → Prop} (k : ∀ s', Hand X pins B sI a cls d σ H s' → Q () s') : wpAny (model X.prog X.w) A (setFlight (.ref a) none) Q E s :=
  HandSPX.lands_againZ h.fl fun h' f u => k _ ⟨h.inv, h.gr, h.up.trans u, f, h.na, h.os, h.ag⟩
/-- no clause takes it -/
theorem Hand.pass (h : Hand X pins B sI a cls d σ H s) (hs : X.stack = X.env :: X.outer) (hf : X.env.frame = some X.env.locals) {W : WX} (tk : Takes X W) (w : W cls d σ H) {Q : Flow → Shared → Prop} : wpAny (model X.prog X.w) X.A (handleBy (.ref a) X.env []) Q X.xe s := by
  have last : wpAny (model X.prog X.w) X.A (setFlight (.ref a) X.env.frame) (fun _ s4 => wpAny (model X.prog X.w) X.A (throw (.ref a) : Sem Flow) Q X.xe s4) X.xe s := by
    rw [hf]
    refine HandSPX.setFlight_upZ h.fl fun h' hh u => wpAny_throw (tk _ _ ⟨a, B, sI, pins, σ, H, cls, d, rfl, h.inv, h.gr, h.up.trans u, .inr (.inr hh), h.na, h.os, h.ag, w⟩)
  obtain ⟨_, _, _, oe, vs, t, ot, ts, e1, _, e2, e3, _⟩ := h.fl
  refine wpAny_handleBy_nil ?_
  unfold PySem.passOn
  refine wpAny_bind (wpAny_field e1 e2 e3 ?_)
  have ne : ¬ ((Value.ref t == Value.none) = true) := by simp
  rw [if_neg ne]
  first
    | exact wpAny_bind (wpAny_pure (wpAny_bind last))
    | exact wpAny_bind last
end
/-- a clause: the class, the slot of its name (if it has one), and what its suite says -/
structure Clause where
  cls : Value
  slot : Option Nat
  ts : Addr → Value → Option Addr → TS
def Clause.ends (q : Clause) (D : Ends) : Ends := match q.slot with
  | none => D
  | some i => { nx := fun σ H => D.nx (σ.set i none) H, rt := D.rt, bk := fun σ H => D.bk (σ.set i none) H, ct := fun σ H => D.ct (σ.set i none) H }
def Clause.at_ (q : Clause) (a : Addr) (σ : L2.St) : L2.St := match q.slot with
  | none => σ
  | some i => σ.set i (some (.ref a))
/-- what the clauses wish of an error of the body -/
def wish (K : PySem.W.Frag) (W : WX) (D : Ends) : List Clause → WX
  | [] => W
  | q :: r => fun cls d σ H => ∃ b, PySem.W.exmOne K cls q.cls = some b ∧ (b = true → ∀ a, H a = none → q.ts a cls d (q.ends D) (q.at_ a σ) H) ∧ (b = false → wish K W D r cls d σ H)
/-- the clauses of a try, one by one -/
inductive Cls (X : Cx) : List ExceptHandler → List Clause → Prop
  | nil : Cls X [] []
  | bare {x : Str} {q : Clause} {b₀ : Stmt} {suite : List Stmt} {np p : Pos} {hds : List ExceptHandler} {l : List Clause} (hn : Names X x q.cls) (e : q.slot = none)
      (hsu : ∀ (a : Addr) (oe : Obj) (cls : Value) (d : Option Addr) (pn : List (Addr × Obj)), Zc cls d oe → (∃ vs, oe.data = .fields vs) → PSs (X.suite a ((a, oe) :: pn)) (b₀ :: suite) (q.ts a cls d))
      (r : Cls X hds l) : Cls X (.ExceptHandler (some (.Name x np)) none (b₀ :: suite) p :: hds) (q :: l)
  | as {x n : Str} {i : Nat} {q : Clause} {b₀ : Stmt} {suite : List Stmt} {np p : Pos} {hds : List ExceptHandler} {l : List Clause} (hn : Names X x q.cls) (e : q.slot = some i) (hi : X.N[i]? = some n) (hk : X.env.kindOf n = some .local)
      (hsu : ∀ (a : Addr) (oe : Obj) (cls : Value) (d : Option Addr) (pn : List (Addr × Obj)), Zc cls d oe → (∃ vs, oe.data = .fields vs) → PSs (X.suite a ((a, oe) :: pn)) (b₀ :: suite) (q.ts a cls d))
      (r : Cls X hds l) : Cls X (.ExceptHandler (some (.Name x np)) (some n) (b₀ :: suite) p :: hds) (q :: l)
section
variable {X : Cx} {pins : List (Addr × Obj)} {B : Heap} {sI s : Shared} {a : Addr} {cls : Value} {d : Option Addr} {σ : L2.St} {H : Hp} {D : Ends} {W : WX}
/-- what ran in a suite with a name: the name goes -/
theorem ended_as {oe : Obj} {i : Nat} {n : Str} {pos : Pos} {f : Flow} {E : Value → Shared → Prop} {e : Ends} (ok : X.Ok) (hN : X.N.Nodup) (hi : X.N[i]? = some n) (hk : X.env.kindOf n = some .local)
    (he : e = { nx := fun σ H => D.nx (σ.set i none) H, rt := D.rt, bk := fun σ H => D.bk (σ.set i none) H, ct := fun σ H => D.ct (σ.set i none) H })
    (h : SP (X.suite a ((a, oe) :: (X.pn ++ pins))) [] e f s) : wpAny (model X.prog X.w) X.A (do bindName X.env n .none; unbindBehindTheSuite X.env n pos) (fun _ s' => SP X pins D f s') E s := by
  subst he
  cases f with
  | ret u =>
    obtain ⟨v, σ1, H1, I1, r, q⟩ := h
    exact gone_ok (Inv.unsuite I1 ok) hN hi hk fun _ J => ⟨v, _, H1, J, r, q⟩
  | next =>
    obtain ⟨σ1, H1, I1, q⟩ := h
    exact gone_ok (Inv.unsuite I1 ok) hN hi hk fun _ J => ⟨_, H1, J, q⟩
  | brk =>
    obtain ⟨σ1, H1, I1, q⟩ := h
    exact gone_ok (Inv.unsuite I1 ok) hN hi hk fun _ J => ⟨_, H1, J, q⟩
  | cont =>
    obtain ⟨σ1, H1, I1, q⟩ := h
    exact gone_ok (Inv.unsuite I1 ok) hN hi hk fun _ J => ⟨_, H1, J, q⟩
theorem ended_bare {oe : Obj} {f : Flow} (ok : X.Ok) (h : SP (X.suite a ((a, oe) :: (X.pn ++ pins))) [] D f s) : SP X pins D f s := by
  cases f with
  | ret u =>
    obtain ⟨v, σ1, H1, I1, q⟩ := h
    exact ⟨v, σ1, H1, Inv.unsuite I1 ok, q⟩
  | next =>
    obtain ⟨σ1, H1, I1, q⟩ := h
    exact ⟨σ1, H1, Inv.unsuite I1 ok, q⟩
  | brk =>
    obtain ⟨σ1, H1, I1, q⟩ := h
    exact ⟨σ1, H1, Inv.unsuite I1 ok, q⟩
  | cont =>
    obtain ⟨σ1, H1, I1, q⟩ := h
    exact ⟨σ1, H1, Inv.unsuite I1 ok, q⟩
/-- an error in hand goes through the clauses -/
theorem Hand.through {hds : List ExceptHandler} {l : List Clause} (k : Cls X hds l) (hs : X.stack = X.env :: X.outer) (hf : X.env.frame = some X.env.locals) (hN : X.N.Nodup) (tk : Takes X W) (h : Hand X pins B sI a cls d σ H s) (w : wish X.K W D l cls d σ H) :
    wpAny (model X.prog X.w) X.A (handleBy (.ref a) X.env hds) (SP X pins D) X.xe s := by
  have ok := h.inv.ok
  induction k generalizing s with
  | nil => exact h.pass hs hf tk w
  | @bare x q b₀ suite np p hds l hn e hsu r ih =>
    obtain ⟨b, hb, yes, no⟩ := w
    refine wpAny_handleBy_cons (h.test hs hf hn hb ?_) (fun z => by cases z)
    cases b with
    | false => exact ih h (no rfl)
    | true =>
      refine codeAny_handlers_suite (h.again fun s1 h1 => ?_)
      obtain ⟨oe, z, vs, _, S⟩ := h1.suite hs hf
      have go := yes rfl a h.na
      unfold Clause.ends Clause.at_ at go
      rw [e] at go
      exact wpAny_mono ((hsu a oe cls d _ z vs).run [] _ _ _ _ S go) (fun f s2 q2 => ended_bare ok q2) (fun _ _ z => z.elim)
  | @as x n i q b₀ suite np p hds l hn e hi hk hsu r ih =>
    obtain ⟨b, hb, yes, no⟩ := w
    refine wpAny_handleBy_cons (h.test hs hf hn hb ?_) (fun z => by cases z)
    cases b with
    | false => exact ih h (no rfl)
    | true =>
      refine codeAny_handlers_suite_as (h.again fun s1 h1 => ?_)
      obtain ⟨oe, z, vs, _, S⟩ := h1.suite hs hf
      have go := yes rfl a h.na
      unfold Clause.ends Clause.at_ at go
      rw [e] at go
      refine store_ok (X := X.suite a (((a, oe) : Addr × Obj) :: (X.pn ++ pins))) (v := V.ref a) S hN hi (.inl hk) rfl (fun s2 S2 => ?_) (.inr hk)
      exact wpAny_mono ((hsu a oe cls d _ z vs).run [] _ _ _ _ S2 go) (fun f s3 q3 => ended_as ok hN hi hk rfl q3) (fun _ _ z => z.elim)
/-- an error of the body comes into the frame's hand -/
theorem caught {xe : Value → Shared → Prop} {u : Value} {W' : WX} {E : Value → Shared → Prop} {Q : Unit → Shared → Prop} (ok : X.Ok) (hs : X.stack = X.env :: X.outer) (hf : X.env.frame = some X.env.locals) (x : XE (X.tr (X.pn ++ pins) xe) W' u s)
    (k : ∀ a B sI cls d σ H s', u = .ref a → Hand X pins B sI a cls d σ H s' → W' cls d σ H → Q () s') :
    wpAny (model X.prog X.w) X.A (noteFrame u X.env) (fun _ s2 => wpAny (model X.prog X.w) X.A (setFlight u none) Q E s2) E s := by
  obtain ⟨a, B, sI, ps, σ, H, cls, d, rfl, I, gr, up, sky, na, os, ag, w⟩ := x
  have J : Inv X pins σ H sI := Inv.ofTry I ok
  have fr : X.A.frames = some (X.env :: X.outer) := by rw [ok.frames, hs]
  have sk : Sky B (X.env :: X.outer) a (Zc cls d) X.env.locals s.heap := by rw [← hs]; exact sky
  refine Sky.land Zc.steady fr hf sk fun h' f u => k a B sI cls d σ H _ rfl ⟨J, gr, up.trans u, ?_, na, os, ag⟩ w
  rw [hs]
  exact f
end
/-- try with any clauses -/
theorem ps_try {X : Cx} {body : List Stmt} {h₀ : ExceptHandler} {hds : List ExceptHandler} {l : List Clause} {pos : Pos} {tb : WX → TS} {W : WX} (hs : X.stack = X.env :: X.outer) (hf : X.env.frame = some X.env.locals) (hN : X.N.Nodup) (tk : Takes X W)
    (hb : ∀ (W' : WX) (pn : List (Addr × Obj)) (xe : Value → Shared → Prop), Takes (X.tr pn xe) W' → PassesOwn (model X.prog X.w) X.A X.env xe → PSs (X.tr pn xe) body (tb W'))
    (k : Cls X (h₀ :: hds) l) : PS X (.Try body (h₀ :: hds) [] [] pos) (fun D σ H => tb (wish X.K W D l) D σ H) := by
  refine ⟨fun pins s σ H D I h => wpAny_Try_except ?_⟩
  have ok := I.ok
  have run := hb (wish X.K W D l) (X.pn ++ pins) _ (fun u s1 x => caught (E := X.xe) (Q := fun _ s3 => wpAny (model X.prog X.w) X.A (handleBy u X.env (h₀ :: hds)) (SP X pins D) X.xe s3) ok hs hf x fun a B sI cls d σ H s' e g w => by rw [e]; exact Hand.through k hs hf hN tk g w) PassesOwn.looking
  refine wpAny_mono (run.run [] s σ H D (I.toTry _) h) (fun f s1 q => ?_) (fun _ _ z => z)
  cases f with
  | ret u =>
    obtain ⟨v, σ1, H1, J, q⟩ := q
    exact ⟨v, σ1, H1, Inv.ofTry J ok, q⟩
  | next =>
    obtain ⟨σ1, H1, J, q⟩ := q
    exact wpAny_execs_nil ⟨σ1, H1, Inv.ofTry J ok, q⟩
  | brk =>
    obtain ⟨σ1, H1, J, q⟩ := q
    exact ⟨σ1, H1, Inv.ofTry J ok, q⟩
  | cont =>
    obtain ⟨σ1, H1, J, q⟩ := q
    exact ⟨σ1, H1, Inv.ofTry J ok, q⟩
end TR
set_option Elab.async false
set_option linter.all false
set_option maxRecDepth 100000
set_option maxHeartbeats 4000000
namespace AE
open PySem PySem.Spec PyProof.Rows PySem.W PySem.Calls PySem.HandSPX
open Builtin Builtin.ObjectAttr
section
variable {prog : Program} {w : World} {A : Around} {E : Value → Shared → Prop} {R : Result → Shared → Prop} {hp : Heap} {g : Array GenState} {d : Drawn} {t : Nat} {os : OsState}
/-- a further field of such an error: its dict is there -/
theorem ae_osa2 {K : Frag} {name : Str} {tk : Tok} {v : Value} {x C dx : Addr} {fv : Array Value} {m0 : Str → Option Value} {nl : List Str} (T : AeC K C) (X : K.In hp)
    (hx : hp.get? x = some { cls := .ref C, dict := some dx, data := .fields fv }) (hns : hp.Ns1 dx m0) (hw : Within m0 nl) (hz : nl.length ≤ 1000) (ha : findIn K (.ref C) name = some none)
    (k : ∀ (G : Heap) (tk' : Nat), (∀ b o, b ≠ dx → hp.get? b = some o → G.get? b = some o) → G.Ns1 dx (fun z => if z = name then some v else m0 z) → R (.ok (.ret .none)) ⟨G, g, d, tk', os⟩) :
    codeAny (model prog w) A (.call (.builtin "object.__setattr__") ⟨[.ref x, .str name tk, v], []⟩) R ⟨hp, g, d, t, os⟩ := by
  obtain ⟨oD, _, _, hoD, _, _⟩ := hns.count hw
  have I : InstAt hp x { cls := .ref C, dict := some dx, data := .fields fv } C (some oD) := ⟨hx, rfl, rfl, hoD⟩
  obtain ⟨cd, hcd, hh⟩ := any_some T.hd
  have Lc : Looks (model prog w) hp (classData C) cd := looks_clsIn X hcd
  refine osa_openX F.store_ArithmeticError X I T.ov (r := none) (by unfold takerIn; rw [ha]; rfl) fun b => ?_
  show wpAny _ _ (storeInOwnDict (.ref x) (.ref C) (.str name tk) name v b) _ _ _
  obtain ⟨nm, bs, mro, ns, qn, hd, sn, sb, ab, col, del⟩ := cd
  have hh : hd = true := hh
  subst hh
  unfold storeInOwnDict ownDictForStores
  repeat first
    | with_reducible refine PySem.OEX.store_in_old hns hw hz ?_
    | with_reducible refine wpAny_loadPart_at hx ?_
    | with_reducible refine Lc.at ?_
    | wp_step
  intro G t2 hG hs
  exact k G t2 (fun b o nb q => (hs.2 b nb).trans q) hG
end
end AE
namespace AE
open PySem PySem.Spec PyProof.Rows L2
section
variable {X : Cx} {pins : List (Addr × Obj)} {σ : L2.St} {H : Hp} {s : Shared} {a C dx : Addr} {f : Str} {y : V} {u : Value} {Q : Unit → Shared → Prop} {E : Value → Shared → Prop} {A : Around} {fs : List (Str × V)}
theorem ae_more (T : AeC X.K C) (I : Inv X pins σ H s) (e : H a = some (exo a C (some dx))) (ed : H dx = some (exd dx fs)) (hl : fs.length ≤ 900) (hno : PySem.W.findIn X.K (.ref C) f = some none) (ry : RelV y u)
    (k : ∀ s', Inv X pins σ (upd H dx (exd dx ((f, y) :: fs))) s' → Q () s') : wpAny (model X.prog X.w) A (setAttr (.ref a) f u) Q E s := by
  obtain ⟨t1, ho⟩ := exo_at I.hok e
  obtain ⟨mA, hns, rel⟩ := exd_at I.hok ed
  have hw := within_of rel
  obtain ⟨hp, g, d, t, os⟩ := s
  obtain ⟨oD, _, _, hoD, _, _⟩ := hns.count hw
  refine PySem.W.set_plain I.kIn (od := some oD) ⟨ho, rfl, rfl, hoD⟩ T.sa (ae_osa2 T I.kIn ho hns hw (by rw [List.length_map]; omega) hno fun G t2 keep hn => ?_)
  have there : ∃ o, G.get? dx = some o := by
    obtain ⟨o, _, _, z, _⟩ := hn
    exact ⟨o, z⟩
  refine k _ (I.write (t' := t2) (x := dx) (e := dx) (o := exd dx ((f, y) :: fs)) ?_ (.inl rfl) keep there (exd_ok hn (relO_put ry rel)))
  rw [ed]
  exact True.intro
end
/-- self.f = e, a further field of an error that is made -/
def tAst2 (K : PySem.W.Frag) (f : Str) (to te : TE) : TS := fun D σ H => te σ H fun y H1 => to σ H1 fun x H2 => ∃ (a C dx : Addr) (fs : List (Str × V)), x = .ref a ∧ AeC K C ∧ PySem.W.findIn K (.ref C) f = some none ∧ H2 a = some (exo a C (some dx)) ∧ H2 dx = some (exd dx fs) ∧ fs.length ≤ 900 ∧
  D.nx σ (upd H2 dx (exd dx ((f, y) :: fs)))
theorem ps_ast2 {X : Cx} {o e : Expr} {to te : TE} {f : Str} {p pos : Pos} (ho : PE X o to) (he : PE X e te) (hs : swapsWith e (some (.Attribute o f p)) pos.line X.env = pure false := by rfl) : PS X (.Assign [.Attribute o f p] e pos) (tAst2 X.K f to te) := by
  refine ⟨fun pins s σ H D I h => plainObj_wpAny_Assign_Attribute (thn (he.run pins s σ H _ I h) fun v s1 ⟨y, H1, I1, r1, q1⟩ => thn (ho.run pins s1 σ H1 _ I1 q1) fun u s2 q2 => ?_) hs⟩
  obtain ⟨x, H2, I2, r2, a, C, dx, fs, rfl, T, hno, ea, ed, hl, q⟩ := q2
  obtain rfl : u = Value.ref a := r2
  exact ae_more T I2 ea ed hl hno r1 fun s' J => ⟨σ, _, J, q⟩
end AE
/-! isinstance of a caught error that has its dict -/
namespace AE
open PySem PySem.Spec PySem.Calls PyProof.Rows PySem.W
section
variable {prog : Program} {w : World} {A : Around} {E : Value → Shared → Prop} {s : Shared} {K : Frag} {x D : Addr} {ox od : Obj}
theorem cls_of (C : L2.ExcC K D) (X : K.In s.heap) (I : InstAt s.heap x ox D (some od)) {Q : Option Value → Shared → Prop} (h : Q (some (.ref D)) { s with toks := s.toks + 1 }) : wpAny (model prog w) A (getAttr? (.ref x) "__class__") Q E s := by
  have fo : findObj K D (some od) "__class__" = some (.bind (.builtin "getset_descriptor.__get__") (.builtin "object.__class__")) := by
    obtain ⟨cd, hc, _⟩ := any_some C.hd
    exact findObj_data (by rw [hc]; rfl) C.ha C.hn C.ht
  obtain ⟨hp, g, d, t, os⟩ := s
  have ty := I.type (M := model prog w)
  have l1 := looks_findIn (M := model prog w) X C.hg
  have l2 := looks_findIn (M := model prog w) X C.hk
  have l3 := looks_find (M := model prog w) X I fo
  have sub : Looks (model prog w) hp (isInstance (.ref x) (.type "BaseException")) true := ty.andThen (looks_subIn X C.hs)
  have n0 : (false && onTheHeap (Value.builtin "BaseException.__getattribute__")) = false := rfl
  have n2 : (Value.builtin "BaseException.__getattribute__" == Value.builtin "object.__getattribute__") = false := by decide +kernel
  have n1 : ¬ (onTheHeap (Value.ref D) && Value.builtin "BaseException.__getattribute__" == Value.builtin "object.__getattribute__") = true := by
    rw [n2]
    exact Bool.false_ne_true
  unfold getAttr? getAttrBy? getAttrBy
  refine wpAny_bind (wpAny_mkText (wpAny_bind (wpAny_attempt (wpAny_holding (wpAny_bind (ty.at (wpAny_bind (l1.at ?_))))))))
  show wpAny _ _ (if (onTheHeap (Value.ref D) && Value.builtin "BaseException.__getattribute__" == Value.builtin "object.__getattribute__") = true then _ else _) _ _ _
  rw [if_neg n1]
  unfold getAttrByItsOwn hookBefore
  refine wpAny_bind ?_
  have on : onTheHeap (Value.ref D) = true := rfl
  rw [if_pos on]
  refine l2.at (wpAny_bind (wpAny_attempt (wpAny_holding ?_)))
  unfold callGetattribute
  rw [n0, if_neg Bool.false_ne_true]
  unfold boundAndCalled
  rw [PySem.F.excAttr_ValueError.ga.bind (.ref x)]
  refine wpAny_bind (wpAny_pure ?_)
  show wpAny _ _ (call (.builtin "BaseException.__getattribute__") [.ref x, .str "__class__" t]) _ _ _
  refine wpAny_call (codeAny_call_builtin PySem.F.excAttr_ValueError.ga.plain PySem.F.entry_bexc_ga (@check_slot (model prog w) _ _ ⟨hp, g, d, t + 1, os⟩ "BaseException.__getattribute__" "BaseException" "__getattribute__" (.ref x) [.str "__class__" t] [] _ (by decide +kernel) (by decide +kernel) sub (PySem.F.args_bexc_ga (.ref x) (.str "__class__" t)) ?_))
  unfold Builtin.«object.__getattribute__»
  refine wpAny_bind (wpAny_of_eq (a := ((Value.ref x : Value), [Value.str "__class__" t])) (by first | rfl | (simp only [slotArgs]; rfl)) (wpAny_bind (wpAny_pure (wpAny_bind (ty.at (wpAny_bind (l3.at ?_)))))))
  show wpAny _ _ (holding [Value.builtin "object.__class__"] (call (.builtin "getset_descriptor.__get__") [.builtin "object.__class__", .ref x, .ref D]) >>= ret) _ _ _
  refine wpAny_bind (wpAny_holding (wpAny_call (class_get (s := ⟨hp, g, d, t + 1, os⟩) (ox := ox) (od := some od) X I C.hm (wpAny_pure ?_))))
  show wpAny _ _ (handedOut (.ref D)) _ _ _
  rw [handedOut_of (v := .ref D) rfl]
  first
    | exact wpAny_pure (wpAny_pure h)
    | exact wpAny_pure h
    | exact wpAny_pure (wpAny_bind (wpAny_pure (wpAny_pure h)))
theorem kit_of (C : L2.ExcC K D) : KitX K (.ref x) (.ref D) (fun h => InstAt h x ox D (some od)) where
  ty := fun _ _ _ I => I.type
  it := fun _ _ X _ => by
    obtain ⟨cd, hc, _⟩ := any_some C.hd
    unfold clsIn at hc
    split at hc
    · rename_i ho
      intro A' Q' E' s' k q
      unfold isType loadHead
      exact wpAny_bind (wpAny_loadPart (k _ _ (X _ _ ho)) (wpAny_pure q))
    · cases hc
  ne := fun h tp dd its n sl X htp => by
    obtain ⟨cd, hc, _⟩ := any_some C.hd
    refine Bool.eq_false_iff.mpr fun q => ?_
    have e : D = tp := Value.ref.inj (beq_iff_eq.mp q)
    subst e
    unfold clsIn at hc
    split at hc
    · rename_i ho
      exact nomatch (X _ _ ho).symm.trans htp
    · cases hc
  ca := fun X I k => cls_of C X I k
end
end AE
namespace AE
open PySem PySem.Spec PyProof.Rows L2
/-- isinstance(e, c) in a suite that holds the error e with its dict -/
theorem call_isD {X : Cx} {a D dd : Addr} {oe : Obj} {pn : List (Addr × Obj)} {fs : List (Str × V)} (C : ExcC X.K D) (hz : Zc (.ref D) (some dd) oe) (hf : ∃ vs, oe.data = .fields vs) :
    CallR (X.suite a ((a, oe) :: pn)) (.builtin "isinstance") (fun xs H Q => H dd = some (.xd fs) ∧ rIsE X.K D a xs H Q) := by
  intro pins s σ H xs us Q I r h
  obtain ⟨hd, c, cv, b, rfl, hcv, e, q⟩ := h
  have ha := I.hok dd _ hd
  obtain ⟨mA, hns, hr⟩ := ha
  obtain ⟨od, ho, _⟩ := lookIn_ns hns
  match us, r with
  | [_, _], .cons rx (.cons rt .nil) =>
    cases rx
    have ec := hcv _ rt
    subst ec
    obtain ⟨hget, _⟩ := I.pin (a, oe) (List.mem_append_left _ List.mem_cons_self)
    obtain ⟨vs, hv⟩ := hf
    have J : PySem.W.InstAt s.heap a oe D (some od) := ⟨hget, hz.1, by unfold PySem.W.notCls; rw [hv] <;> rfl, by rw [hz.2]; exact ho⟩
    exact PySem.W.kia_one (kit_of C) I.kIn J e (fun z => nomatch z) fun tk => ⟨.bl b, H, I.kept (t' := tk) fun _ _ z => z, rfl, q⟩
end AE
set_option Elab.async false
set_option linter.all false
set_option maxRecDepth 100000
set_option maxHeartbeats 4000000
namespace CA
open PySem PySem.Spec PyProof.Rows L2 AutoSeq1
theorem add_any (l : Addr) (ol ob : Obj) (items : Array Value) (n : Nat) (b : Addr) (items2 : Array Value) (n2 : Nat) (cl : ol.cls = .type "list") (dl : ol.data = .seq items n) (cb : ob.cls = .type "list") (db : ob.data = .seq items2 n2) (hc0 : items.size + items2.size ≤ sizeLine) :
    Meets (Builtin.«list.__add__» ⟨[.ref l, .ref b], []⟩) (fun _ R s => s.heap.get? l = some ol ∧ s.heap.get? b = some ob ∧ R (.ok (.ret (Value.ref s.heap.objs.size))) { s with heap := s.heap.push { cls := Value.type "list", data := Data.seq (items ++ items2) }, toks := s.toks }) :=
  .of_wp fun prog w A R s h => by
    obtain ⟨c1, d1, dt1, s1⟩ := ol
    obtain ⟨c2, d2, dt2, s2⟩ := ob
    obtain rfl : c1 = .type "list" := cl
    obtain rfl : c2 = .type "list" := cb
    obtain rfl : dt1 = .seq items n := dl
    obtain rfl : dt2 = .seq items2 n2 := db
    obtain ⟨hp, g, d, tk, os⟩ := s; obtain ⟨hl, hb, h⟩ := h; have f1 := idx_int; have f2 := AutoSeq1.sub_tuple_tuple; have f3 := AutoSeq1.sub_list_list; have f4 := AutoSeq1.sub_tuple_list; have f5 := AutoSeq1.sub_list_tuple; wp_walk using wpAny_loadPart' hl, wpAny_loadPart' hb; exact ⟨_, rfl, h⟩
def rCatL (K : PySem.W.Frag) : R2 := fun x y H Q => ∃ l b xs zs, x = .ref l ∧ y = .ref b ∧ SqL K H l xs ∧ SqL K H b zs ∧ xs.length + zs.length ≤ sizeLine ∧ ∀ p, H p = none → Q (.ref p) (upd H p (.lst (xs ++ zs)))
theorem op_catL {X : Cx} : OpR X (binaryOp .Add) (rCatL X.K) := by
  intro pins s σ H x y v u Q I rx ry h
  obtain ⟨l, b, xs, zs, rfl, rfl, hH, hB, hz, q⟩ := h
  cases rx
  cases ry
  obtain ⟨its, r, ⟨o, n, ho, hc, hd, hs⟩, hl⟩ := I.list hH
  obtain ⟨its2, r2, ⟨o2, n2, ho2, hc2, hd2, hs2⟩, hl2⟩ := I.list hB
  have e1 := r.length
  have e2 := r2.length
  refine concat_meets ⟨_, ho, hc⟩ ⟨_, ho2, hc2⟩ noFill_list_add seq_list_add F.slot_list_add F.entry_list_add (F.args_list_add_2 _ _) (add_any l o o2 its.toArray n b its2.toArray n2 hc hs hc2 hs2 (by rw [List.size_toArray, List.size_toArray]; omega)) ⟨ho, ho2, ?_⟩
  have ea : its.toArray ++ its2.toArray = (its ++ its2).toArray := by simp
  rw [ea]
  exact ⟨.ref _, _, I.lnew (t' := s.toks) (r.append r2) (by rw [List.length_append]; omega), rfl, q _ I.fresh⟩
def ones : Str := ⟨(List.replicate 31 ("1" : Str).cps).foldl (· ++ ·) #[]⟩
/-- "1" * 31 -/
def rOnes : R2 := fun x y H Q => x = .str "1" ∧ y = .int 31 ∧ Q (.str ones) H
theorem op_ones {X : Cx} : OpR X (binaryOp .Mult) rOnes := by
  intro pins s σ H x y v u Q I rx ry h
  obtain ⟨rfl, rfl, q⟩ := h
  obtain ⟨t, rfl⟩ := rx
  obtain ⟨t2, rfl⟩ := ry
  refine PySem.P.mul_str (by decide +kernel) (fun _ _ => by decide +kernel) (fun _ _ => by decide +kernel) ?_
  rw [if_neg (by decide), if_neg (by decide +kernel)]
  exact ⟨by decide +kernel, .str ones, H, I.tok _, ⟨_, rfl⟩, q⟩
end CA
set_option Elab.async false
set_option linter.all false
set_option maxRecDepth 100000
set_option maxHeartbeats 4000000
namespace CA
open PySem PySem.Spec PyProof.Rows L2
def strsOf : List Expr → Option (List Str)
  | [] => some []
  | .Constant (.str x) _ _ :: r => (strsOf r).map (x :: ·)
  | _ => none
def tStrs (ss : List Str) : TA := fun _ H Q => Q (ss.map V.str) H
theorem pa_strs {X : Cx} : ∀ {es : List Expr} {ss : List Str}, strsOf es = some ss → PA X es (tStrs ss)
  | [], ss, h => by
    obtain rfl : ([] : List Str) = ss := Option.some.inj h
    exact (pa_nil : PA X [] tNil)
  | .Constant (.str x) j p :: es, ss, h => by
    obtain ⟨r, h1, rfl⟩ := Option.map_eq_some_iff.mp (show (strsOf es).map (x :: ·) = some ss from h)
    exact (pa_cons pe_str (pa_strs h1) : PA X (.Constant (.str x) j p :: es) (tCons (tC (.str x)) (tStrs r)))
end CA
set_option Elab.async false
set_option linter.all false
set_option maxRecDepth 100000
set_option maxHeartbeats 0
namespace W7
open PySem PySem.Spec PyProof.Rows L2
def top (i : Nat) : Stmt := PySem.Challenge.pw_backframes_k07_names_of_sources.main.body.getD i (.Pass ⟨0, 0, 0, 0⟩)
abbrev s_is_integer : Stmt := top 15
def d_is_integer : He.DefD := ⟨("is_integer", none), "is_integer", "is_integer", defArgs s_is_integer, defBody s_is_integer, defScope s_is_integer, [], []⟩
abbrev s_is_integer_in : Stmt := top 16
def d_is_integer_in : He.DefD := ⟨("is_integer_in", none), "is_integer_in", "is_integer_in", defArgs s_is_integer_in, defBody s_is_integer_in, defScope s_is_integer_in, [], []⟩
abbrev s_is_written_number : Stmt := top 17
def d_is_written_number : He.DefD := ⟨("is_written_number", none), "is_written_number", "is_written_number", defArgs s_is_written_number, defBody s_is_written_number, defScope s_is_written_number, [], []⟩
abbrev s_is_name : Stmt := top 18
def d_is_name : He.DefD := ⟨("is_name", none), "is_name", "is_name", defArgs s_is_name, defBody s_is_name, defScope s_is_name, [], []⟩
abbrev s_is_kind : Stmt := top 19
def d_is_kind : He.DefD := ⟨("is_kind", none), "is_kind", "is_kind", defArgs s_is_kind, defBody s_is_kind, defScope s_is_kind, [], []⟩
abbrev s_is_tuple_of : Stmt := top 20
def d_is_tuple_of : He.DefD := ⟨("is_tuple_of", none), "is_tuple_of", "is_tuple_of", defArgs s_is_tuple_of, defBody s_is_tuple_of, defScope s_is_tuple_of, [], []⟩
abbrev s_is_list_of : Stmt := top 21
def d_is_list_of : He.DefD := ⟨("is_list_of", none), "is_list_of", "is_list_of", defArgs s_is_list_of, defBody s_is_list_of, defScope s_is_list_of, [], []⟩
abbrev s_is_list_of_names : Stmt := top 22
def d_is_list_of_names : He.DefD := ⟨("is_list_of_names", none), "is_list_of_names", "is_list_of_names", defArgs s_is_list_of_names, defBody s_is_list_of_names, defScope s_is_list_of_names, [], []⟩
abbrev s_is_word_tuple : Stmt := top 23
def d_is_word_tuple : He.DefD := ⟨("is_word_tuple", none), "is_word_tuple", "is_word_tuple", defArgs s_is_word_tuple, defBody s_is_word_tuple, defScope s_is_word_tuple, [], []⟩
abbrev s_frozen : Stmt := top 24
def d_frozen : He.DefD := ⟨("frozen", none), "frozen", "frozen", defArgs s_frozen, defBody s_frozen, defScope s_frozen, [], []⟩
abbrev s_are_named_kinds : Stmt := top 25
def d_are_named_kinds : He.DefD := ⟨("are_named_kinds", none), "are_named_kinds", "are_named_kinds", defArgs s_are_named_kinds, defBody s_are_named_kinds, defScope s_are_named_kinds, [], []⟩
abbrev s_is_row : Stmt := top 30
def d_is_row : He.DefD := ⟨("is_row", none), "is_row", "is_row", defArgs s_is_row, defBody s_is_row, defScope s_is_row, [], []⟩
abbrev s_fills : Stmt := top 31
def d_fills : He.DefD := ⟨("_fills", none), "_fills", "_fills", defArgs s_fills, defBody s_fills, defScope s_fills, [], []⟩
abbrev s_row_sets : Stmt := top 32
def d_row_sets : He.DefD := ⟨("row_sets", none), "row_sets", "row_sets", defArgs s_row_sets, defBody s_row_sets, defScope s_row_sets, [], []⟩
abbrev s_row_reads : Stmt := top 33
def d_row_reads : He.DefD := ⟨("row_reads", none), "row_reads", "row_reads", defArgs s_row_reads, defBody s_row_reads, defScope s_row_reads, [], []⟩
abbrev s_row_kinds_fit : Stmt := top 34
def d_row_kinds_fit : He.DefD := ⟨("row_kinds_fit", none), "row_kinds_fit", "row_kinds_fit", defArgs s_row_kinds_fit, defBody s_row_kinds_fit, defScope s_row_kinds_fit, [], []⟩
abbrev s_names_in : Stmt := top 35
def d_names_in : He.DefD := ⟨("_names_in", none), "_names_in", "_names_in", defArgs s_names_in, defBody s_names_in, defScope s_names_in, [], []⟩
abbrev s_call_fits : Stmt := top 36
def d_call_fits : He.DefD := ⟨("_call_fits", none), "_call_fits", "_call_fits", defArgs s_call_fits, defBody s_call_fits, defScope s_call_fits, [], []⟩
abbrev s_told_row : Stmt := top 37
def d_told_row : He.DefD := ⟨("told_row", none), "told_row", "told_row", defArgs s_told_row, defBody s_told_row, defScope s_told_row, [], []⟩
abbrev s_told_function : Stmt := top 50
def d_told_function : He.DefD := ⟨("_told_function", none), "_told_function", "_told_function", defArgs s_told_function, defBody s_told_function, defScope s_told_function, [], []⟩
abbrev s_is_class : Stmt := top 48
def d_is_class : He.DefD := ⟨("_is_class", none), "_is_class", "_is_class", defArgs s_is_class, defBody s_is_class, defScope s_is_class, [], []⟩
abbrev s_is_head : Stmt := top 49
def d_is_head : He.DefD := ⟨("_is_head", none), "_is_head", "_is_head", defArgs s_is_head, defBody s_is_head, defScope s_is_head, [], []⟩
abbrev s_text_lines : Stmt := top 56
def d_text_lines : He.DefD := ⟨("text_lines", none), "text_lines", "text_lines", defArgs s_text_lines, defBody s_text_lines, defScope s_text_lines, [], []⟩
abbrev s_words_of : Stmt := top 57
def d_words_of : He.DefD := ⟨("_words_of", none), "_words_of", "_words_of", defArgs s_words_of, defBody s_words_of, defScope s_words_of, [], []⟩
abbrev s_line_of : Stmt := top 58
def d_line_of : He.DefD := ⟨("line_of", none), "line_of", "line_of", defArgs s_line_of, defBody s_line_of, defScope s_line_of, [], []⟩
abbrev s_row_line : Stmt := top 59
def d_row_line : He.DefD := ⟨("row_line", none), "row_line", "row_line", defArgs s_row_line, defBody s_row_line, defScope s_row_line, [], []⟩
abbrev s_row_words : Stmt := top 60
def d_row_words : He.DefD := ⟨("row_words", none), "row_words", "row_words", defArgs s_row_words, defBody s_row_words, defScope s_row_words, [], []⟩
abbrev s_pair_words : Stmt := top 61
def d_pair_words : He.DefD := ⟨("pair_words", none), "pair_words", "pair_words", defArgs s_pair_words, defBody s_pair_words, defScope s_pair_words, [], []⟩
abbrev s_read_pairs : Stmt := top 62
def d_read_pairs : He.DefD := ⟨("read_pairs", none), "read_pairs", "read_pairs", defArgs s_read_pairs, defBody s_read_pairs, defScope s_read_pairs, [], []⟩
abbrev s_read_integer : Stmt := top 63
def d_read_integer : He.DefD := ⟨("read_integer", none), "read_integer", "read_integer", defArgs s_read_integer, defBody s_read_integer, defScope s_read_integer, [], []⟩
abbrev s_read_row : Stmt := top 64
def d_read_row : He.DefD := ⟨("read_row", none), "read_row", "read_row", defArgs s_read_row, defBody s_read_row, defScope s_read_row, [], []⟩
abbrev s_read_part : Stmt := top 65
def d_read_part : He.DefD := ⟨("_read_part", none), "_read_part", "_read_part", defArgs s_read_part, defBody s_read_part, defScope s_read_part, [], []⟩
abbrev s_source_text : Stmt := top 67
def d_source_text : He.DefD := ⟨("source_text", none), "source_text", "source_text", defArgs s_source_text, defBody s_source_text, defScope s_source_text, [], []⟩
abbrev s_read_source : Stmt := top 68
def d_read_source : He.DefD := ⟨("read_source", none), "read_source", "read_source", defArgs s_read_source, defBody s_read_source, defScope s_read_source, [], []⟩
abbrev s_takes_line : Stmt := top 69
def d_takes_line : He.DefD := ⟨("_takes_line", none), "_takes_line", "_takes_line", defArgs s_takes_line, defBody s_takes_line, defScope s_takes_line, [], []⟩
abbrev s_takes_class : Stmt := top 70
def d_takes_class : He.DefD := ⟨("_takes_class", none), "_takes_class", "_takes_class", defArgs s_takes_class, defBody s_takes_class, defScope s_takes_class, [], []⟩
abbrev s_takes_function : Stmt := top 71
def d_takes_function : He.DefD := ⟨("_takes_function", none), "_takes_function", "_takes_function", defArgs s_takes_function, defBody s_takes_function, defScope s_takes_function, [], []⟩
abbrev s_L_mix : Stmt := top 73
def d_L_mix : He.DefD := ⟨("_law_mix", none), "_law_mix", "_law_mix", defArgs s_L_mix, defBody s_L_mix, defScope s_L_mix, [], []⟩
abbrev s_L_well : Stmt := top 74
def d_L_well : He.DefD := ⟨("_law_well", none), "_law_well", "_law_well", defArgs s_L_well, defBody s_L_well, defScope s_L_well, [], []⟩
abbrev s_L_draw : Stmt := top 75
def d_L_draw : He.DefD := ⟨("_law_draw", none), "_law_draw", "_law_draw", defArgs s_L_draw, defBody s_L_draw, defScope s_L_draw, [], []⟩
abbrev s_L_pick : Stmt := top 76
def d_L_pick : He.DefD := ⟨("_law_pick", none), "_law_pick", "_law_pick", defArgs s_L_pick, defBody s_L_pick, defScope s_L_pick, [], []⟩
abbrev s_L_marks : Stmt := top 78
def d_L_marks : He.DefD := ⟨("_law_marks", none), "_law_marks", "_law_marks", defArgs s_L_marks, defBody s_L_marks, defScope s_L_marks, [], []⟩
abbrev s_L_errors_right : Stmt := top 79
def d_L_errors_right : He.DefD := ⟨("_law_errors_right", none), "_law_errors_right", "_law_errors_right", defArgs s_L_errors_right, defBody s_L_errors_right, defScope s_L_errors_right, [], []⟩
abbrev s_L_said : Stmt := top 80
def d_L_said : He.DefD := ⟨("_law_said", none), "_law_said", "_law_said", defArgs s_L_said, defBody s_L_said, defScope s_L_said, [], []⟩
abbrev s_L_right : Stmt := top 81
def d_L_right : He.DefD := ⟨("_law_right", none), "_law_right", "_law_right", defArgs s_L_right, defBody s_L_right, defScope s_L_right, [], []⟩
abbrev s_law : Stmt := top 82
def d_law : He.DefD := ⟨("law", none), "law", "law", defArgs s_law, defBody s_law, defScope s_law, [], []⟩
abbrev s_Function_init : Stmt := inClass (top 46) 0
def d_Function_init : He.DefD := ⟨("Function", some "__init__"), "__init__", "Function.__init__", defArgs s_Function_init, defBody s_Function_init, defScope s_Function_init, [], []⟩
abbrev s_InvalidSource_init : Stmt := inClass (top 3) 0
def d_InvalidSource_init : He.DefD := ⟨("InvalidSource", some "__init__"), "__init__", "InvalidSource.__init__", defArgs s_InvalidSource_init, defBody s_InvalidSource_init, defScope s_InvalidSource_init, [], []⟩
abbrev s_InvalidCode_init : Stmt := inClass (top 4) 0
def d_InvalidCode_init : He.DefD := ⟨("InvalidCode", some "__init__"), "__init__", "InvalidCode.__init__", defArgs s_InvalidCode_init, defBody s_InvalidCode_init, defScope s_InvalidCode_init, [], []⟩
abbrev s_InvalidText_init : Stmt := inClass (top 5) 0
def d_InvalidText_init : He.DefD := ⟨("InvalidText", some "__init__"), "__init__", "InvalidText.__init__", defArgs s_InvalidText_init, defBody s_InvalidText_init, defScope s_InvalidText_init, [], []⟩
abbrev s_InvalidState_init : Stmt := inClass (top 6) 0
def d_InvalidState_init : He.DefD := ⟨("InvalidState", some "__init__"), "__init__", "InvalidState.__init__", defArgs s_InvalidState_init, defBody s_InvalidState_init, defScope s_InvalidState_init, [], []⟩
abbrev s_InvalidArgument_init : Stmt := inClass (top 7) 0
def d_InvalidArgument_init : He.DefD := ⟨("InvalidArgument", some "__init__"), "__init__", "InvalidArgument.__init__", defArgs s_InvalidArgument_init, defBody s_InvalidArgument_init, defScope s_InvalidArgument_init, [], []⟩
abbrev s_InvalidNumber_init : Stmt := inClass (top 8) 0
def d_InvalidNumber_init : He.DefD := ⟨("InvalidNumber", some "__init__"), "__init__", "InvalidNumber.__init__", defArgs s_InvalidNumber_init, defBody s_InvalidNumber_init, defScope s_InvalidNumber_init, [], []⟩
abbrev s_LimitExceeded_init : Stmt := inClass (top 9) 0
def d_LimitExceeded_init : He.DefD := ⟨("LimitExceeded", some "__init__"), "__init__", "LimitExceeded.__init__", defArgs s_LimitExceeded_init, defBody s_LimitExceeded_init, defScope s_LimitExceeded_init, [], []⟩
abbrev s_Source_init : Stmt := inClass (top 47) 0
def d_Source_init : He.DefD := ⟨("Source", some "__init__"), "__init__", "Source.__init__", defArgs s_Source_init, defBody s_Source_init, defScope s_Source_init, [], []⟩
abbrev s_Source_take_classes : Stmt := inClass (top 47) 1
def d_Source_take_classes : He.DefD := ⟨("Source", some "_take_classes"), "_take_classes", "Source._take_classes", defArgs s_Source_take_classes, defBody s_Source_take_classes, defScope s_Source_take_classes, [], []⟩
abbrev s_Source_kinds_differ : Stmt := inClass (top 47) 2
def d_Source_kinds_differ : He.DefD := ⟨("Source", some "_kinds_differ"), "_kinds_differ", "Source._kinds_differ", defArgs s_Source_kinds_differ, defBody s_Source_kinds_differ, defScope s_Source_kinds_differ, [], []⟩
abbrev s_Source_take_heads : Stmt := inClass (top 47) 3
def d_Source_take_heads : He.DefD := ⟨("Source", some "_take_heads"), "_take_heads", "Source._take_heads", defArgs s_Source_take_heads, defBody s_Source_take_heads, defScope s_Source_take_heads, [], []⟩
abbrev s_Source_take_rows : Stmt := inClass (top 47) 4
def d_Source_take_rows : He.DefD := ⟨("Source", some "_take_rows"), "_take_rows", "Source._take_rows", defArgs s_Source_take_rows, defBody s_Source_take_rows, defScope s_Source_take_rows, [], []⟩
abbrev s_Source_is_row_of : Stmt := inClass (top 47) 5
def d_Source_is_row_of : He.DefD := ⟨("Source", some "_is_row_of"), "_is_row_of", "Source._is_row_of", defArgs s_Source_is_row_of, defBody s_Source_is_row_of, defScope s_Source_is_row_of, [], []⟩
abbrev s_Source_function_at : Stmt := inClass (top 47) 9
def d_Source_function_at : He.DefD := ⟨("Source", some "function_at"), "function_at", "Source.function_at", defArgs s_Source_function_at, defBody s_Source_function_at, defScope s_Source_function_at, [], []⟩
abbrev s_Source_fields_of : Stmt := inClass (top 47) 10
def d_Source_fields_of : He.DefD := ⟨("Source", some "fields_of"), "fields_of", "Source.fields_of", defArgs s_Source_fields_of, defBody s_Source_fields_of, defScope s_Source_fields_of, [], []⟩
abbrev s_Source_field_kind : Stmt := inClass (top 47) 11
def d_Source_field_kind : He.DefD := ⟨("Source", some "field_kind"), "field_kind", "Source.field_kind", defArgs s_Source_field_kind, defBody s_Source_field_kind, defScope s_Source_field_kind, [], []⟩
abbrev s_Source_classes : Stmt := inClass (top 47) 6
def d_Source_classes : He.DefD := ⟨("Source", some "classes"), "classes", "Source.classes", defArgs s_Source_classes, defBody s_Source_classes, defScope s_Source_classes, [], []⟩
abbrev s_Source_functions : Stmt := inClass (top 47) 7
def d_Source_functions : He.DefD := ⟨("Source", some "functions"), "functions", "Source.functions", defArgs s_Source_functions, defBody s_Source_functions, defScope s_Source_functions, [], []⟩
abbrev s_Source_eq : Stmt := inClass (top 47) 8
def d_Source_eq : He.DefD := ⟨("Source", some "__eq__"), "__eq__", "Source.__eq__", defArgs s_Source_eq, defBody s_Source_eq, defScope s_Source_eq, [], []⟩
def fn : List He.DefD := [d_is_integer, d_is_integer_in, d_is_written_number, d_is_name, d_is_kind, d_is_tuple_of, d_is_list_of, d_is_list_of_names, d_is_word_tuple, d_frozen, d_are_named_kinds, d_is_row, d_fills, d_row_sets, d_row_reads, d_row_kinds_fit, d_names_in, d_call_fits, d_told_row, d_told_function, d_is_class, d_is_head, d_text_lines, d_words_of, d_line_of, d_row_line, d_row_words, d_pair_words, d_read_pairs, d_read_integer, d_read_row, d_read_part, d_source_text, d_read_source, d_takes_line, d_takes_class, d_takes_function, d_L_mix, d_L_well, d_L_draw, d_L_pick, d_L_marks, d_L_errors_right, d_L_said, d_L_right, d_law, d_Function_init, d_InvalidSource_init, d_InvalidCode_init, d_InvalidText_init, d_InvalidState_init, d_InvalidArgument_init, d_InvalidNumber_init, d_LimitExceeded_init, d_Source_init, d_Source_take_classes, d_Source_kinds_differ, d_Source_take_heads, d_Source_take_rows, d_Source_is_row_of, d_Source_function_at, d_Source_fields_of, d_Source_field_kind, d_Source_classes, d_Source_functions, d_Source_eq]
def fa : List He.Fa := [.glo "is_integer", .glo "is_integer_in", .glo "is_written_number", .glo "is_name", .glo "is_kind", .glo "is_tuple_of", .glo "is_list_of", .glo "is_list_of_names", .glo "is_word_tuple", .glo "frozen", .glo "are_named_kinds", .glo "is_row", .glo "_fills", .glo "row_sets", .glo "row_reads", .glo "row_kinds_fit", .glo "_names_in", .glo "_call_fits", .glo "told_row", .glo "_told_function", .glo "_is_class", .glo "_is_head", .glo "text_lines", .glo "_words_of", .glo "line_of", .glo "row_line", .glo "row_words", .glo "pair_words", .glo "read_pairs", .glo "read_integer", .glo "read_row", .glo "_read_part", .glo "source_text", .glo "read_source", .glo "_takes_line", .glo "_takes_class", .glo "_takes_function", .glo "_law_mix", .glo "_law_well", .glo "_law_draw", .glo "_law_pick", .glo "_law_marks", .glo "_law_errors_right", .glo "_law_said", .glo "_law_right", .glo "law", .free "isinstance", .free "int", .free "bool", .free "str", .free "list", .free "tuple", .free "len", .free "all", .free "any", .free "zip", .free "enumerate", .free "dict", .free "range", .free "min", .free "max", .free "repr", .free "ArithmeticError", .int "GREATEST_WRITTEN" 1000000000, .int "MOST_CLASSES" 6, .int "MOST_FIELDS" 4, .int "MOST_FUNCTIONS" 6, .int "MOST_PARAMETERS" 4, .int "MOST_OTHERS" 8, .int "MOST_ROWS" 40, .int "MOST_FIGURES" 30, .str "LETTERS" "abcdefghijklmnopqrstuvwxyz", .str "MARKS" "abcdefghijklmnopqrstuvwxyz0123456789", .str "FIGURES" "0123456789", .str "INDENT" "  ", .str "STROKE" "/", .glo "InvalidSource", .glo "InvalidCode", .glo "InvalidText", .glo "InvalidState", .glo "InvalidArgument", .glo "InvalidNumber", .glo "LimitExceeded", .glo "CodeError", .exm "InvalidSource" "InvalidSource" true, .glo "Function", .glo "Source", .glo "KINDS", .glo "NUMBER_WORDS", .glo "ROW_WORDS", .glo "ROLES", .cls "Function", .mkr "Function", .noat "Function" "name", .noat "Function" "params", .noat "Function" "others", .noat "Function" "result", .noat "Function" "variables", .noat "Function" "body", .cls "Source", .mkr "Source", .noat "Source" "_field_kinds", .noat "Source" "_fields", .noat "Source" "_functions", .meth "Source" "_take_classes", .meth "Source" "_kinds_differ", .meth "Source" "_take_heads", .meth "Source" "_take_rows", .meth "Source" "_is_row_of", .meth "Source" "function_at", .meth "Source" "fields_of", .meth "Source" "field_kind", .meth "Source" "classes", .meth "Source" "functions", .meth "Source" "__eq__"]
def v_KINDS : List He.Dv := [.str "number", .str "object"]
def v_NUMBER_WORDS : List He.Dv := [.str "number", .str "add", .str "sub", .str "times", .str "less", .str "if", .str "guard"]
def v_ROW_WORDS : List He.Dv := [.str "number", .str "add", .str "sub", .str "times", .str "less", .str "nil", .str "new", .str "copy", .str "same", .str "get", .str "put", .str "call", .str "see", .str "if", .str "jump", .str "return"]
def roles : List (Str × List Str) := [("number", ["sets", "number"]), ("nil", ["sets"]), ("copy", ["sets", "reads"]), ("add", ["sets", "reads", "reads"]), ("sub", ["sets", "reads", "reads"]), ("times", ["sets", "reads", "reads"]), ("less", ["sets", "reads", "reads"]), ("same", ["sets", "reads", "reads"]), ("new", ["sets", "class"]), ("get", ["sets", "reads", "field"]), ("put", ["reads", "field", "reads"]), ("call", ["sets", "function", "many"]), ("see", ["reads"]), ("if", ["reads", "row"]), ("jump", ["row"]), ("return", ["reads"]), ("guard", ["reads", "point"]), ("look", ["point"])]
/-- the tuple that the table ROLES has at a word -/
def rolA (K : PySem.W.Frag) (x : Str) : Addr := match PySem.W.nsIn K (He.ga K "ROLES") x with
  | some (some (.ref a)) => a
  | _ => 0
def tupAt (K : PySem.W.Frag) (a : Addr) (vs : List V) : Bool := match K.lookup a with
  | some ⟨.type c, _, .seq its _, _⟩ => decide (c = "tuple") && (decide (its.size ≤ sizeLine) && He.relAll vs its.toList)
  | _ => false
def rolB (K : PySem.W.Frag) (q : Str × List Str) : Bool := He.eqO (PySem.W.nsIn K (He.ga K "ROLES") q.1) (some (some (.ref (rolA K q.1)))) && tupAt K (rolA K q.1) (q.2.map V.str)
def isaB (K : PySem.W.Frag) (C : Addr) : Bool := He.eqO (PySem.W.findIn K (.ref C) "__class__") (some (some (.builtin "object.__class__"))) && (He.eqO (PySem.W.specialIn K (.builtin "object.__class__") "__get__") (some (some (.builtin "getset_descriptor.__get__"))) && (decide (PySem.W.takesIn K (.builtin "object.__class__") = some true) && (decide (PySem.W.mroIn K C (.type "object") = some true) && decide (PySem.W.kitOne K (.ref C) (.ref C) = some true))))
/-- what is asked of an error of the program at C -/
def errB (K : PySem.W.Frag) (C : Addr) (fs : List Str) : Bool := AE.aeB K C && (L2.xfB K C && ((fs.all fun f => decide (PySem.W.findIn K (.ref C) f = some none)) && (decide (PySem.W.findIn K (.ref C) "__init__" = some (some (.ref (He.ma K C "__init__")))) && (decide (PySem.W.typeIn K (.ref (He.ma K C "__init__")) = some (.type "function")) && (He.eqO (PySem.W.findIn K (.ref C) "__class__") (some (some (.builtin "object.__class__"))) && decide (PySem.W.mroIn K C (.type "object") = some true))))))
def errN : List Str := ["InvalidSource", "InvalidCode", "InvalidText", "InvalidState", "InvalidArgument", "InvalidNumber", "LimitExceeded"]
def errsB (K : PySem.W.Frag) : Bool := errB K (He.ga K "InvalidSource") ["part", "at"] && (errB K (He.ga K "InvalidCode") ["part", "at"] && (errB K (He.ga K "InvalidText") ["line"] && (errB K (He.ga K "InvalidState") ["part"] && (errB K (He.ga K "InvalidArgument") ["part"] && (errB K (He.ga K "InvalidNumber") ["number"] && (errB K (He.ga K "LimitExceeded") ["limit"]))))))
def marksB (K : PySem.W.Frag) : Bool := errN.all fun x => (errN.all fun y => decide (PySem.W.kitOne K (.ref (He.ga K x)) (.ref (He.ga K y)) = some (decide (x = y)))) && (decide (PySem.W.kitOne K (.ref (He.ga K x)) (.ref (He.ga K "CodeError")) = some true) && decide (PySem.W.kitOne K (.ref (He.ga K x)) (.type "ArithmeticError") = some true))
def eqB (K : PySem.W.Frag) : Bool := decide (PySem.W.findIn K (.ref (He.ga K "Source")) "__eq__" = some (some (.ref (He.ma K (He.ga K "Source") "__eq__")))) && (decide (PySem.W.findIn K (.ref (He.ga K "Source")) "__ne__" = some (some (.builtin "object.__ne__"))) && (decide (PySem.W.subIn K (.ref (He.ga K "Source")) (.type "object") = some true) && PySem.W.isFn K (.ref (He.ma K (He.ga K "Source") "__eq__"))))
def notB (K : PySem.W.Frag) : Bool := (["NoneType", "int", "bool", "str", "list", "tuple", "dict"] : List String).all fun t => decide (PySem.W.kitOne K (.type t) (.ref (He.ga K "Source")) = some false)
def ex (K : PySem.W.Frag) : Bool := He.tupB K "KINDS" v_KINDS && (He.tupB K "NUMBER_WORDS" v_NUMBER_WORDS && (He.tupB K "ROW_WORDS" v_ROW_WORDS && (roles.all (rolB K) && (isaB K (He.ga K "Source") && (errsB K && (marksB K && (eqB K && notB K)))))))
def ts : List He.Tab := [(fun K => He.ga K "ROLES", roles.map (·.1))]
def nms : List Str := (["_wall", "CodeError", "InvalidSource", "InvalidCode", "InvalidText", "InvalidState", "InvalidArgument", "InvalidNumber", "LimitExceeded", "GREATEST_WRITTEN", "LETTERS", "MARKS", "KINDS", "is_integer", "is_integer_in", "is_written_number", "is_name", "is_kind", "is_tuple_of", "is_list_of", "is_list_of_names", "is_word_tuple", "frozen", "are_named_kinds", "ROLES", "NUMBER_WORDS", "GREATEST_POINT", "is_row", "_fills", "row_sets"] : List Str) ++ (["row_reads", "row_kinds_fit", "_names_in", "_call_fits", "told_row", "MOST_CLASSES", "MOST_FIELDS", "MOST_FUNCTIONS", "MOST_PARAMETERS", "MOST_OTHERS", "MOST_ROWS", "ROW_WORDS", "Function", "Source", "_is_class", "_is_head", "_told_function", "FIGURES", "MOST_FIGURES", "INDENT", "STROKE", "text_lines", "_words_of", "line_of", "row_line", "row_words", "pair_words", "read_pairs", "read_integer", "read_row"] : List Str) ++ (["_read_part", "source_text", "read_source", "_takes_line", "_takes_class", "_takes_function", "_law_mix", "_law_well", "_law_draw", "_law_pick", "_law_some", "_law_marks", "_law_errors_right", "_law_said", "_law_right"] : List Str)
abbrev R : PySem.W.OpenRow := PySem.W.OpenLaw.row PySem.Challenge.rw_backframes_k07_names_of_sources
abbrev hk : PySem.W.Hook := He.hookX 4 fa fn ts [] ex
def ob (s : PySem.W.SharedT) : He.AlX := He.obsX 4 fa fn ts [] ex (HandSHeadRun.getT s)
theorem ob_eq (s : PySem.W.SharedT) : ob s = hk.obs s.abs := He.obsX_eq (HandSHeadRun.getT_eq s)
theorem runF (w : World) : HandSHeadRun.RunEq R (PySem.W.view R.prog [82]) hk ob 8000 nms (w.withFollow "special-get-raises" false) := by
  intro os
  kernel_rfl
theorem runT (w : World) : HandSHeadRun.RunEq R (PySem.W.view R.prog [82]) hk ob 8000 nms (w.withFollow "special-get-raises" true) := by
  intro os
  kernel_rfl
theorem run (w : World) : HandSHeadRun.RunEq R (PySem.W.view R.prog [82]) hk ob 8000 nms w := PySem.W.byRow2 "special-get-raises" runF runT w
end W7
set_option Elab.async false
set_option linter.all false
set_option maxRecDepth 100000
set_option maxHeartbeats 4000000
namespace W7
open PySem PySem.Spec PyProof.Rows L2
/-- what stands behind the top -/
structure Ctx (w : World) (K : PySem.W.Frag) (mg : Str → Option Value) : Prop where
  ex_ : ∃ h : Heap, K.In h ∧ h.Ns mainGlobals mg
  says : He.SaysT fa fn ts w K
  more : ex K = true
section
variable {w : World} {K : PySem.W.Frag} {mg : Str → Option Value}
theorem Ctx.glo (T : Ctx w K mg) {x : Str} (i : Nat) (h : fa[i]? = some (.glo x) := by rfl) : mg x = some (.ref (He.ga K x)) := by
  obtain ⟨_, X, G⟩ := T.ex_
  exact He.glo_ok X G (T.says.d.fact i h)
theorem Ctx.free (T : Ctx w K mg) {x : Str} (i : Nat) (h : fa[i]? = some (.free x) := by rfl) : mg x = none := by
  obtain ⟨_, X, G⟩ := T.ex_
  exact He.free_ok X G (T.says.d.fact i h)
theorem Ctx.int (T : Ctx w K mg) {x : Str} {z : Int} (i : Nat) (h : fa[i]? = some (.int x z) := by rfl) : ∃ t, mg x = some (.int z t) := by
  obtain ⟨_, X, G⟩ := T.ex_
  exact He.int_ok X G (T.says.d.fact i h)
theorem Ctx.str (T : Ctx w K mg) {x z : Str} (i : Nat) (h : fa[i]? = some (.str x z) := by rfl) : ∃ t, mg x = some (.str z t) := by
  obtain ⟨_, X, G⟩ := T.ex_
  exact He.str_ok X G (T.says.d.fact i h)
/-- a def that keeps its promise, with all that a caller needs -/
structure Has (P : Program) (w : World) (K : PySem.W.Frag) (mg : Str → Option Value) (base : Heap) (k : Nat) (x : Str) (ps : List Str) (sp : Sp) : Prop where
  ex : ∃ fd, FnOk P w K mg base CX0 k (He.ga K x) fd ps sp ∧ Binds K fd ps []
  kp : PySem.W.keepIn K (.ref (He.ga K x)) = true
  gl : mg x = some (.ref (He.ga K x))
/-- the same of a method -/
structure HasM (P : Program) (w : World) (K : PySem.W.Frag) (mg : Str → Option Value) (base : Heap) (k : Nat) (C m : Str) (ps : List Str) (sp : Sp) : Prop where
  ex : ∃ fd, FnOk P w K mg base CX0 k (He.ma K (He.ga K C) m) fd ps sp ∧ Binds K fd ps []
theorem Ctx.g_is_integer (T : Ctx w K mg) : mg "is_integer" = some (.ref (He.ga K "is_integer")) := T.glo 0
theorem Ctx.g_is_integer_in (T : Ctx w K mg) : mg "is_integer_in" = some (.ref (He.ga K "is_integer_in")) := T.glo 1
theorem Ctx.g_is_written_number (T : Ctx w K mg) : mg "is_written_number" = some (.ref (He.ga K "is_written_number")) := T.glo 2
theorem Ctx.g_is_name (T : Ctx w K mg) : mg "is_name" = some (.ref (He.ga K "is_name")) := T.glo 3
theorem Ctx.g_is_kind (T : Ctx w K mg) : mg "is_kind" = some (.ref (He.ga K "is_kind")) := T.glo 4
theorem Ctx.g_is_tuple_of (T : Ctx w K mg) : mg "is_tuple_of" = some (.ref (He.ga K "is_tuple_of")) := T.glo 5
theorem Ctx.g_is_list_of (T : Ctx w K mg) : mg "is_list_of" = some (.ref (He.ga K "is_list_of")) := T.glo 6
theorem Ctx.g_is_list_of_names (T : Ctx w K mg) : mg "is_list_of_names" = some (.ref (He.ga K "is_list_of_names")) := T.glo 7
theorem Ctx.g_is_word_tuple (T : Ctx w K mg) : mg "is_word_tuple" = some (.ref (He.ga K "is_word_tuple")) := T.glo 8
theorem Ctx.g_frozen (T : Ctx w K mg) : mg "frozen" = some (.ref (He.ga K "frozen")) := T.glo 9
theorem Ctx.g_are_named_kinds (T : Ctx w K mg) : mg "are_named_kinds" = some (.ref (He.ga K "are_named_kinds")) := T.glo 10
theorem Ctx.g_is_row (T : Ctx w K mg) : mg "is_row" = some (.ref (He.ga K "is_row")) := T.glo 11
theorem Ctx.g_fills (T : Ctx w K mg) : mg "_fills" = some (.ref (He.ga K "_fills")) := T.glo 12
theorem Ctx.g_row_sets (T : Ctx w K mg) : mg "row_sets" = some (.ref (He.ga K "row_sets")) := T.glo 13
theorem Ctx.g_row_reads (T : Ctx w K mg) : mg "row_reads" = some (.ref (He.ga K "row_reads")) := T.glo 14
theorem Ctx.g_row_kinds_fit (T : Ctx w K mg) : mg "row_kinds_fit" = some (.ref (He.ga K "row_kinds_fit")) := T.glo 15
theorem Ctx.g_names_in (T : Ctx w K mg) : mg "_names_in" = some (.ref (He.ga K "_names_in")) := T.glo 16
theorem Ctx.g_call_fits (T : Ctx w K mg) : mg "_call_fits" = some (.ref (He.ga K "_call_fits")) := T.glo 17
theorem Ctx.g_told_row (T : Ctx w K mg) : mg "told_row" = some (.ref (He.ga K "told_row")) := T.glo 18
theorem Ctx.g_told_function (T : Ctx w K mg) : mg "_told_function" = some (.ref (He.ga K "_told_function")) := T.glo 19
theorem Ctx.g_is_class (T : Ctx w K mg) : mg "_is_class" = some (.ref (He.ga K "_is_class")) := T.glo 20
theorem Ctx.g_is_head (T : Ctx w K mg) : mg "_is_head" = some (.ref (He.ga K "_is_head")) := T.glo 21
theorem Ctx.g_text_lines (T : Ctx w K mg) : mg "text_lines" = some (.ref (He.ga K "text_lines")) := T.glo 22
theorem Ctx.g_words_of (T : Ctx w K mg) : mg "_words_of" = some (.ref (He.ga K "_words_of")) := T.glo 23
theorem Ctx.g_line_of (T : Ctx w K mg) : mg "line_of" = some (.ref (He.ga K "line_of")) := T.glo 24
theorem Ctx.g_row_line (T : Ctx w K mg) : mg "row_line" = some (.ref (He.ga K "row_line")) := T.glo 25
theorem Ctx.g_row_words (T : Ctx w K mg) : mg "row_words" = some (.ref (He.ga K "row_words")) := T.glo 26
theorem Ctx.g_pair_words (T : Ctx w K mg) : mg "pair_words" = some (.ref (He.ga K "pair_words")) := T.glo 27
theorem Ctx.g_read_pairs (T : Ctx w K mg) : mg "read_pairs" = some (.ref (He.ga K "read_pairs")) := T.glo 28
theorem Ctx.g_read_integer (T : Ctx w K mg) : mg "read_integer" = some (.ref (He.ga K "read_integer")) := T.glo 29
theorem Ctx.g_read_row (T : Ctx w K mg) : mg "read_row" = some (.ref (He.ga K "read_row")) := T.glo 30
theorem Ctx.g_read_part (T : Ctx w K mg) : mg "_read_part" = some (.ref (He.ga K "_read_part")) := T.glo 31
theorem Ctx.g_source_text (T : Ctx w K mg) : mg "source_text" = some (.ref (He.ga K "source_text")) := T.glo 32
theorem Ctx.g_read_source (T : Ctx w K mg) : mg "read_source" = some (.ref (He.ga K "read_source")) := T.glo 33
theorem Ctx.g_takes_line (T : Ctx w K mg) : mg "_takes_line" = some (.ref (He.ga K "_takes_line")) := T.glo 34
theorem Ctx.g_takes_class (T : Ctx w K mg) : mg "_takes_class" = some (.ref (He.ga K "_takes_class")) := T.glo 35
theorem Ctx.g_takes_function (T : Ctx w K mg) : mg "_takes_function" = some (.ref (He.ga K "_takes_function")) := T.glo 36
theorem Ctx.g_L_mix (T : Ctx w K mg) : mg "_law_mix" = some (.ref (He.ga K "_law_mix")) := T.glo 37
theorem Ctx.g_L_well (T : Ctx w K mg) : mg "_law_well" = some (.ref (He.ga K "_law_well")) := T.glo 38
theorem Ctx.g_L_draw (T : Ctx w K mg) : mg "_law_draw" = some (.ref (He.ga K "_law_draw")) := T.glo 39
theorem Ctx.g_L_pick (T : Ctx w K mg) : mg "_law_pick" = some (.ref (He.ga K "_law_pick")) := T.glo 40
theorem Ctx.g_L_marks (T : Ctx w K mg) : mg "_law_marks" = some (.ref (He.ga K "_law_marks")) := T.glo 41
theorem Ctx.g_L_errors_right (T : Ctx w K mg) : mg "_law_errors_right" = some (.ref (He.ga K "_law_errors_right")) := T.glo 42
theorem Ctx.g_L_said (T : Ctx w K mg) : mg "_law_said" = some (.ref (He.ga K "_law_said")) := T.glo 43
theorem Ctx.g_L_right (T : Ctx w K mg) : mg "_law_right" = some (.ref (He.ga K "_law_right")) := T.glo 44
theorem Ctx.g_law (T : Ctx w K mg) : mg "law" = some (.ref (He.ga K "law")) := T.glo 45
theorem Ctx.f_isinstance (T : Ctx w K mg) : mg "isinstance" = none := T.free 46
theorem Ctx.f_int (T : Ctx w K mg) : mg "int" = none := T.free 47
theorem Ctx.f_bool (T : Ctx w K mg) : mg "bool" = none := T.free 48
theorem Ctx.f_str (T : Ctx w K mg) : mg "str" = none := T.free 49
theorem Ctx.f_list (T : Ctx w K mg) : mg "list" = none := T.free 50
theorem Ctx.f_tuple (T : Ctx w K mg) : mg "tuple" = none := T.free 51
theorem Ctx.f_len (T : Ctx w K mg) : mg "len" = none := T.free 52
theorem Ctx.f_all (T : Ctx w K mg) : mg "all" = none := T.free 53
theorem Ctx.f_any (T : Ctx w K mg) : mg "any" = none := T.free 54
theorem Ctx.f_zip (T : Ctx w K mg) : mg "zip" = none := T.free 55
theorem Ctx.f_enumerate (T : Ctx w K mg) : mg "enumerate" = none := T.free 56
theorem Ctx.f_dict (T : Ctx w K mg) : mg "dict" = none := T.free 57
theorem Ctx.f_range (T : Ctx w K mg) : mg "range" = none := T.free 58
theorem Ctx.f_min (T : Ctx w K mg) : mg "min" = none := T.free 59
theorem Ctx.f_max (T : Ctx w K mg) : mg "max" = none := T.free 60
theorem Ctx.f_repr (T : Ctx w K mg) : mg "repr" = none := T.free 61
theorem Ctx.f_ArithmeticError (T : Ctx w K mg) : mg "ArithmeticError" = none := T.free 62
theorem Ctx.i_GREATEST_WRITTEN (T : Ctx w K mg) : ∃ t, mg "GREATEST_WRITTEN" = some (.int 1000000000 t) := T.int 63
theorem Ctx.i_MOST_CLASSES (T : Ctx w K mg) : ∃ t, mg "MOST_CLASSES" = some (.int 6 t) := T.int 64
theorem Ctx.i_MOST_FIELDS (T : Ctx w K mg) : ∃ t, mg "MOST_FIELDS" = some (.int 4 t) := T.int 65
theorem Ctx.i_MOST_FUNCTIONS (T : Ctx w K mg) : ∃ t, mg "MOST_FUNCTIONS" = some (.int 6 t) := T.int 66
theorem Ctx.i_MOST_PARAMETERS (T : Ctx w K mg) : ∃ t, mg "MOST_PARAMETERS" = some (.int 4 t) := T.int 67
theorem Ctx.i_MOST_OTHERS (T : Ctx w K mg) : ∃ t, mg "MOST_OTHERS" = some (.int 8 t) := T.int 68
theorem Ctx.i_MOST_ROWS (T : Ctx w K mg) : ∃ t, mg "MOST_ROWS" = some (.int 40 t) := T.int 69
theorem Ctx.i_MOST_FIGURES (T : Ctx w K mg) : ∃ t, mg "MOST_FIGURES" = some (.int 30 t) := T.int 70
theorem Ctx.s_LETTERS (T : Ctx w K mg) : ∃ t, mg "LETTERS" = some (.str "abcdefghijklmnopqrstuvwxyz" t) := T.str 71
theorem Ctx.s_MARKS (T : Ctx w K mg) : ∃ t, mg "MARKS" = some (.str "abcdefghijklmnopqrstuvwxyz0123456789" t) := T.str 72
theorem Ctx.s_FIGURES (T : Ctx w K mg) : ∃ t, mg "FIGURES" = some (.str "0123456789" t) := T.str 73
theorem Ctx.s_INDENT (T : Ctx w K mg) : ∃ t, mg "INDENT" = some (.str "  " t) := T.str 74
theorem Ctx.s_STROKE (T : Ctx w K mg) : ∃ t, mg "STROKE" = some (.str "/" t) := T.str 75
theorem Ctx.g_InvalidSource (T : Ctx w K mg) : mg "InvalidSource" = some (.ref (He.ga K "InvalidSource")) := T.glo 76
theorem Ctx.g_InvalidCode (T : Ctx w K mg) : mg "InvalidCode" = some (.ref (He.ga K "InvalidCode")) := T.glo 77
theorem Ctx.g_InvalidText (T : Ctx w K mg) : mg "InvalidText" = some (.ref (He.ga K "InvalidText")) := T.glo 78
theorem Ctx.g_InvalidState (T : Ctx w K mg) : mg "InvalidState" = some (.ref (He.ga K "InvalidState")) := T.glo 79
theorem Ctx.g_InvalidArgument (T : Ctx w K mg) : mg "InvalidArgument" = some (.ref (He.ga K "InvalidArgument")) := T.glo 80
theorem Ctx.g_InvalidNumber (T : Ctx w K mg) : mg "InvalidNumber" = some (.ref (He.ga K "InvalidNumber")) := T.glo 81
theorem Ctx.g_LimitExceeded (T : Ctx w K mg) : mg "LimitExceeded" = some (.ref (He.ga K "LimitExceeded")) := T.glo 82
theorem Ctx.g_CodeError (T : Ctx w K mg) : mg "CodeError" = some (.ref (He.ga K "CodeError")) := T.glo 83
theorem Ctx.g_Function (T : Ctx w K mg) : mg "Function" = some (.ref (He.ga K "Function")) := T.glo 85
theorem Ctx.g_Source (T : Ctx w K mg) : mg "Source" = some (.ref (He.ga K "Source")) := T.glo 86
theorem Ctx.g_KINDS (T : Ctx w K mg) : mg "KINDS" = some (.ref (He.ga K "KINDS")) := T.glo 87
theorem Ctx.g_NUMBER_WORDS (T : Ctx w K mg) : mg "NUMBER_WORDS" = some (.ref (He.ga K "NUMBER_WORDS")) := T.glo 88
theorem Ctx.g_ROW_WORDS (T : Ctx w K mg) : mg "ROW_WORDS" = some (.ref (He.ga K "ROW_WORDS")) := T.glo 89
theorem Ctx.g_ROLES (T : Ctx w K mg) : mg "ROLES" = some (.ref (He.ga K "ROLES")) := T.glo 90
theorem Ctx.c_Function (T : Ctx w K mg) : Cls K (He.ga K "Function") := He.cls_ok (T.says.d.fact 91 rfl)
theorem Ctx.k_Function (T : Ctx w K mg) : Mk K (He.ga K "Function") (He.ma K (He.ga K "Function") "__init__") := He.mkr_ok (T.says.d.fact 92 rfl)
theorem Ctx.n_Function_name (T : Ctx w K mg) : NoAttr K (He.ga K "Function") "name" := He.noat_ok (T.says.d.fact 93 rfl)
theorem Ctx.n_Function_params (T : Ctx w K mg) : NoAttr K (He.ga K "Function") "params" := He.noat_ok (T.says.d.fact 94 rfl)
theorem Ctx.n_Function_others (T : Ctx w K mg) : NoAttr K (He.ga K "Function") "others" := He.noat_ok (T.says.d.fact 95 rfl)
theorem Ctx.n_Function_result (T : Ctx w K mg) : NoAttr K (He.ga K "Function") "result" := He.noat_ok (T.says.d.fact 96 rfl)
theorem Ctx.n_Function_variables (T : Ctx w K mg) : NoAttr K (He.ga K "Function") "variables" := He.noat_ok (T.says.d.fact 97 rfl)
theorem Ctx.n_Function_body (T : Ctx w K mg) : NoAttr K (He.ga K "Function") "body" := He.noat_ok (T.says.d.fact 98 rfl)
theorem Ctx.c_Source (T : Ctx w K mg) : Cls K (He.ga K "Source") := He.cls_ok (T.says.d.fact 99 rfl)
theorem Ctx.k_Source (T : Ctx w K mg) : Mk K (He.ga K "Source") (He.ma K (He.ga K "Source") "__init__") := He.mkr_ok (T.says.d.fact 100 rfl)
theorem Ctx.n_Source_field_kinds (T : Ctx w K mg) : NoAttr K (He.ga K "Source") "_field_kinds" := He.noat_ok (T.says.d.fact 101 rfl)
theorem Ctx.n_Source_fields (T : Ctx w K mg) : NoAttr K (He.ga K "Source") "_fields" := He.noat_ok (T.says.d.fact 102 rfl)
theorem Ctx.n_Source_functions (T : Ctx w K mg) : NoAttr K (He.ga K "Source") "_functions" := He.noat_ok (T.says.d.fact 103 rfl)
theorem Ctx.m_Source_take_classes (T : Ctx w K mg) : Meth K (He.ga K "Source") "_take_classes" (He.ma K (He.ga K "Source") "_take_classes") := He.meth_ok (T.says.d.fact 104 rfl)
theorem Ctx.m_Source_kinds_differ (T : Ctx w K mg) : Meth K (He.ga K "Source") "_kinds_differ" (He.ma K (He.ga K "Source") "_kinds_differ") := He.meth_ok (T.says.d.fact 105 rfl)
theorem Ctx.m_Source_take_heads (T : Ctx w K mg) : Meth K (He.ga K "Source") "_take_heads" (He.ma K (He.ga K "Source") "_take_heads") := He.meth_ok (T.says.d.fact 106 rfl)
theorem Ctx.m_Source_take_rows (T : Ctx w K mg) : Meth K (He.ga K "Source") "_take_rows" (He.ma K (He.ga K "Source") "_take_rows") := He.meth_ok (T.says.d.fact 107 rfl)
theorem Ctx.m_Source_is_row_of (T : Ctx w K mg) : Meth K (He.ga K "Source") "_is_row_of" (He.ma K (He.ga K "Source") "_is_row_of") := He.meth_ok (T.says.d.fact 108 rfl)
theorem Ctx.m_Source_function_at (T : Ctx w K mg) : Meth K (He.ga K "Source") "function_at" (He.ma K (He.ga K "Source") "function_at") := He.meth_ok (T.says.d.fact 109 rfl)
theorem Ctx.m_Source_fields_of (T : Ctx w K mg) : Meth K (He.ga K "Source") "fields_of" (He.ma K (He.ga K "Source") "fields_of") := He.meth_ok (T.says.d.fact 110 rfl)
theorem Ctx.m_Source_field_kind (T : Ctx w K mg) : Meth K (He.ga K "Source") "field_kind" (He.ma K (He.ga K "Source") "field_kind") := He.meth_ok (T.says.d.fact 111 rfl)
theorem Ctx.m_Source_classes (T : Ctx w K mg) : Meth K (He.ga K "Source") "classes" (He.ma K (He.ga K "Source") "classes") := He.meth_ok (T.says.d.fact 112 rfl)
theorem Ctx.m_Source_functions (T : Ctx w K mg) : Meth K (He.ga K "Source") "functions" (He.ma K (He.ga K "Source") "functions") := He.meth_ok (T.says.d.fact 113 rfl)
theorem Ctx.m_Source_eq (T : Ctx w K mg) : Meth K (He.ga K "Source") "__eq__" (He.ma K (He.ga K "Source") "__eq__") := He.meth_ok (T.says.d.fact 114 rfl)
theorem Ctx.D_is_integer (T : Ctx w K mg) : ∃ fd, FunD K "is_integer" "is_integer" (defArgs s_is_integer) (defBody s_is_integer) (defScope s_is_integer) [] [] (He.ga K "is_integer") fd := T.says.d.def_ 0 (d := d_is_integer) rfl
theorem Ctx.D_is_integer_in (T : Ctx w K mg) : ∃ fd, FunD K "is_integer_in" "is_integer_in" (defArgs s_is_integer_in) (defBody s_is_integer_in) (defScope s_is_integer_in) [] [] (He.ga K "is_integer_in") fd := T.says.d.def_ 1 (d := d_is_integer_in) rfl
theorem Ctx.D_is_written_number (T : Ctx w K mg) : ∃ fd, FunD K "is_written_number" "is_written_number" (defArgs s_is_written_number) (defBody s_is_written_number) (defScope s_is_written_number) [] [] (He.ga K "is_written_number") fd := T.says.d.def_ 2 (d := d_is_written_number) rfl
theorem Ctx.D_is_name (T : Ctx w K mg) : ∃ fd, FunD K "is_name" "is_name" (defArgs s_is_name) (defBody s_is_name) (defScope s_is_name) [] [] (He.ga K "is_name") fd := T.says.d.def_ 3 (d := d_is_name) rfl
theorem Ctx.D_is_kind (T : Ctx w K mg) : ∃ fd, FunD K "is_kind" "is_kind" (defArgs s_is_kind) (defBody s_is_kind) (defScope s_is_kind) [] [] (He.ga K "is_kind") fd := T.says.d.def_ 4 (d := d_is_kind) rfl
theorem Ctx.D_is_tuple_of (T : Ctx w K mg) : ∃ fd, FunD K "is_tuple_of" "is_tuple_of" (defArgs s_is_tuple_of) (defBody s_is_tuple_of) (defScope s_is_tuple_of) [] [] (He.ga K "is_tuple_of") fd := T.says.d.def_ 5 (d := d_is_tuple_of) rfl
theorem Ctx.D_is_list_of (T : Ctx w K mg) : ∃ fd, FunD K "is_list_of" "is_list_of" (defArgs s_is_list_of) (defBody s_is_list_of) (defScope s_is_list_of) [] [] (He.ga K "is_list_of") fd := T.says.d.def_ 6 (d := d_is_list_of) rfl
theorem Ctx.D_is_list_of_names (T : Ctx w K mg) : ∃ fd, FunD K "is_list_of_names" "is_list_of_names" (defArgs s_is_list_of_names) (defBody s_is_list_of_names) (defScope s_is_list_of_names) [] [] (He.ga K "is_list_of_names") fd := T.says.d.def_ 7 (d := d_is_list_of_names) rfl
theorem Ctx.D_is_word_tuple (T : Ctx w K mg) : ∃ fd, FunD K "is_word_tuple" "is_word_tuple" (defArgs s_is_word_tuple) (defBody s_is_word_tuple) (defScope s_is_word_tuple) [] [] (He.ga K "is_word_tuple") fd := T.says.d.def_ 8 (d := d_is_word_tuple) rfl
theorem Ctx.D_frozen (T : Ctx w K mg) : ∃ fd, FunD K "frozen" "frozen" (defArgs s_frozen) (defBody s_frozen) (defScope s_frozen) [] [] (He.ga K "frozen") fd := T.says.d.def_ 9 (d := d_frozen) rfl
theorem Ctx.D_are_named_kinds (T : Ctx w K mg) : ∃ fd, FunD K "are_named_kinds" "are_named_kinds" (defArgs s_are_named_kinds) (defBody s_are_named_kinds) (defScope s_are_named_kinds) [] [] (He.ga K "are_named_kinds") fd := T.says.d.def_ 10 (d := d_are_named_kinds) rfl
theorem Ctx.D_is_row (T : Ctx w K mg) : ∃ fd, FunD K "is_row" "is_row" (defArgs s_is_row) (defBody s_is_row) (defScope s_is_row) [] [] (He.ga K "is_row") fd := T.says.d.def_ 11 (d := d_is_row) rfl
theorem Ctx.D_fills (T : Ctx w K mg) : ∃ fd, FunD K "_fills" "_fills" (defArgs s_fills) (defBody s_fills) (defScope s_fills) [] [] (He.ga K "_fills") fd := T.says.d.def_ 12 (d := d_fills) rfl
theorem Ctx.D_row_sets (T : Ctx w K mg) : ∃ fd, FunD K "row_sets" "row_sets" (defArgs s_row_sets) (defBody s_row_sets) (defScope s_row_sets) [] [] (He.ga K "row_sets") fd := T.says.d.def_ 13 (d := d_row_sets) rfl
theorem Ctx.D_row_reads (T : Ctx w K mg) : ∃ fd, FunD K "row_reads" "row_reads" (defArgs s_row_reads) (defBody s_row_reads) (defScope s_row_reads) [] [] (He.ga K "row_reads") fd := T.says.d.def_ 14 (d := d_row_reads) rfl
theorem Ctx.D_row_kinds_fit (T : Ctx w K mg) : ∃ fd, FunD K "row_kinds_fit" "row_kinds_fit" (defArgs s_row_kinds_fit) (defBody s_row_kinds_fit) (defScope s_row_kinds_fit) [] [] (He.ga K "row_kinds_fit") fd := T.says.d.def_ 15 (d := d_row_kinds_fit) rfl
theorem Ctx.D_names_in (T : Ctx w K mg) : ∃ fd, FunD K "_names_in" "_names_in" (defArgs s_names_in) (defBody s_names_in) (defScope s_names_in) [] [] (He.ga K "_names_in") fd := T.says.d.def_ 16 (d := d_names_in) rfl
theorem Ctx.D_call_fits (T : Ctx w K mg) : ∃ fd, FunD K "_call_fits" "_call_fits" (defArgs s_call_fits) (defBody s_call_fits) (defScope s_call_fits) [] [] (He.ga K "_call_fits") fd := T.says.d.def_ 17 (d := d_call_fits) rfl
theorem Ctx.D_told_row (T : Ctx w K mg) : ∃ fd, FunD K "told_row" "told_row" (defArgs s_told_row) (defBody s_told_row) (defScope s_told_row) [] [] (He.ga K "told_row") fd := T.says.d.def_ 18 (d := d_told_row) rfl
theorem Ctx.D_told_function (T : Ctx w K mg) : ∃ fd, FunD K "_told_function" "_told_function" (defArgs s_told_function) (defBody s_told_function) (defScope s_told_function) [] [] (He.ga K "_told_function") fd := T.says.d.def_ 19 (d := d_told_function) rfl
theorem Ctx.D_is_class (T : Ctx w K mg) : ∃ fd, FunD K "_is_class" "_is_class" (defArgs s_is_class) (defBody s_is_class) (defScope s_is_class) [] [] (He.ga K "_is_class") fd := T.says.d.def_ 20 (d := d_is_class) rfl
theorem Ctx.D_is_head (T : Ctx w K mg) : ∃ fd, FunD K "_is_head" "_is_head" (defArgs s_is_head) (defBody s_is_head) (defScope s_is_head) [] [] (He.ga K "_is_head") fd := T.says.d.def_ 21 (d := d_is_head) rfl
theorem Ctx.D_text_lines (T : Ctx w K mg) : ∃ fd, FunD K "text_lines" "text_lines" (defArgs s_text_lines) (defBody s_text_lines) (defScope s_text_lines) [] [] (He.ga K "text_lines") fd := T.says.d.def_ 22 (d := d_text_lines) rfl
theorem Ctx.D_words_of (T : Ctx w K mg) : ∃ fd, FunD K "_words_of" "_words_of" (defArgs s_words_of) (defBody s_words_of) (defScope s_words_of) [] [] (He.ga K "_words_of") fd := T.says.d.def_ 23 (d := d_words_of) rfl
theorem Ctx.D_line_of (T : Ctx w K mg) : ∃ fd, FunD K "line_of" "line_of" (defArgs s_line_of) (defBody s_line_of) (defScope s_line_of) [] [] (He.ga K "line_of") fd := T.says.d.def_ 24 (d := d_line_of) rfl
theorem Ctx.D_row_line (T : Ctx w K mg) : ∃ fd, FunD K "row_line" "row_line" (defArgs s_row_line) (defBody s_row_line) (defScope s_row_line) [] [] (He.ga K "row_line") fd := T.says.d.def_ 25 (d := d_row_line) rfl
theorem Ctx.D_row_words (T : Ctx w K mg) : ∃ fd, FunD K "row_words" "row_words" (defArgs s_row_words) (defBody s_row_words) (defScope s_row_words) [] [] (He.ga K "row_words") fd := T.says.d.def_ 26 (d := d_row_words) rfl
theorem Ctx.D_pair_words (T : Ctx w K mg) : ∃ fd, FunD K "pair_words" "pair_words" (defArgs s_pair_words) (defBody s_pair_words) (defScope s_pair_words) [] [] (He.ga K "pair_words") fd := T.says.d.def_ 27 (d := d_pair_words) rfl
theorem Ctx.D_read_pairs (T : Ctx w K mg) : ∃ fd, FunD K "read_pairs" "read_pairs" (defArgs s_read_pairs) (defBody s_read_pairs) (defScope s_read_pairs) [] [] (He.ga K "read_pairs") fd := T.says.d.def_ 28 (d := d_read_pairs) rfl
theorem Ctx.D_read_integer (T : Ctx w K mg) : ∃ fd, FunD K "read_integer" "read_integer" (defArgs s_read_integer) (defBody s_read_integer) (defScope s_read_integer) [] [] (He.ga K "read_integer") fd := T.says.d.def_ 29 (d := d_read_integer) rfl
theorem Ctx.D_read_row (T : Ctx w K mg) : ∃ fd, FunD K "read_row" "read_row" (defArgs s_read_row) (defBody s_read_row) (defScope s_read_row) [] [] (He.ga K "read_row") fd := T.says.d.def_ 30 (d := d_read_row) rfl
theorem Ctx.D_read_part (T : Ctx w K mg) : ∃ fd, FunD K "_read_part" "_read_part" (defArgs s_read_part) (defBody s_read_part) (defScope s_read_part) [] [] (He.ga K "_read_part") fd := T.says.d.def_ 31 (d := d_read_part) rfl
theorem Ctx.D_source_text (T : Ctx w K mg) : ∃ fd, FunD K "source_text" "source_text" (defArgs s_source_text) (defBody s_source_text) (defScope s_source_text) [] [] (He.ga K "source_text") fd := T.says.d.def_ 32 (d := d_source_text) rfl
theorem Ctx.D_read_source (T : Ctx w K mg) : ∃ fd, FunD K "read_source" "read_source" (defArgs s_read_source) (defBody s_read_source) (defScope s_read_source) [] [] (He.ga K "read_source") fd := T.says.d.def_ 33 (d := d_read_source) rfl
theorem Ctx.D_takes_line (T : Ctx w K mg) : ∃ fd, FunD K "_takes_line" "_takes_line" (defArgs s_takes_line) (defBody s_takes_line) (defScope s_takes_line) [] [] (He.ga K "_takes_line") fd := T.says.d.def_ 34 (d := d_takes_line) rfl
theorem Ctx.D_takes_class (T : Ctx w K mg) : ∃ fd, FunD K "_takes_class" "_takes_class" (defArgs s_takes_class) (defBody s_takes_class) (defScope s_takes_class) [] [] (He.ga K "_takes_class") fd := T.says.d.def_ 35 (d := d_takes_class) rfl
theorem Ctx.D_takes_function (T : Ctx w K mg) : ∃ fd, FunD K "_takes_function" "_takes_function" (defArgs s_takes_function) (defBody s_takes_function) (defScope s_takes_function) [] [] (He.ga K "_takes_function") fd := T.says.d.def_ 36 (d := d_takes_function) rfl
theorem Ctx.D_L_mix (T : Ctx w K mg) : ∃ fd, FunD K "_law_mix" "_law_mix" (defArgs s_L_mix) (defBody s_L_mix) (defScope s_L_mix) [] [] (He.ga K "_law_mix") fd := T.says.d.def_ 37 (d := d_L_mix) rfl
theorem Ctx.D_L_well (T : Ctx w K mg) : ∃ fd, FunD K "_law_well" "_law_well" (defArgs s_L_well) (defBody s_L_well) (defScope s_L_well) [] [] (He.ga K "_law_well") fd := T.says.d.def_ 38 (d := d_L_well) rfl
theorem Ctx.D_L_draw (T : Ctx w K mg) : ∃ fd, FunD K "_law_draw" "_law_draw" (defArgs s_L_draw) (defBody s_L_draw) (defScope s_L_draw) [] [] (He.ga K "_law_draw") fd := T.says.d.def_ 39 (d := d_L_draw) rfl
theorem Ctx.D_L_pick (T : Ctx w K mg) : ∃ fd, FunD K "_law_pick" "_law_pick" (defArgs s_L_pick) (defBody s_L_pick) (defScope s_L_pick) [] [] (He.ga K "_law_pick") fd := T.says.d.def_ 40 (d := d_L_pick) rfl
theorem Ctx.D_L_marks (T : Ctx w K mg) : ∃ fd, FunD K "_law_marks" "_law_marks" (defArgs s_L_marks) (defBody s_L_marks) (defScope s_L_marks) [] [] (He.ga K "_law_marks") fd := T.says.d.def_ 41 (d := d_L_marks) rfl
theorem Ctx.D_L_errors_right (T : Ctx w K mg) : ∃ fd, FunD K "_law_errors_right" "_law_errors_right" (defArgs s_L_errors_right) (defBody s_L_errors_right) (defScope s_L_errors_right) [] [] (He.ga K "_law_errors_right") fd := T.says.d.def_ 42 (d := d_L_errors_right) rfl
theorem Ctx.D_L_said (T : Ctx w K mg) : ∃ fd, FunD K "_law_said" "_law_said" (defArgs s_L_said) (defBody s_L_said) (defScope s_L_said) [] [] (He.ga K "_law_said") fd := T.says.d.def_ 43 (d := d_L_said) rfl
theorem Ctx.D_L_right (T : Ctx w K mg) : ∃ fd, FunD K "_law_right" "_law_right" (defArgs s_L_right) (defBody s_L_right) (defScope s_L_right) [] [] (He.ga K "_law_right") fd := T.says.d.def_ 44 (d := d_L_right) rfl
theorem Ctx.D_law (T : Ctx w K mg) : ∃ fd, FunD K "law" "law" (defArgs s_law) (defBody s_law) (defScope s_law) [] [] (He.ga K "law") fd := T.says.d.def_ 45 (d := d_law) rfl
theorem Ctx.D_Function_init (T : Ctx w K mg) : ∃ fd, FunD K "__init__" "Function.__init__" (defArgs s_Function_init) (defBody s_Function_init) (defScope s_Function_init) [] [] (He.ma K (He.ga K "Function") "__init__") fd := T.says.d.def_ 46 (d := d_Function_init) rfl
theorem Ctx.D_InvalidSource_init (T : Ctx w K mg) : ∃ fd, FunD K "__init__" "InvalidSource.__init__" (defArgs s_InvalidSource_init) (defBody s_InvalidSource_init) (defScope s_InvalidSource_init) [] [] (He.ma K (He.ga K "InvalidSource") "__init__") fd := T.says.d.def_ 47 (d := d_InvalidSource_init) rfl
theorem Ctx.D_InvalidCode_init (T : Ctx w K mg) : ∃ fd, FunD K "__init__" "InvalidCode.__init__" (defArgs s_InvalidCode_init) (defBody s_InvalidCode_init) (defScope s_InvalidCode_init) [] [] (He.ma K (He.ga K "InvalidCode") "__init__") fd := T.says.d.def_ 48 (d := d_InvalidCode_init) rfl
theorem Ctx.D_InvalidText_init (T : Ctx w K mg) : ∃ fd, FunD K "__init__" "InvalidText.__init__" (defArgs s_InvalidText_init) (defBody s_InvalidText_init) (defScope s_InvalidText_init) [] [] (He.ma K (He.ga K "InvalidText") "__init__") fd := T.says.d.def_ 49 (d := d_InvalidText_init) rfl
theorem Ctx.D_InvalidState_init (T : Ctx w K mg) : ∃ fd, FunD K "__init__" "InvalidState.__init__" (defArgs s_InvalidState_init) (defBody s_InvalidState_init) (defScope s_InvalidState_init) [] [] (He.ma K (He.ga K "InvalidState") "__init__") fd := T.says.d.def_ 50 (d := d_InvalidState_init) rfl
theorem Ctx.D_InvalidArgument_init (T : Ctx w K mg) : ∃ fd, FunD K "__init__" "InvalidArgument.__init__" (defArgs s_InvalidArgument_init) (defBody s_InvalidArgument_init) (defScope s_InvalidArgument_init) [] [] (He.ma K (He.ga K "InvalidArgument") "__init__") fd := T.says.d.def_ 51 (d := d_InvalidArgument_init) rfl
theorem Ctx.D_InvalidNumber_init (T : Ctx w K mg) : ∃ fd, FunD K "__init__" "InvalidNumber.__init__" (defArgs s_InvalidNumber_init) (defBody s_InvalidNumber_init) (defScope s_InvalidNumber_init) [] [] (He.ma K (He.ga K "InvalidNumber") "__init__") fd := T.says.d.def_ 52 (d := d_InvalidNumber_init) rfl
theorem Ctx.D_LimitExceeded_init (T : Ctx w K mg) : ∃ fd, FunD K "__init__" "LimitExceeded.__init__" (defArgs s_LimitExceeded_init) (defBody s_LimitExceeded_init) (defScope s_LimitExceeded_init) [] [] (He.ma K (He.ga K "LimitExceeded") "__init__") fd := T.says.d.def_ 53 (d := d_LimitExceeded_init) rfl
theorem Ctx.D_Source_init (T : Ctx w K mg) : ∃ fd, FunD K "__init__" "Source.__init__" (defArgs s_Source_init) (defBody s_Source_init) (defScope s_Source_init) [] [] (He.ma K (He.ga K "Source") "__init__") fd := T.says.d.def_ 54 (d := d_Source_init) rfl
theorem Ctx.D_Source_take_classes (T : Ctx w K mg) : ∃ fd, FunD K "_take_classes" "Source._take_classes" (defArgs s_Source_take_classes) (defBody s_Source_take_classes) (defScope s_Source_take_classes) [] [] (He.ma K (He.ga K "Source") "_take_classes") fd := T.says.d.def_ 55 (d := d_Source_take_classes) rfl
theorem Ctx.D_Source_kinds_differ (T : Ctx w K mg) : ∃ fd, FunD K "_kinds_differ" "Source._kinds_differ" (defArgs s_Source_kinds_differ) (defBody s_Source_kinds_differ) (defScope s_Source_kinds_differ) [] [] (He.ma K (He.ga K "Source") "_kinds_differ") fd := T.says.d.def_ 56 (d := d_Source_kinds_differ) rfl
theorem Ctx.D_Source_take_heads (T : Ctx w K mg) : ∃ fd, FunD K "_take_heads" "Source._take_heads" (defArgs s_Source_take_heads) (defBody s_Source_take_heads) (defScope s_Source_take_heads) [] [] (He.ma K (He.ga K "Source") "_take_heads") fd := T.says.d.def_ 57 (d := d_Source_take_heads) rfl
theorem Ctx.D_Source_take_rows (T : Ctx w K mg) : ∃ fd, FunD K "_take_rows" "Source._take_rows" (defArgs s_Source_take_rows) (defBody s_Source_take_rows) (defScope s_Source_take_rows) [] [] (He.ma K (He.ga K "Source") "_take_rows") fd := T.says.d.def_ 58 (d := d_Source_take_rows) rfl
theorem Ctx.D_Source_is_row_of (T : Ctx w K mg) : ∃ fd, FunD K "_is_row_of" "Source._is_row_of" (defArgs s_Source_is_row_of) (defBody s_Source_is_row_of) (defScope s_Source_is_row_of) [] [] (He.ma K (He.ga K "Source") "_is_row_of") fd := T.says.d.def_ 59 (d := d_Source_is_row_of) rfl
theorem Ctx.D_Source_function_at (T : Ctx w K mg) : ∃ fd, FunD K "function_at" "Source.function_at" (defArgs s_Source_function_at) (defBody s_Source_function_at) (defScope s_Source_function_at) [] [] (He.ma K (He.ga K "Source") "function_at") fd := T.says.d.def_ 60 (d := d_Source_function_at) rfl
theorem Ctx.D_Source_fields_of (T : Ctx w K mg) : ∃ fd, FunD K "fields_of" "Source.fields_of" (defArgs s_Source_fields_of) (defBody s_Source_fields_of) (defScope s_Source_fields_of) [] [] (He.ma K (He.ga K "Source") "fields_of") fd := T.says.d.def_ 61 (d := d_Source_fields_of) rfl
theorem Ctx.D_Source_field_kind (T : Ctx w K mg) : ∃ fd, FunD K "field_kind" "Source.field_kind" (defArgs s_Source_field_kind) (defBody s_Source_field_kind) (defScope s_Source_field_kind) [] [] (He.ma K (He.ga K "Source") "field_kind") fd := T.says.d.def_ 62 (d := d_Source_field_kind) rfl
theorem Ctx.D_Source_classes (T : Ctx w K mg) : ∃ fd, FunD K "classes" "Source.classes" (defArgs s_Source_classes) (defBody s_Source_classes) (defScope s_Source_classes) [] [] (He.ma K (He.ga K "Source") "classes") fd := T.says.d.def_ 63 (d := d_Source_classes) rfl
theorem Ctx.D_Source_functions (T : Ctx w K mg) : ∃ fd, FunD K "functions" "Source.functions" (defArgs s_Source_functions) (defBody s_Source_functions) (defScope s_Source_functions) [] [] (He.ma K (He.ga K "Source") "functions") fd := T.says.d.def_ 64 (d := d_Source_functions) rfl
theorem Ctx.D_Source_eq (T : Ctx w K mg) : ∃ fd, FunD K "__eq__" "Source.__eq__" (defArgs s_Source_eq) (defBody s_Source_eq) (defScope s_Source_eq) [] [] (He.ma K (He.ga K "Source") "__eq__") fd := T.says.d.def_ 65 (d := d_Source_eq) rfl
theorem Ctx.kinds (T : Ctx w K mg) (H : Hp) : SqT K H (He.ga K "KINDS") (v_KINDS.map (He.Dv.v K)) := He.tupB_ok (He.ba T.more).1 H
theorem Ctx.numwords (T : Ctx w K mg) (H : Hp) : SqT K H (He.ga K "NUMBER_WORDS") (v_NUMBER_WORDS.map (He.Dv.v K)) := He.tupB_ok (He.ba (He.ba T.more).2).1 H
theorem Ctx.rowwords (T : Ctx w K mg) (H : Hp) : SqT K H (He.ga K "ROW_WORDS") (v_ROW_WORDS.map (He.Dv.v K)) := He.tupB_ok (He.ba (He.ba (He.ba T.more).2).2).1 H
theorem tupAt_ok {K : PySem.W.Frag} {a : Addr} {vs : List V} (h : tupAt K a vs = true) (H : Hp) : SqT K H a vs := by
  unfold tupAt at h
  cases q : K.lookup a with
  | none =>
    rw [q] at h
    cases h
  | some o =>
    obtain ⟨oc, od, dt, osl⟩ := o
    rw [q] at h
    cases oc with
    | type c =>
      cases dt with
      | seq its n =>
        obtain ⟨h1, h2⟩ := He.ba (show (decide (c = "tuple") && (decide (its.size ≤ sizeLine) && He.relAll vs its.toList)) = true from h)
        obtain ⟨h3, h4⟩ := He.ba h2
        exact .inr ⟨_, its, n, q, congrArg Value.type (of_decide_eq_true h1), rfl, of_decide_eq_true h3, He.relAll_ok h4⟩
      | _ => cases h
    | _ => cases dt <;> cases h
theorem Ctx.rolesD (T : Ctx w K mg) : ∃ es n, KDict K w (He.ga K "ROLES") es n := T.says.tab 0 (t := (fun K => He.ga K "ROLES", roles.map (·.1))) rfl
theorem Ctx.role (T : Ctx w K mg) {x : Str} {rs : List Str} (m : (x, rs) ∈ roles) (H : Hp) : PySem.W.nsIn K (He.ga K "ROLES") x = some (some (.ref (rolA K x))) ∧ SqT K H (rolA K x) (rs.map V.str) := by
  have e := List.all_eq_true.mp (He.ba (He.ba (He.ba (He.ba T.more).2).2).2).1 (x, rs) m
  obtain ⟨e1, e2⟩ := He.ba (show (He.eqO (PySem.W.nsIn K (He.ga K "ROLES") x) (some (some (.ref (rolA K x)))) && tupAt K (rolA K x) (rs.map V.str)) = true from e)
  exact ⟨He.eqO_ok e1, tupAt_ok e2 H⟩
theorem Ctx.isSource (T : Ctx w K mg) {H : Hp} {p dx : Addr} {fs : List (Str × V)} (h : H p = some (.ins (He.ga K "Source") dx fs)) : TyX K H (.ref p) (.ref (He.ga K "Source")) ∧ PySem.W.kitOne K (.ref (He.ga K "Source")) (.ref (He.ga K "Source")) = some true := by
  have e := (He.ba (He.ba (He.ba (He.ba (He.ba T.more).2).2).2).2).1
  obtain ⟨e1, e⟩ := He.ba (show (He.eqO (PySem.W.findIn K (.ref (He.ga K "Source")) "__class__") (some (some (.builtin "object.__class__"))) && (He.eqO (PySem.W.specialIn K (.builtin "object.__class__") "__get__") (some (some (.builtin "getset_descriptor.__get__"))) && (decide (PySem.W.takesIn K (.builtin "object.__class__") = some true) && (decide (PySem.W.mroIn K (He.ga K "Source") (.type "object") = some true) && decide (PySem.W.kitOne K (.ref (He.ga K "Source")) (.ref (He.ga K "Source")) = some true))))) = true from e)
  obtain ⟨e2, e⟩ := He.ba e
  obtain ⟨e3, e⟩ := He.ba e
  obtain ⟨e4, e5⟩ := He.ba e
  exact ⟨.base (.ins h T.c_Source (He.eqO_ok e1) (He.eqO_ok e2) (of_decide_eq_true e3) (of_decide_eq_true e4)), of_decide_eq_true e5⟩
end
end W7
set_option Elab.async false
set_option linter.all false
set_option maxRecDepth 100000
set_option maxHeartbeats 4000000
namespace W7
open PySem PySem.Spec PyProof.Rows L2
/-! ### heaps that grow -/
theorem Same.new {H : Hp} {p : Addr} {o : HO} (h : H p = none) : Same H (upd H p o) := fun a u e => by
  rw [upd_ne (ne_of_none e h)]
  exact e
theorem Same.mut {H H' : Hp} {p : Addr} {o : HO} (e : Same H H') (h : H p = none) : Same H (upd H' p o) := fun a u ha => by
  rw [upd_ne (ne_of_none ha h)]
  exact e a u ha
theorem Same.tup {K : PySem.W.Frag} {H H' : Hp} {a : Addr} {xs : List V} (e : Same H H') (h : SqT K H a xs) : SqT K H' a xs := by
  rcases h with (h | ⟨o, h⟩) | h
  · exact .inl (.inl (e _ _ h))
  · exact .inl (.inr ⟨o, e _ _ h⟩)
  · exact .inr h
theorem sz_of {n : Nat} (h : n ≤ 100000) : n ≤ sizeLine := Nat.le_trans h (by decide)
theorem sz_lt {n : Nat} (h : n < 100000) : n < sizeLine := Nat.lt_of_lt_of_le h (by decide)
/-- a comprehension whose elements leave what stood as it was: the list of what they give -/
theorem lc_pure {J : It} {n : Nat} {G : Hp → Prop} {Y : Nat → Hp → V → Hp → Prop} (w : Walk J n G Y) {g : TG} {te : TE} {vs : List Nat} {σ : L2.St} {H0 : Hp} {D : Addr} {Qd : Hp → Prop} (hD : H0 D = none) (f : Nat → V) (hn : n < 100000)
    (hG : ∀ H, Same H0 H → G H)
    (hs : ∀ i H x H', i < n → Same H0 H → Y i H x H' → ∀ Qe : VK, (∀ H4, Same H H4 → Qe (f i) H4) → g x (wipe σ vs) H' fun σ2 H2 => wipe σ2 vs = wipe σ vs ∧ te σ2 H2 Qe)
    (hd : ∀ H, Same H0 H → H D = some (.lst ((List.range n).map f)) → Qd H) :
    ∃ W : Nat → Nat → Hp → Prop, (∃ m, W 0 m (upd H0 D (.lst []))) ∧ ∀ i m H, W i m H →
      (J.stop i H ∧ Qd H) ∨ (J.go i H ∧ ∃ Nx : Hp → Prop, (∀ H', Nx H' → ∃ m', m' < m ∧ W (i + 1) m' H') ∧ ∀ x H', J.yld i H x H' → g x (wipe σ vs) H' fun σ2 H2 => wipe σ2 vs = wipe σ vs ∧ tYes σ2 H2 fun b H3 =>
        if b = true then te σ2 H3 fun y H4 => ∃ acc, H4 D = some (.lst acc) ∧ acc.length < sizeLine ∧ Nx (upd H4 D (.lst (acc ++ [y]))) else Nx H3) := by
  refine lc_it w (fun i H => Same H0 H ∧ H D = some (.lst ((List.range i).map f))) ⟨Same.new hD, upd_same⟩ (fun i H _ p => hG H p.1) (fun i x H H' hi p y => ?_) (fun H p => hd H p.1 p.2)
  have q := hs i H x H' hi p.1 y (fun y H4 => ∃ acc, H4 D = some (.lst acc) ∧ acc.length < sizeLine ∧ (Same H0 (upd H4 D (.lst (acc ++ [y]))) ∧ upd H4 D (.lst (acc ++ [y])) D = some (.lst ((List.range (i + 1)).map f)))) (fun H4 s4 => ?_)
  · exact q
  · refine ⟨_, s4 _ _ p.2, sz_lt ?_, Same.mut (p.1.trans s4) hD, ?_⟩
    · rw [List.length_map, List.length_range]
      exact Nat.lt_trans hi hn
    · rw [upd_same, List.range_succ, List.map_append]
      rfl
theorem qT {Q : VK} {H : Hp} {b : Bool} (e : b = true) (k : Q (.bl true) H) : Q (.bl b) H := by
  rw [e]
  exact k
theorem qF {Q : VK} {H : Hp} {b : Bool} (e : b = false) (k : Q (.bl false) H) : Q (.bl b) H := by
  rw [e]
  exact k
theorem ifT {b : Bool} {A B : Prop} (e : b = true) (h : A) : if b = true then A else B := by
  rw [e]
  exact iteT h
theorem ifF {b : Bool} {A B : Prop} (e : b = false) (h : B) : if b = true then A else B := by
  rw [e]
  exact iteF h
theorem at0 {v : V} {xs : List V} : atI (v :: xs) 0 = some v := atI_nat (j := 0) rfl
theorem at1 {a v : V} {xs : List V} : atI (a :: v :: xs) 1 = some v := atI_nat (j := 1) rfl
theorem at2 {a b v : V} {xs : List V} : atI (a :: b :: v :: xs) 2 = some v := atI_nat (j := 2) rfl
theorem at3 {a b c v : V} {xs : List V} : atI (a :: b :: c :: v :: xs) 3 = some v := atI_nat (j := 3) rfl
theorem at4 {a b c d v : V} {xs : List V} : atI (a :: b :: c :: d :: v :: xs) 4 = some v := atI_nat (j := 4) rfl
/-- .. whose elements are new tuples -/
theorem lc_tups {J : It} {n : Nat} {G : Hp → Prop} {Y : Nat → Hp → V → Hp → Prop} (w : Walk J n G Y) {g : TG} {te : TE} {vs : List Nat} {σ : L2.St} {H0 : Hp} {D : Addr} {Qd : Hp → Prop} (hD : H0 D = none) (f : Nat → List V) (hn : n < 100000)
    (hG : ∀ H, Same H0 H → G H)
    (hs : ∀ i H x H', i < n → Same H0 H → Y i H x H' → ∀ Qe : VK, (∀ q H4, Same H H4 → H4 q = some (.tup (f i)) → Qe (.ref q) H4) → g x (wipe σ vs) H' fun σ2 H2 => wipe σ2 vs = wipe σ vs ∧ te σ2 H2 Qe)
    (hd : ∀ (H : Hp) (qs : List Addr), Same H0 H → qs.length = n → (∀ (i : Nat) (q : Addr), qs[i]? = some q → H q = some (.tup (f i))) → H D = some (.lst (qs.map V.ref)) → Qd H) :
    ∃ W : Nat → Nat → Hp → Prop, (∃ m, W 0 m (upd H0 D (.lst []))) ∧ ∀ i m H, W i m H →
      (J.stop i H ∧ Qd H) ∨ (J.go i H ∧ ∃ Nx : Hp → Prop, (∀ H', Nx H' → ∃ m', m' < m ∧ W (i + 1) m' H') ∧ ∀ x H', J.yld i H x H' → g x (wipe σ vs) H' fun σ2 H2 => wipe σ2 vs = wipe σ vs ∧ tYes σ2 H2 fun b H3 =>
        if b = true then te σ2 H3 fun y H4 => ∃ acc, H4 D = some (.lst acc) ∧ acc.length < sizeLine ∧ Nx (upd H4 D (.lst (acc ++ [y]))) else Nx H3) := by
  refine lc_it w (fun i H => Same H0 H ∧ ∃ qs : List Addr, qs.length = i ∧ (∀ (j : Nat) (q : Addr), qs[j]? = some q → H q = some (.tup (f j))) ∧ H D = some (.lst (qs.map V.ref))) ⟨Same.new hD, [], rfl, fun j q e => by simp at e, upd_same⟩ (fun i H _ p => hG H p.1) (fun i x H H' hi p y => ?_) (fun H p => ?_)
  · obtain ⟨s1, qs, hl, hq, hDD⟩ := p
    have q := hs i H x H' hi s1 y (fun y H4 => ∃ acc, H4 D = some (.lst acc) ∧ acc.length < sizeLine ∧ (Same H0 (upd H4 D (.lst (acc ++ [y]))) ∧ ∃ qs : List Addr, qs.length = i + 1 ∧ (∀ (j : Nat) (q : Addr), qs[j]? = some q → upd H4 D (.lst (acc ++ [y])) q = some (.tup (f j))) ∧ upd H4 D (.lst (acc ++ [y])) D = some (.lst (qs.map V.ref)))) (fun q H4 s4 hq4 => ?_)
    · exact q
    · have h4 := s4 _ _ hDD
      refine ⟨_, h4, sz_lt ?_, Same.mut (s1.trans s4) hD, qs ++ [q], by rw [List.length_append, hl]; rfl, fun j r e => ?_, by rw [upd_same, List.map_append]; rfl⟩
      · rw [List.length_map, hl]
        exact Nat.lt_trans hi hn
      · have z : H4 r = some (.tup (f j)) := by
          by_cases hj : j < qs.length
          · rw [List.getElem?_append_left hj] at e
            exact s4 _ _ (hq j r e)
          · rw [List.getElem?_append_right (by omega)] at e
            have hj2 : j - qs.length = 0 := by
              have := (List.getElem?_eq_some_iff.mp e).1
              simp at this
              omega
            rw [hj2] at e
            have er : q = r := Option.some.inj e
            have ej : j = i := by omega
            rw [← er, ej]
            exact hq4
        rw [upd_ne]
        · exact z
        · intro c
          rw [c, h4] at z
          cases z
  · obtain ⟨s1, qs, hl, hq, hDD⟩ := p
    exact hd H qs s1 hl hq hDD
theorem map_range_getD {xs : List V} : (List.range xs.length).map (fun i => xs.getD i .non) = xs := by
  apply List.ext_getElem
  · simp
  · intro i h1 h2
    simp at h1
    simp [h1]
theorem getD_of {xs : List V} {i : Nat} {x : V} (h : xs[i]? = some x) : xs.getD i .non = x := by
  rw [List.getD_eq_getElem?_getD, h]
  rfl
/-- pairs of a name and "number" -/
structure Pairs (H : Hp) (ps : List Addr) (ns : List Str) : Prop where
  len : ps.length = ns.length
  at_ : ∀ (i : Nat) p x, ps[i]? = some p → ns[i]? = some x → H p = some (.tup [.str x, .str "number"])
theorem Pairs.mono {H H' : Hp} {ps : List Addr} {ns : List Str} (h : Pairs H ps ns) (e : Same H H') : Pairs H' ps ns := ⟨h.len, fun i p x a b => e _ _ (h.at_ i p x a b)⟩
theorem Pairs.append {H : Hp} {ps qs : List Addr} {ns ms : List Str} (h : Pairs H ps ns) (h2 : Pairs H qs ms) : Pairs H (ps ++ qs) (ns ++ ms) := by
  refine ⟨by rw [List.length_append, List.length_append, h.len, h2.len], fun i p x a b => ?_⟩
  by_cases hi : i < ps.length
  · rw [List.getElem?_append_left hi] at a
    rw [List.getElem?_append_left (by rw [← h.len]; exact hi)] at b
    exact h.at_ i p x a b
  · rw [List.getElem?_append_right (by omega)] at a
    rw [List.getElem?_append_right (by rw [← h.len]; omega), ← h.len] at b
    exact h2.at_ _ p x a b
theorem Pairs.get {H : Hp} {ps : List Addr} {ns : List Str} (h : Pairs H ps ns) {i : Nat} {y : V} (e : (ps.map V.ref)[i]? = some y) : ∃ p x, y = .ref p ∧ ps[i]? = some p ∧ ns[i]? = some x ∧ H p = some (.tup [.str x, .str "number"]) := by
  rw [List.getElem?_map] at e
  cases q : ps[i]? with
  | none =>
    rw [q] at e
    cases e
  | some p =>
    rw [q] at e
    have hi : i < ps.length := (List.getElem?_eq_some_iff.mp q).1
    have hx : ns[i]? = some (ns[i]'(by rw [← h.len]; exact hi)) := by
      rw [List.getElem?_eq_getElem]
    exact ⟨p, _, (Option.some.inj e).symm, rfl, hx, h.at_ i p _ q hx⟩
theorem take_snoc {α : Type} : ∀ {l : List α} {i : Nat} {x : α}, l[i]? = some x → l.take (i + 1) = l.take i ++ [x]
  | [], i, x, h => by simp at h
  | a :: l, 0, x, h => by
    have e : a = x := Option.some.inj h
    subst e
    rfl
  | a :: l, i + 1, x, h => by
    have ih := take_snoc (l := l) (i := i) (x := x) h
    show a :: l.take (i + 1) = a :: l.take i ++ [x]
    rw [ih]
    rfl
theorem not_in_take {α : Type} {l : List α} (hN : l.Nodup) {i : Nat} {x : α} (h : l[i]? = some x) : x ∉ l.take i := fun m => by
  obtain ⟨j, hj, e⟩ := List.mem_iff_getElem.mp m
  rw [List.getElem_take] at e
  have hj2 : j < i := by
    rw [List.length_take] at hj
    omega
  have hi := (List.getElem?_eq_some_iff.mp h)
  obtain ⟨hi1, hi2⟩ := hi
  have q := (List.getElem_inj hN).mp (e.trans hi2.symm)
  omega
/-- a dict whose keys are these names -/
def kvT (l : List Str) (f : Str → V) : List (Key × V) := l.map fun x => (Sum.inr x, f x)
theorem valV_kvT {l : List Str} {f : Str → V} {x : Str} (h : x ∉ l) : valV (kvT l f) (Sum.inr x : Key) = none := by
  cases e : valV (kvT l f) (Sum.inr x : Key) with
  | none => rfl
  | some v =>
    have m := valV_in e
    obtain ⟨q, hq, e2⟩ := List.mem_map.mp m
    obtain ⟨y, hy, e3⟩ := List.mem_map.mp hq
    rw [← e3] at e2
    have e4 : y = x := Sum.inr.inj e2
    rw [← e4] at h
    exact absurd hy h
theorem putK_kvT {l : List Str} {f : Str → V} {x : Str} (h : x ∉ l) : putK (kvT l f) (Sum.inr x : Key) (f x) = kvT (l ++ [x]) f := by
  rw [putK_new _ (valV_kvT h)]
  unfold kvT
  rw [List.map_append]
  rfl
/-! ### truth of a list of true things -/
theorem all_true {n : Nat} : (((List.range n).map fun _ => true).all id) = true := by
  simp
/-! ### names -/
def LETS : Str := "abcdefghijklmnopqrstuvwxyz"
def MRKS : Str := "abcdefghijklmnopqrstuvwxyz0123456789"
structure Nam (x : Str) : Prop where
  pos : 0 < x.cps.size
  le : x.cps.size ≤ 8
  one : ∃ c : Nat, x.cps[0]? = some c ∧ c ∈ LETS.cps.toList
  all : ∀ (i c : Nat), x.cps[i]? = some c → c ∈ MRKS.cps.toList
theorem pe_fldK {X : Cx} {K : PySem.W.Frag} {e : Expr} {ta : TE} {f : Str} {pos : Pos} (hk : X.K = K) (he : PE X e ta) (hb : attributeBase e f X.env (eval e X.env) = eval e X.env) : PE X (.Attribute e f pos) (tFld K ta f) := by
  subst hk
  exact pe_fld he hb
end W7
set_option Elab.async false
set_option linter.all false
set_option maxRecDepth 100000
set_option maxHeartbeats 4000000
namespace W7
open PySem PySem.Spec PyProof.Rows L2
/-! ### tuples whose objects are known to have no dict -/
def PlT (o : Obj) : Prop := o.cls = .type "tuple" ∧ o.dict = none
/-- a plain tuple -/
def TupP (H : Hp) (a : Addr) (xs : List V) : Prop := ∃ o, H a = some (.frz o (.tup xs)) ∧ PlT o
theorem TupP.sq {K : PySem.W.Frag} {H : Hp} {a : Addr} {xs : List V} (h : TupP H a xs) : SqT K H a xs := by
  obtain ⟨o, e, _⟩ := h
  exact .inl (.inr ⟨o, e⟩)
theorem TupP.mono {H H' : Hp} {a : Addr} {xs : List V} (h : TupP H a xs) (e : Same H H') : TupP H' a xs := by
  obtain ⟨o, q, p⟩ := h
  exact ⟨o, e _ _ q, p⟩
section
variable {X : Cx}
/-- tuple(list) -/
theorem call_tupleP : CallR X (.type "tuple") (fun xs H Q => ∃ p ys, xs = [.ref p] ∧ SqL X.K H p ys ∧ ∀ l o, H l = none → PlT o → Q (.ref l) (upd H l (.frz o (.tup ys)))) := by
  intro pins s σ H xs us Q I r h
  obtain ⟨p, ys, rfl, hq, q⟩ := h
  obtain ⟨u, rfl, rx⟩ := vals1 r
  cases rx
  obtain ⟨its, r', pl, hz⟩ := I.list hq
  have hlen := r'.length
  refine call_tuple_list pl.isList (fun h' kp => ?_) (by simp only [List.size_toArray] <;> omega)
  have I1 : Inv X pins σ H { s with heap := h' } := I.kept (t' := s.toks) kp
  have I2 : Inv X pins σ (upd H h'.objs.size (.frz { cls := .type "tuple", data := .seq its.toArray } (.tup ys))) { s with heap := h'.push { cls := .type "tuple", data := .seq its.toArray } } :=
    I1.laid (t' := s.toks) (fun b o e => Heap.get?_push_of_some _ e) (Nat.le_refl _) (show ObjOk X.prog X.w _ _ _ (.frz _ (.tup ys)) from ⟨Heap.get?_push_size _ rfl, hz, its, r', IsTup.new _ _⟩)
  exact ⟨.ref h'.objs.size, _, I2, rfl, q _ _ (I1.hok.fresh (Nat.le_refl _)) ⟨rfl, rfl⟩⟩
/-- t + u of plain tuples -/
theorem op_catP : OpR X (binaryOp .Add) (fun x y H Q => ∃ a b xs ys, x = .ref a ∧ y = .ref b ∧ SqT X.K H a xs ∧ SqT X.K H b ys ∧ xs ≠ [] ∧ xs.length + ys.length ≤ sizeLine ∧ (ys = [] → Q (.ref a) H) ∧ (ys ≠ [] → ∀ p o, H p = none → PlT o → Q (.ref p) (upd H p (.frz o (.tup (xs ++ ys)))))) := by
  intro pins s σ H x y v u Q I rx ry h
  obtain ⟨a, b, xs, ys, rfl, rfl, ha, hb, hx, hz, q1, q2⟩ := h
  cases rx
  cases ry
  obtain ⟨its, r1, p1, _⟩ := I.tuple ha
  obtain ⟨its2, r2, p2, _⟩ := I.tuple hb
  refine HT.cat_tup p1 p2 (fun z => hx (r1.nil_iff.mp z)) (fun z => ⟨.ref a, H, I, rfl, q1 (r2.nil_iff.mp z)⟩) (fun z => ?_) (by rw [← r1.length, ← r2.length]; exact hz)
  refine ⟨.ref s.heap.objs.size, _, I.laid (t' := s.toks) (o := .frz { cls := .type "tuple", data := .seq (its ++ its2).toArray } (.tup (xs ++ ys))) (fun b ob q => Heap.get?_push_of_some _ q) (Nat.le_refl _) ?_, rfl, q2 (fun w => z (r2.nil_iff.mpr w)) _ _ (I.hok.fresh (Nat.le_refl _)) ⟨rfl, rfl⟩⟩
  exact ⟨Heap.get?_push_size _ rfl, by rw [List.length_append]; exact hz, _, r1.append r2, IsTup.new _ _⟩
/-- dict(t) of a plain tuple of pairs (key, value) -/
theorem call_dictT (hcalm : X.calm = true) : CallR X (.type "dict") (fun xs H Q => ∃ (a : Addr) (ps : List Addr) (kvs : List (Key × V)), xs = [.ref a] ∧ TupP H a (ps.map V.ref) ∧ Paired (fun p kv => SqT X.K H p [kV kv.1, kv.2]) ps kvs ∧
    ∀ p, H p = none → Q (.ref p) (upd H p (.dK (mergeK [] kvs)))) := by
  intro pins s σ H xs us Q I r q
  obtain ⟨a, ps, kvs, ex, ⟨o, ho, hc, hd⟩, hp, q⟩ := q
  subst ex
  obtain ⟨u, eu, rx⟩ := vals1 r
  subst eu
  cases rx
  obtain ⟨e0, hz, its, rv, ⟨o', e1, _, n, hdat⟩⟩ := (show ObjOk X.prog X.w H s.heap a (.frz o (.tup (ps.map V.ref))) from I.hok a _ ho)
  have eo : o' = o := Option.some.inj (e1.symm.trans e0)
  subst eo
  have ei := refs_at rv
  subst ei
  rw [List.length_map] at hz
  obtain ⟨prs, rel, hl, hpr⟩ := pairs_of I hp
  -- the keys as they stand
  have keyed : ∃ qs : List (Value × Value), qs.length = prs.length ∧ ∀ (j : Nat) (q : Key × Value), prs[j]? = some q → ∃ (b : Addr) (u : Value), ps[j]? = some b ∧ IsTup s.heap b #[u, q.2] ∧ keyIs q.1 u = true ∧ qs[j]? = some (u, q.2) := by
    have go : ∀ (prs : List (Key × Value)) (f : Nat → Key × Value → Value → Prop), (∀ j q, prs[j]? = some q → ∃ u, f j q u) → ∃ qs : List (Value × Value), qs.length = prs.length ∧ ∀ j q, prs[j]? = some q → ∃ u, f j q u ∧ qs[j]? = some (u, q.2) := by
      intro prs
      induction prs with
      | nil => exact fun f _ => ⟨[], rfl, fun j q e => by simp at e⟩
      | cons p r ih =>
        intro f hf
        obtain ⟨u0, h0⟩ := hf 0 p rfl
        obtain ⟨qs, h1, h2⟩ := ih (fun j q u => f (j + 1) q u) fun j q e => hf (j + 1) q (by simpa using e)
        refine ⟨(u0, p.2) :: qs, by simp [h1], fun j q e => ?_⟩
        cases j with
        | zero =>
          have e' : p = q := Option.some.inj e
          subst e'
          exact ⟨u0, h0, rfl⟩
        | succ j =>
          obtain ⟨u, h3, h4⟩ := h2 j q (by simpa using e)
          exact ⟨u, h3, by simpa using h4⟩
    obtain ⟨qs, h1, h2⟩ := go prs (fun j q u => ∃ b, ps[j]? = some b ∧ IsTup s.heap b #[u, q.2] ∧ keyIs q.1 u = true) fun j q e => by
      obtain ⟨b, u, x1, x2, x3⟩ := hpr j q e
      exact ⟨u, b, x1, x2, x3⟩
    refine ⟨qs, h1, fun j q e => ?_⟩
    obtain ⟨u, ⟨b, x1, x2, x3⟩, x4⟩ := h2 j q e
    exact ⟨b, u, x1, x2, x3, x4⟩
  obtain ⟨qs, hql, hqs⟩ := keyed
  have hz' : prs.length ≤ sizeLine := by
    rw [hl]
    exact hz
  have items : PairItems s.heap (ps.map Value.ref).toArray (fun j => ps.getD j 0) qs := by
    refine ⟨by simp [hql, hl], fun j k v e => ?_⟩
    have hj : j < prs.length := by
      rw [← hql]
      exact (List.getElem?_eq_some_iff.mp e).1
    obtain ⟨b, u, x1, x2, x3, x4⟩ := hqs j prs[j] (List.getElem?_eq_getElem hj)
    have e2 : (u, prs[j].2) = (k, v) := Option.some.inj (x4.symm.trans e)
    have eb : ps.getD j 0 = b := by
      rw [List.getD_eq_getElem?_getD, x1]
      rfl
    refine ⟨by simp [x1, eb], .inl ?_⟩
    obtain ⟨e3, e4⟩ := Prod.mk.inj e2
    show s.heap.IsTuple (ps.getD j 0) #[k, v]
    rw [eb, ← e3, ← e4]
    exact x2
  have have_ : PairsHave (mixKind X.prog X.w) qs.length (PairRel qs) prs := by
    refine ⟨hql.symm, fun i key v e => ?_⟩
    have hj : i < prs.length := by
      rw [← hql]
      exact (List.getElem?_eq_some_iff.mp e).1
    obtain ⟨b, u, x1, x2, x3, x4⟩ := hqs i prs[i] (List.getElem?_eq_getElem hj)
    have e2 : (u, prs[i].2) = (key, v) := Option.some.inj (x4.symm.trans e)
    obtain ⟨e3, e4⟩ := Prod.mk.inj e2
    refine ⟨prs[i].1, ?_, ?_⟩
    · rw [List.getElem?_eq_getElem hj, ← e4]
    · rw [← e3]
      exact x3
  refine PySem.call_dict_pairs (knd := mixKind X.prog X.w) (kvs := prs) (PairArg.tuple a (ps.map Value.ref).toArray (fun j => ps.getD j 0) qs) (I.ok.hd hcalm) ⟨⟨o', n, e0, hc, hd, hdat⟩, items⟩ have_ (by rw [hql]; exact hz') fun h' tk hd' k => ?_
  have hm : (s.heap.objs.size == sysModules) = false := beq_eq_false_iff_ne.mpr (Nat.ne_of_gt I.big)
  have hlen : (mergeK [] kvs).length ≤ sizeLine := by
    refine Nat.le_trans (length_mergeK kvs []) ?_
    rw [List.length_nil, Nat.zero_add, rel.length, hl]
    exact hz
  exact ⟨.ref s.heap.objs.size, upd H s.heap.objs.size (.dK (mergeK [] kvs)), I.laid (t' := tk) (fun b o e => k b o (by simp) e) (Nat.le_refl _) (show ObjOk X.prog X.w _ _ _ (.dK (mergeK [] kvs)) from ⟨hlen, hm, merged [] prs, KV.merge rel .nil, hd'⟩), rfl, q _ (I.hok.fresh (Nat.le_refl _))⟩
end
end W7
set_option Elab.async false
set_option linter.all false
set_option maxRecDepth 100000
set_option maxHeartbeats 4000000
namespace W7
open PySem PySem.Spec PyProof.Rows L2
section
variable {P : Program} {w : World} {K : PySem.W.Frag} {mg : Str → Option Value} {base : Heap}

def spIsInt : Sp := fun vs H Q _ => ∃ i, vs = [.int i] ∧ Q (.bl true) H
def spIntIn : Sp := fun vs H Q _ => ∃ i lo hi, vs = [.int i, .int lo, .int hi] ∧ lo ≤ i ∧ i ≤ hi ∧ Q (.bl true) H
def spWritten : Sp := fun vs H Q _ => ∃ i : Int, vs = [.int i] ∧ -1000000000 ≤ i ∧ i ≤ 1000000000 ∧ Q (.bl true) H
def spName : Sp := fun vs H Q _ => ∃ x, vs = [.str x] ∧ Nam x ∧ ∀ H', Same H H' → Q (.bl true) H'
def spKind : Sp := fun vs H Q _ => vs = [.str "number"] ∧ Q (.bl true) H
def spTupOf : Sp := fun vs H Q _ => ∃ a xs n, vs = [.ref a, .int n] ∧ H a = some (.tup xs) ∧ n = (xs.length : Int) ∧ Q (.bl true) H
def spListOf : Sp := fun vs H Q _ => ∃ a xs lo hi, vs = [.ref a, .int lo, .int hi] ∧ H a = some (.lst xs) ∧ lo ≤ (xs.length : Int) ∧ (xs.length : Int) ≤ hi ∧ Q (.bl true) H
def spWord : Sp := fun vs H Q _ => ∃ a x xs, vs = [.ref a] ∧ H a = some (.tup (.str x :: xs)) ∧ Q (.bl true) H
theorem sc_is_integer : FnScope ["thing"] ["thing"] (defScope s_is_integer) := ⟨rfl, rfl, rfl, by decide +kernel, rfl, by decide +kernel, by decide +kernel⟩
theorem ok_is_integer (T : Ctx w K mg) : Has P w K mg base 1 "is_integer" ["thing"] spIsInt := by
  obtain ⟨fd, F⟩ := T.D_is_integer
  refine ⟨⟨fd, F.ok sc_is_integer (fun vs H Q E h => ?_) (fun cdv A outer s H vs Q E hr h => ?_), F.bindsN fun _ _ _ _ _ _ us hl => match us, hl with | [_], _ => rfl⟩, F.kp, T.g_is_integer⟩
  · obtain ⟨i, rfl, k⟩ := h; rfl
  · obtain ⟨i, rfl, k⟩ := h
    have hu := hu_of hr
    refine ⟨_, PSs.nox (pss_one (ps_ret (pe_and (pe_callB call_isi (by rfl) T.f_isinstance (by decide +kernel) (pa_cons (pv 0) (pa_cons (pe_bltn (v := .ty "int") (u := .type "int") rfl T.f_int (by decide +kernel) rfl) pa_nil))) (pe_one (pe_not (pe_callB call_isi (by rfl) T.f_isinstance (by decide +kernel) (pa_cons (pv 0) (pa_cons (pe_bltn (v := .ty "bool") (u := .type "bool") rfl T.f_bool (by decide +kernel) rfl) pa_nil)))))))), ?_⟩
    refine ⟨_, rfl, _, _, _, _, true, rfl, .ty _, .base (.int i), kit_ty (by decide +kernel), true, rfl, iteT ?_⟩
    exact ⟨_, rfl, _, _, _, _, false, rfl, .ty _, .base (.int i), kit_ty (by decide +kernel), false, rfl, k⟩
theorem sc_is_integer_in : FnScope ["thing", "least", "most"] ["thing", "least", "most"] (defScope s_is_integer_in) := ⟨rfl, rfl, rfl, by decide +kernel, rfl, by decide +kernel, by decide +kernel⟩
theorem ok_is_integer_in (T : Ctx w K mg) (H_is_integer : Has P w K mg base 1 "is_integer" ["thing"] spIsInt) : Has P w K mg base 2 "is_integer_in" ["thing", "least", "most"] spIntIn := by
  obtain ⟨fd, F⟩ := T.D_is_integer_in
  obtain ⟨fd_is_integer, G_is_integer, b_is_integer⟩ := H_is_integer.ex
  refine ⟨⟨fd, F.ok sc_is_integer_in (fun vs H Q E h => ?_) (fun cdv A outer s H vs Q E hr h => ?_), F.bindsN fun _ _ _ _ _ _ us hl => match us, hl with | [_, _, _], _ => rfl⟩, F.kp, T.g_is_integer_in⟩
  · obtain ⟨i, lo, hi, rfl, h1, h2, k⟩ := h; rfl
  · obtain ⟨i, lo, hi, rfl, h1, h2, k⟩ := h
    have hr_is_integer : Room 1 _ := hr.mono (by decide)
    have hu := hu_of hr
    refine ⟨_, PSs.nox (pss_one (ps_ret (pe_and (pe_call G_is_integer hr_is_integer (by rfl) H_is_integer.gl H_is_integer.kp b_is_integer .nil pass0 (pa_cons (pv 0) pa_nil)) (pe_one (pe_chain op_le op_le (pv 1) (pv 0) (pv 2)))))), ?_⟩
    refine ⟨_, rfl, i, rfl, true, rfl, iteT ?_⟩
    exact ⟨_, rfl, _, rfl, _, _, rfl, rfl, _, rfl, ifT (decide_eq_true h1) ⟨_, rfl, _, _, rfl, rfl, qT (decide_eq_true h2) k⟩⟩
theorem sc_is_written_number : FnScope ["thing"] ["thing"] (defScope s_is_written_number) := ⟨rfl, rfl, rfl, by decide +kernel, rfl, by decide +kernel, by decide +kernel⟩
theorem ok_is_written_number (T : Ctx w K mg) (H_is_integer_in : Has P w K mg base 2 "is_integer_in" ["thing", "least", "most"] spIntIn) : Has P w K mg base 3 "is_written_number" ["thing"] spWritten := by
  obtain ⟨fd, F⟩ := T.D_is_written_number
  obtain ⟨fd_is_integer_in, G_is_integer_in, b_is_integer_in⟩ := H_is_integer_in.ex
  refine ⟨⟨fd, F.ok sc_is_written_number (fun vs H Q E h => ?_) (fun cdv A outer s H vs Q E hr h => ?_), F.bindsN fun _ _ _ _ _ _ us hl => match us, hl with | [_], _ => rfl⟩, F.kp, T.g_is_written_number⟩
  · obtain ⟨i, rfl, h1, h2, k⟩ := h; rfl
  · obtain ⟨i, rfl, h1, h2, k⟩ := h
    have hr_is_integer_in : Room 2 _ := hr.mono (by decide)
    have hu := hu_of hr
    obtain ⟨tk, e_GREATEST_WRITTEN⟩ := T.i_GREATEST_WRITTEN
    refine ⟨_, PSs.nox (pss_one (ps_ret (pe_call G_is_integer_in hr_is_integer_in (by rfl) H_is_integer_in.gl H_is_integer_in.kp b_is_integer_in .nil pass0 (pa_cons (pv 0) (pa_cons (pe_un un_neg (pe_glob (v := .int 1000000000) rfl e_GREATEST_WRITTEN ⟨_, rfl⟩)) (pa_cons (pe_glob (v := .int 1000000000) rfl e_GREATEST_WRITTEN ⟨_, rfl⟩) pa_nil)))))), ?_⟩
    exact ⟨_, rfl, _, rfl, i, _, _, rfl, h1, h2, k⟩
theorem sc_is_name : FnScope ["thing", "mark"] ["thing"] (defScope s_is_name) := ⟨rfl, rfl, rfl, by decide +kernel, rfl, by decide +kernel, by decide +kernel⟩
theorem ok_is_name (T : Ctx w K mg) : Has P w K mg base 1 "is_name" ["thing"] spName := by
  obtain ⟨fd, F⟩ := T.D_is_name
  refine ⟨⟨fd, F.ok sc_is_name (fun vs H Q E h => ?_) (fun cdv A outer s H vs Q E hr h => ?_), F.bindsN fun _ _ _ _ _ _ us hl => match us, hl with | [_], _ => rfl⟩, F.kp, T.g_is_name⟩
  · obtain ⟨x, rfl, N, k⟩ := h; rfl
  · obtain ⟨x, rfl, N, k⟩ := h
    have hu := hu_of hr
    obtain ⟨tl, e_LETTERS⟩ := T.s_LETTERS
    obtain ⟨tm, e_MARKS⟩ := T.s_MARKS
    refine ⟨_, PSs.nox (pss_cons (ps_if (PW.pt (pw_or (pt_not (pt_val (pe_callB call_isi (by rfl) T.f_isinstance (by decide +kernel) (pa_cons (pv 0) (pa_cons (pe_bltn (v := .ty "str") (u := .type "str") rfl T.f_str (by decide +kernel) rfl) pa_nil))))) (pw_or1 (pt_not (pt_chain op_le op_le pe_int (pe_callB call_len_str (by rfl) T.f_len (by decide +kernel) (pa_cons (pv 0) pa_nil)) pe_int))))) (pss_one (ps_ret pe_bl)) pss_nil)
      (pss_one (ps_ret (pe_and (pe_cmpR op_in_sign (pe_item_str (pv 0) pe_int (fun _ _ => rfl)) (pe_glob (v := .str "abcdefghijklmnopqrstuvwxyz") rfl e_LETTERS ⟨_, rfl⟩) rfl) (pe_one (pe_callB (cr_all rfl) (by rfl) T.f_all (by decide +kernel) (pa_cons (pe_lc (own := [("mark", 1)]) (g := gName 1) (tt := tYes) rfl sc_is_name.nd (pi_str (pv 0)) (blkOk_by (N := ["thing", "mark"]) (sc := defScope s_is_name) (by decide +kernel)) (fun _ _ _ _ _ => (pg_name (i := 1) sc_is_name.nd rfl (Or.inl rfl))) (fun _ _ _ _ _ => pts_nil) (fun _ _ _ _ _ => (pe_cmpR op_in_sign (pv 1) (pe_glob (v := .str "abcdefghijklmnopqrstuvwxyz0123456789") rfl e_MARKS ⟨_, rfl⟩) rfl))) pa_nil))))))), ?_⟩
    obtain ⟨c0, hc0, mc0⟩ := N.one
    have hsz : x.length ≤ sizeLine := sz_of (Nat.le_trans (show x.cps.size ≤ 8 from N.le) (by decide))
    refine ⟨_, rfl, _, _, _, _, true, rfl, .ty _, .base (.str x), kit_ty (by decide +kernel), true, rfl, iteF ?_⟩
    refine ⟨_, rfl, _, rfl, hsz, _, _, rfl, rfl, _, rfl, ?_⟩
    refine ifT (decide_eq_true (show (1 : Int) ≤ ((x.cps.size : Nat) : Int) by have := N.pos; omega)) ⟨_, _, rfl, rfl, _, rfl, ?_⟩
    refine ifF (show (!decide (((x.cps.size : Nat) : Int) ≤ 8)) = false by rw [decide_eq_true (show ((x.cps.size : Nat) : Int) ≤ 8 by have := N.le; omega)]; rfl) ?_
    refine ⟨_, rfl, _, _, c0, rfl, rfl, by decide, by decide, by have := N.pos; exact Int.ofNat_lt.mpr this, hc0, _, _, rfl, rfl, _, rfl, ?_⟩
    refine ifT (decide_eq_true mc0) ?_
    refine ⟨_, rfl, _, rfl, fun D hD => ?_⟩
    refine lc_pure walk_str hD (fun _ => .bl true) (by have := N.le; omega) (fun _ _ => trivial) (fun i H1 y H2 hi s1 hy Qe qe => ?_) (fun H1 s1 h1 => ?_)
    · obtain ⟨rfl, c, hc, rfl⟩ := hy
      exact ⟨rfl, _, rfl, _, _, rfl, rfl, qT (decide_eq_true (N.all i c hc)) (qe _ (Same.refl _))⟩
    · refine ⟨_, (List.range x.cps.size).map (fun _ => true), rfl, SqL.of (by rw [h1, List.map_map]; rfl), qT all_true (k _ s1)⟩
theorem sc_is_kind : FnScope ["thing"] ["thing"] (defScope s_is_kind) := ⟨rfl, rfl, rfl, by decide +kernel, rfl, by decide +kernel, by decide +kernel⟩
theorem ok_is_kind (T : Ctx w K mg) : Has P w K mg base 1 "is_kind" ["thing"] spKind := by
  obtain ⟨fd, F⟩ := T.D_is_kind
  refine ⟨⟨fd, F.ok sc_is_kind (fun vs H Q E h => ?_) (fun cdv A outer s H vs Q E hr h => ?_), F.bindsN fun _ _ _ _ _ _ us hl => match us, hl with | [_], _ => rfl⟩, F.kp, T.g_is_kind⟩
  · obtain ⟨rfl, k⟩ := h; rfl
  · obtain ⟨rfl, k⟩ := h
    have hu := hu_of hr
    refine ⟨_, PSs.nox (pss_one (ps_ret (pe_and (pe_callB call_isi (by rfl) T.f_isinstance (by decide +kernel) (pa_cons (pv 0) (pa_cons (pe_bltn (v := .ty "str") (u := .type "str") rfl T.f_str (by decide +kernel) rfl) pa_nil))) (pe_one (pe_cmpR op_in_seq (pv 0) (pe_glob (v := .ref (He.ga K "KINDS")) rfl T.g_KINDS rfl) rfl))))), ?_⟩
    refine ⟨_, rfl, _, _, _, _, true, rfl, .ty _, .base (.str _), kit_ty (by decide +kernel), true, rfl, iteT ?_⟩
    exact ⟨_, rfl, _, _, rfl, .inr (T.kinds H), rfl, rfl, qT rfl k⟩
theorem sc_is_tuple_of : FnScope ["thing", "many"] ["thing", "many"] (defScope s_is_tuple_of) := ⟨rfl, rfl, rfl, by decide +kernel, rfl, by decide +kernel, by decide +kernel⟩
theorem ok_is_tuple_of (T : Ctx w K mg) : Has P w K mg base 1 "is_tuple_of" ["thing", "many"] spTupOf := by
  obtain ⟨fd, F⟩ := T.D_is_tuple_of
  refine ⟨⟨fd, F.ok sc_is_tuple_of (fun vs H Q E h => ?_) (fun cdv A outer s H vs Q E hr h => ?_), F.bindsN fun _ _ _ _ _ _ us hl => match us, hl with | [_, _], _ => rfl⟩, F.kp, T.g_is_tuple_of⟩
  · obtain ⟨a, xs, n, rfl, ha, hn, k⟩ := h; rfl
  · obtain ⟨a, xs, n, rfl, ha, hn, k⟩ := h
    have hu := hu_of hr
    refine ⟨_, PSs.nox (pss_one (ps_ret (pe_and (pe_callB call_isi (by rfl) T.f_isinstance (by decide +kernel) (pa_cons (pv 0) (pa_cons (pe_bltn (v := .ty "tuple") (u := .type "tuple") rfl T.f_tuple (by decide +kernel) rfl) pa_nil))) (pe_one (pe_cmpR op_eq (pe_callB call_len_seq (by rfl) T.f_len (by decide +kernel) (pa_cons (pv 0) pa_nil)) (pv 1) (nomark _)))))), ?_⟩
    refine ⟨_, rfl, _, _, _, _, true, rfl, .ty _, .base (.tup ha), kit_ty (by decide +kernel), true, rfl, iteT ?_⟩
    exact ⟨_, rfl, _, _, rfl, .inr (SqT.of ha), _, rfl, rfl, qT (decide_eq_true (by rw [hn])) k⟩
theorem sc_is_list_of : FnScope ["thing", "least", "most"] ["thing", "least", "most"] (defScope s_is_list_of) := ⟨rfl, rfl, rfl, by decide +kernel, rfl, by decide +kernel, by decide +kernel⟩
theorem ok_is_list_of (T : Ctx w K mg) : Has P w K mg base 1 "is_list_of" ["thing", "least", "most"] spListOf := by
  obtain ⟨fd, F⟩ := T.D_is_list_of
  refine ⟨⟨fd, F.ok sc_is_list_of (fun vs H Q E h => ?_) (fun cdv A outer s H vs Q E hr h => ?_), F.bindsN fun _ _ _ _ _ _ us hl => match us, hl with | [_, _, _], _ => rfl⟩, F.kp, T.g_is_list_of⟩
  · obtain ⟨a, xs, lo, hi, rfl, ha, h1, h2, k⟩ := h; rfl
  · obtain ⟨a, xs, lo, hi, rfl, ha, h1, h2, k⟩ := h
    have hu := hu_of hr
    refine ⟨_, PSs.nox (pss_one (ps_ret (pe_and (pe_callB call_isi (by rfl) T.f_isinstance (by decide +kernel) (pa_cons (pv 0) (pa_cons (pe_bltn (v := .ty "list") (u := .type "list") rfl T.f_list (by decide +kernel) rfl) pa_nil))) (pe_one (pe_chain op_le op_le (pv 1) (pe_callB call_len_seq (by rfl) T.f_len (by decide +kernel) (pa_cons (pv 0) pa_nil)) (pv 2)))))), ?_⟩
    refine ⟨_, rfl, _, _, _, _, true, rfl, .ty _, .base (.lst ha), kit_ty (by decide +kernel), true, rfl, iteT ?_⟩
    exact ⟨_, rfl, _, rfl, _, _, rfl, .inl (SqL.of ha), _, _, rfl, rfl, _, rfl, ifT (decide_eq_true h1) ⟨_, rfl, _, _, rfl, rfl, qT (decide_eq_true h2) k⟩⟩
theorem sc_is_word_tuple : FnScope ["thing"] ["thing"] (defScope s_is_word_tuple) := ⟨rfl, rfl, rfl, by decide +kernel, rfl, by decide +kernel, by decide +kernel⟩
theorem ok_is_word_tuple (T : Ctx w K mg) : Has P w K mg base 1 "is_word_tuple" ["thing"] spWord := by
  obtain ⟨fd, F⟩ := T.D_is_word_tuple
  refine ⟨⟨fd, F.ok sc_is_word_tuple (fun vs H Q E h => ?_) (fun cdv A outer s H vs Q E hr h => ?_), F.bindsN fun _ _ _ _ _ _ us hl => match us, hl with | [_], _ => rfl⟩, F.kp, T.g_is_word_tuple⟩
  · obtain ⟨a, x, xs, rfl, ha, k⟩ := h; rfl
  · obtain ⟨a, x, xs, rfl, ha, k⟩ := h
    have hu := hu_of hr
    refine ⟨_, PSs.nox (pss_one (ps_ret (pe_and (pe_callB call_isi (by rfl) T.f_isinstance (by decide +kernel) (pa_cons (pv 0) (pa_cons (pe_bltn (v := .ty "tuple") (u := .type "tuple") rfl T.f_tuple (by decide +kernel) rfl) pa_nil))) (pe_and (pe_cmpR op_gt (pe_callB call_len_seq (by rfl) T.f_len (by decide +kernel) (pa_cons (pv 0) pa_nil)) pe_int (nomark _)) (pe_one (pe_callB call_isi (by rfl) T.f_isinstance (by decide +kernel) (pa_cons (pe_ix ix_tup (pv 0) pe_int (fun _ _ => rfl)) (pa_cons (pe_bltn (v := .ty "str") (u := .type "str") rfl T.f_str (by decide +kernel) rfl) pa_nil)))))))), ?_⟩
    refine ⟨_, rfl, _, _, _, _, true, rfl, .ty _, .base (.tup ha), kit_ty (by decide +kernel), true, rfl, iteT ?_⟩
    refine ⟨_, rfl, _, _, rfl, .inr (SqT.of ha), _, _, rfl, rfl, _, rfl, ifT (decide_eq_true (by rw [List.length_cons]; omega)) ?_⟩
    exact ⟨_, rfl, _, _, _, _, rfl, rfl, SqT.of ha, at0, _, _, _, _, true, rfl, .ty _, .base (.str x), kit_ty (by decide +kernel), k⟩

end
end W7
set_option Elab.async false
set_option linter.all false
set_option maxRecDepth 100000
set_option maxHeartbeats 4000000
namespace W7
open PySem PySem.Spec PyProof.Rows L2
section
variable {P : Program} {w : World} {K : PySem.W.Frag} {mg : Str → Option Value} {base : Heap}

/-- a text or an int -/
inductive Fl : V → Prop where
  | str (x : Str) : Fl (.str x)
  | int (i : Int) : Fl (.int i)
def spFz0 : Sp := fun vs H Q _ => ∃ v, vs = [v] ∧ Fl v ∧ ∀ H', Same H H' → Q v H'
def spFz1 : Sp := fun vs H Q _ => ∃ a xs, vs = [.ref a] ∧ H a = some (.tup xs) ∧ (∀ x ∈ xs, Fl x) ∧ xs.length ≤ 100 ∧ ∀ p H', Same H H' → H' p = some (.tup xs) → Q (.ref p) H'
def spFz2 : Sp := fun vs H Q _ => ∃ (a : Addr) (ps : List Addr) (f : Nat → List V), vs = [.ref a] ∧ H a = some (.lst (ps.map V.ref)) ∧ (∀ (i : Nat) (p : Addr), ps[i]? = some p → H p = some (.tup (f i)) ∧ (f i).length ≤ 100 ∧ ∀ x ∈ f i, Fl x) ∧ ps.length ≤ 100 ∧
  ∀ (q : Addr) (qs : List Addr) (H' : Hp), Same H H' → TupP H' q (qs.map V.ref) → qs.length = ps.length → (∀ (i : Nat) (p : Addr), qs[i]? = some p → H' p = some (.tup (f i))) → Q (.ref q) H'
theorem kit2 {K : PySem.W.Frag} {t a b : String} {p q r : Bool} (h1 : kitB t a = some p) (h2 : kitB t b = some q) (e : r = (p || q)) : PySem.W.kitAny K (.type t) [.type a, .type b] = some r := by
  subst e
  refine kitAny_cons (kit_ty h1) (fun e => ?_) (fun e => by rw [e] <;> rfl)
  rw [e]
  exact kitAny_cons (kit_ty h2) (fun e2 => by rw [e2]; exact kitAny_nil) (fun e2 => by rw [e2] <;> rfl)
theorem sc_frozen : FnScope ["thing", "part"] ["thing"] (defScope s_frozen) := ⟨rfl, rfl, rfl, by decide +kernel, rfl, by decide +kernel, by decide +kernel⟩
theorem ok_frozen0 (T : Ctx w K mg) : Has P w K mg base 1 "frozen" ["thing"] spFz0 := by
  obtain ⟨fd, F⟩ := T.D_frozen
  refine ⟨⟨fd, F.ok sc_frozen (fun vs H Q E h => ?_) (fun cdv A outer s H vs Q E hr h => ?_), F.bindsN fun _ _ _ _ _ _ us hl => match us, hl with | [_], _ => rfl⟩, F.kp, T.g_frozen⟩
  · obtain ⟨v, rfl, F0, k⟩ := h; rfl
  · obtain ⟨v, rfl, F0, k⟩ := h
    have hu := hu_of hr
    refine ⟨_, PSs.nox (pss_cons (ps_if (pt_val (pe_callB call_isiT (by rfl) T.f_isinstance (by decide +kernel) (pa_cons (pv 0) (pa_cons (pe_tup (pa_cons (pe_bltn (v := .ty "list") (u := .type "list") rfl T.f_list (by decide +kernel) rfl) (pa_cons (pe_bltn (v := .ty "tuple") (u := .type "tuple") rfl T.f_tuple (by decide +kernel) rfl) pa_nil))) pa_nil)))) (pss_one ps_never) pss_nil)
      (pss_one (ps_ret (pv 0)))), ?_⟩
    refine ⟨_, rfl, sz_of (by decide), fun tp htp => ?_⟩
    cases F0 with
    | str x =>
      exact ⟨_, _, _, _, _, false, rfl, upd_same, .cons (.ty _) (.cons (.ty _) .nil), .base (.str x), kit2 (p := false) (q := false) (by decide +kernel) (by decide +kernel) rfl, _, rfl, iteF ⟨_, rfl, k _ (Same.new htp)⟩⟩
    | int x =>
      exact ⟨_, _, _, _, _, false, rfl, upd_same, .cons (.ty _) (.cons (.ty _) .nil), .base (.int x), kit2 (p := false) (q := false) (by decide +kernel) (by decide +kernel) rfl, _, rfl, iteF ⟨_, rfl, k _ (Same.new htp)⟩⟩
theorem ok_frozen1 (T : Ctx w K mg) (H_frozen : Has P w K mg base 1 "frozen" ["thing"] spFz0) : Has P w K mg base 2 "frozen" ["thing"] spFz1 := by
  obtain ⟨fd, F⟩ := T.D_frozen
  obtain ⟨fd_frozen, G_frozen, b_frozen⟩ := H_frozen.ex
  refine ⟨⟨fd, F.ok sc_frozen (fun vs H Q E h => ?_) (fun cdv A outer s H vs Q E hr h => ?_), F.bindsN fun _ _ _ _ _ _ us hl => match us, hl with | [_], _ => rfl⟩, F.kp, T.g_frozen⟩
  · obtain ⟨a, xs, rfl, ha, hf, hl, k⟩ := h; rfl
  · obtain ⟨a, xs, rfl, ha, hf, hl, k⟩ := h
    have hr_frozen : Room 1 _ := hr.mono (by decide)
    have hu := hu_of hr
    refine ⟨_, PSs.nox (pss_cons (ps_if (pt_val (pe_callB call_isiT (by rfl) T.f_isinstance (by decide +kernel) (pa_cons (pv 0) (pa_cons (pe_tup (pa_cons (pe_bltn (v := .ty "list") (u := .type "list") rfl T.f_list (by decide +kernel) rfl) (pa_cons (pe_bltn (v := .ty "tuple") (u := .type "tuple") rfl T.f_tuple (by decide +kernel) rfl) pa_nil))) pa_nil)))) (pss_one (ps_ret (pe_callTy call_tuple_of (by rfl) T.f_tuple (by decide +kernel) (pa_cons (pe_lc (own := [("part", 1)]) (g := gName 1) (tt := tYes) rfl sc_frozen.nd (pi_tup (pv 0)) (blkOk_by (N := ["thing", "part"]) (sc := defScope s_frozen) (by decide +kernel)) (fun _ _ _ _ _ => (pg_name (i := 1) sc_frozen.nd rfl (Or.inl rfl))) (fun _ _ _ _ _ => pts_nil) (fun _ _ _ _ _ => (pe_call G_frozen hr_frozen (by rfl) H_frozen.gl H_frozen.kp b_frozen .nil pass0 (pa_cons (pv 1) pa_nil)))) pa_nil)))) pss_nil)
      (pss_one (ps_ret (pv 0)))), ?_⟩
    refine ⟨_, rfl, sz_of (by decide), fun tp htp => ?_⟩
    have s1 : Same H (upd H tp (.tup [.ty "list", .ty "tuple"])) := Same.new htp
    refine ⟨_, _, _, _, _, true, rfl, upd_same, .cons (.ty _) (.cons (.ty _) .nil), .base (.tup (s1 _ _ ha)), kit2 (p := false) (q := true) (by decide +kernel) (by decide +kernel) rfl, _, rfl, iteT ?_⟩
    refine ⟨_, rfl, a, rfl, ⟨_, SqT.of (s1 _ _ ha)⟩, fun D hD => ?_⟩
    refine lc_pure (walk_tup (K := K) (a := a) (xs := xs)) hD (fun i => xs.getD i .non) (Nat.lt_of_le_of_lt hl (by decide)) (fun H2 s2 => SqT.of (s2 _ _ (s1 _ _ ha))) (fun i H2 y H3 hi s2 hy Qe qe => ?_) (fun H2 s2 h2 => ?_)
    · obtain ⟨rfl, hx⟩ := hy
      rw [getD_of hx] at qe
      exact ⟨rfl, _, rfl, y, rfl, hf y (List.mem_of_getElem? hx), fun H4 s4 => qe _ s4⟩
    · rw [map_range_getD] at h2
      exact ⟨D, xs, rfl, .inl ⟨SqL.of h2, fun l hl2 => k l _ ((s1.trans s2).trans (Same.new hl2)) upd_same⟩⟩
theorem ok_frozen2 (T : Ctx w K mg) (H_frozen : Has P w K mg base 2 "frozen" ["thing"] spFz1) : Has P w K mg base 3 "frozen" ["thing"] spFz2 := by
  obtain ⟨fd, F⟩ := T.D_frozen
  obtain ⟨fd_frozen, G_frozen, b_frozen⟩ := H_frozen.ex
  refine ⟨⟨fd, F.ok sc_frozen (fun vs H Q E h => ?_) (fun cdv A outer s H vs Q E hr h => ?_), F.bindsN fun _ _ _ _ _ _ us hl => match us, hl with | [_], _ => rfl⟩, F.kp, T.g_frozen⟩
  · obtain ⟨a, ps, f, rfl, ha, hf, hl, k⟩ := h; rfl
  · obtain ⟨a, ps, f, rfl, ha, hf, hl, k⟩ := h
    have hr_frozen : Room 2 _ := hr.mono (by decide)
    have hu := hu_of hr
    refine ⟨_, PSs.nox (pss_cons (ps_if (pt_val (pe_callB call_isiT (by rfl) T.f_isinstance (by decide +kernel) (pa_cons (pv 0) (pa_cons (pe_tup (pa_cons (pe_bltn (v := .ty "list") (u := .type "list") rfl T.f_list (by decide +kernel) rfl) (pa_cons (pe_bltn (v := .ty "tuple") (u := .type "tuple") rfl T.f_tuple (by decide +kernel) rfl) pa_nil))) pa_nil)))) (pss_one (ps_ret (pe_callTy call_tupleP (by rfl) T.f_tuple (by decide +kernel) (pa_cons (pe_lc (own := [("part", 1)]) (g := gName 1) (tt := tYes) rfl sc_frozen.nd (pi_list (pv 0)) (blkOk_by (N := ["thing", "part"]) (sc := defScope s_frozen) (by decide +kernel)) (fun _ _ _ _ _ => (pg_name (i := 1) sc_frozen.nd rfl (Or.inl rfl))) (fun _ _ _ _ _ => pts_nil) (fun _ _ _ _ _ => (pe_call G_frozen hr_frozen (by rfl) H_frozen.gl H_frozen.kp b_frozen .nil pass0 (pa_cons (pv 1) pa_nil)))) pa_nil)))) pss_nil)
      (pss_one (ps_ret (pv 0)))), ?_⟩
    refine ⟨_, rfl, sz_of (by decide), fun tp htp => ?_⟩
    have s1 : Same H (upd H tp (.tup [.ty "list", .ty "tuple"])) := Same.new htp
    refine ⟨_, _, _, _, _, true, rfl, upd_same, .cons (.ty _) (.cons (.ty _) .nil), .base (.lst (s1 _ _ ha)), kit2 (p := true) (q := false) (by decide +kernel) (by decide +kernel) rfl, _, rfl, iteT ?_⟩
    refine ⟨_, rfl, a, rfl, ⟨_, SqL.of (s1 _ _ ha)⟩, fun D hD => ?_⟩
    refine lc_tups (walk_list (K := K) (a := a) (xs := ps.map V.ref)) hD f (by rw [List.length_map]; exact Nat.lt_of_le_of_lt hl (by decide)) (fun H2 s2 => SqL.of (s2 _ _ (s1 _ _ ha))) (fun i H2 y H3 hi s2 hy Qe qe => ?_) (fun H2 qs s2 hq hqs h2 => ?_)
    · obtain ⟨rfl, hx⟩ := hy
      rw [List.getElem?_map] at hx
      cases e : ps[i]? with
      | none =>
        rw [e] at hx
        cases hx
      | some p =>
        rw [e] at hx
        have hy2 : y = V.ref p := (Option.some.inj hx).symm
        subst hy2
        obtain ⟨h3, h4, h5⟩ := hf i p e
        exact ⟨rfl, _, rfl, p, f i, rfl, s2 _ _ (s1 _ _ h3), h5, h4, fun q H4 s4 h6 => qe q _ s4 h6⟩
    · rw [List.length_map] at hq
      refine ⟨D, _, rfl, SqL.of h2, fun l o hl2 po => k l qs _ ((s1.trans s2).trans (Same.new hl2)) ⟨o, upd_same, po⟩ hq fun i p e => Same.new hl2 _ _ (hqs i p e)⟩
def spNamed : Sp := fun vs H Q _ => ∃ (a : Addr) (ps : List Addr) (ns : List Str) (m : Int), vs = [.ref a, .int m] ∧ H a = some (.lst (ps.map V.ref)) ∧ Pairs H ps ns ∧ (∀ x ∈ ns, Nam x) ∧ ns.Nodup ∧ (ns.length : Int) ≤ m ∧ ns.length ≤ 100 ∧ ∀ H', Same H H' → Q (.bl true) H' 
theorem sc_are_named_kinds : FnScope ["thing", "most", "names", "pair"] ["thing", "most"] (defScope s_are_named_kinds) := ⟨rfl, rfl, rfl, by decide +kernel, rfl, by decide +kernel, by decide +kernel⟩
theorem ok_are_named_kinds (T : Ctx w K mg) (H_is_list_of : Has P w K mg base 1 "is_list_of" ["thing", "least", "most"] spListOf) (H_is_tuple_of : Has P w K mg base 1 "is_tuple_of" ["thing", "many"] spTupOf) (H_is_name : Has P w K mg base 1 "is_name" ["thing"] spName) (H_is_kind : Has P w K mg base 1 "is_kind" ["thing"] spKind) : Has P w K mg base 2 "are_named_kinds" ["thing", "most"] spNamed := by
  obtain ⟨fd, F⟩ := T.D_are_named_kinds
  obtain ⟨fd_is_list_of, G_is_list_of, b_is_list_of⟩ := H_is_list_of.ex
  obtain ⟨fd_is_tuple_of, G_is_tuple_of, b_is_tuple_of⟩ := H_is_tuple_of.ex
  obtain ⟨fd_is_name, G_is_name, b_is_name⟩ := H_is_name.ex
  obtain ⟨fd_is_kind, G_is_kind, b_is_kind⟩ := H_is_kind.ex
  refine ⟨⟨fd, F.ok sc_are_named_kinds (fun vs H Q E h => ?_) (fun cdv A outer s H vs Q E hr h => ?_), F.bindsN fun _ _ _ _ _ _ us hl => match us, hl with | [_, _], _ => rfl⟩, F.kp, T.g_are_named_kinds⟩
  · obtain ⟨a, ps, ns, m, rfl, ha, hp, hN, hnd, hm, h100, k⟩ := h; rfl
  · obtain ⟨a, ps, ns, m, rfl, ha, hp, hN, hnd, hm, h100, k⟩ := h
    have hr_is_list_of : Room 1 _ := hr.mono (by decide)
    have hr_is_tuple_of : Room 1 _ := hr.mono (by decide)
    have hr_is_name : Room 1 _ := hr.mono (by decide)
    have hr_is_kind : Room 1 _ := hr.mono (by decide)
    have hu := hu_of hr
    refine ⟨_, PSs.nox (pss_cons (ps_if (pt_not (pt_val (pe_call G_is_list_of hr_is_list_of (by rfl) H_is_list_of.gl H_is_list_of.kp b_is_list_of .nil pass0 (pa_cons (pv 0) (pa_cons pe_int (pa_cons (pv 1) pa_nil)))))) (pss_one (ps_ret pe_bl)) pss_nil)
      (pss_cons (ps_set (i := 2) sc_are_named_kinds.nd rfl (Or.inl rfl) pe_dnewK)
      (pss_cons (ps_for PassesOwn.never rfl (pi_list (pv 0)) (pg_name (i := 3) sc_are_named_kinds.nd rfl (Or.inl rfl))
      (pss_cons (ps_if (PW.pt (pw_or (pt_not (pt_val (pe_call G_is_tuple_of hr_is_tuple_of (by rfl) H_is_tuple_of.gl H_is_tuple_of.kp b_is_tuple_of .nil pass0 (pa_cons (pv 3) (pa_cons pe_int pa_nil))))) (pw_or (pt_not (pt_val (pe_call G_is_name hr_is_name (by rfl) H_is_name.gl H_is_name.kp b_is_name .nil pass0 (pa_cons (pe_ix ix_tup (pv 3) pe_int (fun _ _ => rfl)) pa_nil)))) (pw_or1 (pt_not (pt_val (pe_call G_is_kind hr_is_kind (by rfl) H_is_kind.gl H_is_kind.kp b_is_kind .nil pass0 (pa_cons (pe_ix ix_tup (pv 3) pe_int (fun _ _ => rfl)) pa_nil)))))))) (pss_one (ps_ret pe_bl)) pss_nil)
      (pss_cons (ps_if (pt_cmp (pc_din hu (pe_ix ix_tup (pv 3) pe_int (fun _ _ => rfl)) (pv 2))) (pss_one (ps_ret pe_bl)) pss_nil)
      (pss_one (ps_dput hu (pv 2) (pe_ix ix_tup (pv 3) pe_int (fun _ _ => rfl)) pe_bl rfl)))))
      (pss_one (ps_ret pe_bl))))), ?_⟩
    have hlp : (ps.map V.ref).length = ns.length := by rw [List.length_map, hp.len]
    refine ⟨_, rfl, _, rfl, a, ps.map V.ref, 0, m, rfl, ha, by omega, by rw [hlp]; exact hm, _, rfl, iteF ?_⟩
    intro d hd
    have s1 : Same H (upd H d (.dK [])) := Same.new hd
    refine ⟨_, rfl, a, rfl, ⟨_, SqL.of (s1 _ _ ha)⟩, ?_⟩
    refine for_it (walk_list (K := K) (a := a) (xs := ps.map V.ref)) (fun i σ H1 => ∃ v : Option V, σ = [some (.ref a), some (.int m), some (.ref d), v] ∧ Same H H1 ∧ H1 d = some (.dK (kvT (ns.take i) fun _ => .bl true))) ⟨none, rfl, s1, upd_same⟩ (fun i σ H1 _ ⟨v, _, s2, _⟩ => SqL.of (s2 _ _ ha)) ?_ ?_
    · rintro i y σ H1 H2 hi ⟨v, rfl, s2, h2⟩ ⟨rfl, hy⟩
      obtain ⟨p, x, rfl, hpi, hni, hpt⟩ := hp.get hy
      have hx := s2 _ _ hpt
      have hnot := not_in_take hnd hni
      refine ⟨_, rfl, p, _, 2, rfl, hx, rfl, _, rfl, ?_⟩
      refine iteF ⟨_, rfl, _, _, _, _, rfl, rfl, SqT.of hx, at0, x, rfl, hN x (List.mem_of_getElem? hni), fun H3 s3 => ⟨_, rfl, iteF ?_⟩⟩
      have hx3 := s3 _ _ hx
      refine ⟨_, rfl, _, _, _, _, rfl, rfl, SqT.of hx3, at1, rfl, _, rfl, iteF ?_⟩
      have h3 := s3 _ _ h2
      refine ⟨_, rfl, _, _, _, _, rfl, rfl, SqT.of hx3, at0, _, rfl, d, _, rfl, DGet.k (k := Sum.inr x) h3, _, rfl, ?_⟩
      refine ifF (by rw [valV_kvT hnot]; rfl) ?_
      refine ⟨_, rfl, _, rfl, _, _, _, _, rfl, rfl, SqT.of hx3, at0, d, _, rfl, DPut.k (k := Sum.inr x) h3 (small1000 ?_), ?_⟩
      · unfold kvT
        rw [List.length_map, List.length_take]
        omega
      · refine ⟨_, rfl, Same.mut (s2.trans s3) hd, ?_⟩
        rw [upd_same, take_snoc hni]
        exact congrArg (fun l => some (HO.dK l)) (putK_kvT hnot)
    · rintro σ H1 ⟨v, rfl, s2, h2⟩
      exact k _ s2

end
end W7
set_option Elab.async false
set_option linter.all false
set_option maxRecDepth 100000
set_option maxHeartbeats 4000000
namespace W7
open PySem PySem.Spec PyProof.Rows L2 RZ
theorem walk_zipT {K : PySem.W.Frag} {a b : Addr} {xs ys : List V} {n : Nat} (hn : n = min xs.length ys.length) : Walk (ItzT K a b) n (fun H => SqT K H a xs ∧ SqT K H b ys) (YPair (fun i => xs[i]?) (fun i => ys[i]?)) := by
  subst hn
  refine ⟨fun i _ hi q => ?_, fun _ q => ⟨xs, ys, q.1, q.2, by omega⟩, fun i H v H' _ q y => ?_⟩
  · have h1 : i < xs.length := by omega
    have h2 : i < ys.length := by omega
    exact ⟨xs, ys, xs[i], ys[i], q.1, q.2, by simp [h1], by simp [h2]⟩
  · obtain ⟨T, x, z, h1, h2, h3, h4, h5⟩ := y
    exact ⟨T, x, z, h1, h2, h3, h4 xs q.1, h5 ys q.2⟩
/-! ### rows of a source, all words -/
inductive Rx where
  | num (x : Str) (n : Int) | nil (x : Str) | copy (x y : Str) | bin (k : Fin 4) (x y z : Str) | same (x y z : Str) | new (x c : Str) | get (x y f : Str) | put (x f y : Str) | call (x F : Str) (as : List Str) | see (x : Str) | ifz (x : Str) (r : Nat) | jump (r : Nat) | ret (x : Str)
def binW : Fin 4 → Str
  | 0 => "add" | 1 => "sub" | 2 => "times" | 3 => "less"
def Rx.word : Rx → Str
  | .num _ _ => "number" | .nil _ => "nil" | .copy _ _ => "copy" | .bin k _ _ _ => binW k | .same _ _ _ => "same" | .new _ _ => "new" | .get _ _ _ => "get" | .put _ _ _ => "put" | .call _ _ _ => "call" | .see _ => "see" | .ifz _ _ => "if" | .jump _ => "jump" | .ret _ => "return"
def Rx.roles : Rx → List Str
  | .num _ _ => ["sets", "number"] | .nil _ => ["sets"] | .copy _ _ => ["sets", "reads"] | .bin _ _ _ _ => ["sets", "reads", "reads"] | .same _ _ _ => ["sets", "reads", "reads"] | .new _ _ => ["sets", "class"] | .get _ _ _ => ["sets", "reads", "field"] | .put _ _ _ => ["reads", "field", "reads"]
  | .call _ _ _ => ["sets", "function", "many"] | .see _ => ["reads"] | .ifz _ _ => ["reads", "row"] | .jump _ => ["row"] | .ret _ => ["reads"]
/-- its parts; l stands for the list of a call -/
def Rx.parts (l : V) : Rx → List V
  | .num x n => [.str x, .int n] | .nil x => [.str x] | .copy x y => [.str x, .str y] | .bin _ x y z => [.str x, .str y, .str z] | .same x y z => [.str x, .str y, .str z] | .new x c => [.str x, .str c] | .get x y f => [.str x, .str y, .str f] | .put x f y => [.str x, .str f, .str y]
  | .call x F _ => [.str x, .str F, l] | .see x => [.str x] | .ifz x r => [.str x, .int r] | .jump r => [.int r] | .ret x => [.str x]
def Rx.sets : Rx → Option Str
  | .num x _ => some x | .nil x => some x | .copy x _ => some x | .bin _ x _ _ => some x | .same x _ _ => some x | .new x _ => some x | .get x _ _ => some x | .call x _ _ => some x | _ => none
def Rx.reads : Rx → List Str
  | .copy _ y => [y] | .bin _ _ y z => [y, z] | .same _ y z => [y, z] | .get _ y _ => [y] | .put x _ y => [x, y] | .call _ _ as => as | .see x => [x] | .ifz x _ => [x] | .ret x => [x] | _ => []
def Rx.goal : Rx → Option Nat
  | .ifz _ r => some r | .jump r => some r | _ => none
def Rx.args : Rx → Option (List Str)
  | .call _ _ as => some as | _ => none
theorem rx_roles_mem (r : Rx) : (r.word, r.roles) ∈ roles := by
  cases r with
  | bin k x y z =>
    have key : ∀ k : Fin 4, (binW k, (["sets", "reads", "reads"] : List Str)) ∈ roles := by decide +kernel
    exact key k
  | _ => unfold roles; simp [Rx.word, Rx.roles]
theorem Rx.lens (r : Rx) (l : V) : r.roles.length = (r.parts l).length := by cases r <;> rfl
/-- a row as it is handed in (a call with a list), or as it is kept (with a tuple) -/
def RowAt (kept : Bool) (H : Hp) (a : Addr) (r : Rx) : Prop := ∃ l : Addr, H a = some (.tup (.str r.word :: r.parts (.ref l))) ∧ ∀ as, r.args = some as → H l = some (if kept = true then .tup (as.map V.str) else .lst (as.map V.str))
theorem RowAt.mono {kept : Bool} {H H' : Hp} {a : Addr} {r : Rx} (h : RowAt kept H a r) (e : Same H H') : RowAt kept H' a r := by
  obtain ⟨l, h1, h2⟩ := h
  exact ⟨l, e _ _ h1, fun as q => e _ _ (h2 as q)⟩
/-- what a source tells of names: the kinds of fields, the classes, functions (kinds of parameters, kind of the result) -/
structure Sig where
  classes : List Str
  fields : List (Str × Str)
  funs : List (Str × List Str × Str)
/-- a row that is right by itself -/
def Rx.form (S : Sig) : Rx → Prop
  | .num x n => Nam x ∧ -1000000000 ≤ n ∧ n ≤ 1000000000 | .nil x => Nam x | .copy x y => Nam x ∧ Nam y | .bin _ x y z => Nam x ∧ Nam y ∧ Nam z | .same x y z => Nam x ∧ Nam y ∧ Nam z | .new x c => Nam x ∧ c ∈ S.classes
  | .get x y f => Nam x ∧ Nam y ∧ (S.fields.lookup f).isSome = true | .put x f y => Nam x ∧ (S.fields.lookup f).isSome = true ∧ Nam y | .call x F as => Nam x ∧ (S.funs.lookup F).isSome = true ∧ ∀ y ∈ as, Nam y
  | .see x => Nam x | .ifz x _ => Nam x | .jump _ => True | .ret x => Nam x
/-- .. and of the right kinds -/
def Rx.kinds (S : Sig) (kd : Str → Option Str) (res : Str) : Rx → Prop
  | .num x _ => kd x = some "number" | .nil x => kd x = some "object" | .copy x y => (kd x).isSome = true ∧ kd x = kd y | .bin _ x y z => kd x = some "number" ∧ kd y = some "number" ∧ kd z = some "number" | .same x y z => kd x = some "number" ∧ (kd y).isSome = true ∧ kd y = kd z | .new x _ => kd x = some "object"
  | .get x y f => kd y = some "object" ∧ (kd x).isSome = true ∧ kd x = S.fields.lookup f | .put x f y => kd x = some "object" ∧ (kd y).isSome = true ∧ kd y = S.fields.lookup f
  | .call x F as => ∃ ps q, S.funs.lookup F = some (ps, q) ∧ as.map kd = ps.map some ∧ kd x = some q
  | .see x => (kd x).isSome = true | .ifz x _ => kd x = some "number" | .jump _ => True | .ret x => kd x = some res
end W7
set_option Elab.async false
set_option linter.all false
set_option maxRecDepth 100000
set_option maxHeartbeats 4000000
namespace W7
open PySem PySem.Spec PyProof.Rows L2
section
variable {P : Program} {w : World} {K : PySem.W.Frag} {mg : Str → Option Value} {base : Heap}

def namB (x : Str) : Bool := decide (1 ≤ x.cps.size) && (decide (x.cps.size ≤ 8) && ((x.cps[0]?.any fun c => decide (c ∈ LETS.cps.toList)) && (x.cps.toList.all fun c => decide (c ∈ MRKS.cps.toList))))
def kindB (q : Str) : Bool := decide (q = "number") || decide (q = "object")
def spNameB : Sp := fun vs H Q _ => ∃ x, vs = [.str x] ∧ x.length ≤ 100000 ∧ ∀ H', Same H H' → Q (.bl (namB x)) H'
def spKindB : Sp := fun vs H Q _ => ∃ x, vs = [.str x] ∧ Q (.bl (kindB x)) H
def spNamesB : Sp := fun vs H Q _ => ∃ (a : Addr) (xs : List Str), vs = [.ref a] ∧ H a = some (.lst (xs.map V.str)) ∧ (∀ x ∈ xs, x.length ≤ 100000) ∧ xs.length < 100000 ∧ ∀ H', Same H H' → Q (.bl (xs.all namB)) H'
theorem all_range {α : Type} (d : α) (p : α → Bool) (l : List α) : ((List.range l.length).map fun i => p (l.getD i d)).all id = l.all p := by
  rw [List.all_map]
  have e : l = (List.range l.length).map fun i => l.getD i d := by
    apply List.ext_getElem
    · simp
    · intro i h1 h2
      simp at h2
      simp [h2]
  conv => rhs; rw [e]
  rw [List.all_map]
  rfl
theorem scB_is_name : FnScope ["thing", "mark"] ["thing"] (defScope s_is_name) := ⟨rfl, rfl, rfl, by decide +kernel, rfl, by decide +kernel, by decide +kernel⟩
theorem okB_is_name (T : Ctx w K mg) : Has P w K mg base 1 "is_name" ["thing"] spNameB := by
  obtain ⟨fd, F⟩ := T.D_is_name
  refine ⟨⟨fd, F.ok scB_is_name (fun vs H Q E h => ?_) (fun cdv A outer s H vs Q E hr h => ?_), F.bindsN fun _ _ _ _ _ _ us hl => match us, hl with | [_], _ => rfl⟩, F.kp, T.g_is_name⟩
  · obtain ⟨x, rfl, hx, k⟩ := h; rfl
  · obtain ⟨x, rfl, hx, k⟩ := h
    have hu := hu_of hr
    obtain ⟨tl, e_LETTERS⟩ := T.s_LETTERS
    obtain ⟨tm, e_MARKS⟩ := T.s_MARKS
    refine ⟨_, PSs.nox (pss_cons (ps_if (PW.pt (pw_or (pt_not (pt_val (pe_callB call_isi (by rfl) T.f_isinstance (by decide +kernel) (pa_cons (pv 0) (pa_cons (pe_bltn (v := .ty "str") (u := .type "str") rfl T.f_str (by decide +kernel) rfl) pa_nil))))) (pw_or1 (pt_not (pt_chain op_le op_le pe_int (pe_callB call_len_str (by rfl) T.f_len (by decide +kernel) (pa_cons (pv 0) pa_nil)) pe_int))))) (pss_one (ps_ret pe_bl)) pss_nil)
      (pss_one (ps_ret (pe_and (pe_cmpR op_in_sign (pe_item_str (pv 0) pe_int (fun _ _ => rfl)) (pe_glob (v := .str "abcdefghijklmnopqrstuvwxyz") rfl e_LETTERS ⟨_, rfl⟩) rfl) (pe_one (pe_callB (cr_all rfl) (by rfl) T.f_all (by decide +kernel) (pa_cons (pe_lc (own := [("mark", 1)]) (g := gName 1) (tt := tYes) rfl scB_is_name.nd (pi_str (pv 0)) (blkOk_by (N := ["thing", "mark"]) (sc := defScope s_is_name) (by decide +kernel)) (fun _ _ _ _ _ => (pg_name (i := 1) scB_is_name.nd rfl (Or.inl rfl))) (fun _ _ _ _ _ => pts_nil) (fun _ _ _ _ _ => (pe_cmpR op_in_sign (pv 1) (pe_glob (v := .str "abcdefghijklmnopqrstuvwxyz0123456789") rfl e_MARKS ⟨_, rfl⟩) rfl))) pa_nil))))))), ?_⟩
    have hsz : x.length ≤ sizeLine := sz_of hx
    refine ⟨_, rfl, _, _, _, _, true, rfl, .ty _, .base (.str x), kit_ty (by decide +kernel), true, rfl, iteF ?_⟩
    refine ⟨_, rfl, _, rfl, hsz, _, _, rfl, rfl, _, rfl, ?_⟩
    unfold namB at k
    by_cases h1 : 1 ≤ x.cps.size
    rotate_left
    · refine ifF (decide_eq_false (show ¬ (1 : Int) ≤ ((x.cps.size : Nat) : Int) by omega)) ⟨_, rfl, ifT rfl ?_⟩
      rw [decide_eq_false h1, Bool.false_and] at k
      exact k _ (Same.refl _)
    refine ifT (decide_eq_true (show (1 : Int) ≤ ((x.cps.size : Nat) : Int) by omega)) ⟨_, _, rfl, rfl, _, rfl, ?_⟩
    by_cases h8 : x.cps.size ≤ 8
    rotate_left
    · refine ifT (show (!decide (((x.cps.size : Nat) : Int) ≤ 8)) = true by rw [decide_eq_false (show ¬ ((x.cps.size : Nat) : Int) ≤ 8 by omega)]; rfl) ?_
      rw [decide_eq_false h8, Bool.false_and, Bool.and_false] at k
      exact k _ (Same.refl _)
    refine ifF (show (!decide (((x.cps.size : Nat) : Int) ≤ 8)) = false by rw [decide_eq_true (show ((x.cps.size : Nat) : Int) ≤ 8 by omega)]; rfl) ?_
    have hc0 : x.cps[0]? = some x.cps[0] := Array.getElem?_eq_getElem (by omega)
    rw [decide_eq_true h1, decide_eq_true h8, Bool.true_and, Bool.true_and, hc0] at k
    generalize x.cps[0] = c0 at *
    refine ⟨_, rfl, _, _, c0, rfl, rfl, by decide, by decide, Int.ofNat_lt.mpr (show 0 < x.cps.size by omega), hc0, _, _, rfl, rfl, _, rfl, ?_⟩
    by_cases mc0 : c0 ∈ LETS.cps.toList
    rotate_left
    · refine ifF (decide_eq_false mc0) ?_
      have e : (some c0).any (fun c => decide (c ∈ LETS.cps.toList)) = false := decide_eq_false mc0
      rw [e, Bool.false_and] at k
      exact k _ (Same.refl _)
    refine ifT (decide_eq_true mc0) ?_
    have e : (some c0).any (fun c => decide (c ∈ LETS.cps.toList)) = true := decide_eq_true mc0
    rw [e, Bool.true_and] at k
    refine ⟨_, rfl, _, rfl, fun D hD => ?_⟩
    refine lc_pure walk_str hD (fun i => .bl (decide (x.cps.toList.getD i 0 ∈ MRKS.cps.toList))) (by omega) (fun _ _ => trivial) (fun i H1 y H2 hi s1 hy Qe qe => ?_) (fun H1 s1 h1 => ?_)
    · obtain ⟨rfl, c, hc, rfl⟩ := hy
      have ec : x.cps.toList.getD i 0 = c := by
        rw [List.getD_eq_getElem?_getD, Array.getElem?_toList, hc]
        rfl
      rw [ec] at qe
      exact ⟨rfl, _, rfl, _, _, rfl, rfl, qe _ (Same.refl _)⟩
    · refine ⟨_, (List.range x.cps.size).map (fun i => decide (x.cps.toList.getD i 0 ∈ MRKS.cps.toList)), rfl, SqL.of (by rw [h1, List.map_map]; rfl), ?_⟩
      have e2 := all_range (0 : Nat) (fun c => decide (c ∈ MRKS.cps.toList)) x.cps.toList
      rw [Array.length_toList] at e2
      rw [e2]
      exact k _ s1
theorem scB_is_kind : FnScope ["thing"] ["thing"] (defScope s_is_kind) := ⟨rfl, rfl, rfl, by decide +kernel, rfl, by decide +kernel, by decide +kernel⟩
theorem okB_is_kind (T : Ctx w K mg) : Has P w K mg base 1 "is_kind" ["thing"] spKindB := by
  obtain ⟨fd, F⟩ := T.D_is_kind
  refine ⟨⟨fd, F.ok scB_is_kind (fun vs H Q E h => ?_) (fun cdv A outer s H vs Q E hr h => ?_), F.bindsN fun _ _ _ _ _ _ us hl => match us, hl with | [_], _ => rfl⟩, F.kp, T.g_is_kind⟩
  · obtain ⟨x, rfl, k⟩ := h; rfl
  · obtain ⟨x, rfl, k⟩ := h
    have hu := hu_of hr
    refine ⟨_, PSs.nox (pss_one (ps_ret (pe_and (pe_callB call_isi (by rfl) T.f_isinstance (by decide +kernel) (pa_cons (pv 0) (pa_cons (pe_bltn (v := .ty "str") (u := .type "str") rfl T.f_str (by decide +kernel) rfl) pa_nil))) (pe_one (pe_cmpR op_in_seq (pv 0) (pe_glob (v := .ref (He.ga K "KINDS")) rfl T.g_KINDS rfl) rfl))))), ?_⟩
    refine ⟨_, rfl, _, _, _, _, true, rfl, .ty _, .base (.str x), kit_ty (by decide +kernel), true, rfl, iteT ?_⟩
    refine ⟨_, rfl, _, _, rfl, .inr (T.kinds H), rfl, rfl, ?_⟩
    have e : inV (V.str x) (v_KINDS.map (He.Dv.v K)) = kindB x := by
      show (decide (("number" : Str) = x) || (decide (("object" : Str) = x) || false)) = _
      unfold kindB
      rw [Bool.or_false, decide_eq_decide.mpr (eq_comm (a := ("number" : Str)) (b := x)), decide_eq_decide.mpr (eq_comm (a := ("object" : Str)) (b := x))]
    rw [e]
    exact k
theorem scB_is_list_of_names : FnScope ["thing", "part"] ["thing"] (defScope s_is_list_of_names) := ⟨rfl, rfl, rfl, by decide +kernel, rfl, by decide +kernel, by decide +kernel⟩
theorem okB_is_list_of_names (T : Ctx w K mg) (H_is_name : Has P w K mg base 1 "is_name" ["thing"] spNameB) : Has P w K mg base 2 "is_list_of_names" ["thing"] spNamesB := by
  obtain ⟨fd, F⟩ := T.D_is_list_of_names
  obtain ⟨fd_is_name, G_is_name, b_is_name⟩ := H_is_name.ex
  refine ⟨⟨fd, F.ok scB_is_list_of_names (fun vs H Q E h => ?_) (fun cdv A outer s H vs Q E hr h => ?_), F.bindsN fun _ _ _ _ _ _ us hl => match us, hl with | [_], _ => rfl⟩, F.kp, T.g_is_list_of_names⟩
  · obtain ⟨a, xs, rfl, ha, hx, hl, k⟩ := h; rfl
  · obtain ⟨a, xs, rfl, ha, hx, hl, k⟩ := h
    have hr_is_name : Room 1 _ := hr.mono (by decide)
    have hu := hu_of hr
    refine ⟨_, PSs.nox (pss_one (ps_ret (pe_and (pe_callB call_isi (by rfl) T.f_isinstance (by decide +kernel) (pa_cons (pv 0) (pa_cons (pe_bltn (v := .ty "list") (u := .type "list") rfl T.f_list (by decide +kernel) rfl) pa_nil))) (pe_one (pe_callB (cr_all rfl) (by rfl) T.f_all (by decide +kernel) (pa_cons (pe_lc (own := [("part", 1)]) (g := gName 1) (tt := tYes) rfl scB_is_list_of_names.nd (pi_list (pv 0)) (blkOk_by (N := ["thing", "part"]) (sc := defScope s_is_list_of_names) (by decide +kernel)) (fun _ _ _ _ _ => (pg_name (i := 1) scB_is_list_of_names.nd rfl (Or.inl rfl))) (fun _ _ _ _ _ => pts_nil) (fun _ _ _ _ _ => (pe_call G_is_name hr_is_name (by rfl) H_is_name.gl H_is_name.kp b_is_name .nil pass0 (pa_cons (pv 1) pa_nil)))) pa_nil)))))), ?_⟩
    refine ⟨_, rfl, _, _, _, _, true, rfl, .ty _, .base (.lst ha), kit_ty (by decide +kernel), true, rfl, iteT ?_⟩
    refine ⟨_, rfl, a, rfl, ⟨_, SqL.of ha⟩, fun D hD => ?_⟩
    refine lc_pure (walk_list (K := K) (a := a) (xs := xs.map V.str)) hD (fun i => .bl (namB (xs.getD i ""))) (by rw [List.length_map]; exact hl) (fun H1 s1 => SqL.of (s1 _ _ ha)) (fun i H1 y H2 hi s1 hy Qe qe => ?_) (fun H1 s1 h1 => ?_)
    · obtain ⟨rfl, hy⟩ := hy
      rw [List.getElem?_map] at hy
      obtain ⟨x, hx2, rfl⟩ := Option.map_eq_some_iff.mp hy
      have ex : xs.getD i "" = x := by
        rw [List.getD_eq_getElem?_getD, hx2]
        rfl
      rw [ex] at qe
      exact ⟨rfl, _, rfl, x, rfl, hx x (List.mem_of_getElem? hx2), fun H3 s3 => qe _ s3⟩
    · refine ⟨_, (List.range xs.length).map (fun i => namB (xs.getD i "")), rfl, SqL.of (by rw [h1, List.map_map, List.length_map]; rfl), ?_⟩
      rw [all_range]
      exact k _ s1

end
end W7
set_option Elab.async false
set_option linter.all false
set_option maxRecDepth 100000
set_option maxHeartbeats 4000000
namespace W7
open PySem PySem.Spec PyProof.Rows L2 RZ
section
variable {P : Program} {w : World} {K : PySem.W.Frag} {mg : Str → Option Value} {base : Heap}

/-- a Source while it is made, or made: its dicts -/
structure SrcG (K : PySem.W.Frag) (H : Hp) (p dx df dk du : Addr) (fs : List (Str × V)) (cs ks us : List (Key × V)) : Prop where
  ob : H p = some (.ins (He.ga K "Source") dx fs)
  f1 : fs.lookup ("_fields" : Str) = some (.ref df)
  f2 : fs.lookup ("_field_kinds" : Str) = some (.ref dk)
  f3 : fs.lookup ("_functions" : Str) = some (.ref du)
  nm : ∀ m ∈ (["function_at", "fields_of", "field_kind", "_take_rows", "_is_row_of", "_kinds_differ", "_take_classes", "_take_heads", "classes", "functions"] : List Str), fs.lookup m = none
  d1 : H df = some (.dK cs)
  d2 : H dk = some (.dK ks)
  d3 : H du = some (.dK us)
theorem SrcG.mono {H H' : Hp} {p dx df dk du : Addr} {fs : List (Str × V)} {cs ks us : List (Key × V)} (h : SrcG K H p dx df dk du fs cs ks us) (e : Same H H') : SrcG K H' p dx df dk du fs cs ks us := ⟨e _ _ h.ob, h.f1, h.f2, h.f3, h.nm, e _ _ h.d1, e _ _ h.d2, e _ _ h.d3⟩
def SrcH (K : PySem.W.Frag) (H : Hp) (p : Addr) (cs ks us : List (Key × V)) : Prop := ∃ dx df dk du fs, SrcG K H p dx df dk du fs cs ks us
theorem SrcH.mono {H H' : Hp} {p : Addr} {cs ks us : List (Key × V)} (h : SrcH K H p cs ks us) (e : Same H H') : SrcH K H' p cs ks us := by
  obtain ⟨dx, df, dk, du, fs, q⟩ := h
  exact ⟨dx, df, dk, du, fs, q.mono e⟩
def spFieldsOf (K : PySem.W.Frag) : Sp := fun vs H Q _ => ∃ p cs ks us x v, vs = [.ref p, .str x] ∧ SrcH K H p cs ks us ∧ valV cs (Sum.inr x : Key) = some v ∧ Q v H
def spFieldKind (K : PySem.W.Frag) : Sp := fun vs H Q _ => ∃ p cs ks us x v, vs = [.ref p, .str x] ∧ SrcH K H p cs ks us ∧ valV ks (Sum.inr x : Key) = some v ∧ Q v H
def spFunAt (K : PySem.W.Frag) : Sp := fun vs H Q _ => ∃ p cs ks us x v, vs = [.ref p, .str x] ∧ SrcH K H p cs ks us ∧ valV us (Sum.inr x : Key) = some v ∧ Q v H
def spNames : Sp := fun vs H Q _ => ∃ (a : Addr) (ns : List Str), vs = [.ref a] ∧ H a = some (.lst (ns.map V.str)) ∧ (∀ x ∈ ns, Nam x) ∧ ns.length ≤ 1000 ∧ ∀ H', Same H H' → Q (.bl true) H' 
theorem sc_Source_fields_of : FnScope ["self", "name"] ["self", "name"] (defScope s_Source_fields_of) := ⟨rfl, rfl, rfl, by decide +kernel, rfl, by decide +kernel, by decide +kernel⟩
theorem ok_Source_fields_of (T : Ctx w K mg) : HasM P w K mg base 1 "Source" "fields_of" ["self", "name"] (spFieldsOf K) := by
  obtain ⟨fd, F⟩ := T.D_Source_fields_of
  refine ⟨⟨fd, F.ok sc_Source_fields_of (fun vs H Q E h => ?_) (fun cdv A outer s H vs Q E hr h => ?_), F.bindsN fun _ _ _ _ _ _ us hl => match us, hl with | [_, _], _ => rfl⟩⟩
  · obtain ⟨p, cs, ks, us, x, v, rfl, S0, hv, k⟩ := h; rfl
  · obtain ⟨p, cs, ks, us, x, v, rfl, S0, hv, k⟩ := h
    have hu := hu_of hr
    refine ⟨_, PSs.nox (pss_one (ps_ret (pe_ifExp (pt_val (pe_callB call_isi (by rfl) T.f_isinstance (by decide +kernel) (pa_cons (pv 1) (pa_cons (pe_bltn (v := .ty "str") (u := .type "str") rfl T.f_str (by decide +kernel) rfl) pa_nil)))) (pe_dget1 hu (pe_fldK (K := K) rfl (pv 0) (by rfl)) (pv 1) ⟨rfl, rfl, rfl, rfl⟩) pe_non))), ?_⟩
    obtain ⟨dx, df, dk, du, fs, S⟩ := S0
    refine ⟨_, rfl, _, _, _, _, true, rfl, .ty _, .base (.str _), kit_ty (by decide +kernel), true, rfl, iteT ?_⟩
    refine ⟨_, rfl, p, _, dx, fs, _, rfl, S.ob, T.c_Source, T.n_Source_fields, S.f1, df, rfl, .inl ⟨_, .inl S.d1⟩, _, rfl, _, DGet.k (k := Sum.inr x) S.d1, ?_⟩
    rw [hv]
    exact k
theorem sc_Source_field_kind : FnScope ["self", "name"] ["self", "name"] (defScope s_Source_field_kind) := ⟨rfl, rfl, rfl, by decide +kernel, rfl, by decide +kernel, by decide +kernel⟩
theorem ok_Source_field_kind (T : Ctx w K mg) : HasM P w K mg base 1 "Source" "field_kind" ["self", "name"] (spFieldKind K) := by
  obtain ⟨fd, F⟩ := T.D_Source_field_kind
  refine ⟨⟨fd, F.ok sc_Source_field_kind (fun vs H Q E h => ?_) (fun cdv A outer s H vs Q E hr h => ?_), F.bindsN fun _ _ _ _ _ _ us hl => match us, hl with | [_, _], _ => rfl⟩⟩
  · obtain ⟨p, cs, ks, us, x, v, rfl, S0, hv, k⟩ := h; rfl
  · obtain ⟨p, cs, ks, us, x, v, rfl, S0, hv, k⟩ := h
    have hu := hu_of hr
    refine ⟨_, PSs.nox (pss_one (ps_ret (pe_ifExp (pt_val (pe_callB call_isi (by rfl) T.f_isinstance (by decide +kernel) (pa_cons (pv 1) (pa_cons (pe_bltn (v := .ty "str") (u := .type "str") rfl T.f_str (by decide +kernel) rfl) pa_nil)))) (pe_dget1 hu (pe_fldK (K := K) rfl (pv 0) (by rfl)) (pv 1) ⟨rfl, rfl, rfl, rfl⟩) pe_non))), ?_⟩
    obtain ⟨dx, df, dk, du, fs, S⟩ := S0
    refine ⟨_, rfl, _, _, _, _, true, rfl, .ty _, .base (.str _), kit_ty (by decide +kernel), true, rfl, iteT ?_⟩
    refine ⟨_, rfl, p, _, dx, fs, _, rfl, S.ob, T.c_Source, T.n_Source_field_kinds, S.f2, dk, rfl, .inl ⟨_, .inl S.d2⟩, _, rfl, _, DGet.k (k := Sum.inr x) S.d2, ?_⟩
    rw [hv]
    exact k
theorem sc_Source_function_at : FnScope ["self", "name"] ["self", "name"] (defScope s_Source_function_at) := ⟨rfl, rfl, rfl, by decide +kernel, rfl, by decide +kernel, by decide +kernel⟩
theorem ok_Source_function_at (T : Ctx w K mg) : HasM P w K mg base 1 "Source" "function_at" ["self", "name"] (spFunAt K) := by
  obtain ⟨fd, F⟩ := T.D_Source_function_at
  refine ⟨⟨fd, F.ok sc_Source_function_at (fun vs H Q E h => ?_) (fun cdv A outer s H vs Q E hr h => ?_), F.bindsN fun _ _ _ _ _ _ us hl => match us, hl with | [_, _], _ => rfl⟩⟩
  · obtain ⟨p, cs, ks, us, x, v, rfl, S0, hv, k⟩ := h; rfl
  · obtain ⟨p, cs, ks, us, x, v, rfl, S0, hv, k⟩ := h
    have hu := hu_of hr
    refine ⟨_, PSs.nox (pss_one (ps_ret (pe_ifExp (pt_val (pe_callB call_isi (by rfl) T.f_isinstance (by decide +kernel) (pa_cons (pv 1) (pa_cons (pe_bltn (v := .ty "str") (u := .type "str") rfl T.f_str (by decide +kernel) rfl) pa_nil)))) (pe_dget1 hu (pe_fldK (K := K) rfl (pv 0) (by rfl)) (pv 1) ⟨rfl, rfl, rfl, rfl⟩) pe_non))), ?_⟩
    obtain ⟨dx, df, dk, du, fs, S⟩ := S0
    refine ⟨_, rfl, _, _, _, _, true, rfl, .ty _, .base (.str _), kit_ty (by decide +kernel), true, rfl, iteT ?_⟩
    refine ⟨_, rfl, p, _, dx, fs, _, rfl, S.ob, T.c_Source, T.n_Source_functions, S.f3, du, rfl, .inl ⟨_, .inl S.d3⟩, _, rfl, _, DGet.k (k := Sum.inr x) S.d3, ?_⟩
    rw [hv]
    exact k
theorem sc_is_list_of_names : FnScope ["thing", "part"] ["thing"] (defScope s_is_list_of_names) := ⟨rfl, rfl, rfl, by decide +kernel, rfl, by decide +kernel, by decide +kernel⟩
theorem ok_is_list_of_names (T : Ctx w K mg) (H_is_name : Has P w K mg base 1 "is_name" ["thing"] spName) : Has P w K mg base 2 "is_list_of_names" ["thing"] spNames := by
  obtain ⟨fd, F⟩ := T.D_is_list_of_names
  obtain ⟨fd_is_name, G_is_name, b_is_name⟩ := H_is_name.ex
  refine ⟨⟨fd, F.ok sc_is_list_of_names (fun vs H Q E h => ?_) (fun cdv A outer s H vs Q E hr h => ?_), F.bindsN fun _ _ _ _ _ _ us hl => match us, hl with | [_], _ => rfl⟩, F.kp, T.g_is_list_of_names⟩
  · obtain ⟨a, ns, rfl, ha, hN, hl, k⟩ := h; rfl
  · obtain ⟨a, ns, rfl, ha, hN, hl, k⟩ := h
    have hr_is_name : Room 1 _ := hr.mono (by decide)
    have hu := hu_of hr
    refine ⟨_, PSs.nox (pss_one (ps_ret (pe_and (pe_callB call_isi (by rfl) T.f_isinstance (by decide +kernel) (pa_cons (pv 0) (pa_cons (pe_bltn (v := .ty "list") (u := .type "list") rfl T.f_list (by decide +kernel) rfl) pa_nil))) (pe_one (pe_callB (cr_all rfl) (by rfl) T.f_all (by decide +kernel) (pa_cons (pe_lc (own := [("part", 1)]) (g := gName 1) (tt := tYes) rfl sc_is_list_of_names.nd (pi_list (pv 0)) (blkOk_by (N := ["thing", "part"]) (sc := defScope s_is_list_of_names) (by decide +kernel)) (fun _ _ _ _ _ => (pg_name (i := 1) sc_is_list_of_names.nd rfl (Or.inl rfl))) (fun _ _ _ _ _ => pts_nil) (fun _ _ _ _ _ => (pe_call G_is_name hr_is_name (by rfl) H_is_name.gl H_is_name.kp b_is_name .nil pass0 (pa_cons (pv 1) pa_nil)))) pa_nil)))))), ?_⟩
    refine ⟨_, rfl, _, _, _, _, true, rfl, .ty _, .base (.lst ha), kit_ty (by decide +kernel), true, rfl, iteT ?_⟩
    refine ⟨_, rfl, a, rfl, ⟨_, SqL.of ha⟩, fun D hD => ?_⟩
    refine lc_pure (walk_list (K := K) (a := a) (xs := ns.map V.str)) hD (fun _ => .bl true) (by rw [List.length_map]; omega) (fun H1 s1 => SqL.of (s1 _ _ ha)) (fun i H1 y H2 hi s1 hy Qe qe => ?_) (fun H1 s1 h1 => ?_)
    · obtain ⟨rfl, hy⟩ := hy
      rw [List.getElem?_map] at hy
      cases e : ns[i]? with
      | none => rw [e] at hy; cases hy
      | some x =>
        rw [e] at hy
        obtain rfl := Option.some.inj hy
        exact ⟨rfl, _, rfl, x, rfl, hN x (List.mem_of_getElem? e), fun H' s' => qe H' s'⟩
    · exact ⟨D, (List.range (ns.map V.str).length).map (fun _ => true), rfl, SqL.of (by rw [h1, List.map_map]; rfl), qT all_true (k _ s1)⟩

end
end W7
set_option Elab.async false
set_option linter.all false
set_option maxRecDepth 100000
set_option maxHeartbeats 4000000
namespace W7
open PySem PySem.Spec PyProof.Rows L2 RZ
section
variable {P : Program} {w : World} {K : PySem.W.Frag} {mg : Str → Option Value} {base : Heap}

theorem slice1 {x : V} {xs : List V} : cutV (x :: xs) (some 1) none = xs ∧ ¬ (HT.sIx (x :: xs).length 0 (some 1) = 0 ∧ HT.sIx (x :: xs).length (x :: xs).length none = (x :: xs).length) := by
  have e1 : HT.sIx (x :: xs).length 0 (some 1) = 1 := by
    unfold HT.sIx
    simp
    try omega
  have e2 : HT.sIx (x :: xs).length (x :: xs).length none = (x :: xs).length := by
    unfold HT.sIx
    rfl
  refine ⟨?_, fun h => by rw [e1] at h; omega⟩
  unfold cutV
  rw [e1, e2]
  simp
theorem map_get {α : Type} {f : α → V} {l : List α} {i : Nat} {y : V} (h : (l.map f)[i]? = some y) : ∃ x, l[i]? = some x ∧ f x = y := by
  rw [List.getElem?_map] at h
  cases e : l[i]? with
  | none =>
    rw [e] at h
    cases h
  | some x =>
    rw [e] at h
    exact ⟨x, rfl, Option.some.inj h⟩
theorem Ctx.roleK (T : Ctx w K mg) {x : Str} {rs : List Str} (m : (x, rs) ∈ roles) : KDct K w (He.ga K "ROLES") x (.ref (rolA K x)) := by
  obtain ⟨es, n, D⟩ := T.rolesD
  exact ⟨es, n, _, D.at_, D.lit, (T.role m (fun _ => none)).1, rfl⟩
/-- what fills a role, in a source with these dicts -/
inductive FitsG (H : Hp) (cs ks us : List (Key × V)) : Str → V → Prop where
  | sets {x : Str} (h : Nam x) : FitsG H cs ks us "sets" (.str x)
  | reads {x : Str} (h : Nam x) : FitsG H cs ks us "reads" (.str x)
  | num {i : Int} (h1 : -1000000000 ≤ i) (h2 : i ≤ 1000000000) : FitsG H cs ks us "number" (.int i)
  | cls {x : Str} {v : V} (h : valV cs (Sum.inr x : Key) = some v) (n : v ≠ .non) : FitsG H cs ks us "class" (.str x)
  | fld {x : Str} {v : V} (h : valV ks (Sum.inr x : Key) = some v) (n : v ≠ .non) : FitsG H cs ks us "field" (.str x)
  | fn {x : Str} {v : V} (h : valV us (Sum.inr x : Key) = some v) (n : v ≠ .non) : FitsG H cs ks us "function" (.str x)
  | many {a : Addr} {ns : List Str} (h : H a = some (.lst (ns.map V.str))) (hN : ∀ x ∈ ns, Nam x) (hl : ns.length ≤ 1000) : FitsG H cs ks us "many" (.ref a)
  | row (i : Int) : FitsG H cs ks us "row" (.int i)
theorem FitsG.mono {H H' : Hp} {cs ks us : List (Key × V)} {x : Str} {v : V} (h : FitsG H cs ks us x v) (e : Same H H') : FitsG H' cs ks us x v := by
  cases h with
  | sets h => exact .sets h
  | reads h => exact .reads h
  | num h1 h2 => exact .num h1 h2
  | cls h n => exact .cls h n
  | fld h n => exact .fld h n
  | fn h n => exact .fn h n
  | many h a b => exact .many (e _ _ h) a b
  | row i => exact .row i
theorem notnone {v : V} (n : v ≠ .non) : (!decide (v = V.non)) = true := by
  rw [decide_eq_false n]
  rfl
def spFillsG (K : PySem.W.Frag) : Sp := fun vs H Q _ => ∃ p cs ks us role part, vs = [.ref p, .str role, part] ∧ SrcH K H p cs ks us ∧ FitsG H cs ks us role part ∧ ∀ H', Same H H' → Q (.bl true) H'
/-- a row that is handed in, right by itself in a source with these dicts -/
def FormG (H : Hp) (cs ks us : List (Key × V)) (l : V) (r : Rx) : Prop := ∀ (i : Nat) x v, r.roles[i]? = some x → (r.parts l)[i]? = some v → FitsG H cs ks us x v
def spIsRowG (K : PySem.W.Frag) : Sp := fun vs H Q _ => ∃ (p : Addr) (cs ks us : List (Key × V)) (a : Addr) (l : V) (r : Rx), vs = [.ref p, .ref a, .ref (He.ga K "ROW_WORDS")] ∧ SrcH K H p cs ks us ∧ H a = some (.tup (.str r.word :: r.parts l)) ∧ FormG H cs ks us l r ∧ ∀ H', Same H H' → Q (.bl true) H'
def oS : Option Str → V
  | some k => .str k
  | none => .non
def spSetsG : Sp := fun vs H Q _ => ∃ (a : Addr) (l : V) (r : Rx), vs = [.ref a] ∧ H a = some (.tup (.str r.word :: r.parts l)) ∧ Q (oS r.sets) H
theorem sc_fills : FnScope ["source", "role", "part"] ["source", "role", "part"] (defScope s_fills) := ⟨rfl, rfl, rfl, by decide +kernel, rfl, by decide +kernel, by decide +kernel⟩
theorem ok_fills (T : Ctx w K mg) (H_is_name : Has P w K mg base 1 "is_name" ["thing"] spName) (H_is_written_number : Has P w K mg base 3 "is_written_number" ["thing"] spWritten) (H_is_integer : Has P w K mg base 1 "is_integer" ["thing"] spIsInt) (H_Source_fields_of : HasM P w K mg base 1 "Source" "fields_of" ["self", "name"] (spFieldsOf K)) (H_Source_field_kind : HasM P w K mg base 1 "Source" "field_kind" ["self", "name"] (spFieldKind K)) (H_Source_function_at : HasM P w K mg base 1 "Source" "function_at" ["self", "name"] (spFunAt K)) (H_is_list_of_names : Has P w K mg base 2 "is_list_of_names" ["thing"] spNames) : Has P w K mg base 4 "_fills" ["source", "role", "part"] (spFillsG K) := by
  obtain ⟨fd, F⟩ := T.D_fills
  obtain ⟨fd_is_name, G_is_name, b_is_name⟩ := H_is_name.ex
  obtain ⟨fd_is_written_number, G_is_written_number, b_is_written_number⟩ := H_is_written_number.ex
  obtain ⟨fd_is_integer, G_is_integer, b_is_integer⟩ := H_is_integer.ex
  obtain ⟨fd_Source_fields_of, G_Source_fields_of, b_Source_fields_of⟩ := H_Source_fields_of.ex
  obtain ⟨fd_Source_field_kind, G_Source_field_kind, b_Source_field_kind⟩ := H_Source_field_kind.ex
  obtain ⟨fd_Source_function_at, G_Source_function_at, b_Source_function_at⟩ := H_Source_function_at.ex
  obtain ⟨fd_is_list_of_names, G_is_list_of_names, b_is_list_of_names⟩ := H_is_list_of_names.ex
  refine ⟨⟨fd, F.ok sc_fills (fun vs H Q E h => ?_) (fun cdv A outer s H vs Q E hr h => ?_), F.bindsN fun _ _ _ _ _ _ us hl => match us, hl with | [_, _, _], _ => rfl⟩, F.kp, T.g_fills⟩
  · obtain ⟨p, cs, ks, us, role, part, rfl, S0, F0, k⟩ := h; rfl
  · obtain ⟨p, cs, ks, us, role, part, rfl, S0, F0, k⟩ := h
    have hr_is_name : Room 1 _ := hr.mono (by decide)
    have hr_is_written_number : Room 3 _ := hr.mono (by decide)
    have hr_is_integer : Room 1 _ := hr.mono (by decide)
    have hr_Source_fields_of : Room 1 _ := hr.mono (by decide)
    have hr_Source_field_kind : Room 1 _ := hr.mono (by decide)
    have hr_Source_function_at : Room 1 _ := hr.mono (by decide)
    have hr_is_list_of_names : Room 2 _ := hr.mono (by decide)
    have hu := hu_of hr
    refine ⟨_, PSs.nox (pss_cons (ps_if (pt_cmpR op_in_seq (pv 1) (pe_tup (pa_cons pe_str (pa_cons pe_str pa_nil))) rfl) (pss_one (ps_ret (pe_call G_is_name hr_is_name (by rfl) H_is_name.gl H_is_name.kp b_is_name .nil pass0 (pa_cons (pv 2) pa_nil)))) pss_nil)
      (pss_cons (ps_if (pt_cmpR op_eq (pv 1) pe_str (nomark _)) (pss_one (ps_ret (pe_call G_is_written_number hr_is_written_number (by rfl) H_is_written_number.gl H_is_written_number.kp b_is_written_number .nil pass0 (pa_cons (pv 2) pa_nil)))) pss_nil)
      (pss_cons (ps_if (pt_cmpR op_eq (pv 1) pe_str (nomark _)) (pss_one (ps_ret (pe_cmpR op_notN (pe_meth (pv 0) T.c_Source T.m_Source_fields_of G_Source_fields_of hr_Source_fields_of b_Source_fields_of .nil pass0 (pa_cons (pv 2) pa_nil)) pe_non (nomark _)))) pss_nil)
      (pss_cons (ps_if (pt_cmpR op_eq (pv 1) pe_str (nomark _)) (pss_one (ps_ret (pe_cmpR op_notN (pe_meth (pv 0) T.c_Source T.m_Source_field_kind G_Source_field_kind hr_Source_field_kind b_Source_field_kind .nil pass0 (pa_cons (pv 2) pa_nil)) pe_non (nomark _)))) pss_nil)
      (pss_cons (ps_if (pt_cmpR op_eq (pv 1) pe_str (nomark _)) (pss_one (ps_ret (pe_cmpR op_notN (pe_meth (pv 0) T.c_Source T.m_Source_function_at G_Source_function_at hr_Source_function_at b_Source_function_at .nil pass0 (pa_cons (pv 2) pa_nil)) pe_non (nomark _)))) pss_nil)
      (pss_cons (ps_if (pt_cmpR op_eq (pv 1) pe_str (nomark _)) (pss_one (ps_ret (pe_call G_is_list_of_names hr_is_list_of_names (by rfl) H_is_list_of_names.gl H_is_list_of_names.kp b_is_list_of_names .nil pass0 (pa_cons (pv 2) pa_nil)))) pss_nil)
      (pss_cons (ps_if (pt_cmpR op_eq (pv 1) pe_str (nomark _)) (pss_one (ps_ret (pe_call G_is_integer hr_is_integer (by rfl) H_is_integer.gl H_is_integer.kp b_is_integer .nil pass0 (pa_cons (pv 2) pa_nil)))) pss_nil)
      (pss_one ps_never)))))))), ?_⟩
    obtain ⟨dx, df, dk, du, fs, S⟩ := id S0
    refine ⟨_, rfl, sz_of (by decide), fun t ht => ⟨t, _, rfl, .inr (SqT.of upd_same), rfl, rfl, ?_⟩⟩
    have s1 : Same H (upd H t (.tup [.str "sets", .str "reads"])) := Same.new ht
    cases F0 with
    | sets h => exact ⟨_, rfl, ifT rfl ⟨_, rfl, _, rfl, h, fun H' s' => k H' (s1.trans s')⟩⟩
    | reads h => exact ⟨_, rfl, ifT rfl ⟨_, rfl, _, rfl, h, fun H' s' => k H' (s1.trans s')⟩⟩
    | num h1 h2 => exact ⟨_, rfl, ifF rfl ⟨_, rfl, rfl, _, rfl, ifT rfl ⟨_, rfl, _, rfl, h1, h2, k _ s1⟩⟩⟩
    | cls h n => exact ⟨_, rfl, ifF rfl ⟨_, rfl, rfl, _, rfl, ifF rfl ⟨_, rfl, rfl, _, rfl, ifT rfl ⟨_, rfl, p, dx, fs, rfl, s1 _ _ S.ob, S.nm _ (by decide +kernel), _, rfl, p, cs, ks, us, _, _, rfl, S0.mono s1, h, rfl, qT (notnone n) (k _ s1)⟩⟩⟩⟩
    | fld h n => exact ⟨_, rfl, ifF rfl ⟨_, rfl, rfl, _, rfl, ifF rfl ⟨_, rfl, rfl, _, rfl, ifF rfl ⟨_, rfl, rfl, _, rfl, ifT rfl ⟨_, rfl, p, dx, fs, rfl, s1 _ _ S.ob, S.nm _ (by decide +kernel), _, rfl, p, cs, ks, us, _, _, rfl, S0.mono s1, h, rfl, qT (notnone n) (k _ s1)⟩⟩⟩⟩⟩
    | fn h n => exact ⟨_, rfl, ifF rfl ⟨_, rfl, rfl, _, rfl, ifF rfl ⟨_, rfl, rfl, _, rfl, ifF rfl ⟨_, rfl, rfl, _, rfl, ifF rfl ⟨_, rfl, rfl, _, rfl, ifT rfl ⟨_, rfl, p, dx, fs, rfl, s1 _ _ S.ob, S.nm _ (by decide +kernel), _, rfl, p, cs, ks, us, _, _, rfl, S0.mono s1, h, rfl, qT (notnone n) (k _ s1)⟩⟩⟩⟩⟩⟩
    | many h hN hl => exact ⟨_, rfl, ifF rfl ⟨_, rfl, rfl, _, rfl, ifF rfl ⟨_, rfl, rfl, _, rfl, ifF rfl ⟨_, rfl, rfl, _, rfl, ifF rfl ⟨_, rfl, rfl, _, rfl, ifF rfl ⟨_, rfl, rfl, _, rfl, ifT rfl ⟨_, rfl, _, _, rfl, s1 _ _ h, hN, hl, fun H' s' => k H' (s1.trans s')⟩⟩⟩⟩⟩⟩⟩
    | row i => exact ⟨_, rfl, ifF rfl ⟨_, rfl, rfl, _, rfl, ifF rfl ⟨_, rfl, rfl, _, rfl, ifF rfl ⟨_, rfl, rfl, _, rfl, ifF rfl ⟨_, rfl, rfl, _, rfl, ifF rfl ⟨_, rfl, rfl, _, rfl, ifF rfl ⟨_, rfl, rfl, _, rfl, ifT rfl ⟨_, rfl, i, rfl, k _ s1⟩⟩⟩⟩⟩⟩⟩⟩
theorem sc_is_row : FnScope ["source", "thing", "words", "roles", "role", "part"] ["source", "thing", "words"] (defScope s_is_row) := ⟨rfl, rfl, rfl, by decide +kernel, rfl, by decide +kernel, by decide +kernel⟩
theorem ok_is_row (T : Ctx w K mg) (H_is_word_tuple : Has P w K mg base 1 "is_word_tuple" ["thing"] spWord) (H_fills : Has P w K mg base 4 "_fills" ["source", "role", "part"] (spFillsG K)) : Has P w K mg base 5 "is_row" ["source", "thing", "words"] (spIsRowG K) := by
  obtain ⟨fd, F⟩ := T.D_is_row
  obtain ⟨fd_is_word_tuple, G_is_word_tuple, b_is_word_tuple⟩ := H_is_word_tuple.ex
  obtain ⟨fd_fills, G_fills, b_fills⟩ := H_fills.ex
  refine ⟨⟨fd, F.ok sc_is_row (fun vs H Q E h => ?_) (fun cdv A outer s H vs Q E hr h => ?_), F.bindsN fun _ _ _ _ _ _ us hl => match us, hl with | [_, _, _], _ => rfl⟩, F.kp, T.g_is_row⟩
  · obtain ⟨p, cs, ks, us, a, l, r, rfl, S0, ha, hb, k⟩ := h; rfl
  · obtain ⟨p, cs, ks, us, a, l, r, rfl, S0, ha, hb, k⟩ := h
    have hr_is_word_tuple : Room 1 _ := hr.mono (by decide)
    have hr_fills : Room 4 _ := hr.mono (by decide)
    have hu := hu_of hr
    refine ⟨_, PSs.nox (pss_cons (ps_if (PW.pt (pw_or (pt_not (pt_val (pe_call G_is_word_tuple hr_is_word_tuple (by rfl) H_is_word_tuple.gl H_is_word_tuple.kp b_is_word_tuple .nil pass0 (pa_cons (pv 1) pa_nil)))) (pw_or1 (pt_cmpR op_notIn_seq (pe_ix ix_tup (pv 1) pe_int (fun _ _ => rfl)) (pv 2) rfl)))) (pss_one (ps_ret pe_bl)) pss_nil)
      (pss_cons (ps_set (i := 3) sc_is_row.nd rfl (Or.inl rfl) (pe_ix ix_kdict (pe_glob (v := .ref (He.ga K "ROLES")) rfl T.g_ROLES rfl) (pe_ix ix_tup (pv 1) pe_int (fun _ _ => rfl)) (fun _ _ => rfl)))
      (pss_cons (ps_if (pt_cmpR op_ne (pe_callB call_len_seq (by rfl) T.f_len (by decide +kernel) (pa_cons (pv 1) pa_nil)) (pe_op op_add (pe_callB call_len_seq (by rfl) T.f_len (by decide +kernel) (pa_cons (pv 3) pa_nil)) pe_int) (nomark _)) (pss_one (ps_ret pe_bl)) pss_nil)
      (pss_one (ps_ret (pe_callB (cr_all rfl) (by rfl) T.f_all (by decide +kernel) (pa_cons (pe_lc (own := [("role", 4), ("part", 5)]) (g := gTup K 2 (gCons (gName 4) (gCons (gName 5) (gNil)))) (tt := tYes) rfl sc_is_row.nd (pi_zipA (by rfl) T.f_zip (pa_cons (pv 3) (pa_cons (pe_slice sl_tup (pv 1) (po_some pe_int) po_none) pa_nil))) (blkOk_by (N := ["source", "thing", "words", "roles", "role", "part"]) (sc := defScope s_is_row) (by decide +kernel)) (fun _ _ _ _ _ => (pg_tup rfl (pgs_cons (pg_name (i := 4) sc_is_row.nd rfl (Or.inl rfl)) (pgs_cons (pg_name (i := 5) sc_is_row.nd rfl (Or.inl rfl)) pgs_nil)))) (fun _ _ _ _ _ => pts_nil) (fun _ _ _ _ _ => (pe_call G_fills hr_fills (by rfl) H_fills.gl H_fills.kp b_fills .nil pass0 (pa_cons (pv 0) (pa_cons (pv 4) (pa_cons (pv 5) pa_nil)))))) pa_nil))))))), ?_⟩
    have hw : inV (V.str r.word) (v_ROW_WORDS.map (He.Dv.v K)) = true := by
      cases r with
      | bin kk x y z =>
        have key : ∀ kk : Fin 4, inV (V.str (binW kk)) (v_ROW_WORDS.map fun d => match d with | .str x => V.str x | _ => V.non) = true := by decide +kernel
        exact key kk
      | _ => rfl
    have hflat : (v_ROW_WORDS.map (He.Dv.v K)).all flatV = true := rfl
    have hlp : (r.parts l).length ≤ 3 := by cases r <;> simp [Rx.parts]
    refine ⟨_, rfl, a, r.word, r.parts l, rfl, ha, _, rfl, iteF ?_⟩
    refine ⟨_, rfl, _, _, _, _, rfl, rfl, SqT.of ha, at0, _, rfl, _, _, rfl, .inr (T.rowwords H), rfl, hflat, _, rfl, ifF ?_ ?_⟩
    · show (if true = true then !inV (V.str r.word) (v_ROW_WORDS.map (He.Dv.v K)) else inV (V.str r.word) (v_ROW_WORDS.map (He.Dv.v K))) = false
      rw [hw]
      rfl
    refine ⟨_, rfl, _, _, _, _, rfl, rfl, SqT.of ha, at0, _, _, _, rfl, rfl, T.roleK (rx_roles_mem r), ?_⟩
    have hro : ∀ H, SqT K H (rolA K r.word) (r.roles.map V.str) := fun H => (T.role (rx_roles_mem r) H).2
    refine ⟨_, rfl, _, _, rfl, .inr (SqT.of ha), _, rfl, _, _, rfl, .inr (hro H), _, _, rfl, rfl, rfl, _, rfl, ifF ?_ ?_⟩
    · show (!decide (V.int (((V.str r.word :: r.parts l).length : Nat) : Int) = V.int (((r.roles.map V.str).length : Nat) + 1 : Int))) = false
      rw [decide_eq_true]
      · rfl
      · rw [List.length_map, r.lens l]
        rfl
    refine ⟨_, rfl, _, rfl, 1, rfl, a, _, rfl, SqT.of ha, slice1.2, fun t ht => ?_⟩
    have s1 : Same H (upd H t (.tup (cutV (V.str r.word :: r.parts l) (some 1) none))) := Same.new ht
    have ht1 : (upd H t (.tup (cutV (V.str r.word :: r.parts l) (some 1) none))) t = some (.tup (r.parts l)) := by
      rw [upd_same]
      exact congrArg (fun l => some (HO.tup l)) slice1.1
    refine ⟨_, t, _, r.parts l, rfl, .inr ⟨hro _, SqT.of ht1, fun D hD => ?_⟩⟩
    refine lc_pure (walk_zipT (K := K) (xs := r.roles.map V.str) (ys := r.parts l) (n := (r.parts l).length) (by rw [List.length_map, r.lens l, Nat.min_self])) hD (fun _ => .bl true) (by omega) (fun H2 s2 => ⟨hro _, SqT.of (s2 _ _ ht1)⟩) (fun i H2 y H3 hi s2 hy Qe qe => ?_) (fun H2 s2 h2 => ?_)
    · obtain ⟨u, x, v, rfl, hu0, rfl, hx, hv⟩ := hy
      obtain ⟨role, e, rfl⟩ := map_get (show (r.roles.map V.str)[i]? = some x from hx)
      have s3 := s1.trans (s2.trans (Same.new (o := .tup [V.str role, v]) hu0))
      refine ⟨u, _, rfl, SqT.of upd_same, rfl, _, _, rfl, _, _, rfl, rfl, rfl, ?_⟩
      exact ⟨_, rfl, _, rfl, _, rfl, p, cs, ks, us, role, v, rfl, S0.mono s3, (hb i role v e hv).mono s3, fun H' s' => qe H' ((Same.new hu0).trans s')⟩
    · exact ⟨D, (List.range (r.parts l).length).map (fun _ => true), rfl, SqL.of (by rw [h2, List.map_map]; rfl), qT all_true (k _ (s1.trans s2))⟩
theorem sc_row_sets : FnScope ["row"] ["row"] (defScope s_row_sets) := ⟨rfl, rfl, rfl, by decide +kernel, rfl, by decide +kernel, by decide +kernel⟩
theorem ok_row_sets (T : Ctx w K mg) : Has P w K mg base 1 "row_sets" ["row"] spSetsG := by
  obtain ⟨fd, F⟩ := T.D_row_sets
  refine ⟨⟨fd, F.ok sc_row_sets (fun vs H Q E h => ?_) (fun cdv A outer s H vs Q E hr h => ?_), F.bindsN fun _ _ _ _ _ _ us hl => match us, hl with | [_], _ => rfl⟩, F.kp, T.g_row_sets⟩
  · obtain ⟨a, l, r, rfl, ha, k⟩ := h; rfl
  · obtain ⟨a, l, r, rfl, ha, k⟩ := h
    have hu := hu_of hr
    refine ⟨_, PSs.nox (pss_one (ps_ret (pe_ifExp (pt_cmpR op_eq (pe_ix ix_tup (pe_ix ix_kdict (pe_glob (v := .ref (He.ga K "ROLES")) rfl T.g_ROLES rfl) (pe_ix ix_tup (pv 0) pe_int (fun _ _ => rfl)) (fun _ _ => rfl)) pe_int (fun _ _ => rfl)) pe_str (nomark _)) (pe_ix ix_tup (pv 0) pe_int (fun _ _ => rfl)) pe_non))), ?_⟩
    have hro : ∀ H, SqT K H (rolA K r.word) (r.roles.map V.str) := fun H => (T.role (rx_roles_mem r) H).2
    refine ⟨_, rfl, _, _, _, _, rfl, rfl, SqT.of ha, at0, _, _, _, rfl, rfl, T.roleK (rx_roles_mem r), ?_⟩
    cases r <;> first
      | exact ⟨_, _, _, _, rfl, rfl, hro H, at0, rfl, _, rfl, ifT rfl ⟨_, rfl, _, _, _, _, rfl, rfl, SqT.of ha, at1, k⟩⟩
      | exact ⟨_, _, _, _, rfl, rfl, hro H, at0, rfl, _, rfl, ifF rfl k⟩

end
end W7
set_option Elab.async false
set_option linter.all false
set_option maxRecDepth 100000
set_option maxHeartbeats 4000000
namespace W7
open PySem PySem.Spec PyProof.Rows L2 RZ
section
variable {P : Program} {w : World} {K : PySem.W.Frag} {mg : Str → Option Value} {base : Heap}

/-- the parts that are read; as stands for the names of a call -/
def rdG (as : List V) : List Str → List V → List V
  | x :: rs, v :: vs => (if x = "reads" then [v] else if x = "many" then as else []) ++ rdG as rs vs
  | _, _ => []
theorem rdG_snoc {as : List V} : ∀ {rs : List Str} {vs : List V} {i : Nat} {x : Str} {v : V}, rs[i]? = some x → vs[i]? = some v → rdG as (rs.take (i + 1)) (vs.take (i + 1)) = rdG as (rs.take i) (vs.take i) ++ (if x = "reads" then [v] else if x = "many" then as else [])
  | [], vs, i, x, v, h, _ => by simp at h
  | a :: rs, [], i, x, v, _, h => by simp at h
  | a :: rs, b :: vs, 0, x, v, h1, h2 => by
    have e1 : a = x := Option.some.inj h1
    have e2 : b = v := Option.some.inj h2
    subst e1 e2
    show (if a = "reads" then [b] else if a = "many" then as else []) ++ rdG as [] [] = [] ++ _
    simp [rdG]
  | a :: rs, b :: vs, i + 1, x, v, h1, h2 => by
    have ih := rdG_snoc (as := as) (rs := rs) (vs := vs) (i := i) (x := x) (v := v) h1 h2
    show _ ++ rdG as (rs.take (i + 1)) (vs.take (i + 1)) = (_ ++ rdG as (rs.take i) (vs.take i)) ++ _
    rw [ih, List.append_assoc]
theorem rdG_len {as : List V} : ∀ (rs : List Str) (vs : List V), (rdG as rs vs).length ≤ rs.length * (as.length + 1)
  | [], vs => by simp [rdG]
  | a :: rs, [] => by simp [rdG]
  | a :: rs, b :: vs => by
    have ih := rdG_len (as := as) rs vs
    have h1 : (if a = "reads" then [b] else if a = "many" then as else []).length ≤ as.length + 1 := by
      split
      · simp
      · split <;> simp
    show (_ ++ rdG as rs vs).length ≤ (rs.length + 1) * (as.length + 1)
    rw [List.length_append, Nat.add_mul]
    omega
theorem Rx.rd (r : Rx) (l : V) (as : List V) (h : ∀ bs, r.args = some bs → as = bs.map V.str) : rdG as r.roles (r.parts l) = r.reads.map V.str := by
  have n1 : ¬ (("sets" : Str) = "reads") := by decide +kernel
  have n2 : ¬ (("row" : Str) = "reads") := by decide +kernel
  have n3 : ¬ (("number" : Str) = "reads") := by decide +kernel
  have n4 : ¬ (("class" : Str) = "reads") := by decide +kernel
  have n5 : ¬ (("field" : Str) = "reads") := by decide +kernel
  have n6 : ¬ (("function" : Str) = "reads") := by decide +kernel
  have n7 : ¬ (("many" : Str) = "reads") := by decide +kernel
  have m1 : ¬ (("sets" : Str) = "many") := by decide +kernel
  have m2 : ¬ (("row" : Str) = "many") := by decide +kernel
  have m3 : ¬ (("number" : Str) = "many") := by decide +kernel
  have m4 : ¬ (("class" : Str) = "many") := by decide +kernel
  have m5 : ¬ (("field" : Str) = "many") := by decide +kernel
  have m6 : ¬ (("function" : Str) = "many") := by decide +kernel
  cases r with
  | call x F bs => simp [Rx.roles, Rx.parts, Rx.reads, rdG, n1, n6, n7, m1, m6, h bs rfl]
  | _ => simp [Rx.roles, Rx.parts, Rx.reads, rdG, n1, n2, n3, n4, n5, m1, m2, m3, m4, m5]
/-- the names of a call, where its list stands -/
def Rx.namesOf (r : Rx) : List Str := r.args.getD []
theorem Rx.many_at {r : Rx} {l : V} {i : Nat} {v : V} (h1 : r.roles[i]? = some "many") (h2 : (r.parts l)[i]? = some v) : ∃ bs, r.args = some bs ∧ v = l := by
  have key : ∀ {xs : List Str}, ¬ (("many" : Str) ∈ xs) → xs[i]? = some "many" → False := fun hn h => hn (List.mem_of_getElem? h)
  cases r with
  | call x F bs =>
    refine ⟨bs, rfl, ?_⟩
    match i, h1, h2 with
    | 0, h1, _ => exact absurd (Option.some.inj h1) (by decide +kernel)
    | 1, h1, _ => exact absurd (Option.some.inj h1) (by decide +kernel)
    | 2, _, h2 => exact (Option.some.inj h2).symm
  | _ => exact (key (by simp [Rx.roles]; decide +kernel) h1).elim
def spReadsG : Sp := fun vs H Q _ => ∃ (a l : Addr) (r : Rx), vs = [.ref a] ∧ H a = some (.tup (.str r.word :: r.parts (.ref l))) ∧ (∀ bs, r.args = some bs → H l = some (.lst (bs.map V.str)) ∧ bs.length ≤ 1000) ∧ ∀ p H', Same H H' → H p = none → H' p = some (.lst (r.reads.map V.str)) → Q (.ref p) H' 
theorem sc_row_reads : FnScope ["row", "names", "role", "part"] ["row"] (defScope s_row_reads) := ⟨rfl, rfl, rfl, by decide +kernel, rfl, by decide +kernel, by decide +kernel⟩
theorem ok_row_reads (T : Ctx w K mg) : Has P w K mg base 1 "row_reads" ["row"] spReadsG := by
  obtain ⟨fd, F⟩ := T.D_row_reads
  refine ⟨⟨fd, F.ok sc_row_reads (fun vs H Q E h => ?_) (fun cdv A outer s H vs Q E hr h => ?_), F.bindsN fun _ _ _ _ _ _ us hl => match us, hl with | [_], _ => rfl⟩, F.kp, T.g_row_reads⟩
  · obtain ⟨a, m, r, rfl, ha, hm, k⟩ := h; rfl
  · obtain ⟨a, m, r, rfl, ha, hm, k⟩ := h
    have hu := hu_of hr
    refine ⟨_, PSs.nox (pss_cons (ps_set (i := 1) sc_row_reads.nd rfl (Or.inl rfl) (pe_lst pa_nil))
      (pss_cons (ps_for PassesOwn.never rfl (pi_zipA (by rfl) T.f_zip (pa_cons (pe_ix ix_kdict (pe_glob (v := .ref (He.ga K "ROLES")) rfl T.g_ROLES rfl) (pe_ix ix_tup (pv 0) pe_int (fun _ _ => rfl)) (fun _ _ => rfl)) (pa_cons (pe_slice sl_tup (pv 0) (po_some pe_int) po_none) pa_nil))) (pg_tup rfl (pgs_cons (pg_name (i := 2) sc_row_reads.nd rfl (Or.inl rfl)) (pgs_cons (pg_name (i := 3) sc_row_reads.nd rfl (Or.inl rfl)) pgs_nil)))
      (pss_one (ps_if (pt_cmpR op_eq (pv 2) pe_str (nomark _)) (pss_one (ps_expr (pe_bm PySem.F.plainAttrs_list PySem.F.slot_list_append PySem.F.type_list_append mt_append (pv 1) (pa_cons (pv 3) pa_nil)))) (pss_one (ps_if (pt_cmpR op_eq (pv 2) pe_str (nomark _)) (pss_one (ps_expr (pe_bm PySem.F.plainAttrs_list PySem.F.slot_list_extend PySem.F.type_list_extend mt_extend (pv 1) (pa_cons (pv 3) pa_nil)))) pss_nil)))))
      (pss_one (ps_ret (pv 1))))), ?_⟩
    have hro : ∀ H, SqT K H (rolA K r.word) (r.roles.map V.str) := fun H => (T.role (rx_roles_mem r) H).2
    have hlp : (r.parts (.ref m)).length ≤ 3 := by cases r <;> simp [Rx.parts]
    have hlr := r.lens (.ref m)
    refine ⟨sz_of (by decide), fun l hl => ?_⟩
    have s0 : Same H (upd H l (.lst [])) := Same.new hl
    refine ⟨_, rfl, _, _, _, _, rfl, rfl, SqT.of (s0 _ _ ha), at0, _, _, _, rfl, rfl, T.roleK (rx_roles_mem r), ?_⟩
    refine ⟨_, rfl, 1, rfl, a, _, rfl, SqT.of (s0 _ _ ha), slice1.2, fun t ht => ?_⟩
    have s1 : Same (upd H l (.lst [])) (upd (upd H l (.lst [])) t (.tup (cutV (V.str r.word :: r.parts (.ref m)) (some 1) none))) := Same.new ht
    have ht1 : (upd (upd H l (.lst [])) t (.tup (cutV (V.str r.word :: r.parts (.ref m)) (some 1) none))) t = some (.tup (r.parts (.ref m))) := by
      rw [upd_same]
      exact congrArg (fun l => some (HO.tup l)) slice1.1
    have hnl : r.namesOf.length ≤ 1000 := by
      unfold Rx.namesOf
      cases e : r.args with
      | none => simp
      | some bs => exact (hm bs e).2
    refine ⟨_, t, _, r.parts (.ref m), rfl, .inr ⟨hro _, SqT.of ht1, ?_⟩⟩
    refine for_it (walk_zipT (K := K) (xs := r.roles.map V.str) (ys := r.parts (.ref m)) (n := (r.parts (.ref m)).length) (by rw [List.length_map, hlr, Nat.min_self])) (fun i σ H1 => ∃ v1 v2 : Option V, σ = [some (.ref a), some (.ref l), v1, v2] ∧ Same H H1 ∧ H1 t = some (.tup (r.parts (.ref m))) ∧ H1 l = some (.lst (rdG (r.namesOf.map V.str) (r.roles.take i) ((r.parts (.ref m)).take i)))) ⟨none, none, rfl, s0.trans s1, ht1, s1 _ _ upd_same⟩ (fun i σ H1 _ ⟨_, _, _, _, h3, _⟩ => ⟨hro _, SqT.of h3⟩) ?_ ?_
    · rintro i y σ H1 H2 hi ⟨v1, v2, rfl, s2, h3, h4⟩ ⟨u, x, v, rfl, hu0, rfl, hx, hv⟩
      obtain ⟨role, e, rfl⟩ := map_get (show (r.roles.map V.str)[i]? = some x from hx)
      have hv : (r.parts (.ref m))[i]? = some v := hv
      have s3 : Same H1 (upd H1 u (.tup [V.str role, v])) := Same.new hu0
      have hsn := rdG_snoc (as := r.namesOf.map V.str) e hv
      have hsz : (rdG (r.namesOf.map V.str) (r.roles.take i) ((r.parts (.ref m)).take i)).length ≤ 3003 := by
        refine Nat.le_trans (rdG_len _ _) ?_
        rw [List.length_take, List.length_map]
        have h6 : min i r.roles.length ≤ 3 := by omega
        exact Nat.le_trans (Nat.mul_le_mul h6 (Nat.succ_le_succ hnl)) (by decide)
      have keep : ∀ {o : List V}, (upd (upd H1 u (.tup [V.str role, v])) l (.lst o)) t = some (.tup (r.parts (.ref m))) := fun {o} => by
        rw [upd_ne]
        · exact s3 _ _ h3
        · intro z
          rw [z, h4] at h3
          cases h3
      refine ⟨u, _, rfl, SqT.of upd_same, rfl, _, _, rfl, _, _, rfl, rfl, ?_⟩
      refine ⟨_, rfl, rfl, _, rfl, ?_⟩
      by_cases c : role = "reads"
      · rw [if_pos c] at hsn
        refine ifT (decide_eq_true (by rw [c])) ?_
        refine ⟨_, rfl, .inl ⟨rfl, _, SqL.of (s3 _ _ h4)⟩, _, rfl, l, _, _, rfl, rfl, s3 _ _ h4, sz_lt (by omega), ?_⟩
        exact ⟨_, _, rfl, Same.mut (s2.trans s3) hl, keep, by rw [upd_same, hsn]⟩
      · rw [if_neg c] at hsn
        refine ifF (decide_eq_false (fun z => c (V.str.inj z))) ?_
        refine ⟨_, rfl, rfl, _, rfl, ?_⟩
        by_cases c2 : role = "many"
        · subst c2
          obtain ⟨bs, hbs, rfl⟩ := Rx.many_at e hv
          rw [if_pos rfl] at hsn
          have hn : r.namesOf = bs := by
            unfold Rx.namesOf
            rw [hbs]
            rfl
          rw [hn] at hsn hsz h4
          refine ifT (decide_eq_true rfl) ?_
          have hml := s3 _ _ (s2 _ _ (hm bs hbs).1)
          refine ⟨_, rfl, .inl ⟨rfl, _, SqL.of (s3 _ _ h4)⟩, _, rfl, l, m, _, _, rfl, rfl, s3 _ _ h4, hml, sz_of (by have := (hm bs hbs).2; rw [List.length_map]; omega), ?_⟩
          refine ⟨_, _, rfl, Same.mut (s2.trans s3) hl, ?_, by rw [upd_same, hn, hsn]⟩
          rw [upd_ne]
          · exact s3 _ _ h3
          · intro z
            rw [z, h4] at h3
            cases h3
        · rw [if_neg c2, List.append_nil] at hsn
          refine ifF (decide_eq_false (fun z => c2 (V.str.inj z))) ?_
          refine ⟨_, _, rfl, s2.trans s3, s3 _ _ h3, ?_⟩
          rw [hsn]
          exact s3 _ _ h4
    · rintro σ H1 ⟨v1, v2, rfl, s2, h3, h4⟩
      refine ⟨_, rfl, k l _ s2 hl ?_⟩
      rw [h4, List.take_of_length_le (by rw [hlr]; exact Nat.le_refl _), List.take_length, r.rd _ _ (fun bs hb => by unfold Rx.namesOf; rw [hb]; rfl)]

end
end W7
set_option Elab.async false
set_option linter.all false
set_option maxRecDepth 100000
set_option maxHeartbeats 4000000
namespace W7
open PySem PySem.Spec PyProof.Rows L2 RZ
section
variable {P : Program} {w : World} {K : PySem.W.Frag} {mg : Str → Option Value} {base : Heap}

def Rx.names (r : Rx) : List Str := match r.sets with
  | some k => k :: r.reads
  | none => r.reads
def ArgsAt (H : Hp) (l : Addr) (r : Rx) : Prop := ∀ bs, r.args = some bs → H l = some (.lst (bs.map V.str)) ∧ bs.length ≤ 1000
theorem ArgsAt.mono {H H' : Hp} {l : Addr} {r : Rx} (h : ArgsAt H l r) (e : Same H H') : ArgsAt H' l r := fun bs q => ⟨e _ _ (h bs q).1, (h bs q).2⟩
def spNamesInG : Sp := fun vs H Q _ => ∃ (a l : Addr) (r : Rx), vs = [.ref a] ∧ H a = some (.tup (.str r.word :: r.parts (.ref l))) ∧ ArgsAt H l r ∧ ∀ p H', Same H H' → H' p = some (.lst (r.names.map V.str)) → Q (.ref p) H' 
theorem sc_names_in : FnScope ["row", "names", "name"] ["row"] (defScope s_names_in) := ⟨rfl, rfl, rfl, by decide +kernel, rfl, by decide +kernel, by decide +kernel⟩
theorem ok_names_in (T : Ctx w K mg) (H_row_reads : Has P w K mg base 1 "row_reads" ["row"] spReadsG) (H_row_sets : Has P w K mg base 1 "row_sets" ["row"] spSetsG) : Has P w K mg base 2 "_names_in" ["row"] spNamesInG := by
  obtain ⟨fd, F⟩ := T.D_names_in
  obtain ⟨fd_row_reads, G_row_reads, b_row_reads⟩ := H_row_reads.ex
  obtain ⟨fd_row_sets, G_row_sets, b_row_sets⟩ := H_row_sets.ex
  refine ⟨⟨fd, F.ok sc_names_in (fun vs H Q E h => ?_) (fun cdv A outer s H vs Q E hr h => ?_), F.bindsN fun _ _ _ _ _ _ us hl => match us, hl with | [_], _ => rfl⟩, F.kp, T.g_names_in⟩
  · obtain ⟨a, l, r, rfl, ha, hm, k⟩ := h; rfl
  · obtain ⟨a, l, r, rfl, ha, hm, k⟩ := h
    have hr_row_reads : Room 1 _ := hr.mono (by decide)
    have hr_row_sets : Room 1 _ := hr.mono (by decide)
    have hu := hu_of hr
    refine ⟨_, PSs.nox (pss_cons (ps_set (i := 1) sc_names_in.nd rfl (Or.inl rfl) (pe_call G_row_reads hr_row_reads (by rfl) H_row_reads.gl H_row_reads.kp b_row_reads .nil pass0 (pa_cons (pv 0) pa_nil)))
      (pss_cons (ps_set (i := 2) sc_names_in.nd rfl (Or.inl rfl) (pe_call G_row_sets hr_row_sets (by rfl) H_row_sets.gl H_row_sets.kp b_row_sets .nil pass0 (pa_cons (pv 0) pa_nil)))
      (pss_one (ps_ret (pe_ifExp (pt_cmpR op_isN (pv 2) pe_non (nomark _)) (pv 1) (pe_lst (pa_cons (pv 2) (StX.pa_star (pv 1) pa_nil)))))))), ?_⟩
    refine ⟨_, rfl, a, l, r, rfl, ha, hm, fun p H1 s1 _ hp => ?_⟩
    refine ⟨_, rfl, a, .ref l, r, rfl, s1 _ _ ha, ?_⟩
    refine ⟨_, rfl, rfl, _, rfl, ?_⟩
    have hrl : r.reads.length ≤ 1003 := by
      cases r with
      | call x F bs =>
        have := (hm bs rfl).2
        simp only [Rx.reads]
        omega
      | _ => simp [Rx.reads]
    cases e : r.sets with
    | none =>
      refine ifT rfl ⟨_, rfl, k p _ s1 ?_⟩
      rw [hp]
      unfold Rx.names
      rw [e]
    | some x =>
      refine ifF rfl ⟨_, rfl, _, rfl, _, _, rfl, .inr (SqL.of hp), ?_⟩
      refine ⟨sz_of ?_, fun q hq => k q _ (s1.trans (Same.new hq)) ?_⟩
      · simp only [List.length_append, List.length_cons, List.length_nil, List.length_map]
        omega
      · rw [upd_same]
        unfold Rx.names
        rw [e]
        simp [oS]
/-- a Function's head, where it stands -/
structure HeadG (K : PySem.W.Frag) (H : Hp) (fp dx pa : Addr) (fs : List (Str × V)) (ps : List Addr) (qs : List (Str × Str)) (res : Str) : Prop where
  ob : H fp = some (.ins (He.ga K "Function") dx fs)
  f1 : fs.lookup ("params" : Str) = some (.ref pa)
  f2 : fs.lookup ("result" : Str) = some (.str res)
  d1 : SqT K H pa (ps.map V.ref)
  len : ps.length = qs.length
  le : qs.length ≤ 100
  at_ : ∀ (i : Nat) p q, ps[i]? = some p → qs[i]? = some q → SqT K H p [.str q.1, .str q.2]
theorem HeadG.mono {H H' : Hp} {fp dx pa : Addr} {fs : List (Str × V)} {ps : List Addr} {qs : List (Str × Str)} {res : Str} (h : HeadG K H fp dx pa fs ps qs res) (e : Same H H') : HeadG K H' fp dx pa fs ps qs res :=
  ⟨e _ _ h.ob, h.f1, h.f2, Same.tup e h.d1, h.len, h.le, fun i p q a b => Same.tup e (h.at_ i p q a b)⟩
/-- the kinds of variables, as a dict tells them -/
def KindOf (kv : List (Key × V)) (x q : Str) : Prop := valV kv (Sum.inr x : Key) = some (.str q)
def spCallFits (K : PySem.W.Frag) : Sp := fun vs H Q _ => ∃ (fp dx pa a l d : Addr) (fs : List (Str × V)) (ps : List Addr) (qs : List (Str × Str)) (res x F : Str) (bs : List Str) (kv : List (Key × V)), vs = [.ref fp, .ref a, .ref d] ∧ HeadG K H fp dx pa fs ps qs res ∧ H a = some (.tup [.str "call", .str x, .str F, .ref l]) ∧ H l = some (.lst (bs.map V.str)) ∧ H d = some (.dK kv) ∧
  bs.length = qs.length ∧ (∀ (i : Nat) y q, bs[i]? = some y → qs[i]? = some q → KindOf kv y q.2) ∧ (∀ q ∈ qs, PyData.strOk q.2 = true) ∧ KindOf kv x res ∧ ∀ H', Same H H' → Q (.bl true) H'
theorem dpStr {H : Hp} {a : Addr} {ns : List Str} (h : H a = some (.lst (ns.map V.str))) : Dp K H (.ref a) (.list (ns.map PyData.str)) := by
  refine .lst (SqL.of h) ?_
  clear h
  induction ns with
  | nil => exact .nil
  | cons x l ih => exact .cons (.str _) ih
theorem strs_ok : ∀ {ns : List Str}, (∀ x ∈ ns, PyData.strOk x = true) → SeqAt.shaped (.list (ns.map PyData.str)) = true := by
  intro ns h
  have key : ∀ {ns : List Str}, (∀ x ∈ ns, PyData.strOk x = true) → PyData.canLayAll0 (ns.map PyData.str) = true ∧ PyData.depthAll (ns.map PyData.str) = 0 := by
    intro ns
    induction ns with
    | nil => exact fun _ => ⟨rfl, rfl⟩
    | cons a l ih =>
      intro h
      obtain ⟨h1, h2⟩ := ih fun k m => h k (List.mem_cons_of_mem _ m)
      rw [List.map_cons, PyData.canLayAll0, PyData.depthAll, h1, h2, PyData.canLay0, PyData.depth, h a List.mem_cons_self]
      exact ⟨rfl, rfl⟩
  unfold SeqAt.shaped
  rw [PyData.canLay0, PyData.depth, (key h).1, (key h).2]
  rfl
theorem sc_call_fits : FnScope ["function", "row", "kinds", "given", "name", "_", "kind"] ["function", "row", "kinds"] (defScope s_call_fits) := ⟨rfl, rfl, rfl, by decide +kernel, rfl, by decide +kernel, by decide +kernel⟩
theorem ok_call_fits (T : Ctx w K mg) : Has P w K mg base 1 "_call_fits" ["function", "row", "kinds"] (spCallFits K) := by
  obtain ⟨fd, F⟩ := T.D_call_fits
  refine ⟨⟨fd, F.ok sc_call_fits (fun vs H Q E h => ?_) (fun cdv A outer s H vs Q E hr h => ?_), F.bindsN fun _ _ _ _ _ _ us hl => match us, hl with | [_, _, _], _ => rfl⟩, F.kp, T.g_call_fits⟩
  · obtain ⟨fp, dx, pa, a, l, d, fs, ps, qs, res, x, F, bs, kv, rfl, hh, ha, hlst, hd, hbl, hk, hok, hx, k⟩ := h; rfl
  · obtain ⟨fp, dx, pa, a, l, d, fs, ps, qs, res, x, F, bs, kv, rfl, hh, ha, hlst, hd, hbl, hk, hok, hx, k⟩ := h
    have hu := hu_of hr
    refine ⟨_, PSs.nox (pss_cons (ps_setLc (i := 3) (own := [("name", 4)]) (g := gName 4) (tt := tYes) rfl sc_call_fits.nd rfl rfl (sw_true rfl rfl rfl (by decide +kernel)) (pi_list (pe_ix ix_tup (pv 1) pe_int (fun _ _ => rfl))) (blkOk_by (N := ["function", "row", "kinds", "given", "name", "_", "kind"]) (sc := defScope s_call_fits) (by decide +kernel)) (fun _ _ _ _ _ => (pg_name (i := 4) sc_call_fits.nd rfl (Or.inl rfl))) (fun _ _ _ _ _ => pts_nil) (fun _ _ _ _ _ => (pe_dget hu (pv 2) (pv 4) (fun _ _ => rfl))))
      (pss_one (ps_ret (pe_and (pe_cmpR (op_eqD hr.units) (pv 3) (pe_lc (own := [("_", 5), ("kind", 6)]) (g := gTup K 2 (gCons (gName 5) (gCons (gName 6) (gNil)))) (tt := tYes) rfl sc_call_fits.nd (pi_tup (pe_fldK (K := K) rfl (pv 0) (by rfl))) (blkOk_by (N := ["function", "row", "kinds", "given", "name", "_", "kind"]) (sc := defScope s_call_fits) (by decide +kernel)) (fun _ _ _ _ _ => (pg_tup rfl (pgs_cons (pg_name (i := 5) sc_call_fits.nd rfl (Or.inl rfl)) (pgs_cons (pg_name (i := 6) sc_call_fits.nd rfl (Or.inl rfl)) pgs_nil)))) (fun _ _ _ _ _ => pts_nil) (fun _ _ _ _ _ => (pv 6))) (nomark _)) (pe_one (pe_cmpR op_eq (pe_dget hu (pv 2) (pe_ix ix_tup (pv 1) pe_int (fun _ _ => rfl)) (fun _ _ => rfl)) (pe_fldK (K := K) rfl (pv 0) (by rfl)) (nomark _))))))), ?_⟩
    have dg : ∀ {y q : Str}, KindOf kv y q → ∀ H', Same H H' → DGet H' d (.str y) (some (.str q)) := fun hx H' s' => by
      rw [← hx]
      exact DGet.k (k := Sum.inr _) (s' _ _ hd)
    refine ⟨_, rfl, _, _, _, _, rfl, rfl, SqT.of ha, at3, l, rfl, ⟨_, SqL.of hlst⟩, fun D hD => ?_⟩
    refine lc_pure (walk_list (K := K) (a := l) (xs := bs.map V.str)) hD (fun i => .str (qs.getD i ("", "")).2) (by rw [List.length_map]; have := hh.le; omega) (fun H1 s1 => SqL.of (s1 _ _ hlst)) (fun i H1 y H2 hi s1 hy Qe qe => ?_) (fun H1 s1 h1 => ?_)
    · obtain ⟨rfl, hy⟩ := hy
      obtain ⟨x1, hx1, rfl⟩ := map_get hy
      have hiq : i < qs.length := by
        rw [List.length_map] at hi
        omega
      have hq : qs[i]? = some qs[i] := List.getElem?_eq_getElem hiq
      have eq1 : (qs.getD i ("", "")).2 = qs[i].2 := by
        rw [List.getD_eq_getElem?_getD, hq]
        rfl
      rw [eq1] at qe
      exact ⟨rfl, _, rfl, _, rfl, d, .str qs[i].2, rfl, dg (hk i x1 qs[i] hx1 hq) _ s1, qe _ (Same.refl _)⟩
    rw [List.length_map, hbl] at h1
    have hh1 := hh.mono s1
    refine ⟨_, rfl, _, rfl, fp, _, dx, fs, _, rfl, hh1.ob, T.c_Function, T.n_Function_params, hh1.f1, pa, rfl, ⟨_, hh1.d1⟩, fun E2 hE => ?_⟩
    refine lc_pure (walk_tup (K := K) (a := pa) (xs := ps.map V.ref)) hE (fun i => .str (qs.getD i ("", "")).2) (by rw [List.length_map, hh.len]; have := hh.le; omega) (fun H2 s2 => (hh1.mono s2).d1) (fun i H2 y H3 hi s2 hy Qe qe => ?_) (fun H2 s2 h2 => ?_)
    · obtain ⟨rfl, hy⟩ := hy
      obtain ⟨p1, hp1, rfl⟩ := map_get hy
      have hiq : i < qs.length := by
        rw [List.length_map, hh.len] at hi
        exact hi
      have hq : qs[i]? = some qs[i] := List.getElem?_eq_getElem hiq
      have eq1 : (qs.getD i ("", "")).2 = qs[i].2 := by
        rw [List.getD_eq_getElem?_getD, hq]
        rfl
      rw [eq1] at qe
      exact ⟨p1, _, rfl, (hh1.mono s2).at_ i p1 _ hp1 hq, rfl, _, _, rfl, _, _, rfl, rfl, rfl, _, rfl, qe _ (Same.refl _)⟩
    rw [List.length_map, hh.len] at h2
    have el : (List.range qs.length).map (fun i => V.str (qs.getD i ("", "")).2) = (qs.map Prod.snd).map V.str := by
      apply List.ext_getElem
      · simp
      · intro i h1 h2
        simp at h1
        simp [h1]
    rw [el] at h1 h2
    have hs : SeqAt.shaped (.list ((qs.map Prod.snd).map PyData.str)) = true := strs_ok fun x m => by
      obtain ⟨q, hq, rfl⟩ := List.mem_map.mp m
      exact hok q hq
    have s12 := s1.trans s2
    refine ⟨_, _, dpStr (s2 _ _ h1), dpStr h2, hs, hs, ?_⟩
    refine ⟨_, rfl, ?_⟩
    rw [SeqAt.eqv_refl _ (SeqAt.canLay_of_shaped hs)]
    refine iteT ?_
    exact ⟨_, rfl, _, rfl, _, _, _, _, rfl, rfl, SqT.of (s12 _ _ ha), at1, d, .str res, rfl, dg hx _ s12, _, rfl, fp, _, dx, fs, _, rfl, (hh1.mono s2).ob, T.c_Function, T.n_Function_result, hh.f2, rfl, qT (decide_eq_true rfl) (k _ s12)⟩

end
end W7
set_option Elab.async false
set_option linter.all false
set_option maxRecDepth 100000
set_option maxHeartbeats 4000000
namespace W7
open PySem PySem.Spec PyProof.Rows L2 RZ
section
variable {P : Program} {w : World} {K : PySem.W.Frag} {mg : Str → Option Value} {base : Heap}

/-- a row of the right kinds: field kinds ks, functions us, variables kv, the function's result -/
def KindsG (K : PySem.W.Frag) (H : Hp) (ks us kv : List (Key × V)) (res : Str) : Rx → Prop
  | .num x _ => KindOf kv x "number"
  | .bin _ x y z => KindOf kv x "number" ∧ KindOf kv y "number" ∧ KindOf kv z "number"
  | .ifz x _ => KindOf kv x "number"
  | .get x y f => ∃ q : Str, KindOf kv y "object" ∧ KindOf kv x q ∧ valV ks (Sum.inr f : Key) = some (.str q)
  | .put x f y => ∃ q : Str, KindOf kv x "object" ∧ KindOf kv y q ∧ valV ks (Sum.inr f : Key) = some (.str q)
  | .call x F bs => ∃ fp dx pa fs ps qs rs, valV us (Sum.inr F : Key) = some (.ref fp) ∧ HeadG K H fp dx pa fs ps qs rs ∧ bs.length = qs.length ∧ (∀ (i : Nat) y q, bs[i]? = some y → qs[i]? = some q → KindOf kv y q.2) ∧ (∀ q ∈ qs, PyData.strOk q.2 = true) ∧ KindOf kv x rs
  | .same x y z => ∃ q, KindOf kv x "number" ∧ KindOf kv y q ∧ KindOf kv z q
  | .copy x y => ∃ q, KindOf kv x q ∧ KindOf kv y q
  | .nil x => KindOf kv x "object" | .new x _ => KindOf kv x "object"
  | .ret x => KindOf kv x res
  | .jump _ => True | .see _ => True
def spFitG (K : PySem.W.Frag) : Sp := fun vs H Q _ => ∃ (p a l d : Addr) (cs ks us kv : List (Key × V)) (res : Str) (r : Rx), vs = [.ref p, .ref a, .ref d, .str res] ∧ SrcH K H p cs ks us ∧ H a = some (.tup (.str r.word :: r.parts (.ref l))) ∧ ArgsAt H l r ∧ H d = some (.dK kv) ∧ KindsG K H ks us kv res r ∧ ∀ H', Same H H' → Q (.bl true) H' 
theorem sc_row_kinds_fit : FnScope ["source", "row", "kinds", "result", "word", "name"] ["source", "row", "kinds", "result"] (defScope s_row_kinds_fit) := ⟨rfl, rfl, rfl, by decide +kernel, rfl, by decide +kernel, by decide +kernel⟩
theorem ok_row_kinds_fit (T : Ctx w K mg) (H_names_in : Has P w K mg base 2 "_names_in" ["row"] spNamesInG) (H_call_fits : Has P w K mg base 1 "_call_fits" ["function", "row", "kinds"] (spCallFits K)) (H_Source_field_kind : HasM P w K mg base 1 "Source" "field_kind" ["self", "name"] (spFieldKind K)) (H_Source_function_at : HasM P w K mg base 1 "Source" "function_at" ["self", "name"] (spFunAt K)) : Has P w K mg base 3 "row_kinds_fit" ["source", "row", "kinds", "result"] (spFitG K) := by
  obtain ⟨fd, F⟩ := T.D_row_kinds_fit
  obtain ⟨fd_names_in, G_names_in, b_names_in⟩ := H_names_in.ex
  obtain ⟨fd_call_fits, G_call_fits, b_call_fits⟩ := H_call_fits.ex
  obtain ⟨fd_Source_field_kind, G_Source_field_kind, b_Source_field_kind⟩ := H_Source_field_kind.ex
  obtain ⟨fd_Source_function_at, G_Source_function_at, b_Source_function_at⟩ := H_Source_function_at.ex
  refine ⟨⟨fd, F.ok sc_row_kinds_fit (fun vs H Q E h => ?_) (fun cdv A outer s H vs Q E hr h => ?_), F.bindsN fun _ _ _ _ _ _ us hl => match us, hl with | [_, _, _, _], _ => rfl⟩, F.kp, T.g_row_kinds_fit⟩
  · obtain ⟨p, a, l, d, cs, ks, us, kv, res, r, rfl, S0, ha, hm, hd, hk, k⟩ := h; rfl
  · obtain ⟨p, a, l, d, cs, ks, us, kv, res, r, rfl, S0, ha, hm, hd, hk, k⟩ := h
    have hr_names_in : Room 2 _ := hr.mono (by decide)
    have hr_call_fits : Room 1 _ := hr.mono (by decide)
    have hr_Source_field_kind : Room 1 _ := hr.mono (by decide)
    have hr_Source_function_at : Room 1 _ := hr.mono (by decide)
    have hu := hu_of hr
    refine ⟨_, PSs.nox (pss_cons (ps_set (i := 4) sc_row_kinds_fit.nd rfl (Or.inl rfl) (pe_ix ix_tup (pv 1) pe_int (fun _ _ => rfl)))
      (pss_cons (ps_if (pt_cmpR op_in_seq (pv 4) (pe_glob (v := .ref (He.ga K "NUMBER_WORDS")) rfl T.g_NUMBER_WORDS rfl) rfl) (pss_one (ps_ret (pe_callB (cr_all rfl) (by rfl) T.f_all (by decide +kernel) (pa_cons (pe_lc (own := [("name", 5)]) (g := gName 5) (tt := tYes) rfl sc_row_kinds_fit.nd (pi_list (pe_call G_names_in hr_names_in (by rfl) H_names_in.gl H_names_in.kp b_names_in .nil pass0 (pa_cons (pv 1) pa_nil))) (blkOk_by (N := ["source", "row", "kinds", "result", "word", "name"]) (sc := defScope s_row_kinds_fit) (by decide +kernel)) (fun _ _ _ _ _ => (pg_name (i := 5) sc_row_kinds_fit.nd rfl (Or.inl rfl))) (fun _ _ _ _ _ => pts_nil) (fun _ _ _ _ _ => (pe_cmpR op_eq (pe_dget hu (pv 2) (pv 5) (fun _ _ => rfl)) pe_str (nomark _)))) pa_nil)))) pss_nil)
      (pss_cons (ps_if (pt_cmpR op_eq (pv 4) pe_str (nomark _)) (pss_one (ps_ret (pe_and (pe_cmpR op_eq (pe_dget hu (pv 2) (pe_ix ix_tup (pv 1) pe_int (fun _ _ => rfl)) (fun _ _ => rfl)) pe_str (nomark _)) (pe_one (pe_cmpR op_eq (pe_dget hu (pv 2) (pe_ix ix_tup (pv 1) pe_int (fun _ _ => rfl)) (fun _ _ => rfl)) (pe_meth (pv 0) T.c_Source T.m_Source_field_kind G_Source_field_kind hr_Source_field_kind b_Source_field_kind .nil pass0 (pa_cons (pe_ix ix_tup (pv 1) pe_int (fun _ _ => rfl)) pa_nil)) (nomark _)))))) pss_nil)
      (pss_cons (ps_if (pt_cmpR op_eq (pv 4) pe_str (nomark _)) (pss_one (ps_ret (pe_and (pe_cmpR op_eq (pe_dget hu (pv 2) (pe_ix ix_tup (pv 1) pe_int (fun _ _ => rfl)) (fun _ _ => rfl)) pe_str (nomark _)) (pe_one (pe_cmpR op_eq (pe_dget hu (pv 2) (pe_ix ix_tup (pv 1) pe_int (fun _ _ => rfl)) (fun _ _ => rfl)) (pe_meth (pv 0) T.c_Source T.m_Source_field_kind G_Source_field_kind hr_Source_field_kind b_Source_field_kind .nil pass0 (pa_cons (pe_ix ix_tup (pv 1) pe_int (fun _ _ => rfl)) pa_nil)) (nomark _)))))) pss_nil)
      (pss_cons (ps_if (pt_cmpR op_eq (pv 4) pe_str (nomark _)) (pss_one (ps_ret (pe_call G_call_fits hr_call_fits (by rfl) H_call_fits.gl H_call_fits.kp b_call_fits .nil pass0 (pa_cons (pe_meth (pv 0) T.c_Source T.m_Source_function_at G_Source_function_at hr_Source_function_at b_Source_function_at .nil pass0 (pa_cons (pe_ix ix_tup (pv 1) pe_int (fun _ _ => rfl)) pa_nil)) (pa_cons (pv 1) (pa_cons (pv 2) pa_nil)))))) pss_nil)
      (pss_cons (ps_if (pt_cmpR op_eq (pv 4) pe_str (nomark _)) (pss_one (ps_ret (pe_and (pe_cmpR op_eq (pe_dget hu (pv 2) (pe_ix ix_tup (pv 1) pe_int (fun _ _ => rfl)) (fun _ _ => rfl)) pe_str (nomark _)) (pe_one (pe_cmpR op_eq (pe_dget hu (pv 2) (pe_ix ix_tup (pv 1) pe_int (fun _ _ => rfl)) (fun _ _ => rfl)) (pe_dget hu (pv 2) (pe_ix ix_tup (pv 1) pe_int (fun _ _ => rfl)) (fun _ _ => rfl)) (nomark _)))))) pss_nil)
      (pss_cons (ps_if (pt_cmpR op_eq (pv 4) pe_str (nomark _)) (pss_one (ps_ret (pe_cmpR op_eq (pe_dget hu (pv 2) (pe_ix ix_tup (pv 1) pe_int (fun _ _ => rfl)) (fun _ _ => rfl)) (pe_dget hu (pv 2) (pe_ix ix_tup (pv 1) pe_int (fun _ _ => rfl)) (fun _ _ => rfl)) (nomark _)))) pss_nil)
      (pss_cons (ps_if (pt_cmpR op_in_seq (pv 4) (pe_tup (pa_cons pe_str (pa_cons pe_str pa_nil))) rfl) (pss_one (ps_ret (pe_cmpR op_eq (pe_dget hu (pv 2) (pe_ix ix_tup (pv 1) pe_int (fun _ _ => rfl)) (fun _ _ => rfl)) pe_str (nomark _)))) pss_nil)
      (pss_one (ps_ret (pe_or (pe_cmpR op_ne (pv 4) pe_str (nomark _)) (pe_one (pe_cmpR op_eq (pe_dget hu (pv 2) (pe_ix ix_tup (pv 1) pe_int (fun _ _ => rfl)) (fun _ _ => rfl)) (pv 3) (nomark _)))))))))))))), ?_⟩
    obtain ⟨dx0, df, dk, du, fs0, S⟩ := id S0
    have dg : ∀ {y q : Str}, KindOf kv y q → ∀ H', Same H H' → DGet H' d (.str y) (some (.str q)) := fun hx H' s' => by
      rw [← hx]
      exact DGet.k (k := Sum.inr _) (s' _ _ hd)
    refine ⟨_, rfl, _, _, _, _, rfl, rfl, SqT.of ha, at0, ?_⟩
    refine ⟨_, rfl, _, _, rfl, .inr (T.numwords H), rfl, rfl, _, rfl, ?_⟩
    cases r with
    | num x n =>
      let r0 : Rx := .num x n
      have hn : ∀ x ∈ r0.names, KindOf kv x "number" := fun z m => by
        have e : z = x := by simpa [r0, Rx.names, Rx.sets, Rx.reads] using m
        rw [e]
        exact hk
      have hnl : r0.names.length ≤ 5 := by show _ ≤ 5; simp [r0, Rx.names, Rx.sets, Rx.reads]
      refine ifT rfl ?_
      refine ⟨_, rfl, a, l, r0, rfl, ha, hm, fun p1 H1 s1 hp => ⟨p1, rfl, ⟨_, SqL.of hp⟩, fun D hD => ?_⟩⟩
      refine lc_pure (walk_list (K := K) (a := p1) (xs := r0.names.map V.str)) hD (fun _ => .bl true) (by rw [List.length_map]; exact Nat.lt_of_le_of_lt hnl (by decide)) (fun H2 s2 => SqL.of (s2 _ _ hp)) (fun i H2 y H3 hi s2 hy Qe qe => ?_) (fun H2 s2 h2 => ?_)
      · obtain ⟨rfl, hy⟩ := hy
        obtain ⟨x1, hx1, rfl⟩ := map_get hy
        exact ⟨rfl, _, rfl, _, rfl, d, .str "number", rfl, dg (hn x1 (List.mem_of_getElem? hx1)) _ (s1.trans s2), rfl, qT (decide_eq_true rfl) (qe _ (Same.refl _))⟩
      · exact ⟨D, (List.range (r0.names.map V.str).length).map (fun _ => true), rfl, SqL.of (by rw [h2, List.map_map]; rfl), qT all_true (k _ (s1.trans s2))⟩
    | ifz x n =>
      let r0 : Rx := .ifz x n
      have hn : ∀ x ∈ r0.names, KindOf kv x "number" := fun z m => by
        have e : z = x := by simpa [r0, Rx.names, Rx.sets, Rx.reads] using m
        rw [e]
        exact hk
      have hnl : r0.names.length ≤ 5 := by show _ ≤ 5; simp [r0, Rx.names, Rx.sets, Rx.reads]
      refine ifT rfl ?_
      refine ⟨_, rfl, a, l, r0, rfl, ha, hm, fun p1 H1 s1 hp => ⟨p1, rfl, ⟨_, SqL.of hp⟩, fun D hD => ?_⟩⟩
      refine lc_pure (walk_list (K := K) (a := p1) (xs := r0.names.map V.str)) hD (fun _ => .bl true) (by rw [List.length_map]; exact Nat.lt_of_le_of_lt hnl (by decide)) (fun H2 s2 => SqL.of (s2 _ _ hp)) (fun i H2 y H3 hi s2 hy Qe qe => ?_) (fun H2 s2 h2 => ?_)
      · obtain ⟨rfl, hy⟩ := hy
        obtain ⟨x1, hx1, rfl⟩ := map_get hy
        exact ⟨rfl, _, rfl, _, rfl, d, .str "number", rfl, dg (hn x1 (List.mem_of_getElem? hx1)) _ (s1.trans s2), rfl, qT (decide_eq_true rfl) (qe _ (Same.refl _))⟩
      · exact ⟨D, (List.range (r0.names.map V.str).length).map (fun _ => true), rfl, SqL.of (by rw [h2, List.map_map]; rfl), qT all_true (k _ (s1.trans s2))⟩
    | bin kk x y z =>
      let r0 : Rx := .bin kk x y z
      have hn : ∀ x ∈ r0.names, KindOf kv x "number" := fun u m => by
        have e : u = x ∨ u = y ∨ u = z := by simpa [r0, Rx.names, Rx.sets, Rx.reads] using m
        obtain ⟨h1, h2, h3⟩ := hk
        rcases e with e | e | e
        · rw [e]; exact h1
        · rw [e]; exact h2
        · rw [e]; exact h3
      have hnl : r0.names.length ≤ 5 := by show _ ≤ 5; simp [r0, Rx.names, Rx.sets, Rx.reads]
      refine ifT (by
        have key : ∀ kk : Fin 4, inV (V.str (binW kk)) (v_NUMBER_WORDS.map fun d => match d with | .str x => V.str x | _ => V.non) = true := by decide +kernel
        exact key kk) ?_
      refine ⟨_, rfl, a, l, r0, rfl, ha, hm, fun p1 H1 s1 hp => ⟨p1, rfl, ⟨_, SqL.of hp⟩, fun D hD => ?_⟩⟩
      refine lc_pure (walk_list (K := K) (a := p1) (xs := r0.names.map V.str)) hD (fun _ => .bl true) (by rw [List.length_map]; exact Nat.lt_of_le_of_lt hnl (by decide)) (fun H2 s2 => SqL.of (s2 _ _ hp)) (fun i H2 y H3 hi s2 hy Qe qe => ?_) (fun H2 s2 h2 => ?_)
      · obtain ⟨rfl, hy⟩ := hy
        obtain ⟨x1, hx1, rfl⟩ := map_get hy
        exact ⟨rfl, _, rfl, _, rfl, d, .str "number", rfl, dg (hn x1 (List.mem_of_getElem? hx1)) _ (s1.trans s2), rfl, qT (decide_eq_true rfl) (qe _ (Same.refl _))⟩
      · exact ⟨D, (List.range (r0.names.map V.str).length).map (fun _ => true), rfl, SqL.of (by rw [h2, List.map_map]; rfl), qT all_true (k _ (s1.trans s2))⟩
    | get x y f =>
      obtain ⟨q, h1, h2, h3⟩ := hk
      refine ifF rfl ⟨_, rfl, rfl, _, rfl, ifT rfl ?_⟩
      exact ⟨_, rfl, _, rfl, _, _, _, _, rfl, rfl, SqT.of ha, at2, d, .str "object", rfl, dg h1 _ (Same.refl H), rfl, _, rfl, ifT (decide_eq_true rfl) ⟨_, rfl, _, rfl, _, _, _, _, rfl, rfl, SqT.of ha, at1, d, .str q, rfl, dg h2 _ (Same.refl H), _, rfl, p, dx0, fs0, rfl, S.ob, S.nm _ (by decide +kernel), _, rfl, _, _, _, _, rfl, rfl, SqT.of ha, at3, p, cs, ks, us, f, .str q, rfl, S0, h3, rfl, qT (decide_eq_true rfl) (k _ (Same.refl H))⟩⟩
    | put x f y =>
      obtain ⟨q, h1, h2, h3⟩ := hk
      refine ifF rfl ⟨_, rfl, rfl, _, rfl, ifF rfl ⟨_, rfl, rfl, _, rfl, ifT rfl ?_⟩⟩
      exact ⟨_, rfl, _, rfl, _, _, _, _, rfl, rfl, SqT.of ha, at1, d, .str "object", rfl, dg h1 _ (Same.refl H), rfl, _, rfl, ifT (decide_eq_true rfl) ⟨_, rfl, _, rfl, _, _, _, _, rfl, rfl, SqT.of ha, at3, d, .str q, rfl, dg h2 _ (Same.refl H), _, rfl, p, dx0, fs0, rfl, S.ob, S.nm _ (by decide +kernel), _, rfl, _, _, _, _, rfl, rfl, SqT.of ha, at2, p, cs, ks, us, f, .str q, rfl, S0, h3, rfl, qT (decide_eq_true rfl) (k _ (Same.refl H))⟩⟩
    | call x F bs =>
      obtain ⟨fp, dx, pa, fs, ps, qs, rs, h1, h2, h3, h4, h5, h6⟩ := hk
      refine ifF rfl ⟨_, rfl, rfl, _, rfl, ifF rfl ⟨_, rfl, rfl, _, rfl, ifF rfl ⟨_, rfl, rfl, _, rfl, ifT rfl ?_⟩⟩⟩
      exact ⟨_, rfl, p, dx0, fs0, rfl, S.ob, S.nm _ (by decide +kernel), _, rfl, _, _, _, _, rfl, rfl, SqT.of ha, at2, p, cs, ks, us, F, .ref fp, rfl, S0, h1, _, rfl, _, rfl, fp, dx, pa, a, l, d, fs, ps, qs, rs, x, F, bs, kv, rfl, h2, ha, (hm bs rfl).1, hd, h3, h4, h5, h6, k⟩
    | same x y z =>
      obtain ⟨q, h1, h2, h3⟩ := hk
      refine ifF rfl ⟨_, rfl, rfl, _, rfl, ifF rfl ⟨_, rfl, rfl, _, rfl, ifF rfl ⟨_, rfl, rfl, _, rfl, ifF rfl ⟨_, rfl, rfl, _, rfl, ifT rfl ?_⟩⟩⟩⟩
      exact ⟨_, rfl, _, rfl, _, _, _, _, rfl, rfl, SqT.of ha, at1, d, .str "number", rfl, dg h1 _ (Same.refl H), rfl, _, rfl, ifT (decide_eq_true rfl) ⟨_, rfl, _, rfl, _, _, _, _, rfl, rfl, SqT.of ha, at2, d, .str q, rfl, dg h2 _ (Same.refl H), _, rfl, _, rfl, _, _, _, _, rfl, rfl, SqT.of ha, at3, d, .str q, rfl, dg h3 _ (Same.refl H), rfl, qT (decide_eq_true rfl) (k _ (Same.refl H))⟩⟩
    | copy x y =>
      obtain ⟨q, h1, h2⟩ := hk
      refine ifF rfl ⟨_, rfl, rfl, _, rfl, ifF rfl ⟨_, rfl, rfl, _, rfl, ifF rfl ⟨_, rfl, rfl, _, rfl, ifF rfl ⟨_, rfl, rfl, _, rfl, ifF rfl ⟨_, rfl, rfl, _, rfl, ifT rfl ?_⟩⟩⟩⟩⟩
      exact ⟨_, rfl, _, rfl, _, _, _, _, rfl, rfl, SqT.of ha, at1, d, .str q, rfl, dg h1 _ (Same.refl H), _, rfl, _, rfl, _, _, _, _, rfl, rfl, SqT.of ha, at2, d, .str q, rfl, dg h2 _ (Same.refl H), rfl, qT (decide_eq_true rfl) (k _ (Same.refl H))⟩
    | nil x => 
      refine ifF rfl ⟨_, rfl, rfl, _, rfl, ifF rfl ⟨_, rfl, rfl, _, rfl, ifF rfl ⟨_, rfl, rfl, _, rfl, ifF rfl ⟨_, rfl, rfl, _, rfl, ifF rfl ⟨_, rfl, rfl, _, rfl, ifF rfl ?_⟩⟩⟩⟩⟩
      refine ⟨_, rfl, sz_of (by decide), fun t ht => ⟨t, _, rfl, .inr (SqT.of upd_same), rfl, rfl, _, rfl, ifT rfl ?_⟩⟩
      have s1 : Same H (upd H t (.tup [.str "nil", .str "new"])) := Same.new ht
      exact ⟨_, rfl, _, rfl, _, _, _, _, rfl, rfl, SqT.of (s1 _ _ ha), at1, d, .str "object", rfl, dg hk _ s1, rfl, qT (decide_eq_true rfl) (k _ s1)⟩
    | new x c => 
      refine ifF rfl ⟨_, rfl, rfl, _, rfl, ifF rfl ⟨_, rfl, rfl, _, rfl, ifF rfl ⟨_, rfl, rfl, _, rfl, ifF rfl ⟨_, rfl, rfl, _, rfl, ifF rfl ⟨_, rfl, rfl, _, rfl, ifF rfl ?_⟩⟩⟩⟩⟩
      refine ⟨_, rfl, sz_of (by decide), fun t ht => ⟨t, _, rfl, .inr (SqT.of upd_same), rfl, rfl, _, rfl, ifT rfl ?_⟩⟩
      have s1 : Same H (upd H t (.tup [.str "nil", .str "new"])) := Same.new ht
      exact ⟨_, rfl, _, rfl, _, _, _, _, rfl, rfl, SqT.of (s1 _ _ ha), at1, d, .str "object", rfl, dg hk _ s1, rfl, qT (decide_eq_true rfl) (k _ s1)⟩
    | ret x =>
      refine ifF rfl ⟨_, rfl, rfl, _, rfl, ifF rfl ⟨_, rfl, rfl, _, rfl, ifF rfl ⟨_, rfl, rfl, _, rfl, ifF rfl ⟨_, rfl, rfl, _, rfl, ifF rfl ⟨_, rfl, rfl, _, rfl, ifF rfl ?_⟩⟩⟩⟩⟩
      refine ⟨_, rfl, sz_of (by decide), fun t ht => ⟨t, _, rfl, .inr (SqT.of upd_same), rfl, rfl, _, rfl, ifF rfl ?_⟩⟩
      have s1 : Same H (upd H t (.tup [.str "nil", .str "new"])) := Same.new ht
      exact ⟨_, rfl, rfl, false, rfl, iteF ⟨_, rfl, _, rfl, _, _, _, _, rfl, rfl, SqT.of (s1 _ _ ha), at1, d, _, rfl, dg hk _ s1, _, rfl, rfl, qT (decide_eq_true rfl) (k _ s1)⟩⟩
    | see x => 
      refine ifF rfl ⟨_, rfl, rfl, _, rfl, ifF rfl ⟨_, rfl, rfl, _, rfl, ifF rfl ⟨_, rfl, rfl, _, rfl, ifF rfl ⟨_, rfl, rfl, _, rfl, ifF rfl ⟨_, rfl, rfl, _, rfl, ifF rfl ?_⟩⟩⟩⟩⟩
      refine ⟨_, rfl, sz_of (by decide), fun t ht => ⟨t, _, rfl, .inr (SqT.of upd_same), rfl, rfl, _, rfl, ifF rfl ?_⟩⟩
      have s1 : Same H (upd H t (.tup [.str "nil", .str "new"])) := Same.new ht
      exact ⟨_, rfl, rfl, true, rfl, iteT (k _ s1)⟩
    | jump x => 
      refine ifF rfl ⟨_, rfl, rfl, _, rfl, ifF rfl ⟨_, rfl, rfl, _, rfl, ifF rfl ⟨_, rfl, rfl, _, rfl, ifF rfl ⟨_, rfl, rfl, _, rfl, ifF rfl ⟨_, rfl, rfl, _, rfl, ifF rfl ?_⟩⟩⟩⟩⟩
      refine ⟨_, rfl, sz_of (by decide), fun t ht => ⟨t, _, rfl, .inr (SqT.of upd_same), rfl, rfl, _, rfl, ifF rfl ?_⟩⟩
      have s1 : Same H (upd H t (.tup [.str "nil", .str "new"])) := Same.new ht
      exact ⟨_, rfl, rfl, true, rfl, iteT (k _ s1)⟩

end
end W7
set_option Elab.async false
set_option linter.all false
set_option maxRecDepth 100000
set_option maxHeartbeats 4000000
namespace W7
open PySem PySem.Spec PyProof.Rows L2 RZ
section
variable {P : Program} {w : World} {K : PySem.W.Frag} {mg : Str → Option Value} {base : Heap}

/-- a comprehension whose elements are values as told, or new tuples -/
def Mix (c : Nat → Bool) (f : Nat → V) (g : Nat → List V) (i : Nat) (H : Hp) (v : V) : Prop := (c i = false ∧ v = f i) ∨ (c i = true ∧ ∃ q, v = .ref q ∧ H q = some (.tup (g i)))
theorem lc_mix {J : It} {n : Nat} {G : Hp → Prop} {Y : Nat → Hp → V → Hp → Prop} (w : Walk J n G Y) {gg : TG} {te : TE} {vs : List Nat} {σ : L2.St} {H0 : Hp} {D : Addr} {Qd : Hp → Prop} (hD : H0 D = none) (c : Nat → Bool) (f : Nat → V) (g : Nat → List V) (hn : n < 100000)
    (hG : ∀ H, Same H0 H → G H)
    (hs : ∀ i H x H', i < n → Same H0 H → Y i H x H' → ∀ Qe : VK, (∀ v H4, Same H H4 → Mix c f g i H4 v → Qe v H4) → gg x (wipe σ vs) H' fun σ2 H2 => wipe σ2 vs = wipe σ vs ∧ te σ2 H2 Qe)
    (hd : ∀ (H : Hp) (xs : List V), Same H0 H → xs.length = n → (∀ (i : Nat) v, xs[i]? = some v → Mix c f g i H v) → H D = some (.lst xs) → Qd H) :
    ∃ W : Nat → Nat → Hp → Prop, (∃ m, W 0 m (upd H0 D (.lst []))) ∧ ∀ i m H, W i m H →
      (J.stop i H ∧ Qd H) ∨ (J.go i H ∧ ∃ Nx : Hp → Prop, (∀ H', Nx H' → ∃ m', m' < m ∧ W (i + 1) m' H') ∧ ∀ x H', J.yld i H x H' → gg x (wipe σ vs) H' fun σ2 H2 => wipe σ2 vs = wipe σ vs ∧ tYes σ2 H2 fun b H3 =>
        if b = true then te σ2 H3 fun y H4 => ∃ acc, H4 D = some (.lst acc) ∧ acc.length < sizeLine ∧ Nx (upd H4 D (.lst (acc ++ [y]))) else Nx H3) := by
  refine lc_it w (fun i H => Same H0 H ∧ ∃ xs : List V, xs.length = i ∧ (∀ (j : Nat) v, xs[j]? = some v → Mix c f g j H v) ∧ H D = some (.lst xs)) ⟨Same.new hD, [], rfl, fun j v e => by simp at e, upd_same⟩ (fun i H _ p => hG H p.1) (fun i x H H' hi q y => ?_) (fun H q => ?_)
  · obtain ⟨s1, xs, hl, hx, hDD⟩ := q
    have q := hs i H x H' hi s1 y (fun y H4 => ∃ acc, H4 D = some (.lst acc) ∧ acc.length < sizeLine ∧ (Same H0 (upd H4 D (.lst (acc ++ [y]))) ∧ ∃ xs : List V, xs.length = i + 1 ∧ (∀ (j : Nat) v, xs[j]? = some v → Mix c f g j (upd H4 D (.lst (acc ++ [y]))) v) ∧ upd H4 D (.lst (acc ++ [y])) D = some (.lst xs))) (fun v H4 s4 mv => ?_)
    · exact q
    · have h4 := s4 _ _ hDD
      have stay : ∀ {j : Nat} {u : V}, Mix c f g j H4 u → Mix c f g j (upd H4 D (.lst (xs ++ [v]))) u := fun {j u} m => by
        rcases m with m | ⟨m1, q, m2, m3⟩
        · exact .inl m
        · refine .inr ⟨m1, q, m2, ?_⟩
          rw [upd_ne (ne_of m3 h4 (by intro z; cases z))]
          exact m3
      refine ⟨xs, h4, sz_lt (by omega), Same.mut (s1.trans s4) hD, xs ++ [v], by rw [List.length_append, hl]; rfl, fun j u e => stay ?_, upd_same⟩
      by_cases hj : j < xs.length
      · rw [List.getElem?_append_left hj] at e
        rcases hx j u e with m | ⟨m1, q, m2, m3⟩
        · exact .inl m
        · exact .inr ⟨m1, q, m2, s4 _ _ m3⟩
      · rw [List.getElem?_append_right (by omega)] at e
        have h2 := (List.getElem?_eq_some_iff.mp e).1
        simp at h2
        have ej : j = i := by omega
        have e0 : j - xs.length = 0 := by omega
        rw [e0] at e
        rw [← Option.some.inj e, ej]
        exact mv
  · obtain ⟨s1, xs, hl, hx, hDD⟩ := q
    exact hd H xs s1 hl hx hDD
def spFzL : Sp := fun vs H Q _ => ∃ a xs, vs = [.ref a] ∧ H a = some (.lst xs) ∧ (∀ x ∈ xs, Fl x) ∧ xs.length ≤ 1000 ∧ ∀ p H', Same H H' → H' p = some (.tup xs) → Q (.ref p) H'
/-- a text, an int, or a list of such -/
def spFzM : Sp := fun vs H Q E => spFz0 vs H Q E ∨ spFzL vs H Q E
theorem sc_frozenM : FnScope ["thing", "part"] ["thing"] (defScope s_frozen) := ⟨rfl, rfl, rfl, by decide +kernel, rfl, by decide +kernel, by decide +kernel⟩
theorem ok_frozenM (T : Ctx w K mg) (H_frozen : Has P w K mg base 1 "frozen" ["thing"] spFz0) : Has P w K mg base 2 "frozen" ["thing"] spFzM := by
  obtain ⟨fd, F⟩ := T.D_frozen
  obtain ⟨fd_frozen, G_frozen, b_frozen⟩ := H_frozen.ex
  refine ⟨⟨fd, F.ok sc_frozenM (fun vs H Q E h => ?_) (fun cdv A outer s H vs Q E hr h => ?_), F.bindsN fun _ _ _ _ _ _ us hl => match us, hl with | [_], _ => rfl⟩, F.kp, T.g_frozen⟩
  · rcases h with ⟨v, rfl, _⟩ | ⟨a, xs, rfl, _⟩ <;> rfl
  · obtain h := h
    have hr_frozen : Room 1 _ := hr.mono (by decide)
    have hu := hu_of hr
    refine ⟨_, PSs.nox (pss_cons (ps_if (pt_val (pe_callB call_isiT (by rfl) T.f_isinstance (by decide +kernel) (pa_cons (pv 0) (pa_cons (pe_tup (pa_cons (pe_bltn (v := .ty "list") (u := .type "list") rfl T.f_list (by decide +kernel) rfl) (pa_cons (pe_bltn (v := .ty "tuple") (u := .type "tuple") rfl T.f_tuple (by decide +kernel) rfl) pa_nil))) pa_nil)))) (pss_one (ps_ret (pe_callTy call_tuple_of (by rfl) T.f_tuple (by decide +kernel) (pa_cons (pe_lc (own := [("part", 1)]) (g := gName 1) (tt := tYes) rfl sc_frozenM.nd (pi_list (pv 0)) (blkOk_by (N := ["thing", "part"]) (sc := defScope s_frozen) (by decide +kernel)) (fun _ _ _ _ _ => (pg_name (i := 1) sc_frozenM.nd rfl (Or.inl rfl))) (fun _ _ _ _ _ => pts_nil) (fun _ _ _ _ _ => (pe_call G_frozen hr_frozen (by rfl) H_frozen.gl H_frozen.kp b_frozen .nil pass0 (pa_cons (pv 1) pa_nil)))) pa_nil)))) pss_nil)
      (pss_one (ps_ret (pv 0)))), ?_⟩
    rcases h with ⟨v, rfl, F0, k⟩ | ⟨a, xs, rfl, ha, hf, hl, k⟩
    · refine ⟨_, rfl, sz_of (by decide), fun tp htp => ?_⟩
      cases F0 with
      | str x =>
        exact ⟨_, _, _, _, _, false, rfl, upd_same, .cons (.ty _) (.cons (.ty _) .nil), .base (.str x), kit2 (p := false) (q := false) (by decide +kernel) (by decide +kernel) rfl, _, rfl, iteF ⟨_, rfl, k _ (Same.new htp)⟩⟩
      | int x =>
        exact ⟨_, _, _, _, _, false, rfl, upd_same, .cons (.ty _) (.cons (.ty _) .nil), .base (.int x), kit2 (p := false) (q := false) (by decide +kernel) (by decide +kernel) rfl, _, rfl, iteF ⟨_, rfl, k _ (Same.new htp)⟩⟩
    refine ⟨_, rfl, sz_of (by decide), fun tp htp => ?_⟩
    have s1 : Same H (upd H tp (.tup [.ty "list", .ty "tuple"])) := Same.new htp
    refine ⟨_, _, _, _, _, true, rfl, upd_same, .cons (.ty _) (.cons (.ty _) .nil), .base (.lst (s1 _ _ ha)), kit2 (p := true) (q := false) (by decide +kernel) (by decide +kernel) rfl, _, rfl, iteT ?_⟩
    refine ⟨_, rfl, a, rfl, ⟨_, SqL.of (s1 _ _ ha)⟩, fun D hD => ?_⟩
    refine lc_pure (walk_list (K := K) (a := a) (xs := xs)) hD (fun i => xs.getD i .non) (Nat.lt_of_le_of_lt hl (by decide)) (fun H2 s2 => SqL.of (s2 _ _ (s1 _ _ ha))) (fun i H2 y H3 hi s2 hy Qe qe => ?_) (fun H2 s2 h2 => ?_)
    · obtain ⟨rfl, hx⟩ := hy
      rw [getD_of hx] at qe
      exact ⟨rfl, _, rfl, y, rfl, hf y (List.mem_of_getElem? hx), fun H4 s4 => qe _ s4⟩
    · rw [map_range_getD] at h2
      exact ⟨D, xs, rfl, .inl ⟨SqL.of h2, fun l hl2 => k l _ ((s1.trans s2).trans (Same.new hl2)) upd_same⟩⟩

end
end W7
set_option Elab.async false
set_option linter.all false
set_option maxRecDepth 100000
set_option maxHeartbeats 4000000
namespace W7
open PySem PySem.Spec PyProof.Rows L2 RZ
section
variable {P : Program} {w : World} {K : PySem.W.Frag} {mg : Str → Option Value} {base : Heap}

theorem parts_at {r : Rx} {l : V} {i : Nat} {y : V} (h : (V.str r.word :: r.parts l)[i]? = some y) : (Fl y ∧ (r.args.isSome && (i == 3)) = false) ∨ (∃ bs, r.args = some bs ∧ i = 3 ∧ y = l) := by
  cases r with
  | call x F bs =>
    match i, h with
    | 0, h => obtain rfl := Option.some.inj h; exact .inl ⟨.str _, rfl⟩
    | 1, h => obtain rfl := Option.some.inj h; exact .inl ⟨.str _, rfl⟩
    | 2, h => obtain rfl := Option.some.inj h; exact .inl ⟨.str _, rfl⟩
    | 3, h => obtain rfl := Option.some.inj h; exact .inr ⟨bs, rfl, rfl, rfl⟩
    | n + 4, h => simp [Rx.parts] at h
  | _ =>
    refine .inl ⟨?_, rfl⟩
    have m := List.mem_of_getElem? h
    simp only [Rx.parts, List.mem_cons, List.not_mem_nil, or_false] at m
    rcases m with rfl | m
    · exact .str _
    · first
        | (subst m; first | exact .str _ | exact .int _)
        | (rcases m with rfl | rfl <;> first | exact .str _ | exact .int _)
        | (rcases m with rfl | rfl | rfl <;> first | exact .str _ | exact .int _)
theorem parts_same {r : Rx} {l l2 : V} (h : r.args = none) : r.parts l = r.parts l2 := by
  cases r <;> first | rfl | cases h
def spFzRow : Sp := fun vs H Q _ => ∃ (a l : Addr) (r : Rx), vs = [.ref a] ∧ H a = some (.tup (.str r.word :: r.parts (.ref l))) ∧ ArgsAt H l r ∧ ∀ p H', Same H H' → RowAt true H' p r → Q (.ref p) H' 
theorem sc_frozenR : FnScope ["thing", "part"] ["thing"] (defScope s_frozen) := ⟨rfl, rfl, rfl, by decide +kernel, rfl, by decide +kernel, by decide +kernel⟩
theorem ok_frozenR (T : Ctx w K mg) (H_frozen : Has P w K mg base 2 "frozen" ["thing"] spFzM) : Has P w K mg base 3 "frozen" ["thing"] spFzRow := by
  obtain ⟨fd, F⟩ := T.D_frozen
  obtain ⟨fd_frozen, G_frozen, b_frozen⟩ := H_frozen.ex
  refine ⟨⟨fd, F.ok sc_frozenR (fun vs H Q E h => ?_) (fun cdv A outer s H vs Q E hr h => ?_), F.bindsN fun _ _ _ _ _ _ us hl => match us, hl with | [_], _ => rfl⟩, F.kp, T.g_frozen⟩
  · obtain ⟨a, l, r, rfl, ha, hm, k⟩ := h; rfl
  · obtain ⟨a, l, r, rfl, ha, hm, k⟩ := h
    have hr_frozen : Room 2 _ := hr.mono (by decide)
    have hu := hu_of hr
    refine ⟨_, PSs.nox (pss_cons (ps_if (pt_val (pe_callB call_isiT (by rfl) T.f_isinstance (by decide +kernel) (pa_cons (pv 0) (pa_cons (pe_tup (pa_cons (pe_bltn (v := .ty "list") (u := .type "list") rfl T.f_list (by decide +kernel) rfl) (pa_cons (pe_bltn (v := .ty "tuple") (u := .type "tuple") rfl T.f_tuple (by decide +kernel) rfl) pa_nil))) pa_nil)))) (pss_one (ps_ret (pe_callTy call_tuple_of (by rfl) T.f_tuple (by decide +kernel) (pa_cons (pe_lc (own := [("part", 1)]) (g := gName 1) (tt := tYes) rfl sc_frozenR.nd (pi_tup (pv 0)) (blkOk_by (N := ["thing", "part"]) (sc := defScope s_frozen) (by decide +kernel)) (fun _ _ _ _ _ => (pg_name (i := 1) sc_frozenR.nd rfl (Or.inl rfl))) (fun _ _ _ _ _ => pts_nil) (fun _ _ _ _ _ => (pe_call G_frozen hr_frozen (by rfl) H_frozen.gl H_frozen.kp b_frozen .nil pass0 (pa_cons (pv 1) pa_nil)))) pa_nil)))) pss_nil)
      (pss_one (ps_ret (pv 0)))), ?_⟩
    refine ⟨_, rfl, sz_of (by decide), fun tp htp => ?_⟩
    have s1 : Same H (upd H tp (.tup [.ty "list", .ty "tuple"])) := Same.new htp
    refine ⟨_, _, _, _, _, true, rfl, upd_same, .cons (.ty _) (.cons (.ty _) .nil), .base (.tup (s1 _ _ ha)), kit2 (p := false) (q := true) (by decide +kernel) (by decide +kernel) rfl, _, rfl, iteT ?_⟩
    refine ⟨_, rfl, a, rfl, ⟨_, SqT.of (s1 _ _ ha)⟩, fun D hD => ?_⟩
    have hlp : (V.str r.word :: r.parts (.ref l)).length ≤ 4 := by cases r <;> simp [Rx.parts]
    refine lc_mix (walk_tup (K := K) (a := a) (xs := V.str r.word :: r.parts (.ref l))) hD (fun i => r.args.isSome && (i == 3)) (fun i => (V.str r.word :: r.parts (.ref l)).getD i .non) (fun _ => r.namesOf.map V.str) (by omega) (fun H2 s2 => SqT.of (s2 _ _ (s1 _ _ ha))) (fun i H2 y H3 hi s2 hy Qe qe => ?_) (fun H2 xs s2 hl hx h2 => ?_)
    · obtain ⟨rfl, hy⟩ := hy
      rcases parts_at hy with ⟨f1, c1⟩ | ⟨bs, hb, rfl, rfl⟩
      · exact ⟨rfl, _, rfl, .inl ⟨y, rfl, f1, fun H4 s4 => qe _ _ s4 (.inl ⟨c1, (getD_of hy).symm⟩)⟩⟩
      · obtain ⟨q1, q2⟩ := hm bs hb
        refine ⟨rfl, _, rfl, .inr ⟨l, bs.map V.str, rfl, s2 _ _ (s1 _ _ q1), fun x m => ?_, by rw [List.length_map]; exact q2, fun p H4 s4 hp => qe _ _ s4 (.inr ⟨by rw [hb]; rfl, p, rfl, ?_⟩)⟩⟩
        · obtain ⟨z, _, rfl⟩ := List.mem_map.mp m
          exact .str z
        · rw [hp]
          unfold Rx.namesOf
          rw [hb]
          rfl
    refine ⟨D, xs, rfl, .inl ⟨SqL.of h2, fun q hq => k q _ ((s1.trans s2).trans (Same.new hq)) ?_⟩⟩
    have same : ∀ (i : Nat) v, xs[i]? = some v → (r.args.isSome && (i == 3)) = false → v = (V.str r.word :: r.parts (.ref l)).getD i .non := fun i v e c => by
      rcases hx i v e with ⟨_, h⟩ | ⟨h, _⟩
      · exact h
      · have h2 : (r.args.isSome && (i == 3)) = true := h
        rw [c] at h2
        cases h2
    cases e : r.args with
    | none =>
      refine ⟨l, ?_, fun bs z => by rw [e] at z; cases z⟩
      rw [upd_same]
      have ex : xs = V.str r.word :: r.parts (.ref l) := by
        apply List.ext_getElem hl
        intro i h1 h3
        have := same i xs[i] (List.getElem?_eq_getElem h1) (by rw [e]; rfl)
        rw [this, List.getD_eq_getElem?_getD, List.getElem?_eq_getElem h3]
        rfl
      rw [ex]
    | some bs =>
      cases r with
      | call x F cs =>
        obtain rfl : cs = bs := Option.some.inj e
        have h4 : xs.length = 4 := hl
        match xs, h4 with
        | [a0, a1, a2, a3], _ =>
          have e0 := same 0 a0 rfl rfl
          have e1 := same 1 a1 rfl rfl
          have e2 := same 2 a2 rfl rfl
          rcases hx 3 a3 rfl with ⟨z, _⟩ | ⟨_, q3, e3, h3⟩
          · cases z
          · subst e0 e1 e2 e3
            exact ⟨q3, upd_same, fun bs2 z => by
              obtain rfl := Option.some.inj z
              exact Same.new hq _ _ h3⟩
      | _ => cases e

end
end W7
set_option Elab.async false
set_option linter.all false
set_option maxRecDepth 100000
set_option maxHeartbeats 4000000
namespace W7
open PySem PySem.Spec PyProof.Rows L2 RZ
section
variable {P : Program} {w : World} {K : PySem.W.Frag} {mg : Str → Option Value} {base : Heap}

theorem RowAt.put {H : Hp} {a D : Addr} {r : Rx} {xs ys : List V} (h : RowAt true H a r) (hD : H D = some (.lst xs)) : RowAt true (upd H D (.lst ys)) a r := by
  obtain ⟨l, h1, h2⟩ := h
  refine ⟨l, ?_, fun bs e => ?_⟩
  · rw [upd_ne (ne_of h1 hD (by intro z; cases z))]
    exact h1
  · have q := h2 bs e
    rw [if_pos rfl] at q ⊢
    rw [upd_ne (ne_of q hD (by intro z; cases z))]
    exact q
/-- a comprehension whose elements are kept rows -/
theorem lc_rows {J : It} {n : Nat} {G : Hp → Prop} {Y : Nat → Hp → V → Hp → Prop} (w : Walk J n G Y) {gg : TG} {te : TE} {vs : List Nat} {σ : L2.St} {H0 : Hp} {D : Addr} {Qd : Hp → Prop} (hD : H0 D = none) (rws : List Rx) (hn : n < 100000)
    (hG : ∀ H, Same H0 H → G H)
    (hs : ∀ i H x H', i < n → Same H0 H → Y i H x H' → ∀ Qe : VK, (∀ q H4, Same H H4 → (∀ r, rws[i]? = some r → RowAt true H4 q r) → Qe (.ref q) H4) → gg x (wipe σ vs) H' fun σ2 H2 => wipe σ2 vs = wipe σ vs ∧ te σ2 H2 Qe)
    (hd : ∀ (H : Hp) (qs : List Addr), Same H0 H → qs.length = n → (∀ (i : Nat) q r, qs[i]? = some q → rws[i]? = some r → RowAt true H q r) → H D = some (.lst (qs.map V.ref)) → Qd H) :
    ∃ W : Nat → Nat → Hp → Prop, (∃ m, W 0 m (upd H0 D (.lst []))) ∧ ∀ i m H, W i m H →
      (J.stop i H ∧ Qd H) ∨ (J.go i H ∧ ∃ Nx : Hp → Prop, (∀ H', Nx H' → ∃ m', m' < m ∧ W (i + 1) m' H') ∧ ∀ x H', J.yld i H x H' → gg x (wipe σ vs) H' fun σ2 H2 => wipe σ2 vs = wipe σ vs ∧ tYes σ2 H2 fun b H3 =>
        if b = true then te σ2 H3 fun y H4 => ∃ acc, H4 D = some (.lst acc) ∧ acc.length < sizeLine ∧ Nx (upd H4 D (.lst (acc ++ [y]))) else Nx H3) := by
  refine lc_it w (fun i H => Same H0 H ∧ ∃ qs : List Addr, qs.length = i ∧ (∀ (j : Nat) q r, qs[j]? = some q → rws[j]? = some r → RowAt true H q r) ∧ H D = some (.lst (qs.map V.ref))) ⟨Same.new hD, [], rfl, fun j q r e => by simp at e, upd_same⟩ (fun i H _ p => hG H p.1) (fun i x H H' hi q y => ?_) (fun H q => ?_)
  · obtain ⟨s1, qs, hl, hx, hDD⟩ := q
    have q := hs i H x H' hi s1 y (fun y H4 => ∃ acc, H4 D = some (.lst acc) ∧ acc.length < sizeLine ∧ (Same H0 (upd H4 D (.lst (acc ++ [y]))) ∧ ∃ qs : List Addr, qs.length = i + 1 ∧ (∀ (j : Nat) q r, qs[j]? = some q → rws[j]? = some r → RowAt true (upd H4 D (.lst (acc ++ [y]))) q r) ∧ upd H4 D (.lst (acc ++ [y])) D = some (.lst (qs.map V.ref)))) (fun q H4 s4 mv => ?_)
    · exact q
    · have h4 := s4 _ _ hDD
      refine ⟨_, h4, sz_lt (by rw [List.length_map]; omega), Same.mut (s1.trans s4) hD, qs ++ [q], by rw [List.length_append, hl]; rfl, fun j u r e er => RowAt.put ?_ h4, by rw [upd_same, List.map_append]; rfl⟩
      by_cases hj : j < qs.length
      · rw [List.getElem?_append_left hj] at e
        exact (hx j u r e er).mono s4
      · rw [List.getElem?_append_right (by omega)] at e
        have h2 := (List.getElem?_eq_some_iff.mp e).1
        simp at h2
        have ej : j = i := by omega
        have e0 : j - qs.length = 0 := by omega
        rw [e0] at e
        rw [← Option.some.inj e]
        exact mv r (by rw [← ej]; exact er)
  · obtain ⟨s1, xs, hl, hx, hDD⟩ := q
    exact hd H xs s1 hl hx hDD
/-- rows as they are handed in -/
structure RawRows (H : Hp) (rs : List Addr) (rws : List Rx) : Prop where
  len : rs.length = rws.length
  at_ : ∀ (i : Nat) a r, rs[i]? = some a → rws[i]? = some r → ∃ l, H a = some (.tup (.str r.word :: r.parts (.ref l))) ∧ ArgsAt H l r
theorem RawRows.mono {H H' : Hp} {rs : List Addr} {rws : List Rx} (h : RawRows H rs rws) (e : Same H H') : RawRows H' rs rws := ⟨h.len, fun i a r x y => by
  obtain ⟨l, q1, q2⟩ := h.at_ i a r x y
  exact ⟨l, e _ _ q1, q2.mono e⟩⟩
/-- rows as they are kept -/
structure KeptRows (H : Hp) (rs : List Addr) (rws : List Rx) : Prop where
  len : rs.length = rws.length
  at_ : ∀ (i : Nat) a r, rs[i]? = some a → rws[i]? = some r → RowAt true H a r
theorem KeptRows.mono {H H' : Hp} {rs : List Addr} {rws : List Rx} (h : KeptRows H rs rws) (e : Same H H') : KeptRows H' rs rws := ⟨h.len, fun i a r x y => (h.at_ i a r x y).mono e⟩
def spFzRows : Sp := fun vs H Q _ => ∃ (a : Addr) (rs : List Addr) (rws : List Rx), vs = [.ref a] ∧ H a = some (.lst (rs.map V.ref)) ∧ RawRows H rs rws ∧ rws.length ≤ 100 ∧ ∀ (q : Addr) (qs : List Addr) (H' : Hp), Same H H' → TupP H' q (qs.map V.ref) → KeptRows H' qs rws → Q (.ref q) H' 
theorem sc_frozenW : FnScope ["thing", "part"] ["thing"] (defScope s_frozen) := ⟨rfl, rfl, rfl, by decide +kernel, rfl, by decide +kernel, by decide +kernel⟩
theorem ok_frozenW (T : Ctx w K mg) (H_frozen : Has P w K mg base 3 "frozen" ["thing"] spFzRow) : Has P w K mg base 4 "frozen" ["thing"] spFzRows := by
  obtain ⟨fd, F⟩ := T.D_frozen
  obtain ⟨fd_frozen, G_frozen, b_frozen⟩ := H_frozen.ex
  refine ⟨⟨fd, F.ok sc_frozenW (fun vs H Q E h => ?_) (fun cdv A outer s H vs Q E hr h => ?_), F.bindsN fun _ _ _ _ _ _ us hl => match us, hl with | [_], _ => rfl⟩, F.kp, T.g_frozen⟩
  · obtain ⟨a, rs, rws, rfl, ha, hR, hl, k⟩ := h; rfl
  · obtain ⟨a, rs, rws, rfl, ha, hR, hl, k⟩ := h
    have hr_frozen : Room 3 _ := hr.mono (by decide)
    have hu := hu_of hr
    refine ⟨_, PSs.nox (pss_cons (ps_if (pt_val (pe_callB call_isiT (by rfl) T.f_isinstance (by decide +kernel) (pa_cons (pv 0) (pa_cons (pe_tup (pa_cons (pe_bltn (v := .ty "list") (u := .type "list") rfl T.f_list (by decide +kernel) rfl) (pa_cons (pe_bltn (v := .ty "tuple") (u := .type "tuple") rfl T.f_tuple (by decide +kernel) rfl) pa_nil))) pa_nil)))) (pss_one (ps_ret (pe_callTy call_tupleP (by rfl) T.f_tuple (by decide +kernel) (pa_cons (pe_lc (own := [("part", 1)]) (g := gName 1) (tt := tYes) rfl sc_frozenW.nd (pi_list (pv 0)) (blkOk_by (N := ["thing", "part"]) (sc := defScope s_frozen) (by decide +kernel)) (fun _ _ _ _ _ => (pg_name (i := 1) sc_frozenW.nd rfl (Or.inl rfl))) (fun _ _ _ _ _ => pts_nil) (fun _ _ _ _ _ => (pe_call G_frozen hr_frozen (by rfl) H_frozen.gl H_frozen.kp b_frozen .nil pass0 (pa_cons (pv 1) pa_nil)))) pa_nil)))) pss_nil)
      (pss_one (ps_ret (pv 0)))), ?_⟩
    refine ⟨_, rfl, sz_of (by decide), fun tp htp => ?_⟩
    have s1 : Same H (upd H tp (.tup [.ty "list", .ty "tuple"])) := Same.new htp
    refine ⟨_, _, _, _, _, true, rfl, upd_same, .cons (.ty _) (.cons (.ty _) .nil), .base (.lst (s1 _ _ ha)), kit2 (p := true) (q := false) (by decide +kernel) (by decide +kernel) rfl, _, rfl, iteT ?_⟩
    refine ⟨_, rfl, a, rfl, ⟨_, SqL.of (s1 _ _ ha)⟩, fun D hD => ?_⟩
    refine lc_rows (walk_list (K := K) (a := a) (xs := rs.map V.ref)) hD rws (by rw [List.length_map, hR.len]; omega) (fun H2 s2 => SqL.of (s2 _ _ (s1 _ _ ha))) (fun i H2 y H3 hi s2 hy Qe qe => ?_) (fun H2 qs s2 hq hqs h2 => ?_)
    · obtain ⟨rfl, hy⟩ := hy
      obtain ⟨p1, hp1, rfl⟩ := map_get hy
      have hir : i < rws.length := by
        rw [← hR.len]
        exact (List.getElem?_eq_some_iff.mp hp1).1
      have er : rws[i]? = some rws[i] := List.getElem?_eq_getElem hir
      obtain ⟨l, h3, h4⟩ := ((hR.mono s1).mono s2).at_ i p1 rws[i] hp1 er
      refine ⟨rfl, _, rfl, p1, l, rws[i], rfl, h3, h4, fun q H4 s4 hk => qe q _ s4 (fun r e => ?_)⟩
      rw [er] at e
      rw [← Option.some.inj e]
      exact hk
    · rw [List.length_map, hR.len] at hq
      refine ⟨D, _, rfl, SqL.of h2, fun l o hl2 po => k l qs _ ((s1.trans s2).trans (Same.new hl2)) ⟨o, upd_same, po⟩ ⟨hq, fun i p r e1 e2 => (hqs i p r e1 e2).mono (Same.new hl2)⟩⟩

end
end W7
set_option Elab.async false
set_option linter.all false
set_option maxRecDepth 100000
set_option maxHeartbeats 4000000
namespace W7
open PySem PySem.Spec PyProof.Rows L2 RZ
section
variable {P : Program} {w : World} {K : PySem.W.Frag} {mg : Str → Option Value} {base : Heap}

/-- list.extend of any tuple object -/
theorem extend_tupG (l : Addr) (xs : Array Value) (n : Nat) (b : Addr) (ys : Array Value) (n2 : Nat) (dd : Option Addr) (ss : Array (Option Value))
    (h0 : ¬(!xs.isEmpty && Builtin.List.listTooLong (xs.size + ys.size)) = true) (h1 : xs.size ≤ sizeLine) (h2 : xs.size + ys.size ≤ sizeLine + 1) :
    Meets (Builtin.«list.extend» ⟨[.ref l, .ref b], []⟩) (fun _ R s => s.heap.get? l = some { cls := .type "list", dict := none, data := .seq xs n, slots := #[] } ∧
      s.heap.get? b = some { cls := .type "tuple", dict := dd, data := .seq ys n2, slots := ss } ∧
      R (.ok (.ret Value.none)) { s with heap := s.heap.update l (Obj.mapSeq fun x => x ++ ys), toks := s.toks }) := by
  refine .of_wp fun prog w A R s h => ?_
  obtain ⟨hp, g, d, tk, os⟩ := s
  obtain ⟨hl, hb, h⟩ := h
  have f1 := AutoSeq1.idx_int
  have f2 := AutoSeq1.sub_tuple_tuple
  have f3 := AutoSeq1.sub_list_list
  have f4 := AutoSeq1.sub_tuple_list
  have f5 := AutoSeq1.sub_list_tuple
  have hz : (xs ++ ys).size ≤ sizeLine + 1 := by
    rw [Array.size_append]
    exact h2
  wp_walk using (wpAny_updateSeq hl rfl (hz := h1) (_hz' := hz)), wpAny_loadPart' hl, wpAny_loadPart' hb
  exact ⟨_, rfl, h⟩
def rExtendT (K : PySem.W.Frag) : V → List V → Hp → VK → Prop := fun x vs H Q => ∃ l b xs zs, x = .ref l ∧ vs = [.ref b] ∧ H l = some (.lst xs) ∧ SqT K H b zs ∧ xs.length + zs.length ≤ sizeLine ∧ Q .non (upd H l (.lst (xs ++ zs)))
theorem mt_extendT {X : Cx} : MtM X "list.extend" (rExtendT X.K) := by
  intro pins s σ H x vs v us Q I rx rv h
  obtain ⟨l, b, xs, zs, rfl, rfl, hH, hB, hz, q⟩ := h
  cases rx
  obtain ⟨u, rfl, ru⟩ := rv.one
  cases ru
  obtain ⟨z, its, n, r, hl, e⟩ := I.lstM hH
  obtain ⟨its2, r2, ⟨o, ho, hc, n2, hd⟩, hl2⟩ := I.tuple hB
  have e3 : xs.length = its.length := hl
  have e4 : zs.length = its2.length := r2.length
  have hsz : its.toArray.size + its2.toArray.size ≤ sizeLine := by rw [List.size_toArray, List.size_toArray]; omega
  have hlong : ¬ (!its.toArray.isEmpty && Builtin.List.listTooLong (its.toArray.size + its2.toArray.size)) = true := by
    rw [notLongL hsz, Bool.and_false]
    exact Bool.false_ne_true
  obtain ⟨oc, od, dt, osl⟩ := o
  subst hc hd
  refine call_meets F.slot_list_extend ⟨_, e, rfl⟩ F.entry_list_extend (F.args_list_extend_2 _ _)
    (extend_tupG l its.toArray n b its2.toArray n2 od osl hlong (by rw [List.size_toArray]; omega) (by omega)) ⟨e, ho, ?_⟩
  refine ⟨.non, _, I.lset (its' := its ++ its2) hH e (by simp) (r.append r2) ?_, rfl, q⟩
  rw [List.length_append]
  omega

end
end W7
set_option Elab.async false
set_option linter.all false
set_option maxRecDepth 100000
set_option maxHeartbeats 4000000
namespace W7
open PySem PySem.Spec PyProof.Rows L2 RZ
section
variable {P : Program} {w : World} {K : PySem.W.Frag} {mg : Str → Option Value} {base : Heap}

/-- row_reads, row_sets of rows as they are kept -/
def spReadsK : Sp := fun vs H Q _ => ∃ (a : Addr) (r : Rx), vs = [.ref a] ∧ RowAt true H a r ∧ r.reads.length ≤ 1000 ∧ ∀ p H', Same H H' → H p = none → H' p = some (.lst (r.reads.map V.str)) → Q (.ref p) H'
theorem Rx.args_le {r : Rx} {bs : List Str} (h : r.args = some bs) : bs = r.reads := by
  cases r with
  | call x F cs => exact (Option.some.inj h).symm
  | _ => cases h
theorem sc_row_readsK : FnScope ["row", "names", "role", "part"] ["row"] (defScope s_row_reads) := ⟨rfl, rfl, rfl, by decide +kernel, rfl, by decide +kernel, by decide +kernel⟩
theorem ok_row_readsK (T : Ctx w K mg) : Has P w K mg base 1 "row_reads" ["row"] spReadsK := by
  obtain ⟨fd, F⟩ := T.D_row_reads
  refine ⟨⟨fd, F.ok sc_row_readsK (fun vs H Q E h => ?_) (fun cdv A outer s H vs Q E hr h => ?_), F.bindsN fun _ _ _ _ _ _ us hl => match us, hl with | [_], _ => rfl⟩, F.kp, T.g_row_reads⟩
  · obtain ⟨a, r, rfl, hRow, hle, k⟩ := h; rfl
  · obtain ⟨a, r, rfl, hRow, hle, k⟩ := h
    have hu := hu_of hr
    refine ⟨_, PSs.nox (pss_cons (ps_set (i := 1) sc_row_readsK.nd rfl (Or.inl rfl) (pe_lst pa_nil))
      (pss_cons (ps_for PassesOwn.never rfl (pi_zipA (by rfl) T.f_zip (pa_cons (pe_ix ix_kdict (pe_glob (v := .ref (He.ga K "ROLES")) rfl T.g_ROLES rfl) (pe_ix ix_tup (pv 0) pe_int (fun _ _ => rfl)) (fun _ _ => rfl)) (pa_cons (pe_slice sl_tup (pv 0) (po_some pe_int) po_none) pa_nil))) (pg_tup rfl (pgs_cons (pg_name (i := 2) sc_row_readsK.nd rfl (Or.inl rfl)) (pgs_cons (pg_name (i := 3) sc_row_readsK.nd rfl (Or.inl rfl)) pgs_nil)))
      (pss_one (ps_if (pt_cmpR op_eq (pv 2) pe_str (nomark _)) (pss_one (ps_expr (pe_bm PySem.F.plainAttrs_list PySem.F.slot_list_append PySem.F.type_list_append mt_append (pv 1) (pa_cons (pv 3) pa_nil)))) (pss_one (ps_if (pt_cmpR op_eq (pv 2) pe_str (nomark _)) (pss_one (ps_expr (pe_bm PySem.F.plainAttrs_list PySem.F.slot_list_extend PySem.F.type_list_extend mt_extendT (pv 1) (pa_cons (pv 3) pa_nil)))) pss_nil)))))
      (pss_one (ps_ret (pv 1))))), ?_⟩
    obtain ⟨m, ha, hm0⟩ := hRow
    have hm : ∀ bs, r.args = some bs → H m = some (.tup (bs.map V.str)) ∧ bs.length ≤ 1000 := fun bs e => ⟨hm0 bs e, by rw [Rx.args_le e]; exact hle⟩
    have hro : ∀ H, SqT K H (rolA K r.word) (r.roles.map V.str) := fun H => (T.role (rx_roles_mem r) H).2
    have hlp : (r.parts (.ref m)).length ≤ 3 := by cases r <;> simp [Rx.parts]
    have hlr := r.lens (.ref m)
    refine ⟨sz_of (by decide), fun l hl => ?_⟩
    have s0 : Same H (upd H l (.lst [])) := Same.new hl
    refine ⟨_, rfl, _, _, _, _, rfl, rfl, SqT.of (s0 _ _ ha), at0, _, _, _, rfl, rfl, T.roleK (rx_roles_mem r), ?_⟩
    refine ⟨_, rfl, 1, rfl, a, _, rfl, SqT.of (s0 _ _ ha), slice1.2, fun t ht => ?_⟩
    have s1 : Same (upd H l (.lst [])) (upd (upd H l (.lst [])) t (.tup (cutV (V.str r.word :: r.parts (.ref m)) (some 1) none))) := Same.new ht
    have ht1 : (upd (upd H l (.lst [])) t (.tup (cutV (V.str r.word :: r.parts (.ref m)) (some 1) none))) t = some (.tup (r.parts (.ref m))) := by
      rw [upd_same]
      exact congrArg (fun l => some (HO.tup l)) slice1.1
    have hnl : r.namesOf.length ≤ 1000 := by
      unfold Rx.namesOf
      cases e : r.args with
      | none => simp
      | some bs => exact (hm bs e).2
    refine ⟨_, t, _, r.parts (.ref m), rfl, .inr ⟨hro _, SqT.of ht1, ?_⟩⟩
    refine for_it (walk_zipT (K := K) (xs := r.roles.map V.str) (ys := r.parts (.ref m)) (n := (r.parts (.ref m)).length) (by rw [List.length_map, hlr, Nat.min_self])) (fun i σ H1 => ∃ v1 v2 : Option V, σ = [some (.ref a), some (.ref l), v1, v2] ∧ Same H H1 ∧ H1 t = some (.tup (r.parts (.ref m))) ∧ H1 l = some (.lst (rdG (r.namesOf.map V.str) (r.roles.take i) ((r.parts (.ref m)).take i)))) ⟨none, none, rfl, s0.trans s1, ht1, s1 _ _ upd_same⟩ (fun i σ H1 _ ⟨_, _, _, _, h3, _⟩ => ⟨hro _, SqT.of h3⟩) ?_ ?_
    · rintro i y σ H1 H2 hi ⟨v1, v2, rfl, s2, h3, h4⟩ ⟨u, x, v, rfl, hu0, rfl, hx, hv⟩
      obtain ⟨role, e, rfl⟩ := map_get (show (r.roles.map V.str)[i]? = some x from hx)
      have hv : (r.parts (.ref m))[i]? = some v := hv
      have s3 : Same H1 (upd H1 u (.tup [V.str role, v])) := Same.new hu0
      have hsn := rdG_snoc (as := r.namesOf.map V.str) e hv
      have hsz : (rdG (r.namesOf.map V.str) (r.roles.take i) ((r.parts (.ref m)).take i)).length ≤ 3003 := by
        refine Nat.le_trans (rdG_len _ _) ?_
        rw [List.length_take, List.length_map]
        have h6 : min i r.roles.length ≤ 3 := by omega
        exact Nat.le_trans (Nat.mul_le_mul h6 (Nat.succ_le_succ hnl)) (by decide)
      have keep : ∀ {o : List V}, (upd (upd H1 u (.tup [V.str role, v])) l (.lst o)) t = some (.tup (r.parts (.ref m))) := fun {o} => by
        rw [upd_ne]
        · exact s3 _ _ h3
        · intro z
          rw [z, h4] at h3
          cases h3
      refine ⟨u, _, rfl, SqT.of upd_same, rfl, _, _, rfl, _, _, rfl, rfl, ?_⟩
      refine ⟨_, rfl, rfl, _, rfl, ?_⟩
      by_cases c : role = "reads"
      · rw [if_pos c] at hsn
        refine ifT (decide_eq_true (by rw [c])) ?_
        refine ⟨_, rfl, .inl ⟨rfl, _, SqL.of (s3 _ _ h4)⟩, _, rfl, l, _, _, rfl, rfl, s3 _ _ h4, sz_lt (by omega), ?_⟩
        exact ⟨_, _, rfl, Same.mut (s2.trans s3) hl, keep, by rw [upd_same, hsn]⟩
      · rw [if_neg c] at hsn
        refine ifF (decide_eq_false (fun z => c (V.str.inj z))) ?_
        refine ⟨_, rfl, rfl, _, rfl, ?_⟩
        by_cases c2 : role = "many"
        · subst c2
          obtain ⟨bs, hbs, rfl⟩ := Rx.many_at e hv
          rw [if_pos rfl] at hsn
          have hn : r.namesOf = bs := by
            unfold Rx.namesOf
            rw [hbs]
            rfl
          rw [hn] at hsn hsz h4
          refine ifT (decide_eq_true rfl) ?_
          have hml := s3 _ _ (s2 _ _ (hm bs hbs).1)
          refine ⟨_, rfl, .inl ⟨rfl, _, SqL.of (s3 _ _ h4)⟩, _, rfl, l, m, _, _, rfl, rfl, s3 _ _ h4, SqT.of hml, sz_of (by have := (hm bs hbs).2; rw [List.length_map]; omega), ?_⟩
          refine ⟨_, _, rfl, Same.mut (s2.trans s3) hl, ?_, by rw [upd_same, hn, hsn]⟩
          rw [upd_ne]
          · exact s3 _ _ h3
          · intro z
            rw [z, h4] at h3
            cases h3
        · rw [if_neg c2, List.append_nil] at hsn
          refine ifF (decide_eq_false (fun z => c2 (V.str.inj z))) ?_
          refine ⟨_, _, rfl, s2.trans s3, s3 _ _ h3, ?_⟩
          rw [hsn]
          exact s3 _ _ h4
    · rintro σ H1 ⟨v1, v2, rfl, s2, h3, h4⟩
      refine ⟨_, rfl, k l _ s2 hl ?_⟩
      rw [h4, List.take_of_length_le (by rw [hlr]; exact Nat.le_refl _), List.take_length, r.rd _ _ (fun bs hb => by unfold Rx.namesOf; rw [hb]; rfl)]

end
end W7
set_option Elab.async false
set_option linter.all false
set_option maxRecDepth 100000
set_option maxHeartbeats 4000000
namespace W7
open PySem PySem.Spec PyProof.Rows L2 RZ
section
variable {P : Program} {w : World} {K : PySem.W.Frag} {mg : Str → Option Value} {base : Heap}

theorem binNo : ∀ kk : Fin 4, inV (V.str (binW kk)) [.str "if", .str "jump"] = false := by decide +kernel
theorem KindsG.mono {H H' : Hp} {ks us kv : List (Key × V)} {res : Str} {r : Rx} (h : KindsG K H ks us kv res r) (e : Same H H') : KindsG K H' ks us kv res r := by
  cases r with
  | call x F bs =>
    obtain ⟨fp, dx, pa, fs, ps, qs, rs, h1, h2, h3⟩ := h
    exact ⟨fp, dx, pa, fs, ps, qs, rs, h1, h2.mono e, h3⟩
  | _ => exact h
/-- a Function's variables and result, where it stands -/
structure FnG (K : PySem.W.Frag) (H : Hp) (p dx va : Addr) (fs : List (Str × V)) (kv : List (Key × V)) (res : Str) : Prop where
  ob : H p = some (.ins (He.ga K "Function") dx fs)
  vars : fs.lookup ("variables" : Str) = some (.ref va)
  res : fs.lookup ("result" : Str) = some (.str res)
  vd : H va = some (.dK kv)
theorem FnG.mono {H H' : Hp} {p dx va : Addr} {fs : List (Str × V)} {kv : List (Key × V)} {res : Str} (h : FnG K H p dx va fs kv res) (e : Same H H') : FnG K H' p dx va fs kv res := ⟨e _ _ h.ob, h.vars, h.res, e _ _ h.vd⟩
def spIsRowOfG (K : PySem.W.Frag) : Sp := fun vs H Q _ => ∃ (p fp dx va a m0 : Addr) (fs : List (Str × V)) (cs ks us kv : List (Key × V)) (res : Str) (r : Rx) (m : Nat), vs = [.ref p, .ref fp, .ref a, .int m] ∧ SrcH K H p cs ks us ∧ FnG K H fp dx va fs kv res ∧ H a = some (.tup (.str r.word :: r.parts (.ref m0))) ∧ ArgsAt H m0 r ∧
  FormG H cs ks us (.ref m0) r ∧ KindsG K H ks us kv res r ∧ (∀ x ∈ r.names, ∃ v, valV kv (Sum.inr x : Key) = some v) ∧ (∀ g, r.goal = some g → g < m) ∧ ∀ H', Same H H' → Q (.bl true) H' 
theorem sc_Source_is_row_of : FnScope ["self", "function", "row", "many", "names", "name"] ["self", "function", "row", "many"] (defScope s_Source_is_row_of) := ⟨rfl, rfl, rfl, by decide +kernel, rfl, by decide +kernel, by decide +kernel⟩
theorem ok_Source_is_row_of (T : Ctx w K mg) (H_is_row : Has P w K mg base 5 "is_row" ["source", "thing", "words"] (spIsRowG K)) (H_row_sets : Has P w K mg base 1 "row_sets" ["row"] spSetsG) (H_row_reads : Has P w K mg base 1 "row_reads" ["row"] spReadsG) (H_row_kinds_fit : Has P w K mg base 3 "row_kinds_fit" ["source", "row", "kinds", "result"] (spFitG K)) : HasM P w K mg base 6 "Source" "_is_row_of" ["self", "function", "row", "many"] (spIsRowOfG K) := by
  obtain ⟨fd, F⟩ := T.D_Source_is_row_of
  obtain ⟨fd_is_row, G_is_row, b_is_row⟩ := H_is_row.ex
  obtain ⟨fd_row_sets, G_row_sets, b_row_sets⟩ := H_row_sets.ex
  obtain ⟨fd_row_reads, G_row_reads, b_row_reads⟩ := H_row_reads.ex
  obtain ⟨fd_row_kinds_fit, G_row_kinds_fit, b_row_kinds_fit⟩ := H_row_kinds_fit.ex
  refine ⟨⟨fd, F.ok sc_Source_is_row_of (fun vs H Q E h => ?_) (fun cdv A outer s H vs Q E hr h => ?_), F.bindsN fun _ _ _ _ _ _ us hl => match us, hl with | [_, _, _, _], _ => rfl⟩⟩
  · obtain ⟨p, fp, dx, va, a, m0, fs, cs, ks, us, kv, res, r, m, rfl, S0, F0, ha, hm, hb, hk, hn, hg, k⟩ := h; rfl
  · obtain ⟨p, fp, dx, va, a, m0, fs, cs, ks, us, kv, res, r, m, rfl, S0, F0, ha, hm, hb, hk, hn, hg, k⟩ := h
    have hr_is_row : Room 5 _ := hr.mono (by decide)
    have hr_row_sets : Room 1 _ := hr.mono (by decide)
    have hr_row_reads : Room 1 _ := hr.mono (by decide)
    have hr_row_kinds_fit : Room 3 _ := hr.mono (by decide)
    have hu := hu_of hr
    refine ⟨_, PSs.nox (pss_cons (ps_if (pt_not (pt_val (pe_call G_is_row hr_is_row (by rfl) H_is_row.gl H_is_row.kp b_is_row .nil pass0 (pa_cons (pv 0) (pa_cons (pv 2) (pa_cons (pe_glob (v := .ref (He.ga K "ROW_WORDS")) rfl T.g_ROW_WORDS rfl) pa_nil)))))) (pss_one (ps_ret pe_bl)) pss_nil)
      (pss_cons (ps_if (PW.pt (pw_and (pt_cmpR op_in_seq (pe_ix ix_tup (pv 2) pe_int (fun _ _ => rfl)) (pe_tup (pa_cons pe_str (pa_cons pe_str pa_nil))) rfl) (pw_and1 (pt_not (pt_chain op_le op_lt pe_int (pe_ix ix_tup (pv 2) (pe_un un_neg pe_int) (fun _ _ => rfl)) (pv 3)))))) (pss_one (ps_ret pe_bl)) pss_nil)
      (pss_cons (ps_set (i := 4) sc_Source_is_row_of.nd rfl (Or.inl rfl) (pe_lst (pa_cons (pe_call G_row_sets hr_row_sets (by rfl) H_row_sets.gl H_row_sets.kp b_row_sets .nil pass0 (pa_cons (pv 2) pa_nil)) pa_nil)))
      (pss_cons (ps_expr (pe_bm PySem.F.plainAttrs_list PySem.F.slot_list_extend PySem.F.type_list_extend mt_extend (pv 4) (pa_cons (pe_call G_row_reads hr_row_reads (by rfl) H_row_reads.gl H_row_reads.kp b_row_reads .nil pass0 (pa_cons (pv 2) pa_nil)) pa_nil)))
      (pss_cons (ps_if (pt_not (pt_val (pe_callB (cr_all rfl) (by rfl) T.f_all (by decide +kernel) (pa_cons (pe_lc (own := [("name", 5)]) (g := gName 5) (tt := tYes) rfl sc_Source_is_row_of.nd (pi_list (pv 4)) (blkOk_by (N := ["self", "function", "row", "many", "names", "name"]) (sc := defScope s_Source_is_row_of) (by decide +kernel)) (fun _ _ _ _ _ => (pg_name (i := 5) sc_Source_is_row_of.nd rfl (Or.inl rfl))) (fun _ _ _ _ _ => pts_nil) (fun _ _ _ _ _ => (pe_or (pe_cmpR op_isN (pv 5) pe_non (nomark _)) (pe_one (pe_cmp (pc_din hu (pv 5) (pe_fldK (K := K) rfl (pv 1) (by rfl))) (by rfl)))))) pa_nil)))) (pss_one (ps_ret pe_bl)) pss_nil)
      (pss_one (ps_ret (pe_call G_row_kinds_fit hr_row_kinds_fit (by rfl) H_row_kinds_fit.gl H_row_kinds_fit.kp b_row_kinds_fit .nil pass0 (pa_cons (pv 0) (pa_cons (pv 2) (pa_cons (pe_fldK (K := K) rfl (pv 1) (by rfl)) (pa_cons (pe_fldK (K := K) rfl (pv 1) (by rfl)) pa_nil)))))))))))), ?_⟩
    refine ⟨_, rfl, _, rfl, p, cs, ks, us, a, .ref m0, r, rfl, S0, ha, hb, fun H1 s1 => ⟨_, rfl, iteF ?_⟩⟩
    have ha1 := s1 _ _ ha
    have F1 := F0.mono s1
    have hrl : r.reads.length ≤ 1003 := by
      cases r with
      | call x F bs =>
        have := (hm bs rfl).2
        simp only [Rx.reads]
        omega
      | _ => simp [Rx.reads]
    refine ⟨_, rfl, _, _, _, _, rfl, rfl, SqT.of ha1, at0, ?_⟩
    refine ⟨sz_of (by decide), fun t ht => ⟨t, _, rfl, .inr (SqT.of upd_same), rfl, rfl, ?_⟩⟩
    have s2 : Same H1 (upd H1 t (.tup [.str "if", .str "jump"])) := Same.new ht
    cases e : r.goal with
    | none =>
      refine ⟨_, rfl, ifF ?_ ?_⟩
      · cases r <;> first | rfl | exact binNo _ | cases e
      refine iteF ?_
      have ha2 := s2 _ _ ha1
      refine ⟨_, rfl, a, .ref m0, r, rfl, ha2, sz_of (by show 1 ≤ 100000; decide), fun l hl => ?_⟩
      have s3 : Same (upd H1 t (.tup [.str "if", .str "jump"])) (upd (upd H1 t (.tup [.str "if", .str "jump"])) l (.lst [oS r.sets])) := Same.new hl
      refine ⟨_, rfl, .inl ⟨rfl, _, SqL.of upd_same⟩, _, rfl, a, m0, r, rfl, s3 _ _ ha2, hm.mono (s1.trans (s2.trans s3)), fun q H3 s4 _ hq => ?_⟩
      refine ⟨l, q, _, _, rfl, rfl, s4 _ _ upd_same, hq, sz_of ?_, ?_⟩
      · have := hrl
        simp only [List.length_map, List.length_cons, List.length_nil]
        omega
      have s5 : Same H1 (upd H3 l (.lst ([oS r.sets] ++ r.reads.map V.str))) := s2.trans (Same.mut (s3.trans s4) hl)
      refine ⟨_, rfl, l, rfl, ⟨_, SqL.of upd_same⟩, fun D hD => ?_⟩
      have hin : ∀ y ∈ ([oS r.sets] ++ r.reads.map V.str), y = .non ∨ ∃ x ∈ r.names, y = .str x := by
        intro y hy
        simp only [List.mem_append, List.mem_singleton, List.mem_map] at hy
        unfold Rx.names
        rcases hy with rfl | ⟨x, hx, rfl⟩
        · cases e : r.sets with
          | none => exact .inl rfl
          | some x => exact .inr ⟨x, List.mem_cons_self, rfl⟩
        · cases e : r.sets with
          | none => exact .inr ⟨x, hx, rfl⟩
          | some z => exact .inr ⟨x, List.mem_cons_of_mem _ hx, rfl⟩
      refine lc_pure (walk_list (K := K) (a := l) (xs := [oS r.sets] ++ r.reads.map V.str)) hD (fun _ => .bl true) ?_ (fun H4 s6 => SqL.of (s6 _ _ upd_same)) (fun i H4 y H5 hi s6 hy Qe qe => ?_) (fun H4 s6 h4 => ?_)
      · have := hrl
        simp only [List.length_append, List.length_map, List.length_cons, List.length_nil]
        omega
      · obtain ⟨rfl, hy⟩ := hy
        have F2 := F1.mono (s5.trans s6)
        rcases hin y (List.mem_of_getElem? hy) with rfl | ⟨x, hx, rfl⟩
        · exact ⟨rfl, _, rfl, rfl, _, rfl, iteT (qe _ (Same.refl _))⟩
        · obtain ⟨v, hv⟩ := hn x hx
          refine ⟨rfl, _, rfl, rfl, _, rfl, iteF ⟨_, rfl, _, rfl, fp, _, dx, fs, _, rfl, F2.ob, T.c_Function, T.n_Function_variables, F2.vars, va, some v, rfl, ?_, qe _ (Same.refl _)⟩⟩
          rw [← hv]
          exact DGet.k (k := Sum.inr x) F2.vd
      refine ⟨D, (List.range ([oS r.sets] ++ r.reads.map V.str).length).map (fun _ => true), rfl, SqL.of (by rw [h4, List.map_map]; rfl), _, rfl, ifF (show (!((List.range ([oS r.sets] ++ r.reads.map V.str).length).map (fun _ => true)).all id) = false by rw [all_true]; rfl) ?_⟩
      have F3 := F1.mono (s5.trans s6)
      refine ⟨_, rfl, _, rfl, _, rfl, fp, _, dx, fs, _, rfl, F3.ob, T.c_Function, T.n_Function_variables, F3.vars, _, rfl, fp, _, dx, fs, _, rfl, F3.ob, T.c_Function, T.n_Function_result, F3.res, p, a, m0, va, cs, ks, us, kv, res, r, rfl, S0.mono (s1.trans (s5.trans s6)), s6 _ _ (s5 _ _ ha1), hm.mono (s1.trans (s5.trans s6)), F3.vd, hk.mono (s1.trans (s5.trans s6)), fun H' s7 => k H' ((s1.trans (s5.trans s6)).trans s7)⟩
    | some gg =>
      have hgg := hg gg e
      have hat : atI (V.str r.word :: r.parts (.ref m0)) (-1) = some (.int gg) := by
        cases r with
        | ifz x z =>
          have e2 : z = gg := Option.some.inj e
          rw [← e2]
          exact atI_last [V.str "if", V.str x] (.int z)
        | jump z =>
          have e2 : z = gg := Option.some.inj e
          rw [← e2]
          exact atI_last [V.str "jump"] (.int z)
        | _ => cases e
      refine ⟨_, rfl, ifT ?_ ?_⟩
      · cases r <;> first | rfl | cases e
      refine ⟨_, rfl, 1, rfl, _, _, _, _, rfl, rfl, SqT.of (s2 _ _ ha1), hat, _, _, rfl, rfl, _, rfl, ifT (decide_eq_true (by omega)) ⟨_, rfl, _, _, rfl, rfl, _, rfl, ?_⟩⟩
      have eqq : (!decide ((gg : Int) < (m : Int))) = false := by
        rw [decide_eq_true (by omega)]
        rfl
      refine ifF eqq ?_
      have ha2 := s2 _ _ ha1
      refine ⟨_, rfl, a, .ref m0, r, rfl, ha2, sz_of (by show 1 ≤ 100000; decide), fun l hl => ?_⟩
      have s3 : Same (upd H1 t (.tup [.str "if", .str "jump"])) (upd (upd H1 t (.tup [.str "if", .str "jump"])) l (.lst [oS r.sets])) := Same.new hl
      refine ⟨_, rfl, .inl ⟨rfl, _, SqL.of upd_same⟩, _, rfl, a, m0, r, rfl, s3 _ _ ha2, hm.mono (s1.trans (s2.trans s3)), fun q H3 s4 _ hq => ?_⟩
      refine ⟨l, q, _, _, rfl, rfl, s4 _ _ upd_same, hq, sz_of ?_, ?_⟩
      · have := hrl
        simp only [List.length_map, List.length_cons, List.length_nil]
        omega
      have s5 : Same H1 (upd H3 l (.lst ([oS r.sets] ++ r.reads.map V.str))) := s2.trans (Same.mut (s3.trans s4) hl)
      refine ⟨_, rfl, l, rfl, ⟨_, SqL.of upd_same⟩, fun D hD => ?_⟩
      have hin : ∀ y ∈ ([oS r.sets] ++ r.reads.map V.str), y = .non ∨ ∃ x ∈ r.names, y = .str x := by
        intro y hy
        simp only [List.mem_append, List.mem_singleton, List.mem_map] at hy
        unfold Rx.names
        rcases hy with rfl | ⟨x, hx, rfl⟩
        · cases e : r.sets with
          | none => exact .inl rfl
          | some x => exact .inr ⟨x, List.mem_cons_self, rfl⟩
        · cases e : r.sets with
          | none => exact .inr ⟨x, hx, rfl⟩
          | some z => exact .inr ⟨x, List.mem_cons_of_mem _ hx, rfl⟩
      refine lc_pure (walk_list (K := K) (a := l) (xs := [oS r.sets] ++ r.reads.map V.str)) hD (fun _ => .bl true) ?_ (fun H4 s6 => SqL.of (s6 _ _ upd_same)) (fun i H4 y H5 hi s6 hy Qe qe => ?_) (fun H4 s6 h4 => ?_)
      · have := hrl
        simp only [List.length_append, List.length_map, List.length_cons, List.length_nil]
        omega
      · obtain ⟨rfl, hy⟩ := hy
        have F2 := F1.mono (s5.trans s6)
        rcases hin y (List.mem_of_getElem? hy) with rfl | ⟨x, hx, rfl⟩
        · exact ⟨rfl, _, rfl, rfl, _, rfl, iteT (qe _ (Same.refl _))⟩
        · obtain ⟨v, hv⟩ := hn x hx
          refine ⟨rfl, _, rfl, rfl, _, rfl, iteF ⟨_, rfl, _, rfl, fp, _, dx, fs, _, rfl, F2.ob, T.c_Function, T.n_Function_variables, F2.vars, va, some v, rfl, ?_, qe _ (Same.refl _)⟩⟩
          rw [← hv]
          exact DGet.k (k := Sum.inr x) F2.vd
      refine ⟨D, (List.range ([oS r.sets] ++ r.reads.map V.str).length).map (fun _ => true), rfl, SqL.of (by rw [h4, List.map_map]; rfl), _, rfl, ifF (show (!((List.range ([oS r.sets] ++ r.reads.map V.str).length).map (fun _ => true)).all id) = false by rw [all_true]; rfl) ?_⟩
      have F3 := F1.mono (s5.trans s6)
      refine ⟨_, rfl, _, rfl, _, rfl, fp, _, dx, fs, _, rfl, F3.ob, T.c_Function, T.n_Function_variables, F3.vars, _, rfl, fp, _, dx, fs, _, rfl, F3.ob, T.c_Function, T.n_Function_result, F3.res, p, a, m0, va, cs, ks, us, kv, res, r, rfl, S0.mono (s1.trans (s5.trans s6)), s6 _ _ (s5 _ _ ha1), hm.mono (s1.trans (s5.trans s6)), F3.vd, hk.mono (s1.trans (s5.trans s6)), fun H' s7 => k H' ((s1.trans (s5.trans s6)).trans s7)⟩

end
end W7
set_option Elab.async false
set_option linter.all false
set_option maxRecDepth 100000
set_option maxHeartbeats 4000000
namespace W7
open PySem PySem.Spec PyProof.Rows L2 RZ
section
variable {P : Program} {w : World} {K : PySem.W.Frag} {mg : Str → Option Value} {base : Heap}

/-- all but what stands at p is as it was -/
def But (p : Addr) (H H' : Hp) : Prop := ∀ b u, H b = some u → b ≠ p → H' b = some u
theorem But.refl (p : Addr) (H : Hp) : But p H H := fun _ _ h _ => h
theorem But.trans {p : Addr} {H H1 H2 : Hp} (a : But p H H1) (b : But p H1 H2) : But p H H2 := fun c u h n => b c u (a c u h n) n
theorem But.of {p : Addr} {H H' : Hp} (e : Same H H') : But p H H' := fun b u h _ => e b u h
theorem But.upd {p : Addr} {H : Hp} {o : HO} : But p H (upd H p o) := fun b u h n => by
  rw [upd_ne n]
  exact h
theorem FormG.mono {H H' : Hp} {cs ks us : List (Key × V)} {l : V} {r : Rx} (h : FormG H cs ks us l r) (e : Same H H') : FormG H' cs ks us l r := fun i x v a b => (h i x v a b).mono e
theorem KeptRows.tupfn {p C dx : Addr} {fs fs' : List (Str × V)} {H : Hp} {qs : List Addr} {rws : List Rx} (h : KeptRows H qs rws) (hp : H p = some (.ins C dx fs)) : KeptRows (L2.upd H p (.ins C dx fs')) qs rws :=
  ⟨h.len, fun i a r e1 e2 => by
    obtain ⟨l, h1, h2⟩ := h.at_ i a r e1 e2
    refine ⟨l, ?_, fun bs e => ?_⟩
    · rw [upd_ne (ne_of h1 hp (by intro z; cases z))]
      exact h1
    · have q := h2 bs e
      rw [if_pos rfl] at q ⊢
      rw [upd_ne (ne_of q hp (by intro z; cases z))]
      exact q⟩
def spTakeRG (K : PySem.W.Frag) : Sp := fun vs H Q _ => ∃ (p fp dy va ra : Addr) (kk : Int) (gs : List (Str × V)) (cs ks us kv : List (Key × V)) (res : Str) (rs : List Addr) (rws : List Rx), vs = [.ref p, .int kk, .ref fp, .ref ra] ∧ SrcH K H p cs ks us ∧ gs.length ≤ 900 ∧ FnG K H fp dy va gs kv res ∧ H ra = some (.lst (rs.map V.ref)) ∧ RawRows H rs rws ∧
  (∀ (i : Nat) a r l, rs[i]? = some a → rws[i]? = some r → H a = some (.tup (.str r.word :: r.parts (.ref l))) → FormG H cs ks us (.ref l) r) ∧ (∀ r ∈ rws, KindsG K H ks us kv res r ∧ (∀ x ∈ r.names, ∃ v, valV kv (Sum.inr x : Key) = some v) ∧ ∀ g, r.goal = some g → g < rws.length) ∧
  (∃ r0 rl, rws = r0 ++ [rl] ∧ (rl.word = ("jump" : Str) ∨ rl.word = ("return" : Str))) ∧ rws.length ≤ 40 ∧
  ∀ (H' : Hp) (q : Addr) (qs : List Addr), But fp H H' → FnG K H' fp dy va (putF "body" (.ref q) gs) kv res → TupP H' q (qs.map V.ref) → KeptRows H' qs rws → Q .non H' 
theorem sc_Source_take_rows : FnScope ["self", "k", "function", "rows", "r", "row"] ["self", "k", "function", "rows"] (defScope s_Source_take_rows) := ⟨rfl, rfl, rfl, by decide +kernel, rfl, by decide +kernel, by decide +kernel⟩
theorem ok_Source_take_rows (T : Ctx w K mg) (H_Source_is_row_of : HasM P w K mg base 6 "Source" "_is_row_of" ["self", "function", "row", "many"] (spIsRowOfG K)) (H_frozen : Has P w K mg base 4 "frozen" ["thing"] spFzRows) : HasM P w K mg base 7 "Source" "_take_rows" ["self", "k", "function", "rows"] (spTakeRG K) := by
  obtain ⟨fd, F⟩ := T.D_Source_take_rows
  obtain ⟨fd_Source_is_row_of, G_Source_is_row_of, b_Source_is_row_of⟩ := H_Source_is_row_of.ex
  obtain ⟨fd_frozen, G_frozen, b_frozen⟩ := H_frozen.ex
  refine ⟨⟨fd, F.ok sc_Source_take_rows (fun vs H Q E h => ?_) (fun cdv A outer s H vs Q E hr h => ?_), F.bindsN fun _ _ _ _ _ _ us hl => match us, hl with | [_, _, _, _], _ => rfl⟩⟩
  · obtain ⟨p, fp, dy, va, ra, kk, gs, cs, ks, us, kv, res, rs, rws, rfl, S0, few0, F0, hra, hR, hf, hok, hlast, hle, k⟩ := h; rfl
  · obtain ⟨p, fp, dy, va, ra, kk, gs, cs, ks, us, kv, res, rs, rws, rfl, S0, few0, F0, hra, hR, hf, hok, hlast, hle, k⟩ := h
    have hr_Source_is_row_of : Room 6 _ := hr.mono (by decide)
    have hr_frozen : Room 4 _ := hr.mono (by decide)
    have hu := hu_of hr
    refine ⟨_, PSs.nox (pss_cons (ps_for PassesOwn.never rfl (pi_enum (by rfl) T.f_enumerate (pa_cons (pv 3) pa_nil)) (pg_tup rfl (pgs_cons (pg_name (i := 4) sc_Source_take_rows.nd rfl (Or.inl rfl)) (pgs_cons (pg_name (i := 5) sc_Source_take_rows.nd rfl (Or.inl rfl)) pgs_nil)))
      (pss_one (ps_if (pt_not (pt_val (pe_meth (pv 0) T.c_Source T.m_Source_is_row_of G_Source_is_row_of hr_Source_is_row_of b_Source_is_row_of .nil pass0 (pa_cons (pv 2) (pa_cons (pv 5) (pa_cons (pe_callB call_len_seq (by rfl) T.f_len (by decide +kernel) (pa_cons (pv 3) pa_nil)) pa_nil)))))) (pss_one ps_never) pss_nil)))
      (pss_cons (ps_if (pt_cmpR op_notIn_seq (pe_ix ix_tup (pe_ix ix_list (pv 3) (pe_un un_neg pe_int) (fun _ _ => rfl)) pe_int (fun _ _ => rfl)) (pe_tup (pa_cons pe_str (pa_cons pe_str pa_nil))) rfl) (pss_one ps_never) pss_nil)
      (pss_one (ps_fld (pv 2) (pe_call G_frozen hr_frozen (by rfl) H_frozen.gl H_frozen.kp b_frozen .nil pass0 (pa_cons (pv 3) pa_nil)) rfl)))), ?_⟩
    obtain ⟨dx, df, dk, du, fs, S⟩ := id S0
    have hlr : rs.length = rws.length := hR.len
    have nra : ra ≠ fp := ne_of hra F0.ob (by intro z; cases z)
    refine ⟨_, rfl, ra, _, rfl, SqL.of hra, ?_⟩
    refine for_it (walk_enum (K := K) (a := ra) (xs := rs.map V.ref)) (fun i σ H1 => ∃ v1 v2 : Option V, σ = [some (.ref p), some (.int kk), some (.ref fp), some (.ref ra), v1, v2] ∧ Same H H1) ⟨none, none, rfl, Same.refl H⟩ (fun i σ H1 _ ⟨_, _, _, s1⟩ => SqL.of (s1 _ _ hra)) ?_ ?_
    · rintro i y σ H1 H2 hi ⟨v1, v2, rfl, s1⟩ ⟨u, a, b, rfl, hu0, rfl, h1, h2⟩
      have h2 : (rs.map V.ref)[i]? = some b := h2
      obtain rfl : V.int (i : Nat) = a := Option.some.inj h1
      obtain ⟨c, hc, rfl⟩ := map_get h2
      have hir : i < rws.length := by
        rw [← hlr]
        exact (List.getElem?_eq_some_iff.mp hc).1
      have hr1 : rws[i]? = some rws[i] := List.getElem?_eq_getElem hir
      obtain ⟨l, hca, hm⟩ := hR.at_ i c _ hc hr1
      have s2 : Same H1 (upd H1 u (.tup [.int (i : Nat), .ref c])) := Same.new hu0
      have s12 := s1.trans s2
      obtain ⟨q1, q2, q3⟩ := hok rws[i] (List.getElem_mem hir)
      refine ⟨u, _, rfl, SqT.of upd_same, rfl, _, _, rfl, _, _, rfl, rfl, ?_⟩
      refine ⟨_, rfl, p, dx, fs, rfl, s12 _ _ S.ob, S.nm _ (by decide +kernel), _, rfl, _, rfl, _, rfl, _, _, rfl, .inl (SqL.of (s12 _ _ hra)), ?_⟩
      refine ⟨p, fp, dy, va, c, l, gs, cs, ks, us, kv, res, rws[i], (rs.map V.ref).length, rfl, S0.mono s12, F0.mono s12, s12 _ _ hca, hm.mono s12, (hf i c _ l hc hr1 hca).mono s12, q1.mono s12, q2, fun g e => by rw [List.length_map, hlr]; exact q3 g e, fun H3 s3 => ⟨_, rfl, iteF ?_⟩⟩
      exact ⟨_, _, rfl, s12.trans s3⟩
    · rintro σ H1 ⟨v1, v2, rfl, s1⟩
      have hl2 := hlast
      obtain ⟨r0, rl, erl, hword⟩ := hl2
      have hrl : rws[r0.length]? = some rl := by
        rw [erl]
        simp
      have hl0 : rs.length = r0.length + 1 := by
        rw [hlr, erl]
        simp
      obtain ⟨c, hc⟩ : ∃ c, rs[r0.length]? = some c := ⟨rs[r0.length], List.getElem?_eq_getElem _⟩
      obtain ⟨l, hcl, _⟩ := hR.at_ _ c rl hc hrl
      have hat : atI (rs.map V.ref) (-1) = some (.ref c) := by
        have e1 : rs = rs.take r0.length ++ [c] := by
          have e2 := take_snoc hc
          rw [← e2, List.take_of_length_le (by omega)]
        rw [e1, List.map_append]
        exact atI_last _ _
      refine ⟨_, rfl, 1, rfl, _, _, _, _, rfl, rfl, SqL.of (s1 _ _ hra), hat, _, _, _, _, rfl, rfl, SqT.of (s1 _ _ hcl), at0, sz_of (by show 2 ≤ 100000; decide), fun t ht => ⟨t, _, rfl, .inr (SqT.of upd_same), rfl, rfl, _, rfl, ifF ?_ ?_⟩⟩
      · show (if true = true then !inV (V.str rl.word) [.str "jump", .str "return"] else inV (V.str rl.word) [.str "jump", .str "return"]) = false
        rcases hword with e | e <;> rw [e] <;> rfl
      have s2 : Same H1 (upd H1 t (.tup [.str "jump", .str "return"])) := Same.new ht
      have s12 := s1.trans s2
      refine ⟨_, rfl, ra, rs, rws, rfl, s12 _ _ hra, hR.mono s12, by omega, fun q qs H3 s3 tq hqs => ?_⟩
      have s13 := s12.trans s3
      refine ⟨_, rfl, fp, _, dy, _, rfl, s13 _ _ F0.ob, T.c_Function, T.n_Function_body, Nat.lt_of_le_of_lt few0 (by decide), ?_⟩
      refine k _ q qs ((But.of s13).trans But.upd) ⟨upd_same, ?_, ?_, ?_⟩ ?_ (hqs.tupfn (s13 _ _ F0.ob))
      · rw [lookup_putF, if_neg (by decide +kernel)]
        exact F0.vars
      · rw [lookup_putF, if_neg (by decide +kernel)]
        exact F0.res
      · rw [upd_ne (ne_of F0.vd F0.ob (by intro z; cases z))]
        exact s13 _ _ F0.vd
      · obtain ⟨ob, e, pl⟩ := tq
        exact ⟨ob, by rw [upd_ne (ne_of e (s13 _ _ F0.ob) (by intro z; cases z))]; exact e, pl⟩

end
end W7
set_option Elab.async false
set_option linter.all false
set_option maxRecDepth 100000
set_option maxHeartbeats 4000000
namespace W7
open PySem PySem.Spec PyProof.Rows L2
section
variable {P : Program} {w : World} {K : PySem.W.Frag} {mg : Str → Option Value} {base : Heap}
/-- what stands behind the top of an error of the program -/
structure ErrOk (K : PySem.W.Frag) (C : Addr) (fs : List Str) : Prop where
  ae : AE.AeC K C
  xf : XfC K C
  no : ∀ f ∈ fs, PySem.W.findIn K (.ref C) f = some none
  init : PySem.W.findIn K (.ref C) "__init__" = some (some (.ref (He.ma K C "__init__")))
  ty : PySem.W.typeIn K (.ref (He.ma K C "__init__")) = some (.type "function")
  at_ : PySem.W.findIn K (.ref C) "__class__" = some (some (.builtin "object.__class__"))
  mro : PySem.W.mroIn K C (.type "object") = some true
theorem errB_ok {C : Addr} {fs : List Str} (h : errB K C fs = true) : ErrOk K C fs := by
  obtain ⟨e1, e⟩ := He.ba h
  obtain ⟨e2, e⟩ := He.ba e
  obtain ⟨e3, e⟩ := He.ba e
  obtain ⟨e4, e⟩ := He.ba e
  obtain ⟨e5, e⟩ := He.ba e
  obtain ⟨e6, e7⟩ := He.ba e
  exact ⟨AE.aeB_ok e1, xfB_ok e2, fun f m => of_decide_eq_true (List.all_eq_true.mp e3 f m), of_decide_eq_true e4, of_decide_eq_true e5, He.eqO_ok e6, of_decide_eq_true e7⟩
theorem Ctx.tail (T : Ctx w K mg) : (isaB K (He.ga K "Source") && (errsB K && (marksB K && (eqB K && notB K)))) = true := (He.ba (He.ba (He.ba (He.ba T.more).2).2).2).2
theorem Ctx.errs (T : Ctx w K mg) : errsB K = true := (He.ba (He.ba T.tail).2).1
theorem Ctx.marks (T : Ctx w K mg) : marksB K = true := (He.ba (He.ba (He.ba T.tail).2).2).1
theorem Ctx.eqs (T : Ctx w K mg) : eqB K = true := (He.ba (He.ba (He.ba (He.ba T.tail).2).2).2).1
theorem Ctx.nots (T : Ctx w K mg) : notB K = true := (He.ba (He.ba (He.ba (He.ba T.tail).2).2).2).2
theorem Ctx.errS (T : Ctx w K mg) : ErrOk K (He.ga K "InvalidSource") ["part", "at"] := errB_ok (He.ba T.errs).1
theorem Ctx.errC (T : Ctx w K mg) : ErrOk K (He.ga K "InvalidCode") ["part", "at"] := errB_ok (He.ba (He.ba T.errs).2).1
theorem Ctx.errT (T : Ctx w K mg) : ErrOk K (He.ga K "InvalidText") ["line"] := errB_ok (He.ba (He.ba (He.ba T.errs).2).2).1
theorem Ctx.errSt (T : Ctx w K mg) : ErrOk K (He.ga K "InvalidState") ["part"] := errB_ok (He.ba (He.ba (He.ba (He.ba T.errs).2).2).2).1
theorem Ctx.errA (T : Ctx w K mg) : ErrOk K (He.ga K "InvalidArgument") ["part"] := errB_ok (He.ba (He.ba (He.ba (He.ba (He.ba T.errs).2).2).2).2).1
theorem Ctx.errN (T : Ctx w K mg) : ErrOk K (He.ga K "InvalidNumber") ["number"] := errB_ok (He.ba (He.ba (He.ba (He.ba (He.ba (He.ba T.errs).2).2).2).2).2).1
theorem Ctx.errL (T : Ctx w K mg) : ErrOk K (He.ga K "LimitExceeded") ["limit"] := errB_ok (He.ba (He.ba (He.ba (He.ba (He.ba (He.ba T.errs).2).2).2).2).2).2
theorem Ctx.exc (T : Ctx w K mg) {C : Addr} {fs : List Str} (O : ErrOk K C fs) : ExcC K C := by
  obtain ⟨_, e⟩ := He.ba (show (He.eqO (PySem.W.findIn K (.ref (He.ga K "Source")) "__class__") (some (some (.builtin "object.__class__"))) && (He.eqO (PySem.W.specialIn K (.builtin "object.__class__") "__get__") (some (some (.builtin "getset_descriptor.__get__"))) && (decide (PySem.W.takesIn K (.builtin "object.__class__") = some true) && (decide (PySem.W.mroIn K (He.ga K "Source") (.type "object") = some true) && decide (PySem.W.kitOne K (.ref (He.ga K "Source")) (.ref (He.ga K "Source")) = some true))))) = true from (He.ba T.tail).1)
  obtain ⟨e2, e⟩ := He.ba e
  obtain ⟨e3, _⟩ := He.ba e
  exact ⟨O.xf.ga, O.xf.gg, O.xf.exC, O.xf.hdC, O.at_, He.eqO_ok e2, of_decide_eq_true e3, O.mro⟩
def spTextInit (K : PySem.W.Frag) : Sp := fun vs H Q _ => ∃ (a C : Addr) (y : V), vs = [.ref a, y] ∧ ErrOk K C ["line"] ∧ H a = some (exo a C none) ∧ ∀ dx, H dx = none → dx ≠ a → Q .non (upd (upd H dx (exd dx [("line", y)])) a (exo a C (some dx)))
theorem sc_text_init : FnScope ["self", "line"] ["self", "line"] (defScope s_InvalidText_init) := ⟨rfl, rfl, rfl, by decide +kernel, rfl, by decide +kernel, by decide +kernel⟩
theorem ok_text_init (T : Ctx w K mg) : HasM P w K mg base 1 "InvalidText" "__init__" ["self", "line"] (spTextInit K) := by
  obtain ⟨fd, F⟩ := T.D_InvalidText_init
  refine ⟨⟨fd, F.ok sc_text_init (fun vs H Q E h => ?_) (fun cdv A outer s H vs Q E hr h => ?_), F.bindsN fun _ _ _ _ _ _ us hl => match us, hl with | [_, _], _ => rfl⟩⟩
  · obtain ⟨a, C, y, rfl, _⟩ := h
    rfl
  · obtain ⟨a, C, y, rfl, O, ha, k⟩ := h
    refine ⟨_, PSs.nox (pss_one (AE.ps_ast (pv 0) (pv 1))), ?_⟩
    exact ⟨_, rfl, _, rfl, a, C, rfl, O.ae, O.no _ (by simp), ha, fun dx n ne => k dx n ne⟩
def spSrcErr (K : PySem.W.Frag) : Sp := fun vs H Q _ => ∃ (a C : Addr) (y z : V), vs = [.ref a, y, z] ∧ ErrOk K C ["part", "at"] ∧ H a = some (exo a C none) ∧ ∀ dx, H dx = none → dx ≠ a → Q .non (upd (upd (upd H dx (exd dx [("part", y)])) a (exo a C (some dx))) dx (exd dx [("at", z), ("part", y)]))
theorem sc_src_err : FnScope ["self", "part", "at"] ["self", "part", "at"] (defScope s_InvalidSource_init) := ⟨rfl, rfl, rfl, by decide +kernel, rfl, by decide +kernel, by decide +kernel⟩
theorem ok_src_err (T : Ctx w K mg) : HasM P w K mg base 1 "InvalidSource" "__init__" ["self", "part", "at"] (spSrcErr K) := by
  obtain ⟨fd, F⟩ := T.D_InvalidSource_init
  refine ⟨⟨fd, F.ok sc_src_err (fun vs H Q E h => ?_) (fun cdv A outer s H vs Q E hr h => ?_), F.bindsN fun _ _ _ _ _ _ us hl => match us, hl with | [_, _, _], _ => rfl⟩⟩
  · obtain ⟨a, C, y, z, rfl, _⟩ := h
    rfl
  · obtain ⟨a, C, y, z, rfl, O, ha, k⟩ := h
    refine ⟨_, PSs.nox (pss_cons (AE.ps_ast (pv 0) (pv 1)) (pss_one (AE.ps_ast2 (pv 0) (pv 2)))), ?_⟩
    refine ⟨_, rfl, _, rfl, a, C, rfl, O.ae, O.no _ (by simp), ha, fun dx n ne => ?_⟩
    exact ⟨_, rfl, _, rfl, a, C, dx, _, rfl, O.ae, O.no _ (by simp), upd_same, by rw [upd_ne ne, upd_same], by show 1 ≤ 900; decide, k dx n ne⟩
theorem text_made {C a : Addr} {y : V} {H1 : Hp} {Q : XK} (hn : H1 a = none) (O : ErrOk K C ["line"]) (k : ∀ d, H1 d = none → Q (.ref C) (some d) (upd H1 d (.xd [("line", y)]))) :
    spTextInit K [.ref a, y] (upd H1 a (exo a C none)) (fun v H2 => v = .non ∧ ∃ (d : Addr) (fs : List (Str × V)), H2 a = some (exo a C (some d)) ∧ H2 d = some (exd d fs) ∧ H1 d = none ∧ Q (.ref C) (some d) (upd (del H2 a) d (.xd fs))) (fun _ _ _ => False) := by
  refine ⟨a, C, y, rfl, O, upd_same, fun d n ne => ⟨rfl, d, _, upd_same, by rw [upd_ne ne, upd_same], by rw [upd_ne ne] at n; exact n, ?_⟩⟩
  have n1 : H1 d = none := by rw [upd_ne ne] at n; exact n
  have e : upd (del (upd (upd (upd H1 a (exo a C none)) d (exd d [("line", y)])) a (exo a C (some d))) a) d (.xd [("line", y)]) = upd H1 d (.xd [("line", y)]) := by
    funext b
    by_cases c : b = d
    · rw [c, upd_same, upd_same]
    · rw [upd_ne c, upd_ne c]
      by_cases c2 : b = a
      · rw [c2, del_same, hn]
      · rw [del_ne c2, upd_ne c2, upd_ne c, upd_ne c2]
  rw [e]
  exact k d n1
theorem src_made {C a : Addr} {y z : V} {H1 : Hp} {Q : XK} (hn : H1 a = none) (O : ErrOk K C ["part", "at"]) (k : ∀ d, H1 d = none → Q (.ref C) (some d) (upd H1 d (.xd [("at", z), ("part", y)]))) :
    spSrcErr K [.ref a, y, z] (upd H1 a (exo a C none)) (fun v H2 => v = .non ∧ ∃ (d : Addr) (fs : List (Str × V)), H2 a = some (exo a C (some d)) ∧ H2 d = some (exd d fs) ∧ H1 d = none ∧ Q (.ref C) (some d) (upd (del H2 a) d (.xd fs))) (fun _ _ _ => False) := by
  refine ⟨a, C, y, z, rfl, O, upd_same, fun d n ne => ⟨rfl, d, _, by rw [upd_ne ne.symm, upd_same], upd_same, by rw [upd_ne ne] at n; exact n, ?_⟩⟩
  have n1 : H1 d = none := by rw [upd_ne ne] at n; exact n
  have e : upd (del (upd (upd (upd (upd H1 a (exo a C none)) d (exd d [("part", y)])) a (exo a C (some d))) d (exd d [("at", z), ("part", y)])) a) d (.xd [("at", z), ("part", y)]) = upd H1 d (.xd [("at", z), ("part", y)]) := by
    funext b
    by_cases c : b = d
    · rw [c, upd_same, upd_same]
    · rw [upd_ne c, upd_ne c]
      by_cases c2 : b = a
      · rw [c2, del_same, hn]
      · rw [del_ne c2, upd_ne c, upd_ne c2, upd_ne c, upd_ne c2]
  rw [e]
  exact k d n1
/-- raise C(e, ..) of an error of the program -/
theorem ps_raiseE {X : Cx} {x : Str} {C : Addr} {fs ps : List Str} {sp : Sp} {e : Expr} {es : List Expr} {ta : TA} {W : WX} {p pos pos2 : Pos} {k : Nat} {fd : FuncData} (hc : X.calm = true) (tk : Takes X W) (O : ErrOk X.K C fs)
    (F : FnOk X.prog X.w X.K X.mg X.base CX0 k (He.ma X.K C "__init__") fd ps sp) (b : Binds X.K fd ps []) (hr : Room (k + 1) X.A) (hg : Gl X x)
    (hm : X.mg x = some (.ref C)) (ha : PA X (e :: es) ta) (hd : (x == ("__debug__" : Str)) = false := by decide) (h1 : starEach (e :: es) X.env = (false, eval e X.env) :: starEach es X.env := by rfl) (h2 : (backTo pos (starEach es X.env)).any (·.1) = false := by rfl) :
    PS X (.Raise (some (.Call (.Name x p) (e :: es) [] pos)) none pos2) (fun _ σ H => tMkO C sp [] ta σ H fun cls d H' => W cls d σ H') :=
  ps_raise hc tk (AE.pmk_ae O.ae O.init O.ty F hr b pass0 hg hm ha hd h1 h2)
/-- a def that keeps its promise and may raise -/
structure HasX (P : Program) (w : World) (K : PySem.W.Frag) (mg : Str → Option Value) (base : Heap) (k : Nat) (x : Str) (ps : List Str) (sp : Sp) : Prop where
  ex : ∃ fd, FnOk P w K mg base (L2.CX P w) k (He.ga K x) fd ps sp ∧ Binds K fd ps []
  kp : PySem.W.keepIn K (.ref (He.ga K x)) = true
  gl : mg x = some (.ref (He.ga K x))
structure HasMX (P : Program) (w : World) (K : PySem.W.Frag) (mg : Str → Option Value) (base : Heap) (k : Nat) (C m : Str) (ps : List Str) (sp : Sp) : Prop where
  ex : ∃ fd, FnOk P w K mg base (L2.CX P w) k (He.ma K (He.ga K C) m) fd ps sp ∧ Binds K fd ps []
/-- what is wished of InvalidText(i), of InvalidSource(part, at) -/
def LineE (K : PySem.W.Frag) (H : Hp) (i : Int) (E : XK) : Prop := ∀ d, H d = none → E (.ref (He.ga K "InvalidText")) (some d) (upd H d (.xd [("line", .int i)]))
def SrcE (K : PySem.W.Frag) (H : Hp) (y z : V) (E : XK) : Prop := ∀ d, H d = none → E (.ref (He.ga K "InvalidSource")) (some d) (upd H d (.xd [("at", z), ("part", y)]))
end
end W7
set_option Elab.async false
set_option linter.all false
set_option maxRecDepth 100000
set_option maxHeartbeats 4000000
namespace W7
open PySem PySem.Spec PyProof.Rows L2
section
variable {P : Program} {w : World} {K : PySem.W.Frag} {mg : Str → Option Value} {base : Heap}

theorem cutS_len (z : Str) (lo hi : Option Int) : (cutS z lo hi).length ≤ z.length := by
  show (((z.cps.toList.drop (HT.sIx z.length 0 lo)).take (HT.sIx z.length z.length hi - HT.sIx z.length 0 lo)).toArray).size ≤ z.cps.size
  rw [List.size_toArray, List.length_take, List.length_drop, Array.length_toList]
  omega
/-- the words of a line -/
def wordsOf (line : Str) : Bool × List Str :=
  (Txt.startswith line "  ", if inV (.str "") ((Txt.split (if Txt.startswith line "  " = true then cutS line (some 2) none else line) " ").map V.str) = true then [] else Txt.split (if Txt.startswith line "  " = true then cutS line (some 2) none else line) " ")
def spWords : Sp := fun vs H Q _ => ∃ line, vs = [.str line] ∧ line.length ≤ 50000 ∧ ∀ (p a : Addr) (H' : Hp), Same H H' → H p = none → H a = none → H' p = some (.tup [.bl (wordsOf line).1, .ref a]) → H' a = some (.lst ((wordsOf line).2.map V.str)) → Q (.ref p) H'
/-- a text's lines, told -/
def told (t : Str) : List (Bool × List Str) := (Txt.split t "\n").dropLast.map wordsOf ++ (if (Txt.split t "\n").getLastD "" = "" then [] else [(false, [])])
def LinesAt (F H : Hp) (ps : List Addr) (ls : List (Bool × List Str)) : Prop := ps.length = ls.length ∧ ∀ (i : Nat) p l, ps[i]? = some p → ls[i]? = some l → ∃ a, F a = none ∧ H p = some (.tup [.bl l.1, .ref a]) ∧ H a = some (.lst (l.2.map V.str))
def spLines (K : PySem.W.Frag) : Sp := fun vs H Q E => ∃ v, vs = [v] ∧ ((∃ t, v = .str t ∧ t.length ≤ 50000 ∧ (∀ l ∈ Txt.split t "\n", l.length ≤ 50000) ∧ Txt.split t "\n" ≠ [] ∧ (Txt.split t "\n").length ≤ 50000 ∧ ∀ (q : Addr) (ps : List Addr) (H' : Hp), Same H H' → H q = none → H' q = some (.lst (ps.map V.ref)) → LinesAt H H' ps (told t) → Q (.ref q) H') ∨
  ((∃ c, TyX K H v c ∧ PySem.W.kitOne K c (.type "str") = some false) ∧ LineE K H (-1) E))
theorem none_of {H H' : Hp} {b : Addr} (e : Same H H') (h : H' b = none) : H b = none := by
  cases c : H b with
  | none => rfl
  | some o =>
    rw [e _ _ c] at h
    cases h
theorem flat_strs (l : List Str) : (l.map V.str).all flatV = true := by
  rw [List.all_map]
  exact List.all_eq_true.mpr fun _ _ => rfl
theorem sc_words_of : FnScope ["line", "inner", "words"] ["line"] (defScope s_words_of) := ⟨rfl, rfl, rfl, by decide +kernel, rfl, by decide +kernel, by decide +kernel⟩
theorem ok_words_of (T : Ctx w K mg) : Has P w K mg base 1 "_words_of" ["line"] spWords := by
  obtain ⟨fd, F⟩ := T.D_words_of
  refine ⟨⟨fd, F.ok sc_words_of (fun vs H Q E h => ?_) (fun cdv A outer s H vs Q E hr h => ?_), F.bindsN fun _ _ _ _ _ _ us hl => match us, hl with | [_], _ => rfl⟩, F.kp, T.g_words_of⟩
  · obtain ⟨line, rfl, hl, k⟩ := h; rfl
  · obtain ⟨line, rfl, hl, k⟩ := h
    have hu := hu_of hr
    obtain ⟨ti, e_INDENT⟩ := T.s_INDENT
    refine ⟨_, PSs.nox (pss_cons (ps_set (i := 1) sc_words_of.nd rfl (Or.inl rfl) (pe_m1 PySem.F.slot_str_startswith PySem.F.type_str_startswith mt_startswith (pv 0) (pe_glob (v := .str "  ") rfl e_INDENT ⟨_, rfl⟩)))
      (pss_cons (ps_set (i := 2) sc_words_of.nd rfl (Or.inl rfl) (pe_ifExp (pt_val (pv 1)) (pe_split (pe_slice sl_str (pv 0) (po_some (pe_callB call_len_str (by rfl) T.f_len (by decide +kernel) (pa_cons (pe_glob (v := .str "  ") rfl e_INDENT ⟨_, rfl⟩) pa_nil))) po_none) pe_str) (pe_split (pv 0) pe_str)))
      (pss_one (ps_ret (pe_tup (pa_cons (pv 1) (pa_cons (pe_ifExp (pt_cmpR op_in_seq pe_str (pv 2) rfl) (pe_lst pa_nil) (pv 2)) pa_nil))))))), ?_⟩
    have hz : line.length ≤ sizeLine := sz_of (by omega)
    unfold wordsOf at k
    refine ⟨_, rfl, ⟨_, rfl⟩, _, _, rfl, rfl, ?_⟩
    generalize hb : Txt.startswith line "  " = b at k ⊢
    cases b with
    | true =>
      refine ⟨_, rfl, _, rfl, iteT ⟨_, rfl, _, rfl, sz_of (by show 2 ≤ 100000; decide), 2, rfl, line, rfl, hz, ⟨_, rfl⟩, _, _, rfl, rfl, by decide +kernel, sz_of (by have := cutS_len line (some 2) none; omega), fun a ha => ?_⟩⟩
      have ez : (if true = true then cutS line (some 2) none else line) = cutS line (some 2) none := rfl
      rw [ez] at k
      refine ⟨_, rfl, _, rfl, a, _, rfl, .inl (SqL.of upd_same), rfl, flat_strs _, _, rfl, ?_⟩
      generalize hz2 : Txt.split (cutS line (some 2) none) " " = ws at k ⊢
      cases hv : inV (V.str "") (ws.map V.str) with
      | true =>
        rw [hv] at k
        refine ifT rfl ⟨sz_of (by show 0 ≤ 100000; decide), fun e he => ⟨sz_of (by show 2 ≤ 100000; decide), fun p hp => ?_⟩⟩
        have s1 := Same.new (o := .lst (ws.map V.str)) ha
        have s2 := Same.new (o := .lst []) he
        have s3 := Same.new (o := .tup [.bl true, .ref e]) hp
        exact k p e _ ((s1.trans s2).trans s3) (none_of (s1.trans s2) hp) (none_of s1 he) upd_same (s3 _ _ upd_same)
      | false =>
        rw [hv] at k
        refine ifF rfl ⟨_, rfl, sz_of (by show 2 ≤ 100000; decide), fun p hp => ?_⟩
        have s1 := Same.new (o := .lst (ws.map V.str)) ha
        have s3 := Same.new (o := .tup [.bl true, .ref a]) hp
        exact k p a _ (s1.trans s3) (none_of s1 hp) ha upd_same (s3 _ _ upd_same)
    | false =>
      refine ⟨_, rfl, _, rfl, iteF ⟨_, rfl, ⟨_, rfl⟩, _, _, rfl, rfl, by decide +kernel, sz_of (by omega), fun a ha => ?_⟩⟩
      have ez : (if false = true then cutS line (some 2) none else line) = line := rfl
      rw [ez] at k
      refine ⟨_, rfl, _, rfl, a, _, rfl, .inl (SqL.of upd_same), rfl, flat_strs _, _, rfl, ?_⟩
      generalize hz2 : Txt.split line " " = ws at k ⊢
      cases hv : inV (V.str "") (ws.map V.str) with
      | true =>
        rw [hv] at k
        refine ifT rfl ⟨sz_of (by show 0 ≤ 100000; decide), fun e he => ⟨sz_of (by show 2 ≤ 100000; decide), fun p hp => ?_⟩⟩
        have s1 := Same.new (o := .lst (ws.map V.str)) ha
        have s2 := Same.new (o := .lst []) he
        have s3 := Same.new (o := .tup [.bl false, .ref e]) hp
        exact k p e _ ((s1.trans s2).trans s3) (none_of (s1.trans s2) hp) (none_of s1 he) upd_same (s3 _ _ upd_same)
      | false =>
        rw [hv] at k
        refine ifF rfl ⟨_, rfl, sz_of (by show 2 ≤ 100000; decide), fun p hp => ?_⟩
        have s1 := Same.new (o := .lst (ws.map V.str)) ha
        have s3 := Same.new (o := .tup [.bl false, .ref a]) hp
        exact k p a _ (s1.trans s3) (none_of s1 hp) ha upd_same (s3 _ _ upd_same)
/-- elements of which something is known that lasts -/
theorem lc_exP {J : It} {n : Nat} {G : Hp → Prop} {Y : Nat → Hp → V → Hp → Prop} (w : Walk J n G Y) {g : TG} {te : TE} {vs : List Nat} {σ : L2.St} {H0 : Hp} {D : Addr} {Qd : Hp → Prop} (hD : H0 D = none) (P : Nat → V → Hp → Prop) (hm : ∀ i v H H', (∀ b u, H b = some u → b ≠ D → H' b = some u) → H D ≠ none → P i v H → P i v H') (hn : n < 100000)
    (hG : ∀ H, Same H0 H → G H)
    (hs : ∀ i H x H', i < n → Same H0 H → H D ≠ none → Y i H x H' → ∀ Qe : VK, (∀ v H4, Same H H4 → P i v H4 → Qe v H4) → g x (wipe σ vs) H' fun σ2 H2 => wipe σ2 vs = wipe σ vs ∧ te σ2 H2 Qe)
    (hd : ∀ (H : Hp) (xs : List V), Same H0 H → xs.length = n → (∀ (i : Nat) v, xs[i]? = some v → P i v H) → H D = some (.lst xs) → Qd H) :
    ∃ W : Nat → Nat → Hp → Prop, (∃ m, W 0 m (upd H0 D (.lst []))) ∧ ∀ i m H, W i m H →
      (J.stop i H ∧ Qd H) ∨ (J.go i H ∧ ∃ Nx : Hp → Prop, (∀ H', Nx H' → ∃ m', m' < m ∧ W (i + 1) m' H') ∧ ∀ x H', J.yld i H x H' → g x (wipe σ vs) H' fun σ2 H2 => wipe σ2 vs = wipe σ vs ∧ tYes σ2 H2 fun b H3 =>
        if b = true then te σ2 H3 fun y H4 => ∃ acc, H4 D = some (.lst acc) ∧ acc.length < sizeLine ∧ Nx (upd H4 D (.lst (acc ++ [y]))) else Nx H3) := by
  refine lc_it w (fun i H => Same H0 H ∧ ∃ xs : List V, xs.length = i ∧ (∀ (j : Nat) v, xs[j]? = some v → P j v H) ∧ H D = some (.lst xs)) ⟨Same.new hD, [], rfl, fun j v e => by simp at e, upd_same⟩ (fun i H _ p => hG H p.1) (fun i x H H' hi q y => ?_) (fun H q => ?_)
  · obtain ⟨s1, xs, hl, hx, hDD⟩ := q
    have q := hs i H x H' hi s1 (by rw [hDD]; intro z; cases z) y (fun y H4 => ∃ acc, H4 D = some (.lst acc) ∧ acc.length < sizeLine ∧ (Same H0 (upd H4 D (.lst (acc ++ [y]))) ∧ ∃ xs : List V, xs.length = i + 1 ∧ (∀ (j : Nat) v, xs[j]? = some v → P j v (upd H4 D (.lst (acc ++ [y])))) ∧ upd H4 D (.lst (acc ++ [y])) D = some (.lst xs))) (fun v H4 s4 pv => ?_)
    · exact q
    · have hD4 := s4 _ _ hDD
      refine ⟨xs, hD4, sz_lt (by omega), Same.mut (s1.trans s4) hD, xs ++ [v], by rw [List.length_append, hl]; rfl, fun j z m => ?_, upd_same⟩
      have kp : ∀ b u, H4 b = some u → b ≠ D → upd H4 D (.lst (xs ++ [v])) b = some u := fun b u q n => by
        rw [upd_ne n]
        exact q
      by_cases c : j < xs.length
      · rw [List.getElem?_append_left c] at m
        refine hm j z H4 _ kp (by rw [hD4]; intro z; cases z) (hm j z H H4 (fun b u q _ => s4 _ _ q) (by rw [hDD]; intro z; cases z) (hx j z m))
      · have cj : j = xs.length := by
          have := (List.getElem?_eq_some_iff.mp m).1
          rw [List.length_append, List.length_singleton] at this
          omega
        subst cj
        rw [List.getElem?_append_right (Nat.le_refl _), Nat.sub_self] at m
        rw [← Option.some.inj m, hl]
        exact hm i v H4 _ kp (by rw [hD4]; intro z; cases z) pv
  · obtain ⟨s1, xs, hl, hx, hDD⟩ := q
    exact hd H xs s1 hl hx hDD
/-- a told line, apart from D -/
def LineAt (F : Hp) (D : Addr) (l : Bool × List Str) (v : V) (H : Hp) : Prop := ∃ p a, v = .ref p ∧ p ≠ D ∧ a ≠ D ∧ F a = none ∧ H p = some (.tup [.bl l.1, .ref a]) ∧ H a = some (.lst (l.2.map V.str))
theorem LineAt.keep {F : Hp} {D : Addr} {l : Bool × List Str} {v : V} {H H' : Hp} (h : LineAt F D l v H) (k : ∀ b u, H b = some u → b ≠ D → H' b = some u) : LineAt F D l v H' := by
  obtain ⟨p, a, e, n1, n2, f, h1, h2⟩ := h
  exact ⟨p, a, e, n1, n2, f, k _ _ h1 n1, k _ _ h2 n2⟩
theorem lines_of {F : Hp} {D : Addr} {H : Hp} : ∀ {xs : List V} {ls : List (Bool × List Str)}, xs.length = ls.length → (∀ (i : Nat) v l, xs[i]? = some v → ls[i]? = some l → LineAt F D l v H) → ∃ ps : List Addr, xs = ps.map V.ref ∧ LinesAt F H ps ls
  | [], [], _, _ => ⟨[], rfl, rfl, fun i p l e => by simp at e⟩
  | [], _ :: _, hl, _ => by cases hl
  | _ :: _, [], hl, _ => by cases hl
  | x :: xs, l :: ls, hl, h => by
    obtain ⟨p, a, rfl, _, _, f0, h1, h2⟩ := h 0 x l rfl rfl
    obtain ⟨ps, rfl, e1, e2⟩ := lines_of (xs := xs) (ls := ls) (by simpa using hl) (fun i v l a b => h (i + 1) v l (by simpa using a) (by simpa using b))
    refine ⟨p :: ps, rfl, by rw [List.length_cons, List.length_cons, e1], fun i q m a1 b1 => ?_⟩
    cases i with
    | zero =>
      rw [← Option.some.inj a1, ← Option.some.inj b1]
      exact ⟨a, f0, h1, h2⟩
    | succ i => exact e2 i q m (by simpa using a1) (by simpa using b1)
theorem sc_text_lines : FnScope ["text", "lines", "rest", "told", "line"] ["text"] (defScope s_text_lines) := ⟨rfl, rfl, rfl, by decide +kernel, rfl, by decide +kernel, by decide +kernel⟩
theorem ok_text_lines (T : Ctx w K mg) (H_errT : HasM P w K mg base 1 "InvalidText" "__init__" ["self", "line"] (spTextInit K)) (H_words_of : Has P w K mg base 1 "_words_of" ["line"] spWords) : HasX P w K mg base 3 "text_lines" ["text"] (spLines K) := by
  obtain ⟨fd, F⟩ := T.D_text_lines
  obtain ⟨fd_words_of, G_words_of, b_words_of⟩ := H_words_of.ex
  refine ⟨⟨fd, F.ok sc_text_lines (fun vs H Q E h => ?_) (fun cdv A outer s H vs Q E hr h => ?_), F.bindsN fun _ _ _ _ _ _ us hl => match us, hl with | [_], _ => rfl⟩, F.kp, T.g_text_lines⟩
  · obtain ⟨v, rfl, k⟩ := h; rfl
  · obtain ⟨v, rfl, k⟩ := h
    have hr_words_of : Room 1 _ := hr.mono (by decide)
    have hu := hu_of hr
    obtain ⟨fd_errT, G_errT, b_errT⟩ := H_errT.ex
    have hr_errT : Room 2 _ := hr.mono (by decide)
    refine ⟨_, (pss_cons (ps_if (pt_not (pt_val (pe_callB call_isi (by rfl) T.f_isinstance (by decide +kernel) (pa_cons (pv 0) (pa_cons (pe_bltn (v := .ty "str") (u := .type "str") rfl T.f_str (by decide +kernel) rfl) pa_nil))))) (pss_one (ps_raiseE (x := "InvalidText") rfl (takes_of rfl rfl rfl rfl) T.errT G_errT b_errT hr_errT rfl T.g_InvalidText (by exact (pa_cons (pe_un un_neg pe_int) pa_nil)))) pss_nil)
      (pss_cons (ps_set (i := 1) sc_text_lines.nd rfl (Or.inl rfl) (pe_split (pv 0) pe_str))
      (pss_cons (ps_set (i := 2) sc_text_lines.nd rfl (Or.inl rfl) (pe_bm0 PySem.F.plainAttrs_list PySem.F.slot_list_pop PySem.F.type_list_pop mt_pop (pv 1)))
      (pss_cons (ps_setLc (i := 3) (own := [("line", 4)]) (g := gName 4) (tt := tYes) rfl sc_text_lines.nd rfl rfl (sw_true rfl rfl rfl (by decide +kernel)) (pi_list (pv 1)) (blkOk_by (N := ["text", "lines", "rest", "told", "line"]) (sc := defScope s_text_lines) (by decide +kernel)) (fun _ _ _ _ _ => (pg_name (i := 4) sc_text_lines.nd rfl (Or.inl rfl))) (fun _ _ _ _ _ => pts_nil) (fun _ _ _ _ _ => (pe_call G_words_of hr_words_of (by rfl) H_words_of.gl H_words_of.kp b_words_of .nil pass0 (pa_cons (pv 4) pa_nil))))
      (pss_cons (ps_if (pt_cmpR op_ne (pv 2) pe_str (nomark _)) (pss_one (ps_expr (pe_bm PySem.F.plainAttrs_list PySem.F.slot_list_append PySem.F.type_list_append mt_append (pv 3) (pa_cons (pe_tup (pa_cons pe_bl (pa_cons (pe_lst pa_nil) pa_nil))) pa_nil)))) pss_nil)
      (pss_one (ps_ret (pv 3)))))))), ?_⟩
    rcases k with ⟨t, rfl, h1, h2, h3, h4, k⟩ | ⟨⟨c, tx, kt⟩, kE⟩
    rotate_left
    · refine ⟨_, rfl, _, _, _, _, false, rfl, .ty _, tx, kt, false, rfl, iteT ?_⟩
      exact ⟨_, rfl, by show 1 ≤ 1000; decide, fun a hn => text_made hn T.errT fun d n => kE d n⟩
    refine ⟨_, rfl, _, _, _, _, true, rfl, .ty _, .base (.str t), kit_ty (by decide +kernel), true, rfl, iteF ?_⟩
    refine ⟨_, rfl, ⟨_, rfl⟩, _, _, rfl, rfl, by decide +kernel, sz_of (by omega), fun a ha => ?_⟩
    generalize hls : Txt.split t "\n" = ls at *
    have hne : (ls.map V.str) ≠ [] := by
      intro z
      exact h3 (List.map_eq_nil_iff.mp z)
    have hlast : (ls.map V.str)[(ls.map V.str).length - 1]? = some (.str (ls.getLastD "")) := by
      rw [List.length_map, List.getElem?_map]
      have e : ls[ls.length - 1]? = some (ls.getLastD "") := by
        rw [← List.getLast?_eq_getElem?, List.getLastD_eq_getLast?, List.getLast?_eq_some_getLast h3]
        rfl
      rw [e]
      rfl
    refine ⟨_, rfl, .inl ⟨rfl, _, SqL.of upd_same⟩, a, _, _, rfl, rfl, upd_same, hlast, ?_⟩
    rw [← List.map_dropLast]
    have ea : upd (upd H a (.lst (ls.map V.str))) a (.lst (ls.dropLast.map V.str)) = upd H a (.lst (ls.dropLast.map V.str)) := by
      funext b
      by_cases c : b = a
      · rw [c, upd_same, upd_same]
      · rw [upd_ne c, upd_ne c, upd_ne c]
    rw [ea]
    have s1 : Same H (upd H a (.lst (ls.dropLast.map V.str))) := Same.new ha
    have hA : upd H a (.lst (ls.dropLast.map V.str)) a = some (.lst (ls.dropLast.map V.str)) := upd_same
    generalize upd H a (.lst (ls.dropLast.map V.str)) = H1 at *
    refine ⟨_, rfl, a, rfl, ⟨_, SqL.of hA⟩, fun D hD => ?_⟩
    have hls2 : ls.dropLast.length ≤ 50000 := by rw [List.length_dropLast]; omega
    refine lc_exP (walk_list (K := K) (a := a) (xs := ls.dropLast.map V.str)) hD (fun i v Hz => ∀ l, (ls.dropLast.map wordsOf)[i]? = some l → LineAt H D l v Hz) (fun _ _ _ _ kp _ h l e => (h l e).keep kp) (by rw [List.length_map]; omega) (fun Ha sa => SqL.of (sa _ _ hA)) (fun i Ha xa Hb hi sa hDn hy Qe qe => ?_) (fun Hc xs sc hxl hxs hDc => ?_)
    · obtain ⟨rfl, hy⟩ := hy
      obtain ⟨z, hz, rfl⟩ := map_get hy
      have zm := List.mem_of_getElem? hz
      refine ⟨rfl, _, rfl, z, rfl, h2 z (List.dropLast_subset _ zm), fun p c He se np nc hp hc => qe _ _ se fun l e => ?_⟩
      rw [List.getElem?_map, hz] at e
      have el : wordsOf z = l := Option.some.inj e
      subst el
      exact ⟨p, c, rfl, fun w => hDn (by rw [← w]; exact np), fun w => hDn (by rw [← w]; exact nc), none_of (s1.trans sa) nc, hp, hc⟩
    obtain ⟨ps, rfl, lat⟩ := lines_of (ls := ls.dropLast.map wordsOf) (by rw [hxl, List.length_map, List.length_map]) (fun i v l e1 e2 => hxs i v e1 l e2)
    have sHc := s1.trans sc
    have hDN : H D = none := none_of s1 hD
    unfold told at k
    rw [hls] at k
    refine ⟨_, rfl, rfl, _, rfl, ?_⟩
    by_cases cz : ls.getLastD "" = ""
    · refine ifF (by rw [cz]; rfl) ⟨_, rfl, ?_⟩
      rw [if_pos cz, List.append_nil] at k
      exact k D ps Hc sHc hDN hDc lat
    · refine ifT (by rw [decide_eq_false (fun z => cz (V.str.inj z))]; rfl) ?_
      rw [if_neg cz] at k
      refine ⟨_, rfl, .inl ⟨rfl, _, SqL.of hDc⟩, sz_of (by show 0 ≤ 100000; decide), fun e he => ⟨sz_of (by show 2 ≤ 100000; decide), fun p hp => ?_⟩⟩
      have s2 := Same.new (o := .lst []) he
      have s3 := Same.new (o := .tup [.bl false, .ref e]) hp
      have s23 := s2.trans s3
      have hD3 := s23 _ _ hDc
      have nD : ∀ {b o}, upd (upd Hc e (.lst [])) p (.tup [.bl false, .ref e]) b = some o → Hc b = none → b ≠ D := fun {b o} _ n w => by
        rw [w, hDc] at n
        cases n
      have he3 : upd (upd Hc e (.lst [])) p (.tup [.bl false, .ref e]) e = some (.lst []) := s3 _ _ upd_same
      have hp3 : upd (upd Hc e (.lst [])) p (.tup [.bl false, .ref e]) p = some (.tup [.bl false, .ref e]) := upd_same
      have neD : e ≠ D := nD he3 he
      have npD : p ≠ D := nD hp3 (none_of s2 hp)
      generalize upd (upd Hc e (.lst [])) p (.tup [.bl false, .ref e]) = H3 at *
      have pl : ps.length = ls.dropLast.length := by
        have := lat.1
        rw [List.length_map] at this
        exact this
      refine ⟨D, _, _, rfl, rfl, hD3, sz_lt (by rw [List.length_map, pl]; omega), ?_⟩
      refine ⟨_, rfl, k D (ps ++ [p]) _ (Same.mut (sHc.trans s23) hDN) hDN (by rw [upd_same, List.map_append]; rfl) ⟨by rw [List.length_append, List.length_append, lat.1]; rfl, fun i q l e1 e2 => ?_⟩⟩
      by_cases hi : i < ps.length
      · rw [List.getElem?_append_left hi] at e1
        rw [List.getElem?_append_left (by rw [← lat.1]; exact hi)] at e2
        have hxi : (ps.map V.ref)[i]? = some (.ref q) := by rw [List.getElem?_map, e1]; rfl
        obtain ⟨q2, a2, eq2, n1, n2, f2, h1, h2⟩ := hxs i _ hxi l e2
        cases eq2
        exact ⟨a2, f2, by rw [upd_ne n1]; exact s23 _ _ h1, by rw [upd_ne n2]; exact s23 _ _ h2⟩
      · have hi2 : i = ps.length := by
          have := (List.getElem?_eq_some_iff.mp e1).1
          rw [List.length_append, List.length_singleton] at this
          omega
        subst hi2
        rw [List.getElem?_append_right (Nat.le_refl _), Nat.sub_self] at e1
        rw [List.getElem?_append_right (Nat.le_of_eq lat.1.symm), lat.1, Nat.sub_self] at e2
        rw [← Option.some.inj e1, ← Option.some.inj e2]
        exact ⟨e, none_of sHc he, by rw [upd_ne npD]; exact hp3, by rw [upd_ne neD]; exact he3⟩

end
end W7
set_option Elab.async false
set_option linter.all false
set_option maxRecDepth 100000
set_option maxHeartbeats 4000000
namespace W7
open PySem PySem.Spec PyProof.Rows L2
section
variable {P : Program} {w : World} {K : PySem.W.Frag} {mg : Str → Option Value} {base : Heap}

/-- pairs of a name and a kind -/
structure PairsG (H : Hp) (ps : List Addr) (qs : List (Str × Str)) : Prop where
  len : ps.length = qs.length
  at_ : ∀ (i : Nat) p q, ps[i]? = some p → qs[i]? = some q → H p = some (.tup [.str q.1, .str q.2])
theorem PairsG.mono {H H' : Hp} {ps : List Addr} {qs : List (Str × Str)} (h : PairsG H ps qs) (e : Same H H') : PairsG H' ps qs := ⟨h.len, fun i p x a b => e _ _ (h.at_ i p x a b)⟩
theorem PairsG.get {H : Hp} {ps : List Addr} {qs : List (Str × Str)} (h : PairsG H ps qs) {i : Nat} {y : V} (e : (ps.map V.ref)[i]? = some y) : ∃ p q, y = .ref p ∧ ps[i]? = some p ∧ qs[i]? = some q ∧ H p = some (.tup [.str q.1, .str q.2]) := by
  obtain ⟨p, hp, rfl⟩ := map_get e
  have hi : i < qs.length := by
    rw [← h.len]
    exact (List.getElem?_eq_some_iff.mp hp).1
  have hx : qs[i]? = some qs[i] := List.getElem?_eq_getElem hi
  exact ⟨p, _, rfl, hp, hx, h.at_ i p _ hp hx⟩
def IsKind (q : Str) : Prop := q = "number" ∨ q = "object"
def spKindG : Sp := fun vs H Q _ => ∃ q, vs = [.str q] ∧ IsKind q ∧ Q (.bl true) H
def spNamedG : Sp := fun vs H Q _ => ∃ (a : Addr) (ps : List Addr) (qs : List (Str × Str)) (m : Int), vs = [.ref a, .int m] ∧ H a = some (.lst (ps.map V.ref)) ∧ PairsG H ps qs ∧ (∀ q ∈ qs, Nam q.1 ∧ IsKind q.2) ∧ (qs.map Prod.fst).Nodup ∧ (qs.length : Int) ≤ m ∧ qs.length ≤ 100 ∧ ∀ H', Same H H' → Q (.bl true) H' 
theorem sc_is_kindG : FnScope ["thing"] ["thing"] (defScope s_is_kind) := ⟨rfl, rfl, rfl, by decide +kernel, rfl, by decide +kernel, by decide +kernel⟩
theorem ok_is_kindG (T : Ctx w K mg) : Has P w K mg base 1 "is_kind" ["thing"] spKindG := by
  obtain ⟨fd, F⟩ := T.D_is_kind
  refine ⟨⟨fd, F.ok sc_is_kindG (fun vs H Q E h => ?_) (fun cdv A outer s H vs Q E hr h => ?_), F.bindsN fun _ _ _ _ _ _ us hl => match us, hl with | [_], _ => rfl⟩, F.kp, T.g_is_kind⟩
  · obtain ⟨q, rfl, hq, k⟩ := h; rfl
  · obtain ⟨q, rfl, hq, k⟩ := h
    have hu := hu_of hr
    refine ⟨_, PSs.nox (pss_one (ps_ret (pe_and (pe_callB call_isi (by rfl) T.f_isinstance (by decide +kernel) (pa_cons (pv 0) (pa_cons (pe_bltn (v := .ty "str") (u := .type "str") rfl T.f_str (by decide +kernel) rfl) pa_nil))) (pe_one (pe_cmpR op_in_seq (pv 0) (pe_glob (v := .ref (He.ga K "KINDS")) rfl T.g_KINDS rfl) rfl))))), ?_⟩
    refine ⟨_, rfl, _, _, _, _, true, rfl, .ty _, .base (.str _), kit_ty (by decide +kernel), true, rfl, iteT ?_⟩
    refine ⟨_, rfl, _, _, rfl, .inr (T.kinds H), rfl, rfl, qT ?_ k⟩
    rcases hq with rfl | rfl <;> rfl
theorem sc_are_named_kindsG : FnScope ["thing", "most", "names", "pair"] ["thing", "most"] (defScope s_are_named_kinds) := ⟨rfl, rfl, rfl, by decide +kernel, rfl, by decide +kernel, by decide +kernel⟩
theorem ok_are_named_kindsG (T : Ctx w K mg) (H_is_list_of : Has P w K mg base 1 "is_list_of" ["thing", "least", "most"] spListOf) (H_is_tuple_of : Has P w K mg base 1 "is_tuple_of" ["thing", "many"] spTupOf) (H_is_name : Has P w K mg base 1 "is_name" ["thing"] spName) (H_is_kind : Has P w K mg base 1 "is_kind" ["thing"] spKindG) : Has P w K mg base 2 "are_named_kinds" ["thing", "most"] spNamedG := by
  obtain ⟨fd, F⟩ := T.D_are_named_kinds
  obtain ⟨fd_is_list_of, G_is_list_of, b_is_list_of⟩ := H_is_list_of.ex
  obtain ⟨fd_is_tuple_of, G_is_tuple_of, b_is_tuple_of⟩ := H_is_tuple_of.ex
  obtain ⟨fd_is_name, G_is_name, b_is_name⟩ := H_is_name.ex
  obtain ⟨fd_is_kind, G_is_kind, b_is_kind⟩ := H_is_kind.ex
  refine ⟨⟨fd, F.ok sc_are_named_kindsG (fun vs H Q E h => ?_) (fun cdv A outer s H vs Q E hr h => ?_), F.bindsN fun _ _ _ _ _ _ us hl => match us, hl with | [_, _], _ => rfl⟩, F.kp, T.g_are_named_kinds⟩
  · obtain ⟨a, ps, qs, m, rfl, ha, hp, hN, hnd, hm, h100, k⟩ := h; rfl
  · obtain ⟨a, ps, qs, m, rfl, ha, hp, hN, hnd, hm, h100, k⟩ := h
    have hr_is_list_of : Room 1 _ := hr.mono (by decide)
    have hr_is_tuple_of : Room 1 _ := hr.mono (by decide)
    have hr_is_name : Room 1 _ := hr.mono (by decide)
    have hr_is_kind : Room 1 _ := hr.mono (by decide)
    have hu := hu_of hr
    refine ⟨_, PSs.nox (pss_cons (ps_if (pt_not (pt_val (pe_call G_is_list_of hr_is_list_of (by rfl) H_is_list_of.gl H_is_list_of.kp b_is_list_of .nil pass0 (pa_cons (pv 0) (pa_cons pe_int (pa_cons (pv 1) pa_nil)))))) (pss_one (ps_ret pe_bl)) pss_nil)
      (pss_cons (ps_set (i := 2) sc_are_named_kindsG.nd rfl (Or.inl rfl) pe_dnewK)
      (pss_cons (ps_for PassesOwn.never rfl (pi_list (pv 0)) (pg_name (i := 3) sc_are_named_kindsG.nd rfl (Or.inl rfl))
      (pss_cons (ps_if (PW.pt (pw_or (pt_not (pt_val (pe_call G_is_tuple_of hr_is_tuple_of (by rfl) H_is_tuple_of.gl H_is_tuple_of.kp b_is_tuple_of .nil pass0 (pa_cons (pv 3) (pa_cons pe_int pa_nil))))) (pw_or (pt_not (pt_val (pe_call G_is_name hr_is_name (by rfl) H_is_name.gl H_is_name.kp b_is_name .nil pass0 (pa_cons (pe_ix ix_tup (pv 3) pe_int (fun _ _ => rfl)) pa_nil)))) (pw_or1 (pt_not (pt_val (pe_call G_is_kind hr_is_kind (by rfl) H_is_kind.gl H_is_kind.kp b_is_kind .nil pass0 (pa_cons (pe_ix ix_tup (pv 3) pe_int (fun _ _ => rfl)) pa_nil)))))))) (pss_one (ps_ret pe_bl)) pss_nil)
      (pss_cons (ps_if (pt_cmp (pc_din hu (pe_ix ix_tup (pv 3) pe_int (fun _ _ => rfl)) (pv 2))) (pss_one (ps_ret pe_bl)) pss_nil)
      (pss_one (ps_dput hu (pv 2) (pe_ix ix_tup (pv 3) pe_int (fun _ _ => rfl)) pe_bl rfl)))))
      (pss_one (ps_ret pe_bl))))), ?_⟩
    have hlp : (ps.map V.ref).length = qs.length := by rw [List.length_map, hp.len]
    refine ⟨_, rfl, _, rfl, a, ps.map V.ref, 0, m, rfl, ha, by omega, by rw [hlp]; exact hm, _, rfl, iteF ?_⟩
    intro d hd
    have s1 : Same H (upd H d (.dK [])) := Same.new hd
    refine ⟨_, rfl, a, rfl, ⟨_, SqL.of (s1 _ _ ha)⟩, ?_⟩
    refine for_it (walk_list (K := K) (a := a) (xs := ps.map V.ref)) (fun i σ H1 => ∃ v : Option V, σ = [some (.ref a), some (.int m), some (.ref d), v] ∧ Same H H1 ∧ H1 d = some (.dK (kvT ((qs.map Prod.fst).take i) fun _ => .bl true))) ⟨none, rfl, s1, upd_same⟩ (fun i σ H1 _ ⟨v, _, s2, _⟩ => SqL.of (s2 _ _ ha)) ?_ ?_
    · rintro i y σ H1 H2 hi ⟨v, rfl, s2, h2⟩ ⟨rfl, hy⟩
      obtain ⟨p, x, rfl, hpi, hni, hpt⟩ := hp.get hy
      have hx := s2 _ _ hpt
      have hni1 : (qs.map Prod.fst)[i]? = some x.1 := by
        rw [List.getElem?_map, hni]
        rfl
      have hnot := not_in_take hnd hni1
      obtain ⟨n1, n2⟩ := hN x (List.mem_of_getElem? hni)
      refine ⟨_, rfl, p, _, 2, rfl, hx, rfl, _, rfl, ?_⟩
      refine iteF ⟨_, rfl, _, _, _, _, rfl, rfl, SqT.of hx, at0, x.1, rfl, n1, fun H3 s3 => ⟨_, rfl, iteF ?_⟩⟩
      have hx3 := s3 _ _ hx
      refine ⟨_, rfl, _, _, _, _, rfl, rfl, SqT.of hx3, at1, x.2, rfl, n2, _, rfl, iteF ?_⟩
      have h3 := s3 _ _ h2
      refine ⟨_, rfl, _, _, _, _, rfl, rfl, SqT.of hx3, at0, _, rfl, d, _, rfl, DGet.k (k := Sum.inr x.1) h3, _, rfl, ?_⟩
      refine ifF (by rw [valV_kvT hnot]; rfl) ?_
      refine ⟨_, rfl, _, rfl, _, _, _, _, rfl, rfl, SqT.of hx3, at0, d, _, rfl, DPut.k (k := Sum.inr x.1) h3 (small1000 ?_), ?_⟩
      · unfold kvT
        rw [List.length_map, List.length_take, List.length_map]
        omega
      · refine ⟨_, rfl, Same.mut (s2.trans s3) hd, ?_⟩
        rw [upd_same, take_snoc hni1]
        exact congrArg (fun l => some (HO.dK l)) (putK_kvT hnot)
    · rintro σ H1 ⟨v, rfl, s2, h2⟩
      exact k _ s2

end
end W7
set_option Elab.async false
set_option linter.all false
set_option maxRecDepth 100000
set_option maxHeartbeats 4000000
namespace W7
open PySem PySem.Spec PyProof.Rows L2
section
variable {P : Program} {w : World} {K : PySem.W.Frag} {mg : Str → Option Value} {base : Heap}

theorem PairsG.append {H : Hp} {ps qs : List Addr} {ns ms : List (Str × Str)} (h : PairsG H ps ns) (h2 : PairsG H qs ms) : PairsG H (ps ++ qs) (ns ++ ms) := by
  refine ⟨by rw [List.length_append, List.length_append, h.len, h2.len], fun i p x a b => ?_⟩
  by_cases hi : i < ps.length
  · rw [List.getElem?_append_left hi] at a
    rw [List.getElem?_append_left (by rw [← h.len]; exact hi)] at b
    exact h.at_ i p x a b
  · rw [List.getElem?_append_right (by omega)] at a
    rw [List.getElem?_append_right (by rw [← h.len]; omega), ← h.len] at b
    exact h2.at_ _ p x a b
/-- a function as it is handed in, all but its rows -/
structure EntryG (H : Hp) (e pa oa ra : Addr) (nm res : Str) (ps qs : List Addr) (ns ms : List (Str × Str)) (rs : List V) : Prop where
  he : H e = some (.tup [.str nm, .ref pa, .ref oa, .str res, .ref ra])
  nf : Nam nm
  kd : IsKind res
  hpa : H pa = some (.lst (ps.map V.ref))
  p1 : PairsG H ps ns
  hoa : H oa = some (.lst (qs.map V.ref))
  p2 : PairsG H qs ms
  nam : ∀ q ∈ ns ++ ms, Nam q.1 ∧ IsKind q.2
  nd : ((ns ++ ms).map Prod.fst).Nodup
  l1 : ns.length ≤ 4
  l2 : ms.length ≤ 8
  hra : H ra = some (.lst rs)
  l3 : 1 ≤ rs.length
  l4 : rs.length ≤ 40
def spHeadG : Sp := fun vs H Q _ => ∃ (e pa oa ra : Addr) (nm res : Str) (ps qs : List Addr) (ns ms : List (Str × Str)) (rs : List V), vs = [.ref e] ∧ EntryG H e pa oa ra nm res ps qs ns ms rs ∧ ∀ H', Same H H' → Q (.bl true) H'
/-- a class as it is handed in -/
def spClassG : Sp := fun vs H Q _ => ∃ (e fa : Addr) (nm : Str) (ps : List Addr) (ns : List (Str × Str)), vs = [.ref e] ∧ H e = some (.tup [.str nm, .ref fa]) ∧ Nam nm ∧ H fa = some (.lst (ps.map V.ref)) ∧ PairsG H ps ns ∧ (∀ q ∈ ns, Nam q.1 ∧ IsKind q.2) ∧ (ns.map Prod.fst).Nodup ∧ ns.length ≤ 4 ∧ ∀ H', Same H H' → Q (.bl true) H' 
theorem sc_is_head : FnScope ["entry"] ["entry"] (defScope s_is_head) := ⟨rfl, rfl, rfl, by decide +kernel, rfl, by decide +kernel, by decide +kernel⟩
theorem ok_is_head (T : Ctx w K mg) (H_is_tuple_of : Has P w K mg base 1 "is_tuple_of" ["thing", "many"] spTupOf) (H_is_name : Has P w K mg base 1 "is_name" ["thing"] spName) (H_is_kind : Has P w K mg base 1 "is_kind" ["thing"] spKindG) (H_are_named_kinds : Has P w K mg base 2 "are_named_kinds" ["thing", "most"] spNamedG) (H_is_list_of : Has P w K mg base 1 "is_list_of" ["thing", "least", "most"] spListOf) : Has P w K mg base 3 "_is_head" ["entry"] spHeadG := by
  obtain ⟨fd, F⟩ := T.D_is_head
  obtain ⟨fd_is_tuple_of, G_is_tuple_of, b_is_tuple_of⟩ := H_is_tuple_of.ex
  obtain ⟨fd_is_name, G_is_name, b_is_name⟩ := H_is_name.ex
  obtain ⟨fd_is_kind, G_is_kind, b_is_kind⟩ := H_is_kind.ex
  obtain ⟨fd_are_named_kinds, G_are_named_kinds, b_are_named_kinds⟩ := H_are_named_kinds.ex
  obtain ⟨fd_is_list_of, G_is_list_of, b_is_list_of⟩ := H_is_list_of.ex
  refine ⟨⟨fd, F.ok sc_is_head (fun vs H Q E h => ?_) (fun cdv A outer s H vs Q E hr h => ?_), F.bindsN fun _ _ _ _ _ _ us hl => match us, hl with | [_], _ => rfl⟩, F.kp, T.g_is_head⟩
  · obtain ⟨e, pa, oa, ra, nm, res, ps, qs, ns, ms, rs, rfl, E0, k⟩ := h; rfl
  · obtain ⟨e, pa, oa, ra, nm, res, ps, qs, ns, ms, rs, rfl, E0, k⟩ := h
    have hr_is_tuple_of : Room 1 _ := hr.mono (by decide)
    have hr_is_name : Room 1 _ := hr.mono (by decide)
    have hr_is_kind : Room 1 _ := hr.mono (by decide)
    have hr_are_named_kinds : Room 2 _ := hr.mono (by decide)
    have hr_is_list_of : Room 1 _ := hr.mono (by decide)
    have hu := hu_of hr
    obtain ⟨t_MOST_PARAMETERS, e_MOST_PARAMETERS⟩ := T.i_MOST_PARAMETERS
    obtain ⟨t_MOST_OTHERS, e_MOST_OTHERS⟩ := T.i_MOST_OTHERS
    obtain ⟨t_MOST_ROWS, e_MOST_ROWS⟩ := T.i_MOST_ROWS
    refine ⟨_, PSs.nox (pss_cons (ps_if (PW.pt (pw_or (pt_not (pt_val (pe_call G_is_tuple_of hr_is_tuple_of (by rfl) H_is_tuple_of.gl H_is_tuple_of.kp b_is_tuple_of .nil pass0 (pa_cons (pv 0) (pa_cons pe_int pa_nil))))) (pw_or (pt_not (pt_val (pe_call G_is_name hr_is_name (by rfl) H_is_name.gl H_is_name.kp b_is_name .nil pass0 (pa_cons (pe_ix ix_tup (pv 0) pe_int (fun _ _ => rfl)) pa_nil)))) (pw_or1 (pt_not (pt_val (pe_call G_is_kind hr_is_kind (by rfl) H_is_kind.gl H_is_kind.kp b_is_kind .nil pass0 (pa_cons (pe_ix ix_tup (pv 0) pe_int (fun _ _ => rfl)) pa_nil)))))))) (pss_one (ps_ret pe_bl)) pss_nil)
      (pss_cons (ps_if (PW.pt (pw_or (pt_not (pt_val (pe_call G_are_named_kinds hr_are_named_kinds (by rfl) H_are_named_kinds.gl H_are_named_kinds.kp b_are_named_kinds .nil pass0 (pa_cons (pe_ix ix_tup (pv 0) pe_int (fun _ _ => rfl)) (pa_cons (pe_glob (v := .int 4) rfl e_MOST_PARAMETERS ⟨_, rfl⟩) pa_nil))))) (pw_or1 (pt_not (pt_val (pe_call G_are_named_kinds hr_are_named_kinds (by rfl) H_are_named_kinds.gl H_are_named_kinds.kp b_are_named_kinds .nil pass0 (pa_cons (pe_ix ix_tup (pv 0) pe_int (fun _ _ => rfl)) (pa_cons (pe_glob (v := .int 8) rfl e_MOST_OTHERS ⟨_, rfl⟩) pa_nil)))))))) (pss_one (ps_ret pe_bl)) pss_nil)
      (pss_cons (ps_if (pt_not (pt_val (pe_call G_are_named_kinds hr_are_named_kinds (by rfl) H_are_named_kinds.gl H_are_named_kinds.kp b_are_named_kinds .nil pass0 (pa_cons (pe_op op_cat (pe_ix ix_tup (pv 0) pe_int (fun _ _ => rfl)) (pe_ix ix_tup (pv 0) pe_int (fun _ _ => rfl))) (pa_cons (pe_op op_add (pe_glob (v := .int 4) rfl e_MOST_PARAMETERS ⟨_, rfl⟩) (pe_glob (v := .int 8) rfl e_MOST_OTHERS ⟨_, rfl⟩)) pa_nil))))) (pss_one (ps_ret pe_bl)) pss_nil)
      (pss_one (ps_ret (pe_call G_is_list_of hr_is_list_of (by rfl) H_is_list_of.gl H_is_list_of.kp b_is_list_of .nil pass0 (pa_cons (pe_ix ix_tup (pv 0) pe_int (fun _ _ => rfl)) (pa_cons pe_int (pa_cons (pe_glob (v := .int 40) rfl e_MOST_ROWS ⟨_, rfl⟩) pa_nil))))))))), ?_⟩
    obtain ⟨he, nf, kd, hpa, hp1, hoa, hp2, hN, hnd, l1, l2, hra, l3, l4⟩ := E0
    have hnd0 := hnd
    rw [List.map_append] at hnd0
    have hnd1 := (List.nodup_append.mp hnd0).1
    have hnd2 := (List.nodup_append.mp hnd0).2.1
    refine ⟨_, rfl, e, _, 5, rfl, he, rfl, _, rfl, iteF ?_⟩
    refine ⟨_, rfl, _, _, _, _, rfl, rfl, SqT.of he, at0, nm, rfl, nf, fun H1 s1 => ⟨_, rfl, iteF ?_⟩⟩
    refine ⟨_, rfl, _, _, _, _, rfl, rfl, SqT.of (s1 _ _ he), at3, res, rfl, kd, _, rfl, iteF ?_⟩
    refine ⟨_, rfl, _, _, _, _, rfl, rfl, SqT.of (s1 _ _ he), at1, pa, ps, ns, 4, rfl, s1 _ _ hpa, hp1.mono s1, fun x m => hN x (List.mem_append_left _ m), hnd1, by omega, by omega, fun H2 s2 => ⟨_, rfl, iteF ?_⟩⟩
    have s12 := s1.trans s2
    refine ⟨_, rfl, _, _, _, _, rfl, rfl, SqT.of (s12 _ _ he), at2, oa, qs, ms, 8, rfl, s12 _ _ hoa, hp2.mono s12, fun x m => hN x (List.mem_append_right _ m), hnd2, by omega, by omega, fun H3 s3 => ⟨_, rfl, iteF ?_⟩⟩
    have s13 := s12.trans s3
    refine ⟨_, rfl, _, _, _, _, rfl, rfl, SqT.of (s13 _ _ he), at1, _, rfl, _, _, _, _, rfl, rfl, SqT.of (s13 _ _ he), at2, ?_⟩
    have hl1 : ps.length = ns.length := hp1.len
    have hl2 : qs.length = ms.length := hp2.len
    refine ⟨pa, oa, _, _, rfl, rfl, s13 _ _ hpa, s13 _ _ hoa, sz_of (by rw [List.length_map, List.length_map]; omega), fun c hc => ?_⟩
    have s4 := Same.new (o := .lst (ps.map V.ref ++ qs.map V.ref)) hc
    refine ⟨_, _, rfl, rfl, c, ps ++ qs, ns ++ ms, 12, rfl, by rw [upd_same, List.map_append], (hp1.append hp2).mono (s13.trans s4), hN, hnd, by rw [List.length_append]; omega, by rw [List.length_append]; omega, fun H5 s5 => ⟨_, rfl, iteF ?_⟩⟩
    have s15 := (s13.trans s4).trans s5
    exact ⟨_, rfl, _, _, _, _, rfl, rfl, SqT.of (s15 _ _ he), at4, ra, rs, 1, 40, rfl, s15 _ _ hra, by omega, by omega, k _ s15⟩
theorem sc_is_class : FnScope ["entry"] ["entry"] (defScope s_is_class) := ⟨rfl, rfl, rfl, by decide +kernel, rfl, by decide +kernel, by decide +kernel⟩
theorem ok_is_class (T : Ctx w K mg) (H_is_tuple_of : Has P w K mg base 1 "is_tuple_of" ["thing", "many"] spTupOf) (H_is_name : Has P w K mg base 1 "is_name" ["thing"] spName) (H_are_named_kinds : Has P w K mg base 2 "are_named_kinds" ["thing", "most"] spNamedG) : Has P w K mg base 3 "_is_class" ["entry"] spClassG := by
  obtain ⟨fd, F⟩ := T.D_is_class
  obtain ⟨fd_is_tuple_of, G_is_tuple_of, b_is_tuple_of⟩ := H_is_tuple_of.ex
  obtain ⟨fd_is_name, G_is_name, b_is_name⟩ := H_is_name.ex
  obtain ⟨fd_are_named_kinds, G_are_named_kinds, b_are_named_kinds⟩ := H_are_named_kinds.ex
  refine ⟨⟨fd, F.ok sc_is_class (fun vs H Q E h => ?_) (fun cdv A outer s H vs Q E hr h => ?_), F.bindsN fun _ _ _ _ _ _ us hl => match us, hl with | [_], _ => rfl⟩, F.kp, T.g_is_class⟩
  · obtain ⟨e, fa, nm, ps, ns, rfl, he, nf, hfa, hp, hN, hnd, hl, k⟩ := h; rfl
  · obtain ⟨e, fa, nm, ps, ns, rfl, he, nf, hfa, hp, hN, hnd, hl, k⟩ := h
    have hr_is_tuple_of : Room 1 _ := hr.mono (by decide)
    have hr_is_name : Room 1 _ := hr.mono (by decide)
    have hr_are_named_kinds : Room 2 _ := hr.mono (by decide)
    have hu := hu_of hr
    obtain ⟨t_MOST_FIELDS, e_MOST_FIELDS⟩ := T.i_MOST_FIELDS
    refine ⟨_, PSs.nox (pss_one (ps_ret (pe_and (pe_call G_is_tuple_of hr_is_tuple_of (by rfl) H_is_tuple_of.gl H_is_tuple_of.kp b_is_tuple_of .nil pass0 (pa_cons (pv 0) (pa_cons pe_int pa_nil))) (pe_and (pe_call G_is_name hr_is_name (by rfl) H_is_name.gl H_is_name.kp b_is_name .nil pass0 (pa_cons (pe_ix ix_tup (pv 0) pe_int (fun _ _ => rfl)) pa_nil)) (pe_one (pe_call G_are_named_kinds hr_are_named_kinds (by rfl) H_are_named_kinds.gl H_are_named_kinds.kp b_are_named_kinds .nil pass0 (pa_cons (pe_ix ix_tup (pv 0) pe_int (fun _ _ => rfl)) (pa_cons (pe_glob (v := .int 4) rfl e_MOST_FIELDS ⟨_, rfl⟩) pa_nil)))))))), ?_⟩
    refine ⟨_, rfl, e, _, 2, rfl, he, rfl, _, rfl, iteT ?_⟩
    refine ⟨_, rfl, _, _, _, _, rfl, rfl, SqT.of he, at0, nm, rfl, nf, fun H1 s1 => ⟨_, rfl, iteT ?_⟩⟩
    exact ⟨_, rfl, _, _, _, _, rfl, rfl, SqT.of (s1 _ _ he), at1, fa, ps, ns, 4, rfl, s1 _ _ hfa, hp.mono s1, hN, hnd, by omega, by omega, fun H2 s2 => k _ (s1.trans s2)⟩

end
end W7
set_option Elab.async false
set_option linter.all false
set_option maxRecDepth 100000
set_option maxHeartbeats 4000000
namespace W7
open PySem PySem.Spec PyProof.Rows L2 RZ
section
variable {P : Program} {w : World} {K : PySem.W.Frag} {mg : Str → Option Value} {base : Heap}

def FIGS : Str := "0123456789"
def figs (w : Str) : Str := if Txt.startswith w "-" = true then cutS w (some 1) none else w
/-- figures that are those of an integer; whole tells whether the word is 0 -/
def figOk (z : Str) (whole : Bool) : Bool := decide (1 ≤ z.cps.size) && (decide (z.cps.size ≤ 30) && ((z.cps.toList.all fun c => decide (c ∈ FIGS.cps.toList)) && ((z.cps[0]?.all fun c => !decide (V.str ⟨#[c]⟩ = V.str "0")) || whole)))
def intOk (w : Str) : Bool := figOk (figs w) (decide (V.str w = V.str "0"))
def readInt (w : Str) : Option Int := if intOk w = true then PySem.intText? w else none
def oI : Option Int → V
  | none => .non
  | some n => .int n
/-- a word of which int() can be asked, if it is one of an integer -/
structure WordOk (w : Str) : Prop where
  len : w.length ≤ 640
  num : intOk w = true → ∃ n, PySem.intText? w = some n
  cut : (Txt.partition w ":").1.length ≤ 640
def pairOf (w : Str) : Option (Str × Str) := if (namB (Txt.partition w ":").1 && kindB (Txt.partition w ":").2.2) = true then some ((Txt.partition w ":").1, (Txt.partition w ":").2.2) else none
def spPairs : Sp := fun vs H Q _ => ∃ (a : Addr) (ws : List Str), vs = [.ref a] ∧ H a = some (.lst (ws.map V.str)) ∧ (∀ w ∈ ws, WordOk w) ∧ ws.length ≤ 50000 ∧
  (ws.mapM pairOf = none → ∀ H', Same H H' → Q .non H') ∧ (∀ ps, ws.mapM pairOf = some ps → ∀ (q : Addr) (as : List Addr) (H' : Hp), Same H H' → H q = none → H' q = some (.lst (as.map V.ref)) → PairsG H' as ps → (∀ x ∈ as, H x = none) → Q (.ref q) H')
def spInt : Sp := fun vs H Q _ => ∃ w, vs = [.str w] ∧ WordOk w ∧ ∀ H', Same H H' → Q (oI (readInt w)) H'
def numRole (role : Str) : Bool := inV (V.str role) [.str "number", .str "row", .str "point"]
def partOf (role w : Str) : V := if numRole role = true then oI (readInt w) else if namB w = true then .str w else .non
def spPart : Sp := fun vs H Q _ => ∃ role w, vs = [.str role, .str w] ∧ WordOk w ∧ ∀ H', Same H H' → Q (partOf role w) H'
theorem mapM_snoc {α β : Type} (f : α → Option β) (l : List α) (x : α) : (l ++ [x]).mapM f = (l.mapM f).bind fun ys => (f x).map fun y => ys ++ [y] := by
  rw [List.mapM_append]
  cases l.mapM f with
  | none => rfl
  | some ys =>
    simp only [List.mapM_cons, List.mapM_nil, Option.bind_eq_bind, Option.bind_some, Option.pure_def]
    cases f x with
    | none => rfl
    | some y => rfl
theorem mapM_none {α β : Type} (f : α → Option β) : ∀ (l : List α) (x : α), x ∈ l → f x = none → l.mapM f = none
  | a :: l, x, m, e => by
    rw [List.mapM_cons]
    cases ha : f a with
    | none => rfl
    | some y =>
      rcases List.mem_cons.mp m with rfl | m
      · rw [ha] at e
        cases e
      · rw [mapM_none f l x m e]
        rfl
theorem sc_read_integer : FnScope ["word", "figures", "mark"] ["word"] (defScope s_read_integer) := ⟨rfl, rfl, rfl, by decide +kernel, rfl, by decide +kernel, by decide +kernel⟩
theorem ok_read_integer (T : Ctx w K mg) : Has P w K mg base 1 "read_integer" ["word"] spInt := by
  obtain ⟨fd, F⟩ := T.D_read_integer
  refine ⟨⟨fd, F.ok sc_read_integer (fun vs H Q E h => ?_) (fun cdv A outer s H vs Q E hr h => ?_), F.bindsN fun _ _ _ _ _ _ us hl => match us, hl with | [_], _ => rfl⟩, F.kp, T.g_read_integer⟩
  · obtain ⟨w, rfl, W, k⟩ := h; rfl
  · obtain ⟨w, rfl, W, k⟩ := h
    have hu := hu_of hr
    obtain ⟨tf, e_FIGURES⟩ := T.s_FIGURES
    obtain ⟨tm, e_MOST_FIGURES⟩ := T.i_MOST_FIGURES
    refine ⟨_, PSs.nox (pss_cons (ps_set (i := 1) sc_read_integer.nd rfl (Or.inl rfl) (pe_ifExp (pt_val (pe_m1 PySem.F.slot_str_startswith PySem.F.type_str_startswith mt_startswith (pv 0) pe_str)) (pe_slice sl_str (pv 0) (po_some pe_int) po_none) (pv 0)))
      (pss_cons (ps_if (PW.pt (pw_or (pt_not (pt_chain op_le op_le pe_int (pe_callB call_len_str (by rfl) T.f_len (by decide +kernel) (pa_cons (pv 1) pa_nil)) (pe_glob (v := .int 30) rfl e_MOST_FIGURES ⟨_, rfl⟩))) (pw_or1 (pt_not (pt_val (pe_callB (cr_all rfl) (by rfl) T.f_all (by decide +kernel) (pa_cons (pe_lc (own := [("mark", 2)]) (g := gName 2) (tt := tYes) rfl sc_read_integer.nd (pi_str (pv 1)) (blkOk_by (N := ["word", "figures", "mark"]) (sc := defScope s_read_integer) (by decide +kernel)) (fun _ _ _ _ _ => (pg_name (i := 2) sc_read_integer.nd rfl (Or.inl rfl))) (fun _ _ _ _ _ => pts_nil) (fun _ _ _ _ _ => (pe_cmpR op_in_sign (pv 2) (pe_glob (v := .str "0123456789") rfl e_FIGURES ⟨_, rfl⟩) rfl))) pa_nil))))))) (pss_one (ps_ret pe_non)) pss_nil)
      (pss_cons (ps_if (PW.pt (pw_and (pt_cmpR op_eq (pe_item_str (pv 1) pe_int (fun _ _ => rfl)) pe_str (nomark _)) (pw_and1 (pt_cmpR op_ne (pv 0) pe_str (nomark _))))) (pss_one (ps_ret pe_non)) pss_nil)
      (pss_one (ps_ret (pe_callTy call_int_str (by rfl) T.f_int (by decide +kernel) (pa_cons (pv 0) pa_nil))))))), ?_⟩
    have hz : w.length ≤ sizeLine := sz_of (by have := W.len; omega)
    unfold readInt at k
    have hw := W.num
    unfold intOk at k hw
    have hfl : (figs w).length ≤ w.length := by
      unfold figs
      split
      · exact cutS_len w _ _
      · exact Nat.le_refl _
    have hfz : (figs w).length ≤ sizeLine := Nat.le_trans hfl hz
    have hf100 : (figs w).cps.size < 100000 := Nat.lt_of_le_of_lt (show (figs w).cps.size ≤ w.length from hfl) (by have := W.len; omega)
    generalize hfg : figs w = z at *
    unfold figs at hfg
    refine ⟨_, rfl, ⟨_, rfl⟩, _, _, rfl, rfl, _, rfl, ?_⟩
    by_cases hs : Txt.startswith w "-" = true
    · rw [if_pos hs] at hfg
      refine ifT hs ⟨_, rfl, 1, rfl, w, rfl, hz, ?_⟩
      rw [hfg]
      refine ⟨_, rfl, _, rfl, hfz, _, _, rfl, rfl, _, rfl, ?_⟩
      unfold figOk at k hw
      by_cases h1 : 1 ≤ z.cps.size
      rotate_left
      · refine ifF (decide_eq_false (show ¬ (1 : Int) ≤ ((z.cps.size : Nat) : Int) by omega)) ⟨_, rfl, ifT rfl ?_⟩
        rw [decide_eq_false h1, Bool.false_and] at k
        exact k _ (Same.refl _)
      refine ifT (decide_eq_true (show (1 : Int) ≤ ((z.cps.size : Nat) : Int) by omega)) ⟨_, _, rfl, rfl, _, rfl, ?_⟩
      by_cases h30 : z.cps.size ≤ 30
      rotate_left
      · refine ifT (show (!decide (((z.cps.size : Nat) : Int) ≤ 30)) = true by rw [decide_eq_false (show ¬ ((z.cps.size : Nat) : Int) ≤ 30 by omega)]; rfl) ?_
        rw [decide_eq_false h30, Bool.false_and, Bool.and_false] at k
        exact k _ (Same.refl _)
      refine ifF (show (!decide (((z.cps.size : Nat) : Int) ≤ 30)) = false by rw [decide_eq_true (show ((z.cps.size : Nat) : Int) ≤ 30 by omega)]; rfl) ?_
      rw [decide_eq_true h1, decide_eq_true h30, Bool.true_and, Bool.true_and] at k hw
      refine ⟨_, rfl, _, rfl, fun D hD => ?_⟩
      refine lc_pure walk_str hD (fun i => .bl (decide (z.cps.toList.getD i 0 ∈ FIGS.cps.toList))) hf100 (fun _ _ => trivial) (fun i H1 y H2 hi s1 hy Qe qe => ?_) (fun H1 s1 h1' => ?_)
      · obtain ⟨rfl, c, hc, rfl⟩ := hy
        have ec : z.cps.toList.getD i 0 = c := by
          rw [List.getD_eq_getElem?_getD, Array.getElem?_toList, hc]
          rfl
        rw [ec] at qe
        exact ⟨rfl, _, rfl, _, _, rfl, rfl, qe _ (Same.refl _)⟩
      refine ⟨_, (List.range z.cps.size).map (fun i => decide (z.cps.toList.getD i 0 ∈ FIGS.cps.toList)), rfl, SqL.of (by rw [h1', List.map_map]; rfl), ?_⟩
      have e2 := all_range (0 : Nat) (fun c => decide (c ∈ FIGS.cps.toList)) z.cps.toList
      rw [Array.length_toList] at e2
      rw [e2]
      generalize hall : (z.cps.toList.all fun c => decide (c ∈ FIGS.cps.toList)) = al at *
      refine ⟨_, rfl, ?_⟩
      cases al with
      | false =>
        rw [Bool.false_and] at k
        exact ifT rfl (k _ s1)
      | true =>
        rw [Bool.true_and] at k hw
        refine ifF rfl ?_
        have hc0 : z.cps[0]? = some z.cps[0] := Array.getElem?_eq_getElem (by omega)
        rw [hc0] at k hw
        generalize z.cps[0] = c0 at *
        refine ⟨_, rfl, _, _, c0, rfl, rfl, by decide, by decide, Int.ofNat_lt.mpr (show 0 < z.cps.size by omega), hc0, rfl, _, rfl, ?_⟩
        have ea : (some c0).all (fun c => !decide (V.str ⟨#[c]⟩ = V.str "0")) = !decide (V.str ⟨#[c0]⟩ = V.str "0") := rfl
        rw [ea] at k hw
        generalize hd0 : decide (V.str ⟨#[c0]⟩ = V.str "0") = d0 at *
        cases d0 with
        | true =>
          refine ifT rfl ⟨_, rfl, rfl, _, rfl, ?_⟩
          generalize hdw : decide (V.str w = V.str "0") = dw at *
          cases dw with
          | false => exact ifT rfl (k _ s1)
          | true =>
            obtain ⟨n, hn⟩ := hw rfl
            refine ifF rfl ⟨_, rfl, w, n, rfl, hn, W.len, ?_⟩
            rw [hn] at k
            exact k _ s1
        | false =>
          obtain ⟨n, hn⟩ := hw rfl
          refine ifF rfl ⟨_, rfl, w, n, rfl, hn, W.len, ?_⟩
          rw [hn] at k
          exact k _ s1
    · rw [if_neg hs] at hfg
      subst hfg
      refine ifF (Bool.eq_false_iff.mpr hs) ⟨_, rfl, ?_⟩
      refine ⟨_, rfl, _, rfl, hz, _, _, rfl, rfl, _, rfl, ?_⟩
      unfold figOk at k hw
      by_cases h1 : 1 ≤ w.cps.size
      rotate_left
      · refine ifF (decide_eq_false (show ¬ (1 : Int) ≤ ((w.cps.size : Nat) : Int) by omega)) ⟨_, rfl, ifT rfl ?_⟩
        rw [decide_eq_false h1, Bool.false_and] at k
        exact k _ (Same.refl _)
      refine ifT (decide_eq_true (show (1 : Int) ≤ ((w.cps.size : Nat) : Int) by omega)) ⟨_, _, rfl, rfl, _, rfl, ?_⟩
      by_cases h30 : w.cps.size ≤ 30
      rotate_left
      · refine ifT (show (!decide (((w.cps.size : Nat) : Int) ≤ 30)) = true by rw [decide_eq_false (show ¬ ((w.cps.size : Nat) : Int) ≤ 30 by omega)]; rfl) ?_
        rw [decide_eq_false h30, Bool.false_and, Bool.and_false] at k
        exact k _ (Same.refl _)
      refine ifF (show (!decide (((w.cps.size : Nat) : Int) ≤ 30)) = false by rw [decide_eq_true (show ((w.cps.size : Nat) : Int) ≤ 30 by omega)]; rfl) ?_
      rw [decide_eq_true h1, decide_eq_true h30, Bool.true_and, Bool.true_and] at k hw
      refine ⟨_, rfl, _, rfl, fun D hD => ?_⟩
      refine lc_pure walk_str hD (fun i => .bl (decide (w.cps.toList.getD i 0 ∈ FIGS.cps.toList))) hf100 (fun _ _ => trivial) (fun i H1 y H2 hi s1 hy Qe qe => ?_) (fun H1 s1 h1' => ?_)
      · obtain ⟨rfl, c, hc, rfl⟩ := hy
        have ec : w.cps.toList.getD i 0 = c := by
          rw [List.getD_eq_getElem?_getD, Array.getElem?_toList, hc]
          rfl
        rw [ec] at qe
        exact ⟨rfl, _, rfl, _, _, rfl, rfl, qe _ (Same.refl _)⟩
      refine ⟨_, (List.range w.cps.size).map (fun i => decide (w.cps.toList.getD i 0 ∈ FIGS.cps.toList)), rfl, SqL.of (by rw [h1', List.map_map]; rfl), ?_⟩
      have e2 := all_range (0 : Nat) (fun c => decide (c ∈ FIGS.cps.toList)) w.cps.toList
      rw [Array.length_toList] at e2
      rw [e2]
      generalize hall : (w.cps.toList.all fun c => decide (c ∈ FIGS.cps.toList)) = al at *
      refine ⟨_, rfl, ?_⟩
      cases al with
      | false =>
        rw [Bool.false_and] at k
        exact ifT rfl (k _ s1)
      | true =>
        rw [Bool.true_and] at k hw
        refine ifF rfl ?_
        have hc0 : w.cps[0]? = some w.cps[0] := Array.getElem?_eq_getElem (by omega)
        rw [hc0] at k hw
        generalize w.cps[0] = c0 at *
        refine ⟨_, rfl, _, _, c0, rfl, rfl, by decide, by decide, Int.ofNat_lt.mpr (show 0 < w.cps.size by omega), hc0, rfl, _, rfl, ?_⟩
        have ea : (some c0).all (fun c => !decide (V.str ⟨#[c]⟩ = V.str "0")) = !decide (V.str ⟨#[c0]⟩ = V.str "0") := rfl
        rw [ea] at k hw
        generalize hd0 : decide (V.str ⟨#[c0]⟩ = V.str "0") = d0 at *
        cases d0 with
        | true =>
          refine ifT rfl ⟨_, rfl, rfl, _, rfl, ?_⟩
          generalize hdw : decide (V.str w = V.str "0") = dw at *
          cases dw with
          | false => exact ifT rfl (k _ s1)
          | true =>
            obtain ⟨n, hn⟩ := hw rfl
            refine ifF rfl ⟨_, rfl, w, n, rfl, hn, W.len, ?_⟩
            rw [hn] at k
            exact k _ s1
        | false =>
          obtain ⟨n, hn⟩ := hw rfl
          refine ifF rfl ⟨_, rfl, w, n, rfl, hn, W.len, ?_⟩
          rw [hn] at k
          exact k _ s1
theorem sc_read_part : FnScope ["role", "word"] ["role", "word"] (defScope s_read_part) := ⟨rfl, rfl, rfl, by decide +kernel, rfl, by decide +kernel, by decide +kernel⟩
theorem ok_read_part (T : Ctx w K mg) (H_read_integer : Has P w K mg base 1 "read_integer" ["word"] spInt) (H_is_name : Has P w K mg base 1 "is_name" ["thing"] spNameB) : Has P w K mg base 2 "_read_part" ["role", "word"] spPart := by
  obtain ⟨fd, F⟩ := T.D_read_part
  obtain ⟨fd_read_integer, G_read_integer, b_read_integer⟩ := H_read_integer.ex
  obtain ⟨fd_is_name, G_is_name, b_is_name⟩ := H_is_name.ex
  refine ⟨⟨fd, F.ok sc_read_part (fun vs H Q E h => ?_) (fun cdv A outer s H vs Q E hr h => ?_), F.bindsN fun _ _ _ _ _ _ us hl => match us, hl with | [_, _], _ => rfl⟩, F.kp, T.g_read_part⟩
  · obtain ⟨role, w, rfl, W, k⟩ := h; rfl
  · obtain ⟨role, w, rfl, W, k⟩ := h
    have hr_read_integer : Room 1 _ := hr.mono (by decide)
    have hr_is_name : Room 1 _ := hr.mono (by decide)
    have hu := hu_of hr
    refine ⟨_, PSs.nox (pss_cons (ps_if (pt_cmpR op_in_seq (pv 0) (pe_tup (pa_cons pe_str (pa_cons pe_str (pa_cons pe_str pa_nil)))) rfl) (pss_one (ps_ret (pe_call G_read_integer hr_read_integer (by rfl) H_read_integer.gl H_read_integer.kp b_read_integer .nil pass0 (pa_cons (pv 1) pa_nil)))) pss_nil)
      (pss_one (ps_ret (pe_ifExp (pt_val (pe_call G_is_name hr_is_name (by rfl) H_is_name.gl H_is_name.kp b_is_name .nil pass0 (pa_cons (pv 1) pa_nil))) (pv 1) pe_non)))), ?_⟩
    refine ⟨_, rfl, sz_of (by show 3 ≤ 100000; decide), fun t ht => ⟨t, _, rfl, .inr (SqT.of upd_same), rfl, rfl, _, rfl, ?_⟩⟩
    have s1 := Same.new (o := .tup [.str "number", .str "row", .str "point"]) ht
    unfold partOf at k
    by_cases c : numRole role = true
    · rw [if_pos c] at k
      exact ifT c ⟨_, rfl, w, rfl, W, fun H1 s2 => k _ (s1.trans s2)⟩
    · rw [if_neg c] at k
      refine ifF (Bool.eq_false_iff.mpr c) ⟨_, rfl, w, rfl, by have := W.len; omega, fun H1 s2 => ⟨_, rfl, ?_⟩⟩
      by_cases n : namB w = true
      · rw [if_pos n] at k
        exact ifT n ⟨_, rfl, k _ (s1.trans s2)⟩
      · rw [if_neg n] at k
        exact ifF (Bool.eq_false_iff.mpr n) (k _ (s1.trans s2))
theorem sc_read_pairs : FnScope ["words", "pairs", "word", "name", "_", "kind"] ["words"] (defScope s_read_pairs) := ⟨rfl, rfl, rfl, by decide +kernel, rfl, by decide +kernel, by decide +kernel⟩
theorem ok_read_pairs (T : Ctx w K mg) (H_is_name : Has P w K mg base 1 "is_name" ["thing"] spNameB) (H_is_kind : Has P w K mg base 1 "is_kind" ["thing"] spKindB) : Has P w K mg base 2 "read_pairs" ["words"] spPairs := by
  obtain ⟨fd, F⟩ := T.D_read_pairs
  obtain ⟨fd_is_name, G_is_name, b_is_name⟩ := H_is_name.ex
  obtain ⟨fd_is_kind, G_is_kind, b_is_kind⟩ := H_is_kind.ex
  refine ⟨⟨fd, F.ok sc_read_pairs (fun vs H Q E h => ?_) (fun cdv A outer s H vs Q E hr h => ?_), F.bindsN fun _ _ _ _ _ _ us hl => match us, hl with | [_], _ => rfl⟩, F.kp, T.g_read_pairs⟩
  · obtain ⟨a, ws, rfl, ha, hw, hl, kN, kS⟩ := h; rfl
  · obtain ⟨a, ws, rfl, ha, hw, hl, kN, kS⟩ := h
    have hr_is_name : Room 1 _ := hr.mono (by decide)
    have hr_is_kind : Room 1 _ := hr.mono (by decide)
    have hu := hu_of hr
    refine ⟨_, PSs.nox (pss_cons (ps_set (i := 1) sc_read_pairs.nd rfl (Or.inl rfl) (pe_lst pa_nil))
      (pss_cons (ps_for PassesOwn.never rfl (pi_list (pv 0)) (pg_name (i := 2) sc_read_pairs.nd rfl (Or.inl rfl))
      (pss_cons (ps_asg (pe_partition (pv 2) pe_str) (pg_tup rfl (pgs_cons (pg_name (i := 3) sc_read_pairs.nd rfl (Or.inl rfl)) (pgs_cons (pg_name (i := 4) sc_read_pairs.nd rfl (Or.inl rfl)) (pgs_cons (pg_name (i := 5) sc_read_pairs.nd rfl (Or.inl rfl)) pgs_nil)))))
      (pss_cons (ps_if (PW.pt (pw_or (pt_not (pt_val (pe_call G_is_name hr_is_name (by rfl) H_is_name.gl H_is_name.kp b_is_name .nil pass0 (pa_cons (pv 3) pa_nil)))) (pw_or1 (pt_not (pt_val (pe_call G_is_kind hr_is_kind (by rfl) H_is_kind.gl H_is_kind.kp b_is_kind .nil pass0 (pa_cons (pv 5) pa_nil))))))) (pss_one (ps_ret pe_non)) pss_nil)
      (pss_one (ps_expr (pe_bm PySem.F.plainAttrs_list PySem.F.slot_list_append PySem.F.type_list_append mt_append (pv 1) (pa_cons (pe_tup (pa_cons (pv 3) (pa_cons (pv 5) pa_nil))) pa_nil)))))))
      (pss_one (ps_ret (pv 1))))), ?_⟩
    refine ⟨sz_of (by show 0 ≤ 100000; decide), fun D hD => ?_⟩
    have sD : Same H (upd H D (.lst [])) := Same.new hD
    refine ⟨_, rfl, a, rfl, ⟨_, SqL.of (sD _ _ ha)⟩, ?_⟩
    refine for_it (walk_list (K := K) (a := a) (xs := ws.map V.str)) (fun i σ H1 => ∃ (v2 v3 v4 v5 : Option V) (as : List Addr) (ps : List (Str × Str)), σ = [some (.ref a), some (.ref D), v2, v3, v4, v5] ∧ (ws.take i).mapM pairOf = some ps ∧ as.length = i ∧ Same H H1 ∧ H1 D = some (.lst (as.map V.ref)) ∧ PairsG H1 as ps ∧ ∀ x ∈ as, H x = none) ⟨_, _, _, _, [], [], rfl, rfl, rfl, sD, upd_same, ⟨rfl, fun i p x e => by simp at e⟩, fun x m => by simp at m⟩ (fun i σ H1 _ q => by
      obtain ⟨_, _, _, _, _, _, _, _, _, s1, _⟩ := q
      exact SqL.of (s1 _ _ ha)) ?_ ?_
    · rintro i y σ H1' H1 hi ⟨v2, v3, v4, v5, as, ps, rfl, hm, hal, s1, hDD, hp, hf⟩ ⟨rfl, hy⟩
      obtain ⟨z, hz, rfl⟩ := map_get hy
      have zm := List.mem_of_getElem? hz
      have W := hw z zm
      refine ⟨_, rfl, ⟨_, rfl⟩, _, _, rfl, rfl, by decide +kernel, sz_of (by have := W.len; omega), fun t ht => ?_⟩
      have sT := Same.new (o := .tup [.str (Txt.partition z ":").1, .str (Txt.partition z ":").2.1, .str (Txt.partition z ":").2.2]) ht
      refine ⟨t, _, rfl, SqT.of upd_same, rfl, _, _, rfl, _, _, rfl, _, _, rfl, rfl, ?_⟩
      have hcut := W.cut
      have hpo : pairOf z = if (namB (Txt.partition z ":").1 && kindB (Txt.partition z ":").2.2) = true then some ((Txt.partition z ":").1, (Txt.partition z ":").2.2) else none := rfl
      generalize Txt.partition z ":" = pt at *
      obtain ⟨p1, p2, p3⟩ := pt
      have sT1 := s1.trans sT
      have hD1 := sT _ _ hDD
      have hp1 : PairsG (upd H1 t (.tup [.str p1, .str p2, .str p3])) as ps := hp.mono sT
      generalize upd H1 t (.tup [.str p1, .str p2, .str p3]) = H2 at *
      refine ⟨_, rfl, p1, rfl, by have h : p1.length ≤ 640 := hcut; omega, fun H3 s3 => ⟨_, rfl, ?_⟩⟩
      by_cases n : namB p1 = true
      rotate_left
      · refine ifT (by rw [Bool.eq_false_iff.mpr n]; rfl) (kN (mapM_none _ _ z zm ?_) H3 (sT1.trans s3))
        rw [hpo, Bool.eq_false_iff.mpr n]
        rfl
      refine ifF (by rw [n]; rfl) ⟨_, rfl, p3, rfl, _, rfl, ?_⟩
      by_cases q : kindB p3 = true
      rotate_left
      · refine ifT (by rw [Bool.eq_false_iff.mpr q]; rfl) (kN (mapM_none _ _ z zm ?_) H3 (sT1.trans s3))
        rw [hpo, Bool.eq_false_iff.mpr q, Bool.and_false]
        rfl
      have hD3 := s3 _ _ hD1
      refine ifF (by rw [q]; rfl) ⟨_, rfl, .inl ⟨rfl, _, SqL.of hD3⟩, _, rfl, _, rfl, sz_of (by show 2 ≤ 100000; decide), fun u hu3 => ?_⟩
      have s4 := Same.new (o := .tup [.str p1, .str p3]) hu3
      have hD4 := s4 _ _ hD3
      have uD : u ≠ D := fun z => by rw [z, hD3] at hu3; cases hu3
      have hu4 : upd H3 u (.tup [.str p1, .str p3]) u = some (.tup [.str p1, .str p3]) := upd_same
      have hp4 := (hp1.mono s3).mono s4
      generalize upd H3 u (.tup [.str p1, .str p3]) = H4 at *
      refine ⟨D, _, _, rfl, rfl, hD4, sz_lt (by rw [List.length_map, hal]; rw [List.length_map] at hi; omega), ?_⟩
      refine ⟨_, _, _, _, as ++ [u], ps ++ [(p1, p3)], rfl, ?_, by rw [List.length_append, hal]; rfl, Same.mut ((sT1.trans s3).trans s4) hD, by rw [upd_same, List.map_append]; rfl, ?_, fun x m => ?_⟩
      · rw [take_snoc hz, mapM_snoc, hm, hpo, n, q]
        rfl
      · refine ⟨by rw [List.length_append, List.length_append, hp4.len]; rfl, fun i2 x e e1 e2 => ?_⟩
        have key : ∀ y, y ≠ D → ∀ o, H4 y = some o → upd H4 D (.lst (as.map V.ref ++ [.ref u])) y = some o := fun y ny o h => by rw [upd_ne ny]; exact h
        by_cases hi2 : i2 < as.length
        · rw [List.getElem?_append_left hi2] at e1
          rw [List.getElem?_append_left (by rw [← hp4.len]; exact hi2)] at e2
          have h := hp4.at_ i2 x e e1 e2
          exact key x (fun z => by rw [z, hD4] at h; cases h) _ h
        · have hi3 : i2 = as.length := by
            have := (List.getElem?_eq_some_iff.mp e1).1
            rw [List.length_append, List.length_singleton] at this
            omega
          subst hi3
          rw [List.getElem?_append_right (Nat.le_refl _), Nat.sub_self] at e1
          rw [List.getElem?_append_right (Nat.le_of_eq hp4.len.symm), hp4.len, Nat.sub_self] at e2
          rw [← Option.some.inj e1, ← Option.some.inj e2]
          exact key u uD _ hu4
      · rcases List.mem_append.mp m with m | m
        · exact hf x m
        · rw [List.mem_singleton.mp m]
          exact none_of (sT1.trans s3) hu3
    · rintro σ H1 ⟨v2, v3, v4, v5, as, ps, rfl, hm, hal, s1, hDD, hp, hf⟩
      rw [List.length_map, List.take_length] at hm
      exact ⟨_, rfl, kS ps hm D as H1 s1 hD hDD hp hf⟩

end
end W7
set_option Elab.async false
set_option linter.all false
set_option maxRecDepth 100000
set_option maxHeartbeats 4000000
namespace W7
open PySem PySem.Spec PyProof.Rows L2 RZ
section
variable {P : Program} {w : World} {K : PySem.W.Frag} {mg : Str → Option Value} {base : Heap}

/-- a comprehension with a test, whose elements leave what stood as it was -/
theorem lc_filt {J : It} {n : Nat} {G : Hp → Prop} {Y : Nat → Hp → V → Hp → Prop} (w : Walk J n G Y) {g : TG} {tt : TT} {te : TE} {vs : List Nat} {σ : L2.St} {H0 : Hp} {D : Addr} {Qd : Hp → Prop} (hD : H0 D = none) (f : Nat → V) (b : Nat → Bool) (hn : n < 100000)
    (hG : ∀ H, Same H0 H → G H)
    (hs : ∀ i H x H', i < n → Same H0 H → Y i H x H' → ∀ (Qe : VK) (Qn : Hp → Prop), (∀ H4, Same H H4 → b i = true → Qe (f i) H4) → (∀ H4, Same H H4 → b i = false → Qn H4) → g x (wipe σ vs) H' fun σ2 H2 => wipe σ2 vs = wipe σ vs ∧ tt σ2 H2 fun c H3 => if c = true then te σ2 H3 Qe else Qn H3)
    (hd : ∀ H, Same H0 H → H D = some (.lst (((List.range n).filter b).map f)) → Qd H) :
    ∃ W : Nat → Nat → Hp → Prop, (∃ m, W 0 m (upd H0 D (.lst []))) ∧ ∀ i m H, W i m H →
      (J.stop i H ∧ Qd H) ∨ (J.go i H ∧ ∃ Nx : Hp → Prop, (∀ H', Nx H' → ∃ m', m' < m ∧ W (i + 1) m' H') ∧ ∀ x H', J.yld i H x H' → g x (wipe σ vs) H' fun σ2 H2 => wipe σ2 vs = wipe σ vs ∧ tt σ2 H2 fun b H3 =>
        if b = true then te σ2 H3 fun y H4 => ∃ acc, H4 D = some (.lst acc) ∧ acc.length < sizeLine ∧ Nx (upd H4 D (.lst (acc ++ [y]))) else Nx H3) := by
  refine lc_it w (fun i H => Same H0 H ∧ H D = some (.lst (((List.range i).filter b).map f))) ⟨Same.new hD, upd_same⟩ (fun i H _ p => hG H p.1) (fun i x H H' hi p y => ?_) (fun H p => hd H p.1 p.2)
  refine hs i H x H' hi p.1 y (fun y H4 => ∃ acc, H4 D = some (.lst acc) ∧ acc.length < sizeLine ∧ (Same H0 (upd H4 D (.lst (acc ++ [y]))) ∧ upd H4 D (.lst (acc ++ [y])) D = some (.lst (((List.range (i + 1)).filter b).map f)))) (fun H3 => Same H0 H3 ∧ H3 D = some (.lst (((List.range (i + 1)).filter b).map f))) (fun H4 s4 hb => ?_) (fun H4 s4 hb => ?_)
  · refine ⟨_, s4 _ _ p.2, sz_lt ?_, Same.mut (p.1.trans s4) hD, ?_⟩
    · rw [List.length_map]
      refine Nat.lt_of_le_of_lt (List.length_filter_le _ _) ?_
      rw [List.length_range]
      exact Nat.lt_trans hi hn
    · rw [upd_same, List.range_succ, List.filter_append, List.map_append, List.filter_cons_of_pos hb]
      rfl
  · refine ⟨p.1.trans s4, ?_⟩
    rw [s4 _ _ p.2, List.range_succ, List.filter_append, List.filter_cons_of_neg (by rw [hb]; decide)]
    simp
/-- what a comprehension with a test leaves of a list -/
theorem filt_range {α : Type} (d : α) (p : α → Bool) (l : List α) : ((List.range l.length).filter fun i => p (l.getD i d)).map (fun i => l.getD i d) = l.filter p := by
  have e : (List.range l.length).map (fun i => l.getD i d) = l := by
    apply List.ext_getElem
    · simp
    · intro i h1 h2
      simp [h2]
  have q : ((List.range l.length).map (fun i => l.getD i d)).filter p = ((List.range l.length).filter fun i => p (l.getD i d)).map (fun i => l.getD i d) := by
    rw [List.filter_map]
    rfl
  rw [← q, e]
def ROWL : List Str := ["number", "add", "sub", "times", "less", "nil", "new", "copy", "same", "get", "put", "call", "see", "if", "jump", "return"]
def rowB (w : Str) : Bool := inV (V.str w) (ROWL.map V.str)
def rolesOf (w : Str) : List Str := (roles.lookup w).getD []
def noMany (w : Str) : List Str := (rolesOf w).filter fun r => decide (r ≠ "many")
/-- a row's parts, and the names behind them if its word takes many -/
def rowOf2 (w0 : Str) (ws : List Str) : Option (List V × Option (List Str)) := if rowB w0 = false then none else
    if ((noMany w0).zip ws).length < (noMany w0).length then none else
    if inV .non (((noMany w0).zip ws).map fun q => partOf q.1 q.2) = true then none else
    if (noMany w0).length = (rolesOf w0).length then (if ws.drop (noMany w0).length = [] then some (.str w0 :: ((noMany w0).zip ws).map fun q => partOf q.1 q.2, none) else none)
    else if (ws.drop (noMany w0).length).all namB = true then some (.str w0 :: ((noMany w0).zip ws).map fun q => partOf q.1 q.2, some (ws.drop (noMany w0).length)) else none
def rowOf : List Str → Option (List V × Option (List Str))
  | [] => none
  | w0 :: ws => rowOf2 w0 ws
/-- a row that was read, at q -/
def RowRd (F H : Hp) (q : Addr) (vs : List V) : Option (List Str) → Prop
  | none => H q = some (.tup vs)
  | some ns => ∃ l, F l = none ∧ H q = some (.tup (vs ++ [.ref l])) ∧ H l = some (.lst (ns.map V.str))
def spRow (K : PySem.W.Frag) : Sp := fun vs H Q _ => ∃ (a : Addr) (ws : List Str), vs = [.ref a, .ref (He.ga K "ROW_WORDS")] ∧ H a = some (.lst (ws.map V.str)) ∧ (∀ w ∈ ws, WordOk w) ∧ ws.length ≤ 50000 ∧
  (rowOf ws = none → ∀ H', Same H H' → Q .non H') ∧ (∀ rv m, rowOf ws = some (rv, m) → ∀ (q : Addr) (H' : Hp), Same H H' → H q = none → RowRd H H' q rv m → Q (.ref q) H')
theorem rolesIn : ∀ x ∈ ROWL, (x, rolesOf x) ∈ roles := by decide +kernel
theorem rowB_in {w : Str} (h : rowB w = true) : w ∈ ROWL := by
  unfold rowB inV at h
  rw [List.any_map, List.any_eq_true] at h
  obtain ⟨x, m, e⟩ := h
  have e2 : x = w := of_decide_eq_true e
  rw [← e2]
  exact m
theorem cut_from {xs : List V} {n : Nat} : cutV xs (some (n : Int)) none = xs.drop n := by
  unfold cutV
  have e2 : HT.sIx xs.length xs.length none = xs.length := rfl
  have e1 : HT.sIx xs.length 0 (some (n : Int)) = min n xs.length := by
    unfold HT.sIx
    simp
    try omega
  rw [e1, e2]
  by_cases h : n ≤ xs.length
  · rw [Nat.min_eq_left h, List.take_of_length_le (by rw [List.length_drop]; exact Nat.le_refl _)]
  · rw [Nat.min_eq_right (by omega), Nat.sub_self, List.take_zero, List.drop_of_length_le (by omega)]
theorem partOf_flat (r w : Str) : flatV (partOf r w) = true := by
  unfold partOf
  split
  · cases readInt w <;> rfl
  · split <;> rfl
theorem sc_read_row : FnScope ["words", "allowed", "roles", "rest", "parts", "role", "word"] ["words", "allowed"] (defScope s_read_row) := ⟨rfl, rfl, rfl, by decide +kernel, rfl, by decide +kernel, by decide +kernel⟩
theorem ok_read_row (T : Ctx w K mg) (H_read_part : Has P w K mg base 2 "_read_part" ["role", "word"] spPart) (H_is_list_of_names : Has P w K mg base 2 "is_list_of_names" ["thing"] spNamesB) : Has P w K mg base 3 "read_row" ["words", "allowed"] (spRow K) := by
  obtain ⟨fd, F⟩ := T.D_read_row
  obtain ⟨fd_read_part, G_read_part, b_read_part⟩ := H_read_part.ex
  obtain ⟨fd_is_list_of_names, G_is_list_of_names, b_is_list_of_names⟩ := H_is_list_of_names.ex
  refine ⟨⟨fd, F.ok sc_read_row (fun vs H Q E h => ?_) (fun cdv A outer s H vs Q E hr h => ?_), F.bindsN fun _ _ _ _ _ _ us hl => match us, hl with | [_, _], _ => rfl⟩, F.kp, T.g_read_row⟩
  · obtain ⟨a, ws, rfl, ha, hw, hl, kN, kS⟩ := h; rfl
  · obtain ⟨a, ws, rfl, ha, hw, hl, kN, kS⟩ := h
    have hr_read_part : Room 2 _ := hr.mono (by decide)
    have hr_is_list_of_names : Room 2 _ := hr.mono (by decide)
    have hu := hu_of hr
    refine ⟨_, PSs.nox (pss_cons (ps_if (PW.pt (pw_or (pt_cmpR op_eq (pe_callB call_len_seq (by rfl) T.f_len (by decide +kernel) (pa_cons (pv 0) pa_nil)) pe_int (nomark _)) (pw_or1 (pt_cmpR op_notIn_seq (pe_ix ix_list (pv 0) pe_int (fun _ _ => rfl)) (pv 1) rfl)))) (pss_one (ps_ret pe_non)) pss_nil)
      (pss_cons (ps_setLc (i := 2) (own := [("role", 5)]) (g := gName 5) rfl sc_read_row.nd rfl rfl (sw_true rfl rfl rfl (by decide +kernel)) (pi_tup (pe_ix ix_kdict (pe_glob (v := .ref (He.ga K "ROLES")) rfl T.g_ROLES rfl) (pe_ix ix_list (pv 0) pe_int (fun _ _ => rfl)) (fun _ _ => rfl))) (blkOk_by (N := ["words", "allowed", "roles", "rest", "parts", "role", "word"]) (sc := defScope s_read_row) (by decide +kernel)) (fun _ _ _ _ _ => (pg_name (i := 5) sc_read_row.nd rfl (Or.inl rfl))) (fun _ _ _ _ _ => (pts_one (pt_cmpR op_ne (pv 5) pe_str (nomark _)))) (fun _ _ _ _ _ => (pv 5)))
      (pss_cons (ps_set (i := 3) sc_read_row.nd rfl (Or.inl rfl) (pe_slice sl_list (pv 0) (po_some (pe_op op_add (pe_callB call_len_seq (by rfl) T.f_len (by decide +kernel) (pa_cons (pv 2) pa_nil)) pe_int)) po_none))
      (pss_cons (ps_setLc (i := 4) (own := [("role", 5), ("word", 6)]) (g := gTup K 2 (gCons (gName 5) (gCons (gName 6) (gNil)))) (tt := tYes) rfl sc_read_row.nd rfl rfl (sw_true rfl rfl rfl (by decide +kernel)) (pi_zipA (by rfl) T.f_zip (pa_cons (pv 2) (pa_cons (pe_slice sl_list (pv 0) (po_some pe_int) po_none) pa_nil))) (blkOk_by (N := ["words", "allowed", "roles", "rest", "parts", "role", "word"]) (sc := defScope s_read_row) (by decide +kernel)) (fun _ _ _ _ _ => (pg_tup rfl (pgs_cons (pg_name (i := 5) sc_read_row.nd rfl (Or.inl rfl)) (pgs_cons (pg_name (i := 6) sc_read_row.nd rfl (Or.inl rfl)) pgs_nil)))) (fun _ _ _ _ _ => pts_nil) (fun _ _ _ _ _ => (pe_call G_read_part hr_read_part (by rfl) H_read_part.gl H_read_part.kp b_read_part .nil pass0 (pa_cons (pv 5) (pa_cons (pv 6) pa_nil)))))
      (pss_cons (ps_if (PW.pt (pw_or (pt_cmpR op_lt (pe_callB call_len_seq (by rfl) T.f_len (by decide +kernel) (pa_cons (pv 4) pa_nil)) (pe_callB call_len_seq (by rfl) T.f_len (by decide +kernel) (pa_cons (pv 2) pa_nil)) (nomark _)) (pw_or1 (pt_cmpR op_in_seq pe_non (pv 4) rfl)))) (pss_one (ps_ret pe_non)) pss_nil)
      (pss_cons (ps_if (pt_cmpR op_eq (pe_callB call_len_seq (by rfl) T.f_len (by decide +kernel) (pa_cons (pv 2) pa_nil)) (pe_callB call_len_seq (by rfl) T.f_len (by decide +kernel) (pa_cons (pe_ix ix_kdict (pe_glob (v := .ref (He.ga K "ROLES")) rfl T.g_ROLES rfl) (pe_ix ix_list (pv 0) pe_int (fun _ _ => rfl)) (fun _ _ => rfl)) pa_nil)) (nomark _)) (pss_one (ps_ret (pe_ifExp (pt_cmpR op_eq (pe_callB call_len_seq (by rfl) T.f_len (by decide +kernel) (pa_cons (pv 3) pa_nil)) pe_int (nomark _)) (pe_tup (pa_cons (pe_ix ix_list (pv 0) pe_int (fun _ _ => rfl)) (StX.pa_star (pv 4) pa_nil))) pe_non))) pss_nil)
      (pss_one (ps_ret (pe_ifExp (pt_val (pe_call G_is_list_of_names hr_is_list_of_names (by rfl) H_is_list_of_names.gl H_is_list_of_names.kp b_is_list_of_names .nil pass0 (pa_cons (pv 3) pa_nil))) (pe_tup (pa_cons (pe_ix ix_list (pv 0) pe_int (fun _ _ => rfl)) (StX.pa_star (pv 4) (pa_cons (pv 3) pa_nil)))) pe_non))))))))), ?_⟩
    cases ws with
    | nil =>
      refine ⟨_, rfl, a, _, rfl, .inl (SqL.of ha), rfl, _, rfl, ifT rfl ?_⟩
      exact kN rfl _ (Same.refl _)
    | cons w0 ws =>
      refine ⟨_, rfl, a, _, rfl, .inl (SqL.of ha), rfl, _, rfl, ifF (decide_eq_false (by rw [List.length_map, List.length_cons]; intro z; have := V.int.inj z; omega)) ?_⟩
      refine ⟨_, rfl, a, _, _, _, rfl, rfl, SqL.of ha, at0, _, rfl, _, _, rfl, .inr (T.rowwords H), rfl, rfl, _, rfl, ?_⟩
      have hw0 := hw w0 List.mem_cons_self
      have eB : inV (V.str w0) (v_ROW_WORDS.map (He.Dv.v K)) = rowB w0 := rfl
      rw [eB]
      have eR : rowOf (w0 :: ws) = rowOf2 w0 ws := rfl
      rw [eR] at kN kS
      unfold rowOf2 at kN kS
      cases c : rowB w0 with
      | false =>
        refine ifT rfl ?_
        rw [c, if_pos rfl] at kN
        exact kN rfl _ (Same.refl _)
      | true =>
      refine ifF rfl ?_
      rw [c, if_neg Bool.noConfusion] at kN kS
      have m0 := rolesIn w0 (rowB_in c)
      refine ⟨_, rfl, a, _, _, _, rfl, rfl, SqL.of ha, at0, _, _, _, rfl, rfl, T.roleK m0, rolA K w0, rfl, ⟨_, (T.role m0 H).2⟩, fun D hD => ?_⟩
      have rlen : (rolesOf w0).length ≤ 10 := (show ∀ x ∈ ROWL, (rolesOf x).length ≤ 10 by decide +kernel) w0 (rowB_in c)
      refine lc_filt (walk_tup (K := K) (a := rolA K w0) (xs := (rolesOf w0).map V.str)) hD (fun t => .str ((rolesOf w0).getD t "")) (fun t => decide ((rolesOf w0).getD t "" ≠ "many")) (by rw [List.length_map]; omega) (fun Ha sa => (T.role m0 Ha).2) (fun t Ha xa Hb ht sa hya Qe Qn qe qn => ?_) (fun Hd sd hdu => ?_)
      · obtain ⟨rfl, hya⟩ := hya
        obtain ⟨z, hz, rfl⟩ := map_get hya
        have ex : (rolesOf w0).getD t "" = z := by
          rw [List.getD_eq_getElem?_getD, hz]
          rfl
        rw [ex] at qe qn
        by_cases cz : z = "many"
        · exact ⟨rfl, _, rfl, rfl, _, rfl, ifF (by rw [cz]; rfl) (qn _ (Same.refl _) (by simp [cz]))⟩
        · exact ⟨rfl, _, rfl, rfl, _, rfl, ifT (by rw [decide_eq_false (fun z => cz (V.str.inj z))]; rfl) ⟨_, rfl, qe _ (Same.refl _) (by simp [cz])⟩⟩
      have hdu2 : Hd D = some (.lst ((noMany w0).map V.str)) := by
        rw [hdu, List.length_map]
        have q := filt_range ("" : Str) (fun z => decide (z ≠ "many")) (rolesOf w0)
        unfold noMany
        rw [← q, List.map_map]
        rfl
      have nlen : (noMany w0).length ≤ (rolesOf w0).length := List.length_filter_le _ _
      generalize hrs : noMany w0 = rs at *
      have hD0 : ∀ {b o}, H b = some o → b ≠ D := fun {b o} h z => by rw [z, hD] at h; cases h
      have ha1 := sd _ _ ha
      -- the rest
      refine ⟨_, rfl, _, rfl, D, _, rfl, .inl (SqL.of hdu2), _, _, rfl, rfl, _, rfl, a, _, rfl, SqL.of ha1, fun R hR => ?_⟩
      have eC : cutV ((w0 :: ws).map V.str) (some ((((rs.map V.str).length : Nat) : Int) + 1)) none = (ws.drop rs.length).map V.str := by
        have e1 : ((((rs.map V.str).length : Nat) : Int) + 1) = ((rs.length + 1 : Nat) : Int) := by rw [List.length_map]; rfl
        rw [e1, cut_from, List.map_cons, List.drop_succ_cons, List.map_drop]
      rw [eC]
      have s2 := Same.new (o := .lst ((ws.drop rs.length).map V.str)) hR
      have hR2 : upd Hd R (.lst ((ws.drop rs.length).map V.str)) R = some (.lst ((ws.drop rs.length).map V.str)) := upd_same
      have hRn : H R = none := none_of sd hR
      have ha2 := s2 _ _ ha1
      have hD2 := s2 _ _ hdu2
      generalize upd Hd R (.lst ((ws.drop rs.length).map V.str)) = H2 at *
      have sH2 := sd.trans s2
      refine ⟨_, rfl, _, rfl, 1, rfl, a, _, rfl, SqL.of ha2, fun W hW => ?_⟩
      have eW : cutV ((w0 :: ws).map V.str) (some 1) none = ws.map V.str := slice1.1
      rw [eW]
      have s3 := Same.new (o := .lst (ws.map V.str)) hW
      have hW3 : upd H2 W (.lst (ws.map V.str)) W = some (.lst (ws.map V.str)) := upd_same
      have hD3 := s3 _ _ hD2
      have hR3 := s3 _ _ hR2
      generalize upd H2 W (.lst (ws.map V.str)) = H3 at *
      have sH3 := sH2.trans s3
      refine ⟨D, W, _, _, rfl, .inl ⟨SqL.of hD3, SqL.of hW3, fun Pp hP => ?_⟩⟩
      have zl : ((rs.zip ws).map fun q => partOf q.1 q.2).length ≤ 10 := by
        rw [List.length_map, List.length_zip]
        omega
      refine lc_pure (walk_zip (K := K) (a := D) (b := W) (xs := rs.map V.str) (ys := ws.map V.str) rfl) hP (fun i => ((rs.zip ws).map fun q => partOf q.1 q.2).getD i .non) (by rw [List.length_map, List.length_map]; omega) (fun Ha sa => ⟨SqL.of (sa _ _ hD3), SqL.of (sa _ _ hW3)⟩) (fun i Ha y Hb hi sa hy Qe qe => ?_) (fun Hc sc hc => ?_)
      · obtain ⟨u, x, z, rfl, hu0, rfl, e1, e2⟩ := hy
        obtain ⟨r, hr1, rfl⟩ := map_get e1
        obtain ⟨z, hz1, rfl⟩ := map_get e2
        have ez : ((rs.zip ws).map fun q => partOf q.1 q.2).getD i .non = partOf r z := by
          have e0 : (rs.zip ws)[i]? = some (r, z) := List.getElem?_zip_eq_some.mpr ⟨hr1, hz1⟩
          rw [List.getD_eq_getElem?_getD, List.getElem?_map, e0]
          rfl
        rw [ez] at qe
        have su := Same.new (o := .tup [.str r, .str z]) hu0
        exact ⟨u, _, rfl, SqT.of upd_same, rfl, _, _, rfl, _, _, rfl, rfl, rfl, _, rfl, _, rfl, r, z, rfl, hw z (List.mem_cons_of_mem _ (List.mem_of_getElem? hz1)), fun He se => qe _ (su.trans se)⟩
      have hlen2 : min (rs.map V.str).length (ws.map V.str).length = ((rs.zip ws).map fun q => partOf q.1 q.2).length := by
        rw [List.length_map, List.length_map, List.length_map, List.length_zip]
      rw [hlen2, map_range_getD] at hc
      have pl : ((rs.zip ws).map fun q => partOf q.1 q.2).length = (rs.zip ws).length := List.length_map _
      have pf : (((rs.zip ws).map fun q => partOf q.1 q.2)).all flatV = true := List.all_eq_true.mpr fun v m => by
        obtain ⟨q, _, rfl⟩ := List.mem_map.mp m
        exact partOf_flat _ _
      generalize hparts : ((rs.zip ws).map fun q => partOf q.1 q.2) = parts at *
      have sHc := sH3.trans sc
      have hDc := sc _ _ hD3
      have hac := sc _ _ (s3 _ _ ha2)
      have hRc := sc _ _ hR3
      have zle : (rs.zip ws).length ≤ ws.length := by rw [List.length_zip]; omega
      refine ⟨_, rfl, Pp, _, rfl, .inl (SqL.of hc), _, rfl, D, _, rfl, .inl (SqL.of hDc), _, _, rfl, rfl, _, rfl, ?_⟩
      rw [List.length_map, pl]
      by_cases cl : (rs.zip ws).length < rs.length
      · rw [if_pos cl] at kN
        exact ifT (decide_eq_true (show (((rs.zip ws).length : Nat) : Int) < ((rs.length : Nat) : Int) by omega)) (kN rfl _ sHc)
      rw [if_neg cl] at kN kS
      refine ifF (decide_eq_false (show ¬ (((rs.zip ws).length : Nat) : Int) < ((rs.length : Nat) : Int) by omega)) ⟨_, rfl, Pp, _, rfl, .inl (SqL.of hc), rfl, pf, _, rfl, ?_⟩
      by_cases ci : inV .non parts = true
      · rw [if_pos ci] at kN
        exact ifT ci (kN rfl _ sHc)
      rw [if_neg ci] at kN kS
      refine ifF (Bool.eq_false_iff.mpr ci) ?_
      refine ⟨_, rfl, D, _, rfl, .inl (SqL.of hDc), _, rfl, a, _, _, _, rfl, rfl, SqL.of hac, at0, _, _, _, rfl, rfl, T.roleK m0, rolA K w0, _, rfl, .inr (T.role m0 _).2, rfl, _, rfl, ?_⟩
      rw [List.length_map, List.length_map]
      by_cases ce : rs.length = (rolesOf w0).length
      · rw [if_pos ce] at kN kS
        refine ifT (decide_eq_true (by rw [ce])) ?_
        refine ⟨_, rfl, R, _, rfl, .inl (SqL.of hRc), rfl, _, rfl, ?_⟩
        rw [List.length_map]
        by_cases cr : ws.drop rs.length = []
        · rw [if_pos cr] at kS
          refine ifT (decide_eq_true (by rw [cr]; rfl)) ?_
          refine ⟨_, rfl, a, _, _, _, rfl, rfl, SqL.of hac, at0, _, rfl, Pp, _, rfl, .inr (SqL.of hc), sz_of (by rw [List.length_cons, List.append_nil]; omega), fun q hq => ?_⟩
          rw [List.append_nil]
          exact kS _ _ rfl q _ (sHc.trans (Same.new hq)) (none_of sHc hq) upd_same
        · rw [if_neg cr] at kN
          exact ifF (decide_eq_false (fun z => cr (List.length_eq_zero_iff.mp (by have := V.int.inj z; omega)))) (kN rfl _ sHc)
      · rw [if_neg ce] at kN kS
        refine ifF (decide_eq_false (fun z => ce (by have := V.int.inj z; omega))) ?_
        have hall : ∀ x ∈ ws.drop rs.length, x.length ≤ 100000 := fun x m => by
          have := (hw x (List.mem_cons_of_mem _ (List.drop_subset _ _ m))).len
          omega
        have hln : (ws.drop rs.length).length < 100000 := by
          rw [List.length_drop]
          rw [List.length_cons] at hl
          omega
        refine ⟨_, rfl, R, _, rfl, hRc, hall, hln, fun He se => ⟨_, rfl, ?_⟩⟩
        by_cases cn : (ws.drop rs.length).all namB = true
        · rw [if_pos cn] at kS
          refine ifT cn ⟨_, rfl, a, _, _, _, rfl, rfl, SqL.of (se _ _ hac), at0, _, rfl, Pp, _, rfl, .inr (SqL.of (se _ _ hc)), _, rfl, sz_of (by rw [List.length_cons, List.length_append, List.length_singleton]; omega), fun q hq => ?_⟩
          have sq := Same.new (o := .tup (.str w0 :: (parts ++ [V.ref R]))) hq
          exact kS _ _ rfl q _ ((sHc.trans se).trans sq) (none_of (sHc.trans se) hq) ⟨R, hRn, upd_same, (se.trans sq) _ _ hRc⟩
        · rw [if_neg cn] at kN
          exact ifF (Bool.eq_false_iff.mpr cn) (kN rfl _ (sHc.trans se))

end
end W7
set_option Elab.async false
set_option linter.all false
set_option maxRecDepth 100000
set_option maxHeartbeats 4000000
namespace W7
open PySem PySem.Spec PyProof.Rows L2 RZ
section
variable {P : Program} {w : World} {K : PySem.W.Frag} {mg : Str → Option Value} {base : Heap}

abbrev RowV := List V × Option (List Str)
structure PFn where
  nm : Str
  kd : Str
  ns : List (Str × Str)
  ms : List (Str × Str)
  rws : List RowV
structure TSt where
  cls : List (Str × List (Str × Str))
  fns : List PFn
def PFn.more (f : PFn) (r : RowV) : PFn := { f with rws := f.rws ++ [r] }
def TSt.addRow (st : TSt) (f : PFn) (r : RowV) : TSt := { st with fns := st.fns.dropLast ++ [f.more r] }
def TSt.addCls (st : TSt) (c : Str × List (Str × Str)) : TSt := { st with cls := st.cls ++ [c] }
def TSt.addFn (st : TSt) (f : PFn) : TSt := { st with fns := st.fns ++ [f] }
def clsOf : List Str → Option (Str × List (Str × Str))
  | _ :: w1 :: ws => (ws.mapM pairOf).map fun fs => (w1, fs)
  | _ => none
def strokeAt (ws : List Str) : Nat := ws.findIdx fun w => eqV (V.str w) (V.str "/")
def fnOf : List Str → Option PFn
  | w0 :: w1 :: w2 :: w3 :: ws => if kindB w2 = false then none else
    if inV (V.str "/") ((w0 :: w1 :: w2 :: w3 :: ws).map V.str) = false then none else
    (((w3 :: ws).take (strokeAt (w0 :: w1 :: w2 :: w3 :: ws) - 3)).mapM pairOf).bind fun ns => (((w0 :: w1 :: w2 :: w3 :: ws).drop (strokeAt (w0 :: w1 :: w2 :: w3 :: ws) + 1)).mapM pairOf).map fun ms => ⟨w1, w2, ns, ms, []⟩
  | _ => none
def headOf (st : TSt) : List Str → Option TSt
  | w0 :: w1 :: ws => if namB w1 = false then none else
    if w0 = "class" ∧ st.fns = [] then (clsOf (w0 :: w1 :: ws)).map st.addCls
    else if w0 = "function" then (fnOf (w0 :: w1 :: ws)).map st.addFn else none
  | _ => none
/-- a line is taken -/
def step (st : TSt) (l : Bool × List Str) : Option TSt :=
  if l.1 = true then (match rowOf l.2, st.fns.getLast? with
    | some r, some f => some (st.addRow f r)
    | _, _ => none)
  else headOf st l.2
/-! ### what is read, in the heap; M: the lists that are still written -/
def At (M : List Addr) (H : Hp) (b : Addr) (o : HO) : Prop := H b = some o ∧ b ∉ M
def KeepM (M : List Addr) (H H' : Hp) : Prop := ∀ b u, H b = some u → b ∉ M → H' b = some u
theorem KeepM.of {M : List Addr} {H H' : Hp} (e : Same H H') : KeepM M H H' := fun b u h _ => e b u h
theorem KeepM.trans {M : List Addr} {H H1 H2 : Hp} (a : KeepM M H H1) (b : KeepM M H1 H2) : KeepM M H H2 := fun c u h n => b c u (a c u h n) n
theorem KeepM.upd {M : List Addr} {H : Hp} {d : Addr} {o : HO} (m : d ∈ M) : KeepM M H (upd H d o) := fun b u h n => by
  rw [upd_ne (fun z => n (by rw [z]; exact m))]
  exact h
theorem KeepM.wide {M N : List Addr} {H H' : Hp} (k : KeepM M H H') (s : ∀ x ∈ M, x ∈ N) : KeepM N H H' := fun b u h n => k b u h (fun m => n (s b m))
theorem At.keep {M : List Addr} {H H' : Hp} {b : Addr} {o : HO} (h : At M H b o) (k : KeepM M H H') : At M H' b o := ⟨k _ _ h.1 h.2, h.2⟩
theorem At.more {M : List Addr} {H : Hp} {b d : Addr} {o : HO} (h : At M H b o) (n : H d = none) : At (M ++ [d]) H b o := ⟨h.1, fun m => by
  rcases List.mem_append.mp m with m | m
  · exact h.2 m
  · rw [← List.mem_singleton.mp m, h.1] at n
    cases n⟩
/-- a step of the heap that keeps what stands apart from M, and does not touch N more -/
structure Step (M N : List Addr) (H H' : Hp) : Prop where
  at_ : ∀ {b o}, At M H b o → At N H' b o
theorem Step.of {M : List Addr} {H H' : Hp} (k : KeepM M H H') : Step M M H H' := ⟨fun h => h.keep k⟩
def PairsM (M : List Addr) (H : Hp) (as : List Addr) (ps : List (Str × Str)) : Prop := as.length = ps.length ∧ ∀ (i : Nat) a p, as[i]? = some a → ps[i]? = some p → At M H a (.tup [.str p.1, .str p.2])
def ClsM (M : List Addr) (H : Hp) (e : Addr) (c : Str × List (Str × Str)) : Prop := ∃ (la : Addr) (as : List Addr), At M H e (.tup [.str c.1, .ref la]) ∧ At M H la (.lst (as.map V.ref)) ∧ PairsM M H as c.2
def RowM (M : List Addr) (H : Hp) (a : Addr) (r : RowV) : Prop := match r.2 with
  | none => At M H a (.tup r.1)
  | some ns => ∃ l : Addr, At M H a (.tup (r.1 ++ [.ref l])) ∧ At M H l (.lst (ns.map V.str))
def FnM (M : List Addr) (H : Hp) (e ra : Addr) (f : PFn) : Prop := ∃ (pa oa : Addr) (as bs : List Addr), At M H e (.tup [.str f.nm, .ref pa, .ref oa, .str f.kd, .ref ra]) ∧ At M H pa (.lst (as.map V.ref)) ∧ At M H oa (.lst (bs.map V.ref)) ∧ PairsM M H as f.ns ∧ PairsM M H bs f.ms
theorem PairsM.step {M N : List Addr} {H H' : Hp} {as : List Addr} {ps : List (Str × Str)} (h : PairsM M H as ps) (k : Step M N H H') : PairsM N H' as ps := ⟨h.1, fun i a p x y => k.at_ (h.2 i a p x y)⟩
theorem ClsM.step {M N : List Addr} {H H' : Hp} {e : Addr} {c : Str × List (Str × Str)} (h : ClsM M H e c) (k : Step M N H H') : ClsM N H' e c := by
  obtain ⟨la, as, h1, h2, h3⟩ := h
  exact ⟨la, as, k.at_ h1, k.at_ h2, h3.step k⟩
theorem RowM.step {M N : List Addr} {H H' : Hp} {a : Addr} {r : RowV} (h : RowM M H a r) (k : Step M N H H') : RowM N H' a r := by
  obtain ⟨vs, m⟩ := r
  cases m with
  | none => exact k.at_ (show At M H a (.tup vs) from h)
  | some ns =>
    obtain ⟨l, h1, h2⟩ := (show ∃ l : Addr, At M H a (.tup (vs ++ [.ref l])) ∧ At M H l (.lst (ns.map V.str)) from h)
    exact ⟨l, k.at_ h1, k.at_ h2⟩
theorem FnM.step {M N : List Addr} {H H' : Hp} {e ra : Addr} {f : PFn} (h : FnM M H e ra f) (k : Step M N H H') : FnM N H' e ra f := by
  obtain ⟨pa, oa, as, bs, h1, h2, h3, h4, h5⟩ := h
  exact ⟨pa, oa, as, bs, k.at_ h1, k.at_ h2, k.at_ h3, h4.step k, h5.step k⟩
structure StM (H : Hp) (cl fl : Addr) (rs : List Addr) (st : TSt) : Prop where
  nd : (cl :: fl :: rs).Nodup
  cs : ∃ es : List Addr, H cl = some (.lst (es.map V.ref)) ∧ es.length = st.cls.length ∧ ∀ (i : Nat) e c, es[i]? = some e → st.cls[i]? = some c → ClsM (cl :: fl :: rs) H e c
  fs : ∃ es : List Addr, H fl = some (.lst (es.map V.ref)) ∧ es.length = st.fns.length ∧ rs.length = st.fns.length ∧ ∀ (i : Nat) e ra f, es[i]? = some e → rs[i]? = some ra → st.fns[i]? = some f → FnM (cl :: fl :: rs) H e ra f
  rw_ : ∀ (i : Nat) ra f, rs[i]? = some ra → st.fns[i]? = some f → ∃ as : List Addr, H ra = some (.lst (as.map V.ref)) ∧ as.length = f.rws.length ∧ ∀ (j : Nat) a r, as[j]? = some a → f.rws[j]? = some r → RowM (cl :: fl :: rs) H a r
theorem StM.same {H H' : Hp} {cl fl : Addr} {rs : List Addr} {st : TSt} (h : StM H cl fl rs st) (e : Same H H') : StM H' cl fl rs st := by
  have k := Step.of (KeepM.of (M := cl :: fl :: rs) e)
  obtain ⟨es, c1, c2, c3⟩ := h.cs
  obtain ⟨gs, f1, f2, f3, f4⟩ := h.fs
  refine ⟨h.nd, ⟨es, e _ _ c1, c2, fun i x c a b => (c3 i x c a b).step k⟩, ⟨gs, e _ _ f1, f2, f3, fun i x ra f a b c => (f4 i x ra f a b c).step k⟩, fun i ra f a b => ?_⟩
  obtain ⟨as, r1, r2, r3⟩ := h.rw_ i ra f a b
  exact ⟨as, e _ _ r1, r2, fun j y r m n => (r3 j y r m n).step k⟩
theorem StM.init {H : Hp} {cl fl : Addr} (h1 : H cl = some (.lst [])) (h2 : H fl = some (.lst [])) (n : cl ≠ fl) : StM H cl fl [] ⟨[], []⟩ :=
  ⟨by simp [n], ⟨[], h1, rfl, fun i e c a => by simp at a⟩, ⟨[], h2, rfl, rfl, fun i e ra f a => by simp at a⟩, fun i ra f a => by simp at a⟩
theorem refs_inj : ∀ {as bs : List Addr}, as.map V.ref = bs.map V.ref → as = bs
  | [], [], _ => rfl
  | [], _ :: _, h => by simp at h
  | _ :: _, [], h => by simp at h
  | a :: as, b :: bs, h => by
    simp only [List.map_cons, List.cons.injEq, V.ref.injEq] at h
    rw [h.1, refs_inj h.2]
theorem snoc_get {α : Type} {l : List α} {x y : α} {i : Nat} (h : (l ++ [x])[i]? = some y) : (i < l.length ∧ l[i]? = some y) ∨ (i = l.length ∧ x = y) := by
  by_cases c : i < l.length
  · rw [List.getElem?_append_left c] at h
    exact .inl ⟨c, h⟩
  · have hi : i = l.length := by
      have := (List.getElem?_eq_some_iff.mp h).1
      rw [List.length_append, List.length_singleton] at this
      omega
    subst hi
    rw [List.getElem?_append_right (Nat.le_refl _), Nat.sub_self] at h
    exact .inr ⟨rfl, Option.some.inj h⟩
theorem StM.addCls {H : Hp} {cl fl e : Addr} {rs es : List Addr} {st : TSt} {c : Str × List (Str × Str)} (h : StM H cl fl rs st) (he : H cl = some (.lst (es.map V.ref))) (hc : ClsM (cl :: fl :: rs) H e c) :
    StM (upd H cl (.lst (es.map V.ref ++ [.ref e]))) cl fl rs (st.addCls c) := by
  have k := Step.of (KeepM.upd (M := cl :: fl :: rs) (H := H) (d := cl) (o := .lst (es.map V.ref ++ [.ref e])) List.mem_cons_self)
  obtain ⟨es2, c1, c2, c3⟩ := h.cs
  obtain ⟨gs, f1, f2, f3, f4⟩ := h.fs
  have ee : es2 = es := by
    have z : (HO.lst (es2.map V.ref)) = .lst (es.map V.ref) := Option.some.inj (c1.symm.trans he)
    have z2 := HO.lst.inj z
    exact refs_inj z2
  subst ee
  obtain ⟨n1, n2⟩ := List.nodup_cons.mp h.nd
  have nfl : fl ≠ cl := fun z => n1 (by rw [← z]; exact List.mem_cons_self)
  refine ⟨h.nd, ⟨es2 ++ [e], by rw [upd_same, List.map_append]; rfl, by rw [List.length_append, c2]; exact (List.length_append (as := st.cls) (bs := [c])).symm, fun i x q a b => ?_⟩, ⟨gs, by rw [upd_ne nfl]; exact f1, f2, f3, fun i x ra f a b c => (f4 i x ra f a b c).step k⟩, fun i ra f a b => ?_⟩
  · rcases snoc_get a with ⟨a1, a2⟩ | ⟨a1, a2⟩
    · rcases snoc_get (show (st.cls ++ [c])[i]? = some q from b) with ⟨b1, b2⟩ | ⟨b1, b2⟩
      · exact (c3 i x q a2 b2).step k
      · omega
    · rcases snoc_get (show (st.cls ++ [c])[i]? = some q from b) with ⟨b1, b2⟩ | ⟨b1, b2⟩
      · omega
      · rw [← a2, ← b2]
        exact hc.step k
  · obtain ⟨as, r1, r2, r3⟩ := h.rw_ i ra f a b
    have nra : ra ≠ cl := fun z => n1 (List.mem_cons_of_mem _ (by rw [← z]; exact List.mem_of_getElem? a))
    exact ⟨as, by rw [upd_ne nra]; exact r1, r2, fun j y r m n => (r3 j y r m n).step k⟩
theorem StM.addFn {H0 H1 : Hp} {cl fl e ra : Addr} {rs es : List Addr} {st : TSt} {f : PFn} (h : StM H0 cl fl rs st) (s : Same H0 H1) (n : H0 ra = none) (hra : H1 ra = some (.lst [])) (he : H0 fl = some (.lst (es.map V.ref))) (hf : FnM ((cl :: fl :: rs) ++ [ra]) H1 e ra f) (hr : f.rws = []) :
    StM (upd H1 fl (.lst (es.map V.ref ++ [.ref e]))) cl fl (rs ++ [ra]) (st.addFn f) := by
  obtain ⟨cs2, c1, c2, c3⟩ := h.cs
  obtain ⟨gs, f1, f2, f3, f4⟩ := h.fs
  have ee : gs = es := refs_inj (HO.lst.inj (Option.some.inj (f1.symm.trans he)))
  subst ee
  have k : Step (cl :: fl :: rs) ((cl :: fl :: rs) ++ [ra]) H0 (upd H1 fl (.lst (gs.map V.ref ++ [.ref e]))) := ⟨fun {b o} a => by
    have a2 := a.more n
    have hb : b ≠ fl := fun z => a.2 (by rw [z]; exact List.mem_cons_of_mem _ List.mem_cons_self)
    exact ⟨by rw [upd_ne hb]; exact s _ _ a.1, a2.2⟩⟩
  have k1 : Step ((cl :: fl :: rs) ++ [ra]) ((cl :: fl :: rs) ++ [ra]) H1 (upd H1 fl (.lst (gs.map V.ref ++ [.ref e]))) := Step.of (KeepM.upd (by simp))
  obtain ⟨n1, n2⟩ := List.nodup_cons.mp h.nd
  obtain ⟨n3, n4⟩ := List.nodup_cons.mp n2
  have nd2 : ((cl :: fl :: rs) ++ [ra]).Nodup := by
    rw [List.nodup_append]
    refine ⟨h.nd, by simp, fun a m b mb => ?_⟩
    rw [List.mem_singleton.mp mb]
    rintro rfl
    have there : H0 a ≠ none := by
      rcases List.mem_cons.mp m with rfl | m
      · rw [c1]; simp
      · rcases List.mem_cons.mp m with rfl | m
        · rw [f1]; simp
        · obtain ⟨i, hi, rfl⟩ := List.getElem_of_mem m
          have hi2 : i < st.fns.length := by omega
          obtain ⟨as, r1, _⟩ := h.rw_ i _ _ (List.getElem?_eq_getElem hi) (List.getElem?_eq_getElem hi2)
          rw [r1]; simp
    exact there n
  have ncl : cl ≠ fl := fun z => n1 (by rw [z]; exact List.mem_cons_self)
  have nra : ra ≠ fl := fun z => by rw [z, he] at n; cases n
  refine ⟨nd2, ⟨cs2, by rw [upd_ne ncl]; exact s _ _ c1, c2, fun i x q a b => (c3 i x q a b).step k⟩, ⟨gs ++ [e], by rw [upd_same, List.map_append]; rfl, by rw [List.length_append, f2]; exact (List.length_append (as := st.fns) (bs := [f])).symm, by rw [List.length_append, f3]; exact (List.length_append (as := st.fns) (bs := [f])).symm, fun i x r g a b c => ?_⟩, fun i r g a b => ?_⟩
  · rcases snoc_get a with ⟨a1, a2⟩ | ⟨a1, a2⟩ <;> rcases snoc_get b with ⟨b1, b2⟩ | ⟨b1, b2⟩ <;> rcases snoc_get (show (st.fns ++ [f])[i]? = some g from c) with ⟨d1, d2⟩ | ⟨d1, d2⟩
    · exact (f4 i x r g a2 b2 d2).step k
    all_goals first
      | omega
      | (rw [← a2, ← b2, ← d2]; exact hf.step k1)
  · rcases snoc_get a with ⟨a1, a2⟩ | ⟨a1, a2⟩ <;> rcases snoc_get (show (st.fns ++ [f])[i]? = some g from b) with ⟨d1, d2⟩ | ⟨d1, d2⟩
    · obtain ⟨as, r1, r2, r3⟩ := h.rw_ i r g a2 d2
      have nr : r ≠ fl := fun z => n3 (by rw [← z]; exact List.mem_of_getElem? a2)
      exact ⟨as, by rw [upd_ne nr]; exact s _ _ r1, r2, fun j y q m n => (r3 j y q m n).step k⟩
    · omega
    · omega
    · rw [← a2, ← d2, hr]
      exact ⟨[], by rw [upd_ne nra]; exact hra, rfl, fun j y q m => by simp at m⟩
theorem last_get {α : Type} {l : List α} {x : α} (h : l.getLast? = some x) : l = l.dropLast ++ [x] ∧ l[l.length - 1]? = some x ∧ 0 < l.length := by
  have h2 := h
  rw [List.getLast?_eq_getElem?] at h2
  have hl := (List.getElem?_eq_some_iff.mp h2).1
  refine ⟨?_, h2, by omega⟩
  have hne : l ≠ [] := fun z => by rw [z] at hl; simp at hl
  rw [List.getLast?_eq_some_getLast hne] at h
  rw [← Option.some.inj h]
  exact (List.dropLast_concat_getLast hne).symm
theorem StM.addRow {H : Hp} {cl fl q ra : Addr} {rs as : List Addr} {st : TSt} {f : PFn} {r : RowV} (h : StM H cl fl rs st) (hf : st.fns.getLast? = some f) (ha : rs[st.fns.length - 1]? = some ra) (hl : H ra = some (.lst (as.map V.ref))) (hr : RowM (cl :: fl :: rs) H q r) :
    StM (upd H ra (.lst (as.map V.ref ++ [.ref q]))) cl fl rs (st.addRow f r) := by
  obtain ⟨e1, e2, e3⟩ := last_get hf
  have mra := List.mem_of_getElem? ha
  have k := Step.of (KeepM.upd (M := cl :: fl :: rs) (H := H) (d := ra) (o := .lst (as.map V.ref ++ [.ref q])) (List.mem_cons_of_mem _ (List.mem_cons_of_mem _ mra)))
  obtain ⟨cs2, c1, c2, c3⟩ := h.cs
  obtain ⟨gs, f1, f2, f3, f4⟩ := h.fs
  obtain ⟨n1, n2⟩ := List.nodup_cons.mp h.nd
  obtain ⟨n3, n4⟩ := List.nodup_cons.mp n2
  have ncl : cl ≠ ra := fun z => n1 (List.mem_cons_of_mem _ (by rw [z]; exact mra))
  have nfl : fl ≠ ra := fun z => n3 (by rw [z]; exact mra)
  have len : (st.addRow f r).fns.length = st.fns.length := by
    show (st.fns.dropLast ++ [f.more r]).length = _
    rw [List.length_append, List.length_dropLast]
    simp
    omega
  have low : ∀ (i : Nat) g, (st.addRow f r).fns[i]? = some g → (i < st.fns.length - 1 ∧ st.fns[i]? = some g) ∨ (i = st.fns.length - 1 ∧ g = f.more r) := fun i g a => by
    rcases snoc_get (show (st.fns.dropLast ++ [f.more r])[i]? = some g from a) with ⟨a1, a2⟩ | ⟨a1, a2⟩
    · rw [List.length_dropLast] at a1
      refine .inl ⟨a1, ?_⟩
      rw [List.getElem?_dropLast, if_pos a1] at a2
      exact a2
    · rw [List.length_dropLast] at a1
      exact .inr ⟨a1, a2.symm⟩
  refine ⟨h.nd, ⟨cs2, by rw [upd_ne ncl]; exact c1, c2, fun i x q a b => (c3 i x q a b).step k⟩, ⟨gs, by rw [upd_ne nfl]; exact f1, by rw [len]; exact f2, by rw [len]; exact f3, fun i x r2 g a b c => ?_⟩, fun i r2 g a b => ?_⟩
  · rcases low i g c with ⟨_, c2⟩ | ⟨ci, rfl⟩
    · exact (f4 i x r2 g a b c2).step k
    · have old : st.fns[i]? = some f := by rw [ci]; exact e2
      obtain ⟨pa, oa, as2, bs2, h1, h2, h3, h4, h5⟩ := (f4 i x r2 f a b old).step k
      exact ⟨pa, oa, as2, bs2, h1, h2, h3, h4, h5⟩
  · rcases low i g b with ⟨ci, c2⟩ | ⟨ci, rfl⟩
    · obtain ⟨as2, r1, rl, r3⟩ := h.rw_ i r2 g a c2
      have nr : r2 ≠ ra := fun z => by
        subst z
        have hi := (List.getElem?_eq_some_iff.mp a)
        have hj := (List.getElem?_eq_some_iff.mp ha)
        obtain ⟨i1, i2⟩ := hi
        obtain ⟨j1, j2⟩ := hj
        have := (List.getElem_inj n4).mp (i2.trans j2.symm)
        omega
      exact ⟨as2, by rw [upd_ne nr]; exact r1, rl, fun j y z m n => (r3 j y z m n).step k⟩
    · rw [ci] at a
      have er : ra = r2 := Option.some.inj (ha.symm.trans a)
      subst er
      obtain ⟨as2, r1, rl, r3⟩ := h.rw_ _ _ _ ha e2
      have ee : as2 = as := refs_inj (HO.lst.inj (Option.some.inj (r1.symm.trans hl)))
      subst ee
      refine ⟨as2 ++ [q], by rw [upd_same, List.map_append]; rfl, by rw [List.length_append, rl]; exact (List.length_append (as := f.rws) (bs := [r])).symm, fun j y z m n => ?_⟩
      rcases snoc_get m with ⟨m1, m2⟩ | ⟨m1, m2⟩ <;> rcases snoc_get (show (f.rws ++ [r])[j]? = some z from n) with ⟨d1, d2⟩ | ⟨d1, d2⟩
      · exact (r3 j y z m2 d2).step k
      · omega
      · omega
      · rw [← m2, ← d2]
        exact hr.step k

end
end W7
set_option Elab.async false
set_option linter.all false
set_option maxRecDepth 100000
set_option maxHeartbeats 4000000
namespace W7
open PySem PySem.Spec PyProof.Rows L2 RZ
section
variable {P : Program} {w : World} {K : PySem.W.Frag} {mg : Str → Option Value} {base : Heap}

theorem StM.there {H : Hp} {cl fl : Addr} {rs : List Addr} {st : TSt} (h : StM H cl fl rs st) : ∀ b ∈ cl :: fl :: rs, H b ≠ none := fun b m => by
  obtain ⟨cs2, c1, _⟩ := h.cs
  obtain ⟨gs, f1, _, f3, _⟩ := h.fs
  rcases List.mem_cons.mp m with rfl | m
  · rw [c1]; simp
  · rcases List.mem_cons.mp m with rfl | m
    · rw [f1]; simp
    · obtain ⟨i, hi, rfl⟩ := List.getElem_of_mem m
      have hi2 : i < st.fns.length := by omega
      obtain ⟨as, r1, _⟩ := h.rw_ i _ _ (List.getElem?_eq_getElem hi) (List.getElem?_eq_getElem hi2)
      rw [r1]; simp
theorem StM.new {H : Hp} {cl fl b : Addr} {rs : List Addr} {st : TSt} (h : StM H cl fl rs st) (n : H b = none) : b ∉ cl :: fl :: rs := fun m => h.there b m n
theorem pairsM_of {M : List Addr} {F H : Hp} {as : List Addr} {ps : List (Str × Str)} (h : PairsG H as ps) (f : ∀ x ∈ as, F x = none) (n : ∀ b, F b = none → b ∉ M) : PairsM M H as ps := ⟨h.len, fun i a p x y => ⟨h.at_ i a p x y, n a (f a (List.mem_of_getElem? x))⟩⟩
def spTakesC : Sp := fun vs H Q _ => ∃ (wa cl fl : Addr) (rs : List Addr) (st : TSt) (ws : List Str), vs = [.ref wa, .ref cl] ∧ H wa = some (.lst (ws.map V.str)) ∧ (∀ w ∈ ws, WordOk w) ∧ ws.length ≤ 50000 ∧ 2 ≤ ws.length ∧ StM H cl fl rs st ∧ st.cls.length ≤ 50000 ∧
  (clsOf ws = none → ∀ H', Same H H' → Q (.bl false) H') ∧ (∀ c, clsOf ws = some c → ∀ H', KeepM [cl] H H' → StM H' cl fl rs (st.addCls c) → Q (.bl true) H')
theorem clsOf_eq {w0 w1 : Str} {ws : List Str} : clsOf (w0 :: w1 :: ws) = (ws.mapM pairOf).map fun fs => (w1, fs) := rfl
theorem sc_takes_class : FnScope ["words", "classes", "fields"] ["words", "classes"] (defScope s_takes_class) := ⟨rfl, rfl, rfl, by decide +kernel, rfl, by decide +kernel, by decide +kernel⟩
theorem ok_takes_class (T : Ctx w K mg) (H_read_pairs : Has P w K mg base 2 "read_pairs" ["words"] spPairs) : Has P w K mg base 3 "_takes_class" ["words", "classes"] spTakesC := by
  obtain ⟨fd, F⟩ := T.D_takes_class
  obtain ⟨fd_read_pairs, G_read_pairs, b_read_pairs⟩ := H_read_pairs.ex
  refine ⟨⟨fd, F.ok sc_takes_class (fun vs H Q E h => ?_) (fun cdv A outer s H vs Q E hr h => ?_), F.bindsN fun _ _ _ _ _ _ us hl => match us, hl with | [_, _], _ => rfl⟩, F.kp, T.g_takes_class⟩
  · obtain ⟨wa, cl, fl, rs, st, ws, rfl, ha, hw, hl, h2, S, hcl, kN, kS⟩ := h; rfl
  · obtain ⟨wa, cl, fl, rs, st, ws, rfl, ha, hw, hl, h2, S, hcl, kN, kS⟩ := h
    have hr_read_pairs : Room 2 _ := hr.mono (by decide)
    have hu := hu_of hr
    refine ⟨_, PSs.nox (pss_cons (ps_set (i := 2) sc_takes_class.nd rfl (Or.inl rfl) (pe_call G_read_pairs hr_read_pairs (by rfl) H_read_pairs.gl H_read_pairs.kp b_read_pairs .nil pass0 (pa_cons (pe_slice sl_list (pv 0) (po_some pe_int) po_none) pa_nil)))
      (pss_cons (ps_if (pt_cmpR op_isN (pv 2) pe_non (nomark _)) (pss_one (ps_ret pe_bl)) pss_nil)
      (pss_cons (ps_expr (pe_bm PySem.F.plainAttrs_list PySem.F.slot_list_append PySem.F.type_list_append mt_append (pv 1) (pa_cons (pe_tup (pa_cons (pe_ix ix_list (pv 0) pe_int (fun _ _ => rfl)) (pa_cons (pv 2) pa_nil))) pa_nil)))
      (pss_one (ps_ret pe_bl))))), ?_⟩
    match ws, h2 with
    | w0 :: w1 :: ws, _ =>
    rw [clsOf_eq] at kN kS
    refine ⟨_, rfl, 2, rfl, wa, _, rfl, SqL.of ha, fun R hR => ?_⟩
    have eR : cutV ((w0 :: w1 :: ws).map V.str) (some 2) none = ws.map V.str := by
      have e := cut_from (xs := (w0 :: w1 :: ws).map V.str) (n := 2)
      exact e
    rw [eR]
    have s1 := Same.new (o := .lst (ws.map V.str)) hR
    have hlw : ws.length ≤ 50000 := by
      simp only [List.length_cons] at hl
      omega
    have hw2 : ∀ w ∈ ws, WordOk w := fun w m => hw w (List.mem_cons_of_mem _ (List.mem_cons_of_mem _ m))
    refine ⟨R, ws, rfl, upd_same, hw2, hlw, fun e H1 s2 => ?_, fun ps e q as H1 s2 hq hql hp hf => ?_⟩
    · rw [e] at kN
      exact ⟨_, rfl, rfl, _, rfl, ifT rfl (kN rfl _ (s1.trans s2))⟩
    · rw [e] at kS
      refine ⟨_, rfl, rfl, _, rfl, ifF rfl ?_⟩
      have s12 := s1.trans s2
      have S1 := S.same s12
      obtain ⟨es, c1, c2, _⟩ := S1.cs
      refine ⟨_, rfl, .inl ⟨rfl, _, SqL.of c1⟩, _, rfl, wa, _, _, _, rfl, rfl, SqL.of (s12 _ _ ha), at1, _, rfl, sz_of (by show 2 ≤ 100000; decide), fun x hx => ?_⟩
      have s3 := Same.new (o := .tup [.str w1, .ref q]) hx
      have hx3 : upd H1 x (.tup [.str w1, .ref q]) x = some (.tup [.str w1, .ref q]) := upd_same
      have S3 := S1.same s3
      have hql3 := s3 _ _ hql
      have hp3 := hp.mono s3
      have c13 := s3 _ _ c1
      generalize upd H1 x (.tup [.str w1, .ref q]) = H3 at *
      have nq : q ∉ cl :: fl :: rs := S.new (none_of s1 hq)
      have nx : x ∉ cl :: fl :: rs := S1.new hx
      have pm : PairsM (cl :: fl :: rs) H3 as ps := pairsM_of (F := H) hp3 (fun y m => none_of s1 (hf y m)) (fun b n => S.new n)
      refine ⟨cl, _, _, rfl, rfl, c13, sz_lt (by rw [List.length_map, c2]; omega), ?_⟩
      refine kS (w1, ps) rfl _ ?_ (S3.addCls c13 ⟨q, as, ⟨hx3, nx⟩, ⟨hql3, nq⟩, pm⟩)
      exact (KeepM.of (s12.trans s3)).trans (KeepM.upd (by simp))
def spTakesF : Sp := fun vs H Q _ => ∃ (wa cl fl : Addr) (rs : List Addr) (st : TSt) (ws : List Str), vs = [.ref wa, .ref fl] ∧ H wa = some (.lst (ws.map V.str)) ∧ (∀ w ∈ ws, WordOk w) ∧ ws.length ≤ 50000 ∧ 2 ≤ ws.length ∧ StM H cl fl rs st ∧ st.fns.length ≤ 50000 ∧
  (fnOf ws = none → ∀ H', Same H H' → Q (.bl false) H') ∧ (∀ f, fnOf ws = some f → ∀ (H' : Hp) (ra : Addr), H ra = none → KeepM [fl] H H' → StM H' cl fl (rs ++ [ra]) (st.addFn f) → Q (.bl true) H')
def fnOf4 (w0 w1 w2 w3 : Str) (ws : List Str) : Option PFn := if kindB w2 = false then none else
    if inV (V.str "/") ((w0 :: w1 :: w2 :: w3 :: ws).map V.str) = false then none else
    (((w3 :: ws).take (strokeAt (w0 :: w1 :: w2 :: w3 :: ws) - 3)).mapM pairOf).bind fun ns => (((w0 :: w1 :: w2 :: w3 :: ws).drop (strokeAt (w0 :: w1 :: w2 :: w3 :: ws) + 1)).mapM pairOf).map fun ms => ⟨w1, w2, ns, ms, []⟩
theorem fnOf_eq {w0 w1 w2 w3 : Str} {ws : List Str} : fnOf (w0 :: w1 :: w2 :: w3 :: ws) = fnOf4 w0 w1 w2 w3 ws := rfl
theorem cut_mid {xs : List V} {n m : Nat} (h : m ≤ xs.length) : cutV xs (some (n : Int)) (some (m : Int)) = (xs.drop n).take (m - n) := by
  unfold cutV
  have e1 : HT.sIx xs.length 0 (some (n : Int)) = min n xs.length := by
    unfold HT.sIx
    simp
    try omega
  have e2 : HT.sIx xs.length xs.length (some (m : Int)) = m := by
    unfold HT.sIx
    simp only [Option.elim]
    first
      | (rw [if_neg (by omega)]; omega)
      | (simp; rw [if_neg (by omega)]; omega)
      | (simp; omega)
  rw [e1, e2]
  by_cases c : n ≤ xs.length
  · rw [Nat.min_eq_left c]
  · rw [Nat.min_eq_right (by omega), List.drop_of_length_le (Nat.le_refl _), List.drop_of_length_le (by omega), List.take_nil, List.take_nil]
theorem stroke_spec {ws : List Str} (h : inV (V.str "/") (ws.map V.str) = true) : ∃ z, (ws.map V.str)[strokeAt ws]? = some (.str z) ∧ eqV (.str z) (V.str "/") = true ∧ strokeAt ws < ws.length ∧ ∀ (m : Nat) (z' : V), m < strokeAt ws → (ws.map V.str)[m]? = some z' → eqV z' (V.str "/") = false := by
  have hlt : strokeAt ws < ws.length := by
    unfold strokeAt
    rw [List.findIdx_lt_length]
    unfold inV at h
    rw [List.any_map, List.any_eq_true] at h
    obtain ⟨x, m, e⟩ := h
    exact ⟨x, m, e⟩
  refine ⟨ws[strokeAt ws], by rw [List.getElem?_map, List.getElem?_eq_getElem hlt]; rfl, List.findIdx_getElem (w := hlt), hlt, fun m z' hm e => ?_⟩
  rw [List.getElem?_map] at e
  obtain ⟨x, e1, rfl⟩ := Option.map_eq_some_iff.mp e
  obtain ⟨hm2, e2⟩ := List.getElem?_eq_some_iff.mp e1
  have := List.not_of_lt_findIdx hm
  rw [← e2]
  exact this
theorem four : ∀ {l : List Str}, ¬ l.length < 4 → ∃ a b c d r, l = a :: b :: c :: d :: r
  | a :: b :: c :: d :: r, _ => ⟨a, b, c, d, r, rfl⟩
  | [], h => absurd (by decide) h
  | [_], h => absurd (by decide : 1 < 4) h
  | [_, _], h => absurd (by decide : 2 < 4) h
  | [_, _, _], h => absurd (by decide : 3 < 4) h
theorem sc_takes_function : FnScope ["words", "functions", "stroke", "params", "others"] ["words", "functions"] (defScope s_takes_function) := ⟨rfl, rfl, rfl, by decide +kernel, rfl, by decide +kernel, by decide +kernel⟩
theorem ok_takes_function (T : Ctx w K mg) (H_read_pairs : Has P w K mg base 2 "read_pairs" ["words"] spPairs) (H_is_kind : Has P w K mg base 1 "is_kind" ["thing"] spKindB) : Has P w K mg base 3 "_takes_function" ["words", "functions"] spTakesF := by
  obtain ⟨fd, F⟩ := T.D_takes_function
  obtain ⟨fd_read_pairs, G_read_pairs, b_read_pairs⟩ := H_read_pairs.ex
  obtain ⟨fd_is_kind, G_is_kind, b_is_kind⟩ := H_is_kind.ex
  refine ⟨⟨fd, F.ok sc_takes_function (fun vs H Q E h => ?_) (fun cdv A outer s H vs Q E hr h => ?_), F.bindsN fun _ _ _ _ _ _ us hl => match us, hl with | [_, _], _ => rfl⟩, F.kp, T.g_takes_function⟩
  · obtain ⟨wa, cl, fl, rs, st, ws, rfl, ha, hw, hl, h2, S, hcl, kN, kS⟩ := h; rfl
  · obtain ⟨wa, cl, fl, rs, st, ws, rfl, ha, hw, hl, h2, S, hcl, kN, kS⟩ := h
    have hr_read_pairs : Room 2 _ := hr.mono (by decide)
    have hr_is_kind : Room 1 _ := hr.mono (by decide)
    have hu := hu_of hr
    obtain ⟨ts, e_STROKE⟩ := T.s_STROKE
    refine ⟨_, PSs.nox (pss_cons (ps_if (PW.pt (pw_or (pt_cmpR op_lt (pe_callB call_len_seq (by rfl) T.f_len (by decide +kernel) (pa_cons (pv 0) pa_nil)) pe_int (nomark _)) (pw_or (pt_not (pt_val (pe_call G_is_kind hr_is_kind (by rfl) H_is_kind.gl H_is_kind.kp b_is_kind .nil pass0 (pa_cons (pe_ix ix_list (pv 0) pe_int (fun _ _ => rfl)) pa_nil)))) (pw_or1 (pt_cmpR op_notIn_seq (pe_glob (v := .str "/") rfl e_STROKE ⟨_, rfl⟩) (pv 0) rfl))))) (pss_one (ps_ret pe_bl)) pss_nil)
      (pss_cons (ps_set (i := 2) sc_takes_function.nd rfl (Or.inl rfl) (pe_bm PySem.F.plainAttrs_list PySem.F.slot_list_index PySem.F.type_list_index mt_index (pv 0) (pa_cons (pe_glob (v := .str "/") rfl e_STROKE ⟨_, rfl⟩) pa_nil)))
      (pss_cons (ps_set (i := 3) sc_takes_function.nd rfl (Or.inl rfl) (pe_call G_read_pairs hr_read_pairs (by rfl) H_read_pairs.gl H_read_pairs.kp b_read_pairs .nil pass0 (pa_cons (pe_slice sl_list (pv 0) (po_some pe_int) (po_some (pv 2))) pa_nil)))
      (pss_cons (ps_set (i := 4) sc_takes_function.nd rfl (Or.inl rfl) (pe_call G_read_pairs hr_read_pairs (by rfl) H_read_pairs.gl H_read_pairs.kp b_read_pairs .nil pass0 (pa_cons (pe_slice sl_list (pv 0) (po_some (pe_op op_add (pv 2) pe_int)) po_none) pa_nil)))
      (pss_cons (ps_if (PW.pt (pw_or (pt_cmpR op_isN (pv 3) pe_non (nomark _)) (pw_or1 (pt_cmpR op_isN (pv 4) pe_non (nomark _))))) (pss_one (ps_ret pe_bl)) pss_nil)
      (pss_cons (ps_expr (pe_bm PySem.F.plainAttrs_list PySem.F.slot_list_append PySem.F.type_list_append mt_append (pv 1) (pa_cons (pe_tup (pa_cons (pe_ix ix_list (pv 0) pe_int (fun _ _ => rfl)) (pa_cons (pv 3) (pa_cons (pv 4) (pa_cons (pe_ix ix_list (pv 0) pe_int (fun _ _ => rfl)) (pa_cons (pe_lst pa_nil) pa_nil)))))) pa_nil)))
      (pss_one (ps_ret pe_bl)))))))), ?_⟩
    by_cases h4 : ws.length < 4
    · refine ⟨_, rfl, wa, _, rfl, .inl (SqL.of ha), _, _, rfl, rfl, _, rfl, ifT (decide_eq_true (by rw [List.length_map]; omega)) (kN ?_ _ (Same.refl _))⟩
      match ws, h4 with
      | [], _ => rfl
      | [_], _ => rfl
      | [_, _], _ => rfl
      | [_, _, _], _ => rfl
    obtain ⟨w0, w1, w2, w3, ws, rfl⟩ := four h4
    rw [fnOf_eq] at kN kS
    unfold fnOf4 at kN kS
    refine ⟨_, rfl, wa, _, rfl, .inl (SqL.of ha), _, _, rfl, rfl, _, rfl, ifF (decide_eq_false (by simp only [List.length_map, List.length_cons]; omega)) ?_⟩
    refine ⟨_, rfl, wa, _, _, _, rfl, rfl, SqL.of ha, at2, w2, rfl, _, rfl, ?_⟩
    cases ck : kindB w2 with
    | false =>
      rw [ck, if_pos rfl] at kN
      exact ifT rfl (kN rfl _ (Same.refl _))
    | true =>
    rw [ck, if_neg Bool.noConfusion] at kN kS
    refine ifF rfl ⟨_, rfl, wa, _, rfl, .inl (SqL.of ha), rfl, flat_strs _, _, rfl, ?_⟩
    generalize hall : w0 :: w1 :: w2 :: w3 :: ws = all at *
    have edr : all.drop 3 = w3 :: ws := by rw [← hall]; rfl
    rw [← edr] at kN kS
    cases cs : inV (V.str "/") (all.map V.str) with
    | false =>
      rw [cs, if_pos rfl] at kN
      exact ifT rfl (kN rfl _ (Same.refl _))
    | true =>
    rw [cs, if_neg Bool.noConfusion] at kN kS
    refine ifF rfl ?_
    obtain ⟨z, i1, i2, i3, i4⟩ := stroke_spec cs
    refine ⟨_, rfl, .inl ⟨rfl, _, SqL.of ha⟩, _, _, _, _, _, rfl, rfl, SqL.of ha, rfl, flat_strs _, i1, i2, i4, ?_⟩
    generalize strokeAt all = sk at *
    refine ⟨_, rfl, 3, rfl, _, rfl, _, rfl, wa, _, rfl, SqL.of ha, fun R hR => ?_⟩
    have eR : cutV (all.map V.str) (some 3) (some (sk : Int)) = ((all.drop 3).take (sk - 3)).map V.str := by
      have e := cut_mid (xs := all.map V.str) (n := 3) (m := sk) (by rw [List.length_map]; omega)
      rw [List.map_take, List.map_drop]
      exact e
    rw [eR]
    have s1 := Same.new (o := .lst (((all.drop 3).take (sk - 3)).map V.str)) hR
    have hw2 : ∀ w ∈ (all.drop 3).take (sk - 3), WordOk w := fun w m => hw w (List.drop_subset _ _ (List.take_subset _ _ m))
    have hl2 : ((all.drop 3).take (sk - 3)).length ≤ 50000 := by rw [List.length_take, List.length_drop]; omega
    refine ⟨R, _, rfl, upd_same, hw2, hl2, fun e H1 s2 => ?_, fun ns e q as H1 s2 hq hql hp hf => ?_⟩
    · rw [e] at kN
      refine ⟨_, rfl, _, rfl, _, _, rfl, rfl, _, rfl, wa, _, rfl, SqL.of ((s1.trans s2) _ _ ha), fun R2 hR2 => ?_⟩
      have eR2 : cutV (all.map V.str) (some ((sk : Int) + 1)) none = (all.drop (sk + 1)).map V.str := by
        have e1 : ((sk : Int) + 1) = ((sk + 1 : Nat) : Int) := rfl
        rw [e1, cut_from, List.map_drop]
      rw [eR2]
      have s3 := Same.new (o := .lst ((all.drop (sk + 1)).map V.str)) hR2
      have hw3 : ∀ w ∈ all.drop (sk + 1), WordOk w := fun w m => hw w (List.drop_subset _ _ m)
      have hl3 : (all.drop (sk + 1)).length ≤ 50000 := by rw [List.length_drop]; omega
      refine ⟨R2, _, rfl, upd_same, hw3, hl3, fun e2 H3 s4 => ?_, fun ms e2 q2 bs H3 s4 hq2 hql2 hp2 hf2 => ?_⟩
      · exact ⟨_, rfl, rfl, _, rfl, ifT rfl (kN rfl _ ((s1.trans s2).trans (s3.trans s4)))⟩
      · exact ⟨_, rfl, rfl, _, rfl, ifT rfl (kN rfl _ ((s1.trans s2).trans (s3.trans s4)))⟩
    · rw [e] at kN kS
      refine ⟨_, rfl, _, rfl, _, _, rfl, rfl, _, rfl, wa, _, rfl, SqL.of ((s1.trans s2) _ _ ha), fun R2 hR2 => ?_⟩
      have eR2 : cutV (all.map V.str) (some ((sk : Int) + 1)) none = (all.drop (sk + 1)).map V.str := by
        have e1 : ((sk : Int) + 1) = ((sk + 1 : Nat) : Int) := rfl
        rw [e1, cut_from, List.map_drop]
      rw [eR2]
      have s3 := Same.new (o := .lst ((all.drop (sk + 1)).map V.str)) hR2
      have hw3 : ∀ w ∈ all.drop (sk + 1), WordOk w := fun w m => hw w (List.drop_subset _ _ m)
      have hl3 : (all.drop (sk + 1)).length ≤ 50000 := by rw [List.length_drop]; omega
      refine ⟨R2, _, rfl, upd_same, hw3, hl3, fun e2 H3 s4 => ?_, fun ms e2 q2 bs H3 s4 hq2 hql2 hp2 hf2 => ?_⟩
      · rw [e2] at kN
        exact ⟨_, rfl, rfl, _, rfl, ifF rfl ⟨_, rfl, rfl, _, rfl, ifT rfl (kN rfl _ ((s1.trans s2).trans (s3.trans s4)))⟩⟩
      rw [e2] at kS
      have s34 := s3.trans s4
      have s12 := s1.trans s2
      have s14 := s12.trans s34
      have S4 := S.same s14
      obtain ⟨es, f1, f2, f3, _⟩ := S4.fs
      refine ⟨_, rfl, rfl, _, rfl, ifF rfl ⟨_, rfl, rfl, _, rfl, ifF rfl ?_⟩⟩
      refine ⟨_, rfl, .inl ⟨rfl, _, SqL.of f1⟩, ?_⟩
      have a1 : atI (all.map V.str) 1 = some (.str w1) := by rw [← hall]; exact at1
      have a2 : atI (all.map V.str) 2 = some (.str w2) := by rw [← hall]; exact at2
      refine ⟨_, rfl, wa, _, _, _, rfl, rfl, SqL.of (s14 _ _ ha), a1, _, rfl, _, rfl, _, rfl, wa, _, _, _, rfl, rfl, SqL.of (s14 _ _ ha), a2, sz_of (by show 0 ≤ 100000; decide), fun ra hra => ⟨sz_of (by show 5 ≤ 100000; decide), fun x hx => ?_⟩⟩
      have s5 := Same.new (o := .lst []) hra
      have s6 := Same.new (o := .tup [.str w1, .ref q, .ref q2, .str w2, .ref ra]) hx
      have hra6 : upd (upd H3 ra (.lst [])) x (.tup [.str w1, .ref q, .ref q2, .str w2, .ref ra]) ra = some (.lst []) := s6 _ _ upd_same
      have hx6 : upd (upd H3 ra (.lst [])) x (.tup [.str w1, .ref q, .ref q2, .str w2, .ref ra]) x = some (.tup [.str w1, .ref q, .ref q2, .str w2, .ref ra]) := upd_same
      have s56 := s5.trans s6
      have xn3 : H3 x = none := none_of s5 hx
      generalize upd (upd H3 ra (.lst [])) x (.tup [.str w1, .ref q, .ref q2, .str w2, .ref ra]) = H6 at *
      have xra : x ≠ ra := fun z => by rw [z, hra6] at hx6; cases hx6
      have f16 := s56 _ _ f1
      refine ⟨fl, _, _, rfl, rfl, f16, sz_lt (by rw [List.length_map, f2]; omega), ?_⟩
      have notM : ∀ b, H3 b = none ∨ H b = none → b ≠ ra → b ∉ (cl :: fl :: rs) ++ [ra] := fun b h n m => by
        rcases List.mem_append.mp m with m | m
        · rcases h with h | h
          · exact S4.new h m
          · exact S.new h m
        · exact n (List.mem_singleton.mp m)
      have old : ∀ {b o}, H3 b = some o → b ≠ ra := fun {b o} h z => by rw [z, hra] at h; cases h
      have hql3 := s34 _ _ hql
      have pr : ∀ y ∈ as, y ≠ ra := fun y m => by
        obtain ⟨i, hi, rfl⟩ := List.getElem_of_mem m
        have hi2 : i < ns.length := by rw [← hp.len]; exact hi
        exact old (s34 _ _ (hp.at_ i _ _ (List.getElem?_eq_getElem hi) (List.getElem?_eq_getElem hi2)))
      have pr2 : ∀ y ∈ bs, y ≠ ra := fun y m => by
        obtain ⟨i, hi, rfl⟩ := List.getElem_of_mem m
        have hi2 : i < ms.length := by rw [← hp2.len]; exact hi
        exact old (hp2.at_ i _ _ (List.getElem?_eq_getElem hi) (List.getElem?_eq_getElem hi2))
      have hp6 := (hp.mono s34).mono s56
      have hp26 := hp2.mono s56
      have F6 : FnM ((cl :: fl :: rs) ++ [ra]) H6 x ra ⟨w1, w2, ns, ms, []⟩ :=
        ⟨q, q2, as, bs, ⟨hx6, notM x (.inl xn3) xra⟩, ⟨s56 _ _ hql3, notM q (.inr (none_of s1 hq)) (old hql3)⟩, ⟨s56 _ _ hql2, notM q2 (.inr (none_of (s12.trans s3) hq2)) (old hql2)⟩,
          ⟨hp6.len, fun i a p e1 e2 => ⟨hp6.at_ i a p e1 e2, notM a (.inr (none_of s1 (hf a (List.mem_of_getElem? e1)))) (pr a (List.mem_of_getElem? e1))⟩⟩,
          ⟨hp26.len, fun i a p e1 e2 => ⟨hp26.at_ i a p e1 e2, notM a (.inr (none_of (s12.trans s3) (hf2 a (List.mem_of_getElem? e1)))) (pr2 a (List.mem_of_getElem? e1))⟩⟩⟩
      refine kS _ rfl _ ra (none_of s14 hra) ((KeepM.of (s14.trans s56)).trans (KeepM.upd (by simp))) (S4.addFn s56 hra hra6 f1 F6 rfl)

end
end W7
set_option Elab.async false
set_option linter.all false
set_option maxRecDepth 100000
set_option maxHeartbeats 4000000
namespace W7
open PySem PySem.Spec PyProof.Rows L2 RZ
section
variable {P : Program} {w : World} {K : PySem.W.Frag} {mg : Str → Option Value} {base : Heap}

structure Small (st : TSt) : Prop where
  c : st.cls.length ≤ 50000
  f : st.fns.length ≤ 50000
  r : ∀ f ∈ st.fns, f.rws.length ≤ 50000
def spTakesL : Sp := fun vs H Q _ => ∃ (inner : Bool) (wa cl fl : Addr) (rs : List Addr) (st : TSt) (ws : List Str), vs = [.bl inner, .ref wa, .ref cl, .ref fl] ∧ H wa = some (.lst (ws.map V.str)) ∧ (∀ w ∈ ws, WordOk w) ∧ ws.length ≤ 50000 ∧ StM H cl fl rs st ∧ Small st ∧
  (step st (inner, ws) = none → ∀ H', Same H H' → Q (.bl false) H') ∧ (∀ st', step st (inner, ws) = some st' → ∀ (H' : Hp) (rs' : List Addr), KeepM (cl :: fl :: rs) H H' → (∀ b ∈ rs', b ∈ rs ∨ H b = none) → StM H' cl fl rs' st' → Q (.bl true) H')
theorem rowM_of {M : List Addr} {F H : Hp} {q : Addr} {r : RowV} (h : RowRd F H q r.1 r.2) (n : ∀ b, F b = none → b ∉ M) (hq : F q = none) : RowM M H q r := by
  obtain ⟨vs, m⟩ := r
  cases m with
  | none => exact ⟨h, n q hq⟩
  | some ns =>
    obtain ⟨l, h1, h2, h3⟩ := (show ∃ l, F l = none ∧ H q = some (.tup (vs ++ [.ref l])) ∧ H l = some (.lst (ns.map V.str)) from h)
    exact ⟨l, ⟨h2, n q hq⟩, ⟨h3, n l h1⟩⟩
theorem step_in {st : TSt} {ws : List Str} : step st (true, ws) = (match rowOf ws, st.fns.getLast? with
    | some r, some f => some (st.addRow f r)
    | _, _ => none) := rfl
theorem step_out {st : TSt} {ws : List Str} : step st (false, ws) = headOf st ws := rfl
def head2 (st : TSt) (w0 w1 : Str) (ws : List Str) : Option TSt := if namB w1 = false then none else
    if w0 = "class" ∧ st.fns = [] then (clsOf (w0 :: w1 :: ws)).map st.addCls
    else if w0 = "function" then (fnOf (w0 :: w1 :: ws)).map st.addFn else none
theorem head_eq {st : TSt} {w0 w1 : Str} {ws : List Str} : headOf st (w0 :: w1 :: ws) = head2 st w0 w1 ws := rfl
theorem sc_takes_line : FnScope ["inner", "words", "classes", "functions", "row"] ["inner", "words", "classes", "functions"] (defScope s_takes_line) := ⟨rfl, rfl, rfl, by decide +kernel, rfl, by decide +kernel, by decide +kernel⟩
theorem ok_takes_line (T : Ctx w K mg) (H_read_row : Has P w K mg base 3 "read_row" ["words", "allowed"] (spRow K)) (H_is_name : Has P w K mg base 1 "is_name" ["thing"] spNameB) (H_takes_class : Has P w K mg base 3 "_takes_class" ["words", "classes"] spTakesC) (H_takes_function : Has P w K mg base 3 "_takes_function" ["words", "functions"] spTakesF) : Has P w K mg base 4 "_takes_line" ["inner", "words", "classes", "functions"] spTakesL := by
  obtain ⟨fd, F⟩ := T.D_takes_line
  obtain ⟨fd_read_row, G_read_row, b_read_row⟩ := H_read_row.ex
  obtain ⟨fd_is_name, G_is_name, b_is_name⟩ := H_is_name.ex
  obtain ⟨fd_takes_class, G_takes_class, b_takes_class⟩ := H_takes_class.ex
  obtain ⟨fd_takes_function, G_takes_function, b_takes_function⟩ := H_takes_function.ex
  refine ⟨⟨fd, F.ok sc_takes_line (fun vs H Q E h => ?_) (fun cdv A outer s H vs Q E hr h => ?_), F.bindsN fun _ _ _ _ _ _ us hl => match us, hl with | [_, _, _, _], _ => rfl⟩, F.kp, T.g_takes_line⟩
  · obtain ⟨inner, wa, cl, fl, rs, st, ws, rfl, ha, hw, hl, S, sm, kN, kS⟩ := h; rfl
  · obtain ⟨inner, wa, cl, fl, rs, st, ws, rfl, ha, hw, hl, S, sm, kN, kS⟩ := h
    have hr_read_row : Room 3 _ := hr.mono (by decide)
    have hr_is_name : Room 1 _ := hr.mono (by decide)
    have hr_takes_class : Room 3 _ := hr.mono (by decide)
    have hr_takes_function : Room 3 _ := hr.mono (by decide)
    have hu := hu_of hr
    refine ⟨_, PSs.nox (pss_cons (ps_if (pt_val (pv 0)) (pss_cons (ps_set (i := 4) sc_takes_line.nd rfl (Or.inl rfl) (pe_call G_read_row hr_read_row (by rfl) H_read_row.gl H_read_row.kp b_read_row .nil pass0 (pa_cons (pv 1) (pa_cons (pe_glob (v := .ref (He.ga K "ROW_WORDS")) rfl T.g_ROW_WORDS rfl) pa_nil))))
      (pss_cons (ps_if (PW.pt (pw_or (pt_cmpR op_isN (pv 4) pe_non (nomark _)) (pw_or1 (pt_cmpR op_eq (pe_callB call_len_seq (by rfl) T.f_len (by decide +kernel) (pa_cons (pv 3) pa_nil)) pe_int (nomark _))))) (pss_one (ps_ret pe_bl)) pss_nil)
      (pss_cons (ps_expr (pe_bm PySem.F.plainAttrs_list PySem.F.slot_list_append PySem.F.type_list_append mt_append (pe_ix ix_tup (pe_ix ix_list (pv 3) (pe_un un_neg pe_int) (fun _ _ => rfl)) pe_int (fun _ _ => rfl)) (pa_cons (pv 4) pa_nil)))
      (pss_one (ps_ret pe_bl))))) pss_nil)
      (pss_cons (ps_if (PW.pt (pw_or (pt_cmpR op_lt (pe_callB call_len_seq (by rfl) T.f_len (by decide +kernel) (pa_cons (pv 1) pa_nil)) pe_int (nomark _)) (pw_or1 (pt_not (pt_val (pe_call G_is_name hr_is_name (by rfl) H_is_name.gl H_is_name.kp b_is_name .nil pass0 (pa_cons (pe_ix ix_list (pv 1) pe_int (fun _ _ => rfl)) pa_nil))))))) (pss_one (ps_ret pe_bl)) pss_nil)
      (pss_cons (ps_if (PW.pt (pw_and (pt_cmpR op_eq (pe_ix ix_list (pv 1) pe_int (fun _ _ => rfl)) pe_str (nomark _)) (pw_and1 (pt_cmpR op_eq (pe_callB call_len_seq (by rfl) T.f_len (by decide +kernel) (pa_cons (pv 3) pa_nil)) pe_int (nomark _))))) (pss_one (ps_ret (pe_call G_takes_class hr_takes_class (by rfl) H_takes_class.gl H_takes_class.kp b_takes_class .nil pass0 (pa_cons (pv 1) (pa_cons (pv 2) pa_nil))))) pss_nil)
      (pss_one (ps_ret (pe_and (pe_cmpR op_eq (pe_ix ix_list (pv 1) pe_int (fun _ _ => rfl)) pe_str (nomark _)) (pe_one (pe_call G_takes_function hr_takes_function (by rfl) H_takes_function.gl H_takes_function.kp b_takes_function .nil pass0 (pa_cons (pv 1) (pa_cons (pv 3) pa_nil)))))))))), ?_⟩
    refine ⟨_, rfl, _, rfl, ?_⟩
    cases inner with
    | true =>
      rw [step_in] at kN kS
      refine ifT rfl ?_
      refine ⟨_, rfl, wa, ws, rfl, ha, hw, hl, fun e H1 s1 => ?_, fun rv m e q H1 s1 hq hr => ?_⟩
      · rw [e] at kN
        refine ⟨_, rfl, rfl, _, rfl, ifT rfl (kN ?_ _ s1)⟩
        rfl
      · rw [e] at kN kS
        have S1 := S.same s1
        obtain ⟨es, f1, f2, f3, f4⟩ := S1.fs
        refine ⟨_, rfl, rfl, _, rfl, ifF rfl ⟨_, rfl, fl, _, rfl, .inl (SqL.of f1), rfl, _, rfl, ?_⟩⟩
        cases el : st.fns.getLast? with
        | none =>
          have e0 : st.fns = [] := List.getLast?_eq_none_iff.mp el
          rw [el] at kN
          exact ifT (decide_eq_true (by rw [List.length_map, f2, e0]; rfl)) (kN rfl _ s1)
        | some f =>
          rw [el] at kS
          obtain ⟨l1, l2, l3⟩ := last_get el
          refine ifF (decide_eq_false (by rw [List.length_map, f2]; intro z; have := V.int.inj z; omega)) ?_
          have hes : es[st.fns.length - 1]? = some es[st.fns.length - 1] := List.getElem?_eq_getElem (by omega)
          have hrs : rs[st.fns.length - 1]? = some rs[st.fns.length - 1] := List.getElem?_eq_getElem (by omega)
          generalize hra : rs[st.fns.length - 1] = ra at *
          generalize hee : es[st.fns.length - 1] = ee at *
          obtain ⟨pa, oa, as, bs, g1, _⟩ := f4 _ _ _ _ hes hrs l2
          obtain ⟨rows, r1, r2, _⟩ := S1.rw_ _ _ _ hrs l2
          have hat : atI (es.map V.ref) (-1) = some (.ref ee) := by
            have e1 : es = es.dropLast ++ [ee] := by
              have hne : es ≠ [] := fun z => by rw [z] at f2; simp at f2; omega
              have := (List.dropLast_concat_getLast hne).symm
              rw [List.getLast_eq_getElem] at this
              have ix : es.length - 1 = st.fns.length - 1 := by omega
              simp only [ix, hee] at this
              exact this
            rw [e1, List.map_append]
            exact atI_last _ _
          refine ⟨_, rfl, _, rfl, fl, _, _, _, rfl, rfl, SqL.of f1, hat, ee, _, _, _, rfl, rfl, SqT.of g1.1, at4, .inl ⟨rfl, _, SqL.of r1⟩, _, rfl, ?_⟩
          refine ⟨ra, _, _, rfl, rfl, r1, sz_lt ?_, ?_⟩
          · rw [List.length_map, r2]
            have := sm.r f (List.mem_of_getElem? l2)
            omega
          exact kS _ rfl _ rs ((KeepM.of s1).trans (KeepM.upd (List.mem_cons_of_mem _ (List.mem_cons_of_mem _ (List.mem_of_getElem? hrs))))) (fun b m => .inl m) (S1.addRow el hrs r1 (rowM_of hr (fun b n => S.new n) hq))
    | false =>
      rw [step_out] at kN kS
      refine ifF rfl ⟨_, rfl, wa, _, rfl, .inl (SqL.of ha), _, _, rfl, rfl, _, rfl, ?_⟩
      by_cases h2 : ws.length < 2
      · refine ifT (decide_eq_true (by rw [List.length_map]; omega)) (kN ?_ _ (Same.refl _))
        match ws, h2 with
        | [], _ => rfl
        | [_], _ => rfl
      obtain ⟨w0, w1, ws, rfl⟩ : ∃ a b r, ws = a :: b :: r := by
        match ws, h2 with
        | a :: b :: r, _ => exact ⟨a, b, r, rfl⟩
        | [], h => exact absurd (by decide) h
        | [_], h => exact absurd (by decide : 1 < 2) h
      rw [head_eq] at kN kS
      unfold head2 at kN kS
      have hw1 := (hw w1 (List.mem_cons_of_mem _ List.mem_cons_self)).len
      refine ifF (decide_eq_false (by simp only [List.length_map, List.length_cons]; omega)) ⟨_, rfl, wa, _, _, _, rfl, rfl, SqL.of ha, at1, w1, rfl, by omega, fun H1 s1 => ⟨_, rfl, ?_⟩⟩
      cases cn : namB w1 with
      | false =>
        rw [cn, if_pos rfl] at kN
        exact ifT rfl (kN rfl _ s1)
      | true =>
      rw [cn, if_neg Bool.noConfusion] at kN kS
      have S1 := S.same s1
      obtain ⟨es, f1, f2, f3, f4⟩ := S1.fs
      refine ifF rfl ⟨_, rfl, wa, _, _, _, rfl, rfl, SqL.of (s1 _ _ ha), at0, rfl, _, rfl, ?_⟩
      by_cases cc : w0 = "class"
      · refine ifT (decide_eq_true (by rw [cc])) ⟨_, rfl, fl, _, rfl, .inl (SqL.of f1), rfl, _, rfl, ?_⟩
        by_cases c0 : st.fns = []
        · rw [if_pos ⟨cc, c0⟩] at kN kS
          refine ifT (decide_eq_true (by rw [List.length_map, f2, c0]; rfl)) ⟨_, rfl, _, rfl, wa, cl, fl, rs, st, _, rfl, s1 _ _ ha, hw, hl, by simp only [List.length_cons]; omega, S1, sm.c, fun e H2 s2 => ?_, fun c e H2 k2 S2 => ?_⟩
          · rw [e] at kN
            exact kN rfl _ (s1.trans s2)
          · rw [e] at kS
            exact kS _ rfl _ _ ((KeepM.of s1).trans (k2.wide (by simp))) (fun b m => .inl m) S2
        · rw [if_neg (fun z => c0 z.2)] at kN kS
          refine ifF (decide_eq_false (by rw [List.length_map, f2]; intro z; exact c0 (List.length_eq_zero_iff.mp (by have := V.int.inj z; omega)))) ?_
          refine ⟨_, rfl, wa, _, _, _, rfl, rfl, SqL.of (s1 _ _ ha), at0, rfl, _, rfl, ?_⟩
          by_cases cf : w0 = "function"
          rotate_left
          · rw [if_neg cf] at kN
            exact ifF (decide_eq_false (fun z => cf (V.str.inj z))) (kN rfl _ s1)
          rw [if_pos cf] at kN kS
          refine ifT (decide_eq_true (by rw [cf])) ⟨_, rfl, _, rfl, wa, cl, fl, rs, st, _, rfl, s1 _ _ ha, hw, hl, by simp only [List.length_cons]; omega, S1, sm.f, fun e H2 s2 => ?_, fun f e H2 ra hra k2 S2 => ?_⟩
          · rw [e] at kN
            exact kN rfl _ (s1.trans s2)
          · rw [e] at kS
            exact kS _ rfl _ _ ((KeepM.of s1).trans (k2.wide (by simp))) (fun b m => by
              rcases List.mem_append.mp m with m | m
              · exact .inl m
              · rw [List.mem_singleton.mp m]
                exact .inr (none_of s1 hra)) S2
      · rw [if_neg (fun z => cc z.1)] at kN kS
        refine ifF (decide_eq_false (fun z => cc (V.str.inj z))) ?_
        refine ⟨_, rfl, wa, _, _, _, rfl, rfl, SqL.of (s1 _ _ ha), at0, rfl, _, rfl, ?_⟩
        by_cases cf : w0 = "function"
        rotate_left
        · rw [if_neg cf] at kN
          exact ifF (decide_eq_false (fun z => cf (V.str.inj z))) (kN rfl _ s1)
        rw [if_pos cf] at kN kS
        refine ifT (decide_eq_true (by rw [cf])) ⟨_, rfl, _, rfl, wa, cl, fl, rs, st, _, rfl, s1 _ _ ha, hw, hl, by simp only [List.length_cons]; omega, S1, sm.f, fun e H2 s2 => ?_, fun f e H2 ra hra k2 S2 => ?_⟩
        · rw [e] at kN
          exact kN rfl _ (s1.trans s2)
        · rw [e] at kS
          exact kS _ rfl _ _ ((KeepM.of s1).trans (k2.wide (by simp))) (fun b m => by
            rcases List.mem_append.mp m with m | m
            · exact .inl m
            · rw [List.mem_singleton.mp m]
              exact .inr (none_of s1 hra)) S2

end
end W7
set_option Elab.async false
set_option linter.all false
set_option maxRecDepth 100000
set_option maxHeartbeats 4000000
namespace W7
open PySem PySem.Spec PyProof.Rows L2 RZ
section
variable {P : Program} {w : World} {K : PySem.W.Frag} {mg : Str → Option Value} {base : Heap}

/-- pairs as a dict -/
def kvP (ns : List (Str × Str)) : List (Key × V) := ns.map fun n => (Sum.inr n.1, V.str n.2)
theorem valV_kvP {x : Str} : ∀ {l : List (Str × Str)}, x ∉ l.map Prod.fst → valV (kvP l) (Sum.inr x : Key) = none
  | [], _ => rfl
  | a :: l, h => by
    have h1 : ¬ a.1 = x := fun z => h (by rw [← z]; exact List.mem_cons_self)
    have ih := valV_kvP (x := x) (l := l) fun m => h (List.mem_cons_of_mem _ m)
    unfold kvP at ih ⊢
    unfold valV at ih ⊢
    rw [List.map_cons, List.find?_cons_of_neg (by simpa using h1)]
    exact ih
theorem valV_kvP_in {q : Str × Str} : ∀ {l : List (Str × Str)}, (l.map Prod.fst).Nodup → q ∈ l → valV (kvP l) (Sum.inr q.1 : Key) = some (.str q.2)
  | [], _, m => by cases m
  | a :: l, nd, m => by
    obtain ⟨n1, n2⟩ := List.nodup_cons.mp (show (a.1 :: l.map Prod.fst).Nodup from nd)
    unfold kvP
    unfold valV
    rw [List.map_cons]
    by_cases c : a.1 = q.1
    · rw [List.find?_cons_of_pos (by simpa using c)]
      have e : a = q := by
        rcases List.mem_cons.mp m with m | m
        · exact m.symm
        · exact absurd (by rw [c]; exact List.mem_map.mpr ⟨q, m, rfl⟩) n1
      rw [e]
      rfl
    · rw [List.find?_cons_of_neg (by simpa using c)]
      have m2 : q ∈ l := by
        rcases List.mem_cons.mp m with m | m
        · exact absurd (by rw [m]) c
        · exact m
      exact valV_kvP_in n2 m2
theorem putK_new {k : Key} {v : V} {l : List (Key × V)} (h : ∀ q ∈ l, q.1 ≠ k) : putK l k v = l ++ [(k, v)] := by
  unfold putK
  rw [if_neg]
  intro z
  obtain ⟨q, m, e⟩ := List.any_eq_true.mp z
  exact h q m (of_decide_eq_true e)
theorem putK_kvP {q : Str × Str} {l : List (Str × Str)} (h : q.1 ∉ l.map Prod.fst) : putK (kvP l) (Sum.inr q.1 : Key) (.str q.2) = kvP (l ++ [q]) := by
  unfold kvP
  rw [List.map_append]
  refine putK_new fun r m e => h ?_
  obtain ⟨a, ma, rfl⟩ := List.mem_map.mp m
  exact List.mem_map.mpr ⟨a, ma, Sum.inr.inj e⟩
theorem pairFG {H : Hp} {ps : List Addr} {ns : List (Str × Str)} (h : PairsG H ps ns) : ∀ (i : Nat) (p : Addr), ps[i]? = some p → H p = some (.tup [.str (ns.getD i ("", "")).1, .str (ns.getD i ("", "")).2]) ∧ ([V.str (ns.getD i ("", "")).1, .str (ns.getD i ("", "")).2] : List V).length ≤ 100 ∧ ∀ x ∈ ([V.str (ns.getD i ("", "")).1, .str (ns.getD i ("", "")).2] : List V), Fl x := by
  intro i p e
  have hi : i < ns.length := by
    rw [← h.len]
    exact (List.getElem?_eq_some_iff.mp e).1
  refine ⟨?_, by simp, fun x m => ?_⟩
  · have q := h.at_ i p ns[i] e (List.getElem?_eq_getElem hi)
    rw [q, List.getD_eq_getElem?_getD, List.getElem?_eq_getElem hi]
    rfl
  · simp at m
    rcases m with rfl | rfl
    · exact .str _
    · exact .str _
theorem fPairG {H : Hp} {qs : List Addr} {ns : List (Str × Str)} (hl : qs.length = ns.length) (h : ∀ (i : Nat) (p : Addr), qs[i]? = some p → H p = some (.tup [.str (ns.getD i ("", "")).1, .str (ns.getD i ("", "")).2])) : PairsG H qs ns := by
  refine ⟨hl, fun i p x e1 e2 => ?_⟩
  rw [h i p e1, List.getD_eq_getElem?_getD, e2]
  rfl
def spDiff (K : PySem.W.Frag) : Sp := fun vs H Q _ => ∃ (p fa : Addr) (cs ks us : List (Key × V)) (ps : List Addr) (ns : List (Str × Str)), vs = [.ref p, .ref fa] ∧ SrcH K H p cs ks us ∧ H fa = some (.lst (ps.map V.ref)) ∧ PairsG H ps ns ∧ (∀ q ∈ ns, valV ks (Sum.inr q.1 : Key) = none ∨ valV ks (Sum.inr q.1 : Key) = some (.str q.2)) ∧ ns.length ≤ 100 ∧ ∀ H', Same H H' → Q (.bl false) H'
theorem any_false {n : Nat} : ((List.range n).map fun _ => false).any id = false := by
  rw [List.any_map]
  exact List.any_eq_false.mpr fun x _ => by simp
/-- all but what stands at the places of l -/
def ButL (l : List Addr) (H H' : Hp) : Prop := ∀ b u, H b = some u → b ∉ l → H' b = some u
/-- a class as it is handed in, with its fields -/
def ClsG (H : Hp) (e : Addr) (c : Str × List (Str × Str)) : Prop := ∃ (fa : Addr) (ps : List Addr), H e = some (.tup [.str c.1, .ref fa]) ∧ H fa = some (.lst (ps.map V.ref)) ∧ PairsG H ps c.2
theorem ClsG.mono {H H' : Hp} {e : Addr} {c : Str × List (Str × Str)} (h : ClsG H e c) (s : Same H H') : ClsG H' e c := by
  obtain ⟨fa, ps, h1, h2, h3⟩ := h
  exact ⟨fa, ps, s _ _ h1, s _ _ h2, h3.mono s⟩
def csM (cl : List (Str × List (Str × Str))) (qs : List Addr) : List (Key × V) := (cl.zip qs).map fun q => (Sum.inr q.1.1, V.ref q.2)
def ksF (ks : List (Key × V)) (ns : List (Str × Str)) : List (Key × V) := ns.foldl (fun ks q => putK ks (Sum.inr q.1) (.str q.2)) ks
def ksM (cl : List (Str × List (Str × Str))) : List (Key × V) := cl.foldl (fun ks c => ksF ks c.2) []
theorem putK_len (ks : List (Key × V)) (k : Key) (v : V) : (putK ks k v).length ≤ ks.length + 1 := by
  unfold putK
  split
  · rw [List.length_map]
    omega
  · rw [List.length_append]
    exact Nat.le_refl _
theorem ksF_len (ns : List (Str × Str)) : ∀ ks : List (Key × V), (ksF ks ns).length ≤ ks.length + ns.length := by
  induction ns with
  | nil => exact fun ks => Nat.le_refl _
  | cons a l ih =>
    intro ks
    have h1 := ih (putK ks (Sum.inr a.1) (.str a.2))
    have h2 := putK_len ks (Sum.inr a.1) (.str a.2)
    show (ksF (putK ks (Sum.inr a.1) (.str a.2)) l).length ≤ _
    rw [List.length_cons]
    omega
theorem ksF_snoc (ks : List (Key × V)) (ns : List (Str × Str)) (q : Str × Str) : ksF ks (ns ++ [q]) = putK (ksF ks ns) (Sum.inr q.1) (.str q.2) := by
  unfold ksF
  rw [List.foldl_append]
  rfl
theorem ksM_snoc (cl : List (Str × List (Str × Str))) (c : Str × List (Str × Str)) : ksM (cl ++ [c]) = ksF (ksM cl) c.2 := by
  unfold ksM
  rw [List.foldl_append]
  rfl
theorem ksM_len : ∀ (cl : List (Str × List (Str × Str))) (ks : List (Key × V)), (∀ c ∈ cl, c.2.length ≤ 4) → (cl.foldl (fun ks c => ksF ks c.2) ks).length ≤ ks.length + 4 * cl.length
  | [], ks, _ => by simp
  | c :: cl, ks, h => by
    have h1 := ksM_len cl (ksF ks c.2) fun d m => h d (List.mem_cons_of_mem _ m)
    have h2 := ksF_len c.2 ks
    have h3 := h c List.mem_cons_self
    rw [List.foldl_cons, List.length_cons]
    omega
theorem cs_ne {cl : List (Str × List (Str × Str))} {qs : List Addr} {i : Nat} {c : Str × List (Str × Str)} (nd : (cl.map Prod.fst).Nodup) (h : cl[i]? = some c) : ∀ q ∈ csM (cl.take i) qs, q.1 ≠ (Sum.inr c.1 : Key) := by
  intro q m e
  unfold csM at m
  obtain ⟨r, mr, rfl⟩ := List.mem_map.mp m
  have m1 := (List.of_mem_zip mr).1
  have e1 : r.1.1 = c.1 := Sum.inr.inj e
  have q1 : (cl.map Prod.fst)[i]? = some c.1 := by
    rw [List.getElem?_map, h]
    rfl
  refine not_in_take nd q1 ?_
  rw [← List.map_take, ← e1]
  exact List.mem_map.mpr ⟨r.1, m1, rfl⟩
theorem cs_snoc {cl : List (Str × List (Str × Str))} {qs : List Addr} {i : Nat} {c : Str × List (Str × Str)} {x : Addr} (h : cl[i]? = some c) (hl : qs.length = i) : csM (cl.take (i + 1)) (qs ++ [x]) = csM (cl.take i) qs ++ [(Sum.inr c.1, V.ref x)] := by
  unfold csM
  rw [take_snoc h, List.zip_append (by
    rw [List.length_take, hl]
    have := (List.getElem?_eq_some_iff.mp h).1
    omega), List.map_append]
  rfl
theorem valV_newC {k : Key} : ∀ {l : List (Key × V)}, (∀ q ∈ l, q.1 ≠ k) → valV l k = none
  | [], _ => rfl
  | a :: l, h => by
    have ih := valV_newC (k := k) (l := l) fun q m => h q (List.mem_cons_of_mem _ m)
    unfold valV at ih ⊢
    rw [List.find?_cons_of_neg (by simpa using h a List.mem_cons_self)]
    exact ih
/-- classes that are right, by themselves and beside one another -/
structure ClsOk (cl : List (Str × List (Str × Str))) : Prop where
  nd : (cl.map Prod.fst).Nodup
  one : ∀ c ∈ cl, Nam c.1 ∧ (∀ q ∈ c.2, Nam q.1 ∧ IsKind q.2) ∧ (c.2.map Prod.fst).Nodup ∧ c.2.length ≤ 4
  l6 : cl.length ≤ 6
  fit : ∀ (i : Nat) c, cl[i]? = some c → ∀ q ∈ c.2, valV (ksM (cl.take i)) (Sum.inr q.1 : Key) = none ∨ valV (ksM (cl.take i)) (Sum.inr q.1 : Key) = some (.str q.2)
/-- what is changed in place: dicts and instances -/
def Loose (u : HO) : Prop := (∃ z, u = .dK z) ∨ ∃ C d fs, u = .ins C d fs
def KeepN (H H' : Hp) : Prop := ∀ b u, H b = some u → ¬ Loose u → H' b = some u
theorem KeepN.of {H H' : Hp} (e : Same H H') : KeepN H H' := fun b u h _ => e b u h
theorem KeepN.trans {H H1 H2 : Hp} (a : KeepN H H1) (b : KeepN H1 H2) : KeepN H H2 := fun c u h n => b c u (a c u h n) n
theorem KeepN.butL {H H' : Hp} {l : List Addr} (hl : ∀ d ∈ l, ∀ u, H d = some u → Loose u) (b : ButL l H H') : KeepN H H' := fun a u h n => b a u h fun m => n (hl a m u h)
theorem KeepN.but {H H' : Hp} {p C dx : Addr} {fs : List (Str × V)} (hp : H p = some (.ins C dx fs)) (b : But p H H') : KeepN H H' := fun a u h n => b a u h fun z => n (.inr ⟨C, dx, fs, by rw [z, hp] at h; exact (Option.some.inj h).symm⟩)
theorem loose_tup {xs : List V} : ¬ Loose (.tup xs) := fun z => by
  rcases z with ⟨_, z⟩ | ⟨_, _, _, z⟩ <;> cases z
theorem loose_frz {o : Obj} {u : HO} : ¬ Loose (.frz o u) := fun z => by
  rcases z with ⟨_, z⟩ | ⟨_, _, _, z⟩ <;> cases z
theorem TupP.keepN {H H' : Hp} {a : Addr} {xs : List V} (h : TupP H a xs) (k : KeepN H H') : TupP H' a xs := by
  obtain ⟨o, e, q⟩ := h
  exact ⟨o, k _ _ e loose_frz, q⟩
theorem PairsG.keepN {H H' : Hp} {ps : List Addr} {qs : List (Str × Str)} (h : PairsG H ps qs) (k : KeepN H H') : PairsG H' ps qs := ⟨h.len, fun i p x a b => k _ _ (h.at_ i p x a b) loose_tup⟩
/-- the fields of classes, as they are kept -/
def ClsA (H : Hp) (cl : List (Str × List (Str × Str))) (qs : List Addr) : Prop := ∀ (i : Nat) c x, cl[i]? = some c → qs[i]? = some x → ∃ ps : List Addr, TupP H x (ps.map V.ref) ∧ PairsG H ps c.2
theorem ClsA.keepN {H H' : Hp} {cl : List (Str × List (Str × Str))} {qs : List Addr} (h : ClsA H cl qs) (k : KeepN H H') : ClsA H' cl qs := fun i c x a b => by
  obtain ⟨ps, h1, h2⟩ := h i c x a b
  exact ⟨ps, h1.keepN k, h2.keepN k⟩
theorem ClsA.snoc {H : Hp} {cl : List (Str × List (Str × Str))} {qs : List Addr} {i : Nat} {c : Str × List (Str × Str)} {q : Addr} {ps : List Addr} (h : ClsA H cl qs) (hl : qs.length = i) (hc : cl[i]? = some c) (h1 : TupP H q (ps.map V.ref)) (h2 : PairsG H ps c.2) : ClsA H cl (qs ++ [q]) := fun j d x a b => by
  by_cases hj : j < i
  · rw [List.getElem?_append_left (by omega)] at b
    exact h j d x a b
  · by_cases e : j = i
    · subst e
      rw [List.getElem?_append_right (by omega), hl, Nat.sub_self] at b
      rw [hc] at a
      rw [← Option.some.inj a, ← show q = x from Option.some.inj b]
      exact ⟨ps, h1, h2⟩
    · rw [List.getElem?_append_right (by omega)] at b
      have := (List.getElem?_eq_some_iff.mp b).1
      rw [List.length_singleton] at this
      omega
structure ClsK (H : Hp) (cl : List (Str × List (Str × Str))) (qs : List Addr) : Prop where
  len : qs.length = cl.length
  at_ : ClsA H cl qs
theorem ClsK.keepN {H H' : Hp} {cl : List (Str × List (Str × Str))} {qs : List Addr} (h : ClsK H cl qs) (k : KeepN H H') : ClsK H' cl qs := ⟨h.len, h.at_.keepN k⟩
def spTakeCM (K : PySem.W.Frag) : Sp := fun vs H Q _ => ∃ (p ca dx df dk du : Addr) (fs : List (Str × V)) (us : List (Key × V)) (cl : List (Str × List (Str × Str))) (es : List Addr), vs = [.ref p, .ref ca] ∧ SrcG K H p dx df dk du fs [] [] us ∧ df ≠ dk ∧ du ≠ df ∧ du ≠ dk ∧ H ca = some (.lst (es.map V.ref)) ∧ es.length = cl.length ∧
  (∀ (i : Nat) e c, es[i]? = some e → cl[i]? = some c → ClsG H e c) ∧ ClsOk cl ∧ ∀ (H' : Hp) (qs : List Addr), ButL [df, dk] H H' → ClsK H' cl qs → H' df = some (.dK (csM cl qs)) → H' dk = some (.dK (ksM cl)) → Q .non H' 
theorem sc_Source_kinds_differ : FnScope ["self", "fields", "field", "kind"] ["self", "fields"] (defScope s_Source_kinds_differ) := ⟨rfl, rfl, rfl, by decide +kernel, rfl, by decide +kernel, by decide +kernel⟩
theorem ok_Source_kinds_differ (T : Ctx w K mg) : HasM P w K mg base 1 "Source" "_kinds_differ" ["self", "fields"] (spDiff K) := by
  obtain ⟨fd, F⟩ := T.D_Source_kinds_differ
  refine ⟨⟨fd, F.ok sc_Source_kinds_differ (fun vs H Q E h => ?_) (fun cdv A outer s H vs Q E hr h => ?_), F.bindsN fun _ _ _ _ _ _ us hl => match us, hl with | [_, _], _ => rfl⟩⟩
  · obtain ⟨p, fa, cs, ks, us, ps, ns, rfl, S0, hfa, hp, hk, hl, k⟩ := h; rfl
  · obtain ⟨p, fa, cs, ks, us, ps, ns, rfl, S0, hfa, hp, hk, hl, k⟩ := h
    have hu := hu_of hr
    refine ⟨_, PSs.nox (pss_one (ps_ret (pe_callB (cr_any rfl) (by rfl) T.f_any (by decide +kernel) (pa_cons (pe_lc (own := [("field", 2), ("kind", 3)]) (g := gTup K 2 (gCons (gName 2) (gCons (gName 3) (gNil)))) (tt := tYes) rfl sc_Source_kinds_differ.nd (pi_list (pv 1)) (blkOk_by (N := ["self", "fields", "field", "kind"]) (sc := defScope s_Source_kinds_differ) (by decide +kernel)) (fun _ _ _ _ _ => (pg_tup rfl (pgs_cons (pg_name (i := 2) sc_Source_kinds_differ.nd rfl (Or.inl rfl)) (pgs_cons (pg_name (i := 3) sc_Source_kinds_differ.nd rfl (Or.inl rfl)) pgs_nil)))) (fun _ _ _ _ _ => pts_nil) (fun _ _ _ _ _ => (pe_cmpR op_ne (pe_dget2 hu (pe_fldK (K := K) rfl (pv 0) (by rfl)) (pv 2) (pv 3) ⟨rfl, rfl, rfl, rfl⟩) (pv 3) (nomark _)))) pa_nil)))), ?_⟩
    obtain ⟨dx, df, dk, du, fs, S⟩ := S0
    refine ⟨_, rfl, fa, rfl, ⟨_, SqL.of hfa⟩, fun D hD => ?_⟩
    refine lc_pure (walk_list (K := K) (a := fa) (xs := ps.map V.ref)) hD (fun _ => .bl false) (by rw [List.length_map, hp.len]; omega) (fun H1 s1 => SqL.of (s1 _ _ hfa)) (fun i H1 y H2 hi s1 hy Qe qe => ?_) (fun H1 s1 h1 => ?_)
    · obtain ⟨rfl, hy⟩ := hy
      obtain ⟨p1, x, rfl, hp1, hx, hpt⟩ := (hp.mono s1).get hy
      have S1 := S.mono s1
      refine ⟨p1, _, rfl, SqT.of hpt, rfl, _, _, rfl, _, _, rfl, rfl, rfl, ?_⟩
      refine ⟨_, rfl, p, _, dx, fs, _, rfl, S1.ob, T.c_Source, T.n_Source_field_kinds, S1.f2, dk, rfl, .inl ⟨_, .inl S1.d2⟩, _, rfl, _, rfl, _, DGet.k (k := Sum.inr x.1) S1.d2, ?_⟩
      have e : (valV ks (Sum.inr x.1 : Key)).getD (.str x.2) = .str x.2 := by
        rcases hk x (List.mem_of_getElem? hx) with e | e <;> rw [e] <;> rfl
      rw [e]
      exact ⟨_, rfl, rfl, qF (by simp) (qe _ (Same.refl _))⟩
    · exact ⟨D, (List.range (ps.map V.ref).length).map (fun _ => false), rfl, SqL.of (by rw [h1, List.map_map]; rfl), qF any_false (k _ s1)⟩
theorem sc_Source_take_classes : FnScope ["self", "classes", "k", "entry", "field", "kind"] ["self", "classes"] (defScope s_Source_take_classes) := ⟨rfl, rfl, rfl, by decide +kernel, rfl, by decide +kernel, by decide +kernel⟩
theorem ok_Source_take_classes (T : Ctx w K mg) (H_is_list_of : Has P w K mg base 1 "is_list_of" ["thing", "least", "most"] spListOf) (H_is_class : Has P w K mg base 3 "_is_class" ["entry"] spClassG) (H_Source_kinds_differ : HasM P w K mg base 1 "Source" "_kinds_differ" ["self", "fields"] (spDiff K)) (H_frozen : Has P w K mg base 3 "frozen" ["thing"] spFz2) : HasM P w K mg base 4 "Source" "_take_classes" ["self", "classes"] (spTakeCM K) := by
  obtain ⟨fd, F⟩ := T.D_Source_take_classes
  obtain ⟨fd_is_list_of, G_is_list_of, b_is_list_of⟩ := H_is_list_of.ex
  obtain ⟨fd_is_class, G_is_class, b_is_class⟩ := H_is_class.ex
  obtain ⟨fd_Source_kinds_differ, G_Source_kinds_differ, b_Source_kinds_differ⟩ := H_Source_kinds_differ.ex
  obtain ⟨fd_frozen, G_frozen, b_frozen⟩ := H_frozen.ex
  refine ⟨⟨fd, F.ok sc_Source_take_classes (fun vs H Q E h => ?_) (fun cdv A outer s H vs Q E hr h => ?_), F.bindsN fun _ _ _ _ _ _ us hl => match us, hl with | [_, _], _ => rfl⟩⟩
  · obtain ⟨p, ca, dx, df, dk, du, fs, us, cl, es, rfl, S, hdd, hu1, hu2, hca, hel, hE, O, k⟩ := h; rfl
  · obtain ⟨p, ca, dx, df, dk, du, fs, us, cl, es, rfl, S, hdd, hu1, hu2, hca, hel, hE, O, k⟩ := h
    have hr_is_list_of : Room 1 _ := hr.mono (by decide)
    have hr_is_class : Room 3 _ := hr.mono (by decide)
    have hr_Source_kinds_differ : Room 1 _ := hr.mono (by decide)
    have hr_frozen : Room 3 _ := hr.mono (by decide)
    have hu := hu_of hr
    obtain ⟨t_c, e_MOST_CLASSES⟩ := T.i_MOST_CLASSES
    refine ⟨_, PSs.nox (pss_cons (ps_if (pt_not (pt_val (pe_call G_is_list_of hr_is_list_of (by rfl) H_is_list_of.gl H_is_list_of.kp b_is_list_of .nil pass0 (pa_cons (pv 1) (pa_cons pe_int (pa_cons (pe_glob (v := .int 6) rfl e_MOST_CLASSES ⟨_, rfl⟩) pa_nil)))))) (pss_one ps_never) pss_nil)
      (pss_one (ps_for PassesOwn.never rfl (pi_enum (by rfl) T.f_enumerate (pa_cons (pv 1) pa_nil)) (pg_tup rfl (pgs_cons (pg_name (i := 2) sc_Source_take_classes.nd rfl (Or.inl rfl)) (pgs_cons (pg_name (i := 3) sc_Source_take_classes.nd rfl (Or.inl rfl)) pgs_nil)))
      (pss_cons (ps_if (PW.pt (pw_or (pt_not (pt_val (pe_call G_is_class hr_is_class (by rfl) H_is_class.gl H_is_class.kp b_is_class .nil pass0 (pa_cons (pv 3) pa_nil)))) (pw_or (pt_cmp (pc_din hu (pe_ix ix_tup (pv 3) pe_int (fun _ _ => rfl)) (pe_fldK (K := K) rfl (pv 0) (by rfl)))) (pw_or1 (pt_val (pe_meth (pv 0) T.c_Source T.m_Source_kinds_differ G_Source_kinds_differ hr_Source_kinds_differ b_Source_kinds_differ .nil pass0 (pa_cons (pe_ix ix_tup (pv 3) pe_int (fun _ _ => rfl)) pa_nil))))))) (pss_one ps_never) pss_nil)
      (pss_cons (ps_dput hu (pe_fldK (K := K) rfl (pv 0) (by rfl)) (pe_ix ix_tup (pv 3) pe_int (fun _ _ => rfl)) (pe_call G_frozen hr_frozen (by rfl) H_frozen.gl H_frozen.kp b_frozen .nil pass0 (pa_cons (pe_ix ix_tup (pv 3) pe_int (fun _ _ => rfl)) pa_nil)) rfl)
      (pss_one (ps_for PassesOwn.never rfl (pi_list (pe_ix ix_tup (pv 3) pe_int (fun _ _ => rfl))) (pg_tup rfl (pgs_cons (pg_name (i := 4) sc_Source_take_classes.nd rfl (Or.inl rfl)) (pgs_cons (pg_name (i := 5) sc_Source_take_classes.nd rfl (Or.inl rfl)) pgs_nil)))
      (pss_one (ps_dput hu (pe_fldK (K := K) rfl (pv 0) (by rfl)) (pv 4) (pv 5) rfl))))))))), ?_⟩
    have hlr : (es.map V.ref).length = cl.length := by rw [List.length_map, hel]
    have ne : ∀ {b : Addr} {u : HO}, H b = some u → (∀ z, u ≠ .dK z) → b ∉ [df, dk] := fun q n m => by
      rcases List.mem_cons.mp m with m | m
      · rw [m, S.d1] at q
        exact n _ (Option.some.inj q).symm
      · rw [List.mem_singleton.mp m, S.d2] at q
        exact n _ (Option.some.inj q).symm
    have l6 := O.l6
    have lens : ∀ c ∈ cl, c.2.length ≤ 4 := fun c m => (O.one c m).2.2.2
    refine ⟨_, rfl, ca, _, 0, 6, rfl, hca, by omega, by omega, _, rfl, iteF ?_⟩
    refine ⟨_, rfl, ca, _, rfl, SqL.of hca, ?_⟩
    refine for_it (walk_enum (K := K) (a := ca) (xs := es.map V.ref)) (fun i σ H1 => ∃ v2 v3 v4 v5 : Option V, σ = [some (.ref p), some (.ref ca), v2, v3, v4, v5] ∧ ButL [df, dk] H H1 ∧ ∃ qs : List Addr, qs.length = i ∧ ClsA H1 cl qs ∧ H1 df = some (.dK (csM (cl.take i) qs)) ∧ H1 dk = some (.dK (ksM (cl.take i)))) ⟨none, none, none, none, rfl, fun b u q _ => q, [], rfl, (fun _ _ _ _ z => by cases z), S.d1, S.d2⟩ (fun i σ H1 _ ⟨_, _, _, _, _, b1, _⟩ => SqL.of (b1 _ _ hca (ne hca (by intro z w; cases w)))) ?_ ?_
    · rintro i y σ H1 H2 hi ⟨v2, v3, v4, v5, rfl, b1, qs, ql, hA, h1f, h1k⟩ ⟨u, a, b, rfl, hu0, rfl, h1, h2⟩
      have h2 : (es.map V.ref)[i]? = some b := h2
      obtain rfl : V.int (i : Nat) = a := Option.some.inj h1
      obtain ⟨e, hc, rfl⟩ := map_get h2
      have hif : i < cl.length := by rw [hlr] at hi; exact hi
      have hA2 : ∀ {H' : Hp} {q : Addr} {qq : List Addr}, ClsA H' cl qs → TupP H' q (qq.map V.ref) → PairsG H' qq cl[i].2 → ClsA H' cl (qs ++ [q]) := fun h h1 h2 => h.snoc ql (List.getElem?_eq_getElem hif) h1 h2
      have hf : cl[i]? = some cl[i] := List.getElem?_eq_getElem hif
      obtain ⟨hC, hN, hnd, hl⟩ := O.one _ (List.mem_of_getElem? hf)
      have fit := O.fit i _ hf
      have hE0 := hE i e _ hc hf
      have hnm : ∀ q ∈ csM (cl.take i) qs, q.1 ≠ (Sum.inr cl[i].1 : Key) := cs_ne O.nd hf
      have hsn : ∀ x : Addr, csM (cl.take (i + 1)) (qs ++ [x]) = csM (cl.take i) qs ++ [(Sum.inr cl[i].1, V.ref x)] := fun x => cs_snoc hf ql
      have hks : ksM (cl.take (i + 1)) = ksF (ksM (cl.take i)) cl[i].2 := by rw [take_snoc hf, ksM_snoc]
      have kl : (ksM (cl.take i)).length ≤ 24 := by
        have h := ksM_len (cl.take i) [] fun c m => lens c (List.take_subset _ _ m)
        unfold ksM
        rw [List.length_take] at h
        rw [List.length_nil] at h
        omega
      have cll : (csM (cl.take i) qs).length ≤ 6 := by
        unfold csM
        rw [List.length_map, List.length_zip]
        omega
      generalize cl[i] = c0 at *
      obtain ⟨C, ns⟩ := c0
      obtain ⟨fa, ps, he, hfa, hp⟩ := hE0
      have hp : PairsG H ps ns := hp
      have hl : ns.length ≤ 4 := hl
      have s1 : Same H1 (upd H1 u (.tup [.int (i : Nat), .ref e])) := Same.new hu0
      have keep1 : ∀ {b : Addr} {o : HO}, H b = some o → (∀ z, o ≠ .dK z) → H1 b = some o := fun q n => b1 _ _ q (ne q n)
      have he1 := keep1 he (by intro z w; cases w)
      have hfa1 := keep1 hfa (by intro z w; cases w)
      have hp1 : PairsG H1 ps ns := ⟨hp.len, fun j x q e1 e2 => keep1 (hp.at_ j x q e1 e2) (by intro z w; cases w)⟩
      have ob1 := keep1 S.ob (by intro z w; cases w)
      have d31 : H1 du = some (.dK us) := b1 _ _ S.d3 (fun m => by
        rcases List.mem_cons.mp m with m | m
        · exact hu1 m
        · exact hu2 (List.mem_singleton.mp m))
      have S1 : SrcG K H1 p dx df dk du fs (csM (cl.take i) qs) (ksM (cl.take i)) us := ⟨ob1, S.f1, S.f2, S.f3, S.nm, h1f, h1k, d31⟩
      refine ⟨u, _, rfl, SqT.of upd_same, rfl, _, _, rfl, _, _, rfl, rfl, ?_⟩
      refine ⟨_, rfl, e, fa, C, ps, ns, rfl, s1 _ _ he1, hC, s1 _ _ hfa1, hp1.mono s1, hN, hnd, hl, fun H3 s3 => ⟨_, rfl, iteF ?_⟩⟩
      have s13 := s1.trans s3
      have he3 := s13 _ _ he1
      have ob3 := s13 _ _ ob1
      have f3 := s13 _ _ h1f
      have k3 := s13 _ _ h1k
      have g3 := DGet.k (k := Sum.inr C) f3
      rw [valV_newC hnm] at g3
      refine ⟨_, rfl, _, _, _, _, rfl, rfl, SqT.of he3, at0, _, rfl, p, _, dx, fs, _, rfl, ob3, T.c_Source, T.n_Source_fields, S.f1, df, none, rfl, g3, _, rfl, iteF ?_⟩
      refine ⟨_, rfl, p, dx, fs, rfl, ob3, S.nm _ (by decide +kernel), _, rfl, _, _, _, _, rfl, rfl, SqT.of he3, at1, ?_⟩
      refine ⟨p, fa, _, _, us, ps, ns, rfl, ⟨dx, df, dk, du, fs, S1.mono s13⟩, s13 _ _ hfa1, hp1.mono s13, fit, by omega, fun H4 s4 => ⟨_, rfl, iteF ?_⟩⟩
      have s14 := s13.trans s4
      have he4 := s14 _ _ he1
      refine ⟨_, rfl, _, _, _, _, rfl, rfl, SqT.of he4, at1, fa, ps, _, rfl, s14 _ _ hfa1, pairFG (hp1.mono s14), by rw [hp1.len]; omega, fun q qq H5 s5 tq hq fq => ?_⟩
      have s15 := s14.trans s5
      have S5 := S1.mono s15
      have he5 := s15 _ _ he1
      refine ⟨_, rfl, p, _, dx, fs, _, rfl, S5.ob, T.c_Source, T.n_Source_fields, S5.f1, _, rfl, _, _, _, _, rfl, rfl, SqT.of he5, at0, df, _, rfl, DPut.k (k := Sum.inr C) S5.d1 (sz_lt (by omega)), ?_⟩
      rw [putK_new hnm, ← hsn q]
      have b6 : ButL [df, dk] H1 (upd H5 df (.dK (csM (cl.take (i + 1)) (qs ++ [q])))) := fun b u q n => by
        rw [upd_ne (fun z => n (by rw [z]; exact List.mem_cons_self))]
        exact s15 _ _ q
      have hd6 : upd H5 df (.dK (csM (cl.take (i + 1)) (qs ++ [q]))) dk = some (.dK (ksM (cl.take i))) := by
        rw [upd_ne (Ne.symm hdd)]
        exact S5.d2
      have ne1 : ∀ {b : Addr} {u : HO}, H1 b = some u → (∀ z, u ≠ .dK z) → b ∉ [df, dk] := fun q n m => by
        rcases List.mem_cons.mp m with m | m
        · rw [m, h1f] at q
          exact n _ (Option.some.inj q).symm
        · rw [List.mem_singleton.mp m, h1k] at q
          exact n _ (Option.some.inj q).symm
      have n15 := hA.keepN (KeepN.of s15)
      have b56 : ButL [df, dk] H5 (upd H5 df (.dK (csM (cl.take (i + 1)) (qs ++ [q])))) := fun b u w n => by
        rw [upd_ne (fun z => n (by rw [z]; exact List.mem_cons_self))]
        exact w
      have c5 := hA2 n15 tq (fPairG (hq.trans hp1.len) fq)
      have he6 := b6 _ _ he1 (ne1 he1 (by intro z w; cases w))
      have hfa6 := b6 _ _ hfa1 (ne1 hfa1 (by intro z w; cases w))
      refine ⟨_, rfl, _, _, _, _, rfl, rfl, SqT.of he6, at1, fa, rfl, ⟨_, SqL.of hfa6⟩, ?_⟩
      have hd7 : upd H5 df (.dK (csM (cl.take (i + 1)) (qs ++ [q]))) df = some (.dK (csM (cl.take (i + 1)) (qs ++ [q]))) := upd_same
      generalize upd H5 df (.dK (csM (cl.take (i + 1)) (qs ++ [q]))) = H6 at *
      refine for_it (walk_list (K := K) (a := fa) (xs := ps.map V.ref)) (fun j σ H1' => ∃ v1 v2 : Option V, σ = [some (.ref p), some (.ref ca), some (.int (i : Nat)), some (.ref e), v1, v2] ∧ ButL [df, dk] H1 H1' ∧ ButL [df, dk] H5 H1' ∧ H1' df = some (.dK (csM (cl.take (i + 1)) (qs ++ [q]))) ∧ H1' dk = some (.dK (ksF (ksM (cl.take i)) (ns.take j)))) ⟨v4, v5, rfl, b6, b56, hd7, hd6⟩ (fun j σ H1' _ ⟨_, _, _, b7, _⟩ => SqL.of (b7 _ _ hfa1 (ne1 hfa1 (by intro z w; cases w)))) ?_ ?_
      · rintro j y σ H7 H8 hj ⟨v1, v2, rfl, b7, b57, h7, k7⟩ ⟨rfl, hy⟩
        obtain ⟨p1, hp2, rfl⟩ := map_get hy
        have hin : j < ns.length := by
          rw [List.length_map, hp1.len] at hj
          exact hj
        have hx : ns[j]? = some ns[j] := List.getElem?_eq_getElem hin
        have hpt := hp1.at_ j p1 _ hp2 hx
        have hpt7 := b7 _ _ hpt (ne1 hpt (by intro z w; cases w))
        have ob7 := b7 _ _ ob1 (ne1 ob1 (by intro z w; cases w))
        refine ⟨p1, _, rfl, SqT.of hpt7, rfl, _, _, rfl, _, _, rfl, rfl, ?_⟩
        refine ⟨_, rfl, _, rfl, p, _, dx, fs, _, rfl, ob7, T.c_Source, T.n_Source_field_kinds, S.f2, _, rfl, dk, _, rfl, DPut.k (k := Sum.inr ns[j].1) k7 (sz_lt ?_), ?_⟩
        · have h := ksF_len (ns.take j) (ksM (cl.take i))
          rw [List.length_take] at h
          omega
        refine ⟨_, _, rfl, fun b u q n => ?_, fun b u q n => ?_, ?_, ?_⟩
        · rw [upd_ne (fun z => n (by rw [z]; exact List.mem_cons_of_mem _ (List.mem_singleton_self _)))]
          exact b7 _ _ q n
        · rw [upd_ne (fun z => n (by rw [z]; exact List.mem_cons_of_mem _ (List.mem_singleton_self _)))]
          exact b57 _ _ q n
        · rw [upd_ne hdd]
          exact h7
        · rw [upd_same, take_snoc hx, ksF_snoc]
      · rintro σ H7 ⟨v1, v2, rfl, b7, b57, h7, k7⟩
        rw [List.length_map, hp1.len, List.take_length] at k7
        refine ⟨_, _, _, _, rfl, fun b u q n => b7 _ _ (b1 _ _ q n) n, qs ++ [q], by rw [List.length_append, ql]; rfl, c5.keepN (.butL (fun d m u e => ?_) b57), h7, ?_⟩
        · rcases List.mem_cons.mp m with m | m
          · rw [m, S5.d1] at e
            exact .inl ⟨_, (Option.some.inj e).symm⟩
          · rw [List.mem_singleton.mp m, S5.d2] at e
            exact .inl ⟨_, (Option.some.inj e).symm⟩
        rw [hks]
        exact k7
    · rintro σ H1 ⟨v2, v3, v4, v5, rfl, b1, qs, ql, hA, h1f, h1k⟩
      rw [hlr] at ql
      rw [hlr, List.take_length] at h1f h1k
      exact k H1 qs b1 ⟨ql, hA⟩ h1f h1k

end
end W7
set_option Elab.async false
set_option linter.all false
set_option maxRecDepth 100000
set_option maxHeartbeats 4000000
namespace W7
open PySem PySem.Spec PyProof.Rows L2 RZ
section
variable {P : Program} {w : World} {K : PySem.W.Frag} {mg : Str → Option Value} {base : Heap}

/-- t + u of plain tuples, whichever is empty -/
def rCatPA : R2 := fun x y H Q => ∃ (a b : Addr) (xs ys : List V), x = .ref a ∧ y = .ref b ∧ TupP H a xs ∧ TupP H b ys ∧ xs.length + ys.length ≤ sizeLine ∧ ∀ (c : Addr) (H' : Hp), Same H H' → TupP H' c (xs ++ ys) → Q (.ref c) H'
theorem op_catPA {X : Cx} : OpR X (binaryOp .Add) rCatPA := by
  intro pins s σ H x y v u Q I rx ry h
  obtain ⟨a, b, xs, ys, rfl, rfl, ta, tb, hz, q⟩ := h
  have ha : SqT X.K H a xs := ta.sq
  have hb : SqT X.K H b ys := tb.sq
  cases rx
  cases ry
  obtain ⟨its, r1, p1, _⟩ := I.tuple ha
  obtain ⟨its2, r2, p2, _⟩ := I.tuple hb
  by_cases hx : xs = []
  · have e : its = [] := r1.nil_iff.mpr hx
    subst e
    refine cat_tup0 p1 p2 ⟨.ref b, H, I, rfl, q b H (Same.refl H) ?_⟩
    rw [hx]
    exact tb
  · refine HT.cat_tup p1 p2 (fun z => hx (r1.nil_iff.mp z)) (fun z => ⟨.ref a, H, I, rfl, q a H (Same.refl H) (by rw [r2.nil_iff.mp z, List.append_nil]; exact ta)⟩) (fun z => ?_) (by rw [← r1.length, ← r2.length]; exact hz)
    have hf := I.hok.fresh (Nat.le_refl s.heap.objs.size)
    refine ⟨.ref s.heap.objs.size, _, I.laid (t' := s.toks) (o := .frz { cls := .type "tuple", data := .seq (its ++ its2).toArray } (.tup (xs ++ ys))) (fun b ob q => Heap.get?_push_of_some _ q) (Nat.le_refl _) ?_, rfl, q _ _ (Same.new hf) ⟨_, upd_same, rfl, rfl⟩⟩
    exact ⟨Heap.get?_push_size _ rfl, by rw [List.length_append]; exact hz, _, r1.append r2, IsTup.new _ _⟩
theorem mergeK_kvP : ∀ (l2 l1 : List (Str × Str)), ((l1 ++ l2).map Prod.fst).Nodup → mergeK (kvP l1) (kvP l2) = kvP (l1 ++ l2)
  | [], l1, _ => by
    rw [List.append_nil]
    rfl
  | a :: r, l1, h => by
    have e : l1 ++ a :: r = (l1 ++ [a]) ++ r := by simp
    have h1 : a.1 ∉ l1.map Prod.fst := fun m => by
      rw [List.map_append, List.map_cons] at h
      have := List.nodup_append.mp h
      exact this.2.2 a.1 m a.1 (List.mem_cons_self) rfl
    show mergeK (putK (kvP l1) (Sum.inr a.1 : Key) (.str a.2)) (kvP r) = _
    rw [putK_kvP h1, e]
    exact mergeK_kvP r (l1 ++ [a]) (by rw [← e]; exact h)
theorem pairsG_paired {H : Hp} : ∀ {qs : List Addr} {ns : List (Str × Str)}, PairsG H qs ns → Paired (fun p (kv : Key × V) => SqT K H p [kV kv.1, kv.2]) qs (kvP ns)
  | [], [], _ => .nil
  | [], b :: ns, h => by have := h.len; simp at this
  | a :: qs, [], h => by have := h.len; simp at this
  | a :: qs, b :: ns, h => .cons (SqT.of (h.at_ 0 a b rfl rfl)) (pairsG_paired (qs := qs) (ns := ns) ⟨by have := h.len; simpa using this, fun i p x e1 e2 => h.at_ (i + 1) p x (by simpa using e1) (by simpa using e2)⟩)
theorem But.tupP {p a C dx : Addr} {fs : List (Str × V)} {H H' : Hp} {xs : List V} (b : But p H H') (hp : H p = some (.ins C dx fs)) (h : TupP H a xs) : TupP H' a xs := by
  obtain ⟨o, e, q⟩ := h
  exact ⟨o, b _ _ e (ne_of e hp (by intro z; cases z)), q⟩
theorem But.pairsG {p C dx : Addr} {fs : List (Str × V)} {H H' : Hp} {as : List Addr} {xs : List (Str × Str)} (b : But p H H') (hp : H p = some (.ins C dx fs)) (h : PairsG H as xs) : PairsG H' as xs :=
  ⟨h.len, fun i q x e1 e2 => b _ _ (h.at_ i q x e1 e2) (ne_of (h.at_ i q x e1 e2) hp (by intro z; cases z))⟩
theorem putF_le (f : Str) (v : V) : ∀ fs : List (Str × V), (putF f v fs).length ≤ fs.length + 1
  | [] => Nat.le_refl _
  | (g, u) :: r => by
    show (if g = f then (g, v) :: r else (g, u) :: putF f v r).length ≤ _
    split
    · simp
    · rw [List.length_cons, List.length_cons]
      have := putF_le f v r
      omega
theorem pl1 {f : Str} {v : V} {fs : List (Str × V)} {n : Nat} (h : fs.length ≤ n) : (putF f v fs).length ≤ n + 1 := Nat.le_trans (putF_le f v fs) (Nat.succ_le_succ h)
theorem pf0 : ([] : List (Str × V)).length ≤ 0 := Nat.le_refl _
theorem few {fs : List (Str × V)} {n : Nat} (h : fs.length ≤ n) (hn : n < 900 := by decide) : fs.length < 1000 := by omega
theorem few8 {fs : List (Str × V)} {n : Nat} (h : fs.length ≤ n) (hn : n ≤ 900 := by decide) : fs.length ≤ 900 := by omega
/-- its name and its other variables, as they are kept -/
def OthG (H : Hp) (fs : List (Str × V)) (nm : Str) (ms : List (Str × Str)) : Prop := fs.lookup ("name" : Str) = some (.str nm) ∧ ∃ (oa : Addr) (qs : List Addr), fs.lookup ("others" : Str) = some (.ref oa) ∧ TupP H oa (qs.map V.ref) ∧ PairsG H qs ms
theorem OthG.keepN {H H' : Hp} {fs : List (Str × V)} {nm : Str} {ms : List (Str × Str)} (h : OthG H fs nm ms) (k : KeepN H H') : OthG H' fs nm ms := by
  obtain ⟨h1, oa, qs, h2, h3, h4⟩ := h
  exact ⟨h1, oa, qs, h2, h3.keepN k, h4.keepN k⟩
/-- a Function, all but its rows -/
structure FunG (K : PySem.W.Frag) (H : Hp) (p dx pa va : Addr) (fs : List (Str × V)) (ps : List Addr) (ns ms : List (Str × Str)) (res nm : Str) : Prop where
  ob : H p = some (.ins (He.ga K "Function") dx fs)
  f1 : fs.lookup ("params" : Str) = some (.ref pa)
  f2 : fs.lookup ("result" : Str) = some (.str res)
  f3 : fs.lookup ("variables" : Str) = some (.ref va)
  nohas : fs.lookup ("has_row" : Str) = none ∧ fs.lookup ("called_at" : Str) = none
  few : fs.length ≤ 900
  d1 : TupP H pa (ps.map V.ref)
  pr : PairsG H ps ns
  vd : H va = some (.dK (kvP (ns ++ ms)))
  ot : OthG H fs nm ms
theorem FunG.mono {H H' : Hp} {p dx pa va : Addr} {fs : List (Str × V)} {ps : List Addr} {ns ms : List (Str × Str)} {res nm : Str} (h : FunG K H p dx pa va fs ps ns ms res nm) (e : Same H H') : FunG K H' p dx pa va fs ps ns ms res nm :=
  ⟨e _ _ h.ob, h.f1, h.f2, h.f3, h.nohas, h.few, h.d1.mono e, h.pr.mono e, e _ _ h.vd, h.ot.keepN (.of e)⟩
def spFnInitG (K : PySem.W.Frag) : Sp := fun vs H Q _ => ∃ (p dx pa oa : Addr) (nm res : Str) (ps qs : List Addr) (ns ms : List (Str × Str)), vs = [.ref p, .str nm, .ref pa, .ref oa, .str res] ∧ H p = some (.ins (He.ga K "Function") dx []) ∧
  H pa = some (.lst (ps.map V.ref)) ∧ PairsG H ps ns ∧ H oa = some (.lst (qs.map V.ref)) ∧ PairsG H qs ms ∧ ((ns ++ ms).map Prod.fst).Nodup ∧ ns.length ≤ 4 ∧ ms.length ≤ 8 ∧
  ∀ (H' : Hp) (ta va : Addr) (fs : List (Str × V)) (ps' : List Addr), But p H H' → FunG K H' p dx ta va fs ps' ns ms res nm → H va = none → Q .non H' 
theorem sc_Function_init : FnScope ["self", "name", "params", "others", "result"] ["self", "name", "params", "others", "result"] (defScope s_Function_init) := ⟨rfl, rfl, rfl, by decide +kernel, rfl, by decide +kernel, by decide +kernel⟩
theorem ok_Function_init (T : Ctx w K mg) (H_frozen : Has P w K mg base 3 "frozen" ["thing"] spFz2) : HasM P w K mg base 4 "Function" "__init__" ["self", "name", "params", "others", "result"] (spFnInitG K) := by
  obtain ⟨fd, F⟩ := T.D_Function_init
  obtain ⟨fd_frozen, G_frozen, b_frozen⟩ := H_frozen.ex
  refine ⟨⟨fd, F.ok sc_Function_init (fun vs H Q E h => ?_) (fun cdv A outer s H vs Q E hr h => ?_), F.bindsN fun _ _ _ _ _ _ us hl => match us, hl with | [_, _, _, _, _], _ => rfl⟩⟩
  · obtain ⟨p, dx, pa, oa, nm, res, ps, qs, ns, ms, rfl, hp, hpa, hp1, hoa, hp2, hnd, l1, l2, k⟩ := h; rfl
  · obtain ⟨p, dx, pa, oa, nm, res, ps, qs, ns, ms, rfl, hp, hpa, hp1, hoa, hp2, hnd, l1, l2, k⟩ := h
    have hr_frozen : Room 3 _ := hr.mono (by decide)
    have hu := hu_of hr
    refine ⟨_, PSs.nox (pss_cons (ps_fld (pv 0) (pv 1) rfl)
      (pss_cons (ps_fld (pv 0) (pe_call G_frozen hr_frozen (by rfl) H_frozen.gl H_frozen.kp b_frozen .nil pass0 (pa_cons (pv 2) pa_nil)) rfl)
      (pss_cons (ps_fld (pv 0) (pe_call G_frozen hr_frozen (by rfl) H_frozen.gl H_frozen.kp b_frozen .nil pass0 (pa_cons (pv 3) pa_nil)) rfl)
      (pss_cons (ps_fld (pv 0) (pv 4) rfl)
      (pss_cons (ps_fld (pv 0) (pe_callTy (call_dictT rfl) (by rfl) T.f_dict (by decide +kernel) (pa_cons (pe_op op_catPA (pe_fldK (K := K) rfl (pv 0) (by rfl)) (pe_fldK (K := K) rfl (pv 0) (by rfl))) pa_nil)) rfl)
      (pss_one (ps_fld (pv 0) (pe_tup pa_nil) rfl))))))), ?_⟩
    have npa : pa ≠ p := ne_of hpa hp (by intro z; cases z)
    have noa : oa ≠ p := ne_of hoa hp (by intro z; cases z)
    have hl1 : ps.length = ns.length := hp1.len
    have hl2 : qs.length = ms.length := hp2.len
    refine ⟨_, rfl, _, rfl, p, _, dx, _, rfl, hp, T.c_Function, T.n_Function_name, few pf0, ?_⟩
    have b1 : But p H (upd H p (.ins (He.ga K "Function") dx (putF "name" (.str nm) []))) := But.upd
    refine ⟨_, rfl, pa, ps, _, rfl, b1 _ _ hpa npa, pairFG (b1.pairsG hp hp1), by omega, fun q1 qs1 H2 s2 t1 h1 f1 => ?_⟩
    refine ⟨_, rfl, p, _, dx, _, rfl, s2 _ _ upd_same, T.c_Function, T.n_Function_params, few (pl1 pf0), ?_⟩
    have b2 : But p H H2 := b1.trans (But.of s2)
    have hp2' := s2 _ _ (upd_same (H := H) (a := p))
    have b3 : But p H2 (upd H2 p (.ins (He.ga K "Function") dx (putF "params" (.ref q1) (putF "name" (.str nm) [])))) := But.upd
    have b13 := b2.trans b3
    refine ⟨_, rfl, oa, qs, _, rfl, b13 _ _ hoa noa, pairFG (b13.pairsG hp hp2), by omega, fun q2 qs2 H4 s4 t2 h2 f2 => ?_⟩
    refine ⟨_, rfl, p, _, dx, _, rfl, s4 _ _ upd_same, T.c_Function, T.n_Function_others, few (pl1 (pl1 pf0)), ?_⟩
    have hp4 := s4 _ _ (upd_same (H := H2) (a := p))
    have b4 : But p H2 H4 := b3.trans (But.of s4)
    refine ⟨_, rfl, _, rfl, p, _, dx, _, rfl, upd_same, T.c_Function, T.n_Function_result, few (pl1 (pl1 (pl1 pf0))), ?_⟩
    refine ⟨_, rfl, p, _, dx, _, _, rfl, upd_same, T.c_Function, T.n_Function_params, rfl, _, rfl, p, _, dx, _, _, rfl, upd_same, T.c_Function, T.n_Function_others, rfl, ?_⟩
    refine ⟨q1, q2, _, _, rfl, rfl, But.tupP (b4.trans (But.upd.trans But.upd)) hp2' t1, But.tupP (But.upd.trans But.upd) hp4 t2, by rw [List.length_map, List.length_map]; exact sz_of (by omega), fun c H6 s6 tc => ?_⟩
    have t6 : TupP H6 q1 (qs1.map V.ref) := But.tupP ((b4.trans (But.upd.trans But.upd)).trans (But.of s6)) hp2' t1
    have pq1 : PairsG H6 qs1 ns := But.pairsG ((b4.trans (But.upd.trans But.upd)).trans (But.of s6)) hp2' (fPairG (h1.trans hl1) f1)
    have pq2 : PairsG H6 qs2 ms := But.pairsG ((But.upd.trans But.upd).trans (But.of s6)) hp4 (fPairG (h2.trans hl2) f2)
    refine ⟨c, qs1 ++ qs2, kvP (ns ++ ms), rfl, (by rw [List.map_append]; exact tc), pairsG_paired (pq1.append pq2), fun d hd => ?_⟩
    have hp6 := s6 p _ upd_same
    refine ⟨_, rfl, p, _, dx, _, rfl, Same.new hd _ _ hp6, T.c_Function, T.n_Function_variables, few (pl1 (pl1 (pl1 (pl1 pf0)))), ?_⟩
    refine ⟨sz_of (by decide), fun t ht => ?_⟩
    refine ⟨_, rfl, p, _, dx, _, rfl, Same.new ht _ _ upd_same, T.c_Function, T.n_Function_body, few (pl1 (pl1 (pl1 (pl1 (pl1 pf0))))), ?_⟩
    have ndp : d ≠ p := (ne_of_none hp6 hd).symm
    have ndt : d ≠ t := fun z => by
      rw [← z, upd_ne ndp, upd_same] at ht
      cases ht
    have b6 : But p H H6 := b2.trans (b4.trans ((But.upd.trans But.upd).trans (But.of s6)))
    have hq1p : q1 ≠ p := by
      obtain ⟨oo, e, _⟩ := t1
      exact ne_of e hp2' (by intro z; cases z)
    have dnone : H d = none := by
      cases z : H d with
      | none => rfl
      | some u => exact absurd (b6 _ _ z ndp) (by rw [hd]; intro z; cases z)
    refine k _ q1 d _ qs1 (b6.trans ((But.of (Same.new hd)).trans (But.upd.trans ((But.of (Same.new ht)).trans But.upd)))) ⟨upd_same, rfl, rfl, rfl, ⟨rfl, rfl⟩, few8 (pl1 (pl1 (pl1 (pl1 (pl1 (pl1 pf0)))))), But.tupP ((But.of (Same.new hd)).trans (But.upd.trans ((But.of (Same.new ht)).trans But.upd))) hp6 t6, But.pairsG ((But.of (Same.new hd)).trans (But.upd.trans ((But.of (Same.new ht)).trans But.upd))) hp6 pq1, ?_, rfl, q2, qs2, rfl, But.tupP ((But.of (Same.new hd)).trans (But.upd.trans ((But.of (Same.new ht)).trans But.upd))) hp6 (But.tupP ((But.upd.trans But.upd).trans (But.of s6)) hp4 t2), But.pairsG ((But.of (Same.new hd)).trans (But.upd.trans ((But.of (Same.new ht)).trans But.upd))) hp6 pq2⟩ dnone
    · rw [upd_ne ndp, upd_ne ndt, upd_ne ndp, upd_same]
      exact congrArg (fun l => some (HO.dK l)) (mergeK_kvP _ [] hnd)

end
end W7
set_option Elab.async false
set_option linter.all false
set_option maxRecDepth 100000
set_option maxHeartbeats 4000000
namespace W7
open PySem PySem.Spec PyProof.Rows L2 RZ
section
variable {P : Program} {w : World} {K : PySem.W.Frag} {mg : Str → Option Value} {base : Heap}

/-- a function, as plain data -/
structure FdT where
  nm : Str
  res : Str
  ns : List (Str × Str)
  ms : List (Str × Str)
  rws : List Rx
/-- tuples and lists stay -/
def KeepTL (H H' : Hp) : Prop := (∀ b xs, H b = some (.tup xs) → H' b = some (.tup xs)) ∧ ∀ b xs, H b = some (.lst xs) → H' b = some (.lst xs)
theorem KeepTL.of {H H' : Hp} (e : Same H H') : KeepTL H H' := ⟨fun b xs h => e _ _ h, fun b xs h => e _ _ h⟩
theorem KeepTL.butD {H H' : Hp} {d : Addr} {ks : List (Key × V)} (hd : H d = some (.dK ks)) (b : ButL [d] H H') : KeepTL H H' :=
  ⟨fun a xs h => b _ _ h (fun m => by rw [List.mem_singleton.mp m, hd] at h; cases h), fun a xs h => b _ _ h (fun m => by rw [List.mem_singleton.mp m, hd] at h; cases h)⟩
theorem PairsG.keep {H H' : Hp} {ps : List Addr} {qs : List (Str × Str)} (h : PairsG H ps qs) (e : KeepTL H H') : PairsG H' ps qs := ⟨h.len, fun i p x a b => e.1 _ _ (h.at_ i p x a b)⟩
theorem EntryG.keep {H H' : Hp} {e pa oa ra : Addr} {nm res : Str} {ps qs : List Addr} {ns ms : List (Str × Str)} {rs : List V} (h : EntryG H e pa oa ra nm res ps qs ns ms rs) (k : KeepTL H H') : EntryG H' e pa oa ra nm res ps qs ns ms rs :=
  ⟨k.1 _ _ h.he, h.nf, h.kd, k.2 _ _ h.hpa, h.p1.keep k, k.2 _ _ h.hoa, h.p2.keep k, h.nam, h.nd, h.l1, h.l2, k.2 _ _ h.hra, h.l3, h.l4⟩
def EntryAt (H : Hp) (e : Addr) (f : FdT) : Prop := ∃ (pa oa ra : Addr) (ps qs : List Addr) (rs : List V), EntryG H e pa oa ra f.nm f.res ps qs f.ns f.ms rs
theorem EntryAt.keep {H H' : Hp} {e : Addr} {f : FdT} (h : EntryAt H e f) (k : KeepTL H H') : EntryAt H' e f := by
  obtain ⟨pa, oa, ra, ps, qs, rs, q⟩ := h
  exact ⟨pa, oa, ra, ps, qs, rs, q.keep k⟩
def usOf (fds : List FdT) (fps : List Addr) : List (Key × V) := (fds.zip fps).map fun q => (Sum.inr q.1.nm, V.ref q.2)
theorem valV_new {k : Key} : ∀ {l : List (Key × V)}, (∀ q ∈ l, q.1 ≠ k) → valV l k = none
  | [], _ => rfl
  | a :: l, h => by
    have ih := valV_new (k := k) (l := l) fun q m => h q (List.mem_cons_of_mem _ m)
    unfold valV at ih ⊢
    rw [List.find?_cons_of_neg (by simpa using h a List.mem_cons_self)]
    exact ih
theorem us_ne {fds : List FdT} {fps : List Addr} {i : Nat} {f : FdT} (nd : (fds.map FdT.nm).Nodup) (h : fds[i]? = some f) : ∀ q ∈ usOf (fds.take i) fps, q.1 ≠ (Sum.inr f.nm : Key) := by
  intro q m e
  unfold usOf at m
  obtain ⟨r, mr, rfl⟩ := List.mem_map.mp m
  have m1 := (List.of_mem_zip mr).1
  have e1 : r.1.nm = f.nm := Sum.inr.inj e
  have q1 : (fds.map FdT.nm)[i]? = some f.nm := by
    rw [List.getElem?_map, h]
    rfl
  refine not_in_take nd q1 ?_
  rw [← List.map_take, ← e1]
  exact List.mem_map.mpr ⟨r.1, m1, rfl⟩
theorem us_snoc {fds : List FdT} {fps : List Addr} {i : Nat} {f : FdT} {x : Addr} (h : fds[i]? = some f) (hl : fps.length = i) : usOf (fds.take (i + 1)) (fps ++ [x]) = usOf (fds.take i) fps ++ [(Sum.inr f.nm, V.ref x)] := by
  unfold usOf
  rw [take_snoc h, List.zip_append (by
    rw [List.length_take, hl]
    have := (List.getElem?_eq_some_iff.mp h).1
    omega), List.map_append]
  rfl
theorem us_at {fds : List FdT} {fps : List Addr} {i : Nat} {f : FdT} {x : Addr} (nd : (fds.map FdT.nm).Nodup) (h : fds[i]? = some f) (hx : fps[i]? = some x) : valV (usOf fds fps) (Sum.inr f.nm : Key) = some (.ref x) := by
  induction fds generalizing fps i with
  | nil => simp at h
  | cons a l ih =>
    cases fps with
    | nil => simp at hx
    | cons y fps =>
      obtain ⟨n1, n2⟩ := List.nodup_cons.mp (show (a.nm :: l.map FdT.nm).Nodup from nd)
      cases i with
      | zero =>
        have e1 : a = f := Option.some.inj h
        have e2 : y = x := Option.some.inj hx
        unfold usOf valV
        rw [List.zip_cons_cons, List.map_cons, List.find?_cons_of_pos (by simp [e1]), e2]
        rfl
      | succ i =>
        have h' : l[i]? = some f := by simpa using h
        have hx' : fps[i]? = some x := by simpa using hx
        have k := ih n2 h' hx'
        have c : ¬ a.nm = f.nm := fun z => n1 (by rw [z]; exact List.mem_map.mpr ⟨f, List.mem_of_getElem? h', rfl⟩)
        unfold usOf valV at k ⊢
        rw [List.zip_cons_cons, List.map_cons, List.find?_cons_of_neg (by simpa using c)]
        exact k
/-- the functions made, all but their rows -/
def Heads (K : PySem.W.Frag) (H : Hp) (du : Addr) (fds : List FdT) (fps : List Addr) : Prop := ∀ (j : Nat) (f : FdT) (a : Addr), fds[j]? = some f → fps[j]? = some a → ∃ (dx pa va : Addr) (fs : List (Str × V)) (ps : List Addr), va ≠ du ∧ FunG K H a dx pa va fs ps f.ns f.ms f.res f.nm
theorem FunG.butD {H H' : Hp} {d : Addr} {ks : List (Key × V)} {p dx pa va : Addr} {fs : List (Str × V)} {ps : List Addr} {ns ms : List (Str × Str)} {res nm : Str} (h : FunG K H p dx pa va fs ps ns ms res nm) (hd : H d = some (.dK ks)) (hv : va ≠ d) (b : ButL [d] H H') : FunG K H' p dx pa va fs ps ns ms res nm := by
  have n : ∀ {a : Addr} {u : HO}, H a = some u → a ≠ d → H' a = some u := fun q z => b _ _ q fun m => z (List.mem_singleton.mp m)
  obtain ⟨o, e, pl⟩ := h.d1
  exact ⟨n h.ob (ne_of h.ob hd (by intro z; cases z)), h.f1, h.f2, h.f3, h.nohas, h.few, ⟨o, n e (ne_of e hd (by intro z; cases z)), pl⟩, h.pr.keep (.butD hd b), n h.vd hv, h.ot.keepN (.butL (fun c m u e => .inl ⟨ks, by rw [List.mem_singleton.mp m, hd] at e; exact (Option.some.inj e).symm⟩) b)⟩
def spTakeHG (K : PySem.W.Frag) : Sp := fun vs H Q _ => ∃ (p dx df dk du fa : Addr) (fs : List (Str × V)) (cs ks : List (Key × V)) (es : List Addr) (fds : List FdT), vs = [.ref p, .ref fa] ∧ SrcG K H p dx df dk du fs cs ks [] ∧ H fa = some (.lst (es.map V.ref)) ∧ es.length = fds.length ∧ (∀ (i : Nat) e f, es[i]? = some e → fds[i]? = some f → EntryAt H e f) ∧ (fds.map FdT.nm).Nodup ∧ 1 ≤ fds.length ∧ fds.length ≤ 6 ∧
  ∀ (H' : Hp) (fps : List Addr), ButL [du] H H' → fps.length = fds.length → Heads K H' du fds fps → (∀ a ∈ fps, H a = none) → fps.Nodup → H' du = some (.dK (usOf fds fps)) → Q .non H' 
theorem sc_Source_take_heads : FnScope ["self", "functions", "k", "entry"] ["self", "functions"] (defScope s_Source_take_heads) := ⟨rfl, rfl, rfl, by decide +kernel, rfl, by decide +kernel, by decide +kernel⟩
theorem ok_Source_take_heads (T : Ctx w K mg) (H_is_list_of : Has P w K mg base 1 "is_list_of" ["thing", "least", "most"] spListOf) (H_is_head : Has P w K mg base 3 "_is_head" ["entry"] spHeadG) (H_Function_init : HasM P w K mg base 4 "Function" "__init__" ["self", "name", "params", "others", "result"] (spFnInitG K)) : HasM P w K mg base 6 "Source" "_take_heads" ["self", "functions"] (spTakeHG K) := by
  obtain ⟨fd, F⟩ := T.D_Source_take_heads
  obtain ⟨fd_is_list_of, G_is_list_of, b_is_list_of⟩ := H_is_list_of.ex
  obtain ⟨fd_is_head, G_is_head, b_is_head⟩ := H_is_head.ex
  obtain ⟨fd_Function_init, G_Function_init, b_Function_init⟩ := H_Function_init.ex
  refine ⟨⟨fd, F.ok sc_Source_take_heads (fun vs H Q E h => ?_) (fun cdv A outer s H vs Q E hr h => ?_), F.bindsN fun _ _ _ _ _ _ us hl => match us, hl with | [_, _], _ => rfl⟩⟩
  · obtain ⟨p, dx, df, dk, du, fa, fs, cs, ks, es, fds, rfl, S, hfa, hel, hE, hN, hl1, hl6, k⟩ := h; rfl
  · obtain ⟨p, dx, df, dk, du, fa, fs, cs, ks, es, fds, rfl, S, hfa, hel, hE, hN, hl1, hl6, k⟩ := h
    have hr_is_list_of : Room 1 _ := hr.mono (by decide)
    have hr_is_head : Room 3 _ := hr.mono (by decide)
    have hr_Function_init : Room 5 _ := hr.mono (by decide)
    have hu := hu_of hr
    obtain ⟨t_c, e_MOST_FUNCTIONS⟩ := T.i_MOST_FUNCTIONS
    refine ⟨_, PSs.nox (pss_cons (ps_if (pt_not (pt_val (pe_call G_is_list_of hr_is_list_of (by rfl) H_is_list_of.gl H_is_list_of.kp b_is_list_of .nil pass0 (pa_cons (pv 1) (pa_cons pe_int (pa_cons (pe_glob (v := .int 6) rfl e_MOST_FUNCTIONS ⟨_, rfl⟩) pa_nil)))))) (pss_one ps_never) pss_nil)
      (pss_one (ps_for PassesOwn.never rfl (pi_enum (by rfl) T.f_enumerate (pa_cons (pv 1) pa_nil)) (pg_tup rfl (pgs_cons (pg_name (i := 2) sc_Source_take_heads.nd rfl (Or.inl rfl)) (pgs_cons (pg_name (i := 3) sc_Source_take_heads.nd rfl (Or.inl rfl)) pgs_nil)))
      (pss_cons (ps_if (PW.pt (pw_or (pt_not (pt_val (pe_call G_is_head hr_is_head (by rfl) H_is_head.gl H_is_head.kp b_is_head .nil pass0 (pa_cons (pv 3) pa_nil)))) (pw_or1 (pt_cmp (pc_din hu (pe_ix ix_tup (pv 3) pe_int (fun _ _ => rfl)) (pe_fldK (K := K) rfl (pv 0) (by rfl))))))) (pss_one ps_never) pss_nil)
      (pss_one (ps_dput hu (pe_fldK (K := K) rfl (pv 0) (by rfl)) (pe_ix ix_tup (pv 3) pe_int (fun _ _ => rfl)) (pe_make T.k_Function G_Function_init hr_Function_init rfl T.g_Function b_Function_init .nil pass0 (pa_cons (pe_ix ix_tup (pv 3) pe_int (fun _ _ => rfl)) (pa_cons (pe_ix ix_tup (pv 3) pe_int (fun _ _ => rfl)) (pa_cons (pe_ix ix_tup (pv 3) pe_int (fun _ _ => rfl)) (pa_cons (pe_ix ix_tup (pv 3) pe_int (fun _ _ => rfl)) pa_nil))))) rfl)))))), ?_⟩
    have hlr : (es.map V.ref).length = fds.length := by rw [List.length_map, hel]
    have nd : ∀ {b : Addr} {u : HO}, H b = some u → (∀ z, u ≠ .dK z) → b ∉ [du] := fun q n m => by
      rw [List.mem_singleton.mp m, S.d3] at q
      exact n _ (Option.some.inj q).symm
    refine ⟨_, rfl, fa, _, 1, 6, rfl, hfa, by omega, by omega, _, rfl, iteF ?_⟩
    refine ⟨_, rfl, fa, _, rfl, SqL.of hfa, ?_⟩
    refine for_it (walk_enum (K := K) (a := fa) (xs := es.map V.ref)) (fun i σ H1 => ∃ v1 v2 : Option V, σ = [some (.ref p), some (.ref fa), v1, v2] ∧ ButL [du] H H1 ∧ ∃ fps : List Addr, fps.length = i ∧ H1 du = some (.dK (usOf (fds.take i) fps)) ∧ Heads K H1 du (fds.take i) fps ∧ (∀ a ∈ fps, H a = none ∧ ∃ u, H1 a = some u) ∧ fps.Nodup) ⟨none, none, rfl, fun b u q _ => q, [], rfl, S.d3, fun j f a e _ => by simp at e, (fun a m => by cases m), List.nodup_nil⟩ (fun i σ H1 _ ⟨_, _, _, b1, _⟩ => SqL.of (b1 _ _ hfa (nd hfa (by intro z w; cases w)))) ?_ ?_
    · rintro i y σ H1 H2 hi ⟨v1, v2, rfl, b1, fps, fl, h1d, hH, hfr, hnd⟩ ⟨u, a, b, rfl, hu0, rfl, h1, h2⟩
      have h2 : (es.map V.ref)[i]? = some b := h2
      obtain rfl : V.int (i : Nat) = a := Option.some.inj h1
      obtain ⟨e, hc, rfl⟩ := map_get h2
      have hif : i < fds.length := by rw [hlr] at hi; exact hi
      have hf : fds[i]? = some fds[i] := List.getElem?_eq_getElem hif
      obtain ⟨pa, oa, ra, ps, qs, rs, E0⟩ := hE i e _ hc hf
      have E1 := E0.keep (.butD S.d3 b1)
      have s1 : Same H1 (upd H1 u (.tup [.int (i : Nat), .ref e])) := Same.new hu0
      refine ⟨u, _, rfl, SqT.of upd_same, rfl, _, _, rfl, _, _, rfl, rfl, ?_⟩
      have A1 := E1.keep (.of s1)
      refine ⟨_, rfl, e, pa, oa, ra, fds[i].nm, fds[i].res, ps, qs, fds[i].ns, fds[i].ms, rs, rfl, A1, fun H3 s3 => ⟨_, rfl, iteF ?_⟩⟩
      have s13 := s1.trans s3
      have A3 := E1.keep (.of s13)
      have hp1 := b1 _ _ S.ob (nd S.ob (by intro z w; cases w))
      have ob3 := s13 _ _ hp1
      have d3 := s13 _ _ h1d
      refine ⟨_, rfl, _, _, _, _, rfl, rfl, SqT.of A3.he, at0, _, rfl, p, _, dx, fs, _, rfl, ob3, T.c_Source, T.n_Source_functions, S.f3, du, none, rfl, ?_, _, rfl, iteF ?_⟩
      · have q := DGet.k (k := Sum.inr fds[i].nm) d3
        rw [valV_new (us_ne hN hf)] at q
        exact q
      -- Function(..)
      refine ⟨_, rfl, _, _, _, _, rfl, rfl, SqT.of A3.he, at0, _, rfl, _, _, _, _, rfl, rfl, SqT.of A3.he, at1, _, rfl, _, _, _, _, rfl, rfl, SqT.of A3.he, at2, _, rfl, _, _, _, _, rfl, rfl, SqT.of A3.he, at3, fun x dy nx ny nxy => ?_⟩
      have s4 : Same H3 (upd (upd H3 dy (.own x)) x (.ins (He.ga K "Function") dy [])) := (Same.new ny).trans (Same.new (by rw [upd_ne nxy.symm]; exact nx))
      have A4 := A3.keep (.of s4)
      refine ⟨x, dy, pa, oa, fds[i].nm, fds[i].res, ps, qs, fds[i].ns, fds[i].ms, rfl, upd_same, A4.hpa, A4.p1, A4.hoa, A4.p2, A4.nd, A4.l1, A4.l2, fun H5 ta va gs ps' b5 F5 hva => ⟨rfl, ?_⟩⟩
      have s15 : Same H1 H5 := fun b o q => b5 b o (s4 _ _ (s13 _ _ q)) (ne_of_none (s13 _ _ q) nx)
      have A5 := E1.keep (.of s15)
      have d5 := s15 _ _ h1d
      have vne : va ≠ du := fun z => by
        rw [z, s4 _ _ d3] at hva
        cases hva
      have nxf : x ≠ du := fun z => by
        rw [z, d3] at nx
        cases nx
      refine ⟨_, rfl, p, _, dx, fs, _, rfl, s15 _ _ hp1, T.c_Source, T.n_Source_functions, S.f3, _, rfl, _, _, _, _, rfl, rfl, SqT.of A5.he, at0, du, _, rfl, DPut.k (k := Sum.inr fds[i].nm) d5 ?_, ?_⟩
      · unfold usOf
        rw [List.length_map, List.length_zip, fl]
        exact sz_lt (by omega)
      have b6 : ButL [du] H5 (upd H5 du (.dK (putK (usOf (fds.take i) fps) (Sum.inr fds[i].nm : Key) (.ref x)))) := fun b u q n => by
        rw [upd_ne (fun z => n (by rw [z]; exact List.mem_singleton_self _))]
        exact q
      refine ⟨_, _, rfl, fun b u q n => b6 _ _ (s15 _ _ (b1 _ _ q n)) n, fps ++ [x], by rw [List.length_append, fl]; rfl, ?_, ?_, ?_, ?_⟩
      · rw [upd_same, us_snoc hf fl, putK_new (us_ne hN hf)]
      · intro j f a e1 e2
        by_cases hj : j < i
        · rw [List.getElem?_append_left (by omega)] at e2
          rw [List.getElem?_take, if_pos (by omega)] at e1
          obtain ⟨dx', pa', va', fs', ps'', vn', F⟩ := hH j f a (by rw [List.getElem?_take, if_pos hj]; exact e1) e2
          exact ⟨dx', pa', va', fs', ps'', vn', (F.mono s15).butD d5 vn' b6⟩
        · by_cases hj2 : j = i
          · subst hj2
            rw [List.getElem?_append_right (by omega), fl, Nat.sub_self] at e2
            have e3 : x = a := Option.some.inj e2
            rw [List.getElem?_take, if_pos (by omega), hf] at e1
            have e4 : fds[j] = f := Option.some.inj e1
            rw [← e3, ← e4]
            exact ⟨dy, ta, va, gs, ps', vne, F5.butD d5 vne b6⟩
          · rw [List.getElem?_append_right (by omega)] at e2
            have := (List.getElem?_eq_some_iff.mp e2).1
            rw [List.length_singleton] at this
            omega
      · intro a m
        rcases List.mem_append.mp m with m | m
        · obtain ⟨q1, u', q2⟩ := hfr a m
          by_cases z : a = du
          · exact ⟨q1, by rw [z]; exact ⟨_, upd_same⟩⟩
          · exact ⟨q1, u', b6 _ _ (s15 _ _ q2) (fun w => z (List.mem_singleton.mp w))⟩
        · rw [List.mem_singleton.mp m]
          refine ⟨?_, _, b6 _ _ F5.ob (fun w => nxf (List.mem_singleton.mp w))⟩
          cases z : H x with
          | none => rfl
          | some o =>
            have := s13 _ _ (b1 _ _ z (fun w => nxf (List.mem_singleton.mp w)))
            rw [nx] at this
            cases this
      · refine List.nodup_append.mpr ⟨hnd, List.nodup_cons.mpr ⟨by simp, List.nodup_nil⟩, fun a ma b mb z => ?_⟩
        rw [List.mem_singleton.mp mb] at z
        obtain ⟨_, u', q2⟩ := hfr a ma
        have := s13 _ _ q2
        rw [z, nx] at this
        cases this
    · rintro σ H1 ⟨v1, v2, rfl, b1, fps, fl, h1d, hH, hfr, hnd⟩
      rw [hlr] at fl
      rw [hlr, List.take_length] at h1d hH
      exact k H1 fps b1 fl hH (fun a m => (hfr a m).1) hnd h1d

end
end W7
set_option Elab.async false
set_option linter.all false
set_option maxRecDepth 100000
set_option maxHeartbeats 4000000
namespace W7
open PySem PySem.Spec PyProof.Rows L2 RZ
section
variable {P : Program} {w : World} {K : PySem.W.Frag} {mg : Str → Option Value} {base : Heap}

abbrev ClsT := List (Str × List (Str × Str))
/-- rows whose goals are there, the last of which does not go on -/
structure OkG (rws : List Rx) : Prop where
  ok : ∀ r ∈ rws, ∀ g, r.goal = some g → g < rws.length
  last : ∃ r0 rl, rws = r0 ++ [rl] ∧ (rl.word = ("jump" : Str) ∨ rl.word = ("return" : Str))
  le : rws.length ≤ 40
theorem cs_at {cl : ClsT} {qs : List Addr} {i : Nat} {c : Str × List (Str × Str)} {x : Addr} (nd : (cl.map Prod.fst).Nodup) (h : cl[i]? = some c) (hx : qs[i]? = some x) : valV (csM cl qs) (Sum.inr c.1 : Key) = some (.ref x) := by
  induction cl generalizing qs i with
  | nil => simp at h
  | cons a l ih =>
    cases qs with
    | nil => simp at hx
    | cons y qs =>
      obtain ⟨n1, n2⟩ := List.nodup_cons.mp (show (a.1 :: l.map Prod.fst).Nodup from nd)
      cases i with
      | zero =>
        have e1 : a = c := Option.some.inj h
        have e2 : y = x := Option.some.inj hx
        unfold csM valV
        rw [List.zip_cons_cons, List.map_cons, List.find?_cons_of_pos (by simp [e1]), e2]
        rfl
      | succ i =>
        have h2 : l[i]? = some c := by simpa using h
        have hx2 : qs[i]? = some x := by simpa using hx
        have k := ih n2 h2 hx2
        have cc : ¬ a.1 = c.1 := fun z => n1 (by rw [z]; exact List.mem_map.mpr ⟨c, List.mem_of_getElem? h2, rfl⟩)
        unfold csM valV at k ⊢
        rw [List.zip_cons_cons, List.map_cons, List.find?_cons_of_neg (by simpa using cc)]
        exact k
/-- a variable of a function with its kind -/
def KO (f : FdT) (x q : Str) : Prop := (x, q) ∈ f.ns ++ f.ms
/-- a row that fits a function of a source -/
def RowOk (cl : ClsT) (fds : List FdT) (f : FdT) : Rx → Prop
  | .num x n => KO f x "number" ∧ -1000000000 ≤ n ∧ n ≤ 1000000000
  | .nil x => KO f x "object"
  | .copy x y => ∃ q, KO f x q ∧ KO f y q
  | .bin _ x y z => KO f x "number" ∧ KO f y "number" ∧ KO f z "number"
  | .same x y z => ∃ q, KO f x "number" ∧ KO f y q ∧ KO f z q
  | .new x c => KO f x "object" ∧ c ∈ cl.map Prod.fst
  | .get x y g => ∃ q, KO f y "object" ∧ KO f x q ∧ valV (ksM cl) (Sum.inr g : Key) = some (.str q)
  | .put x g y => ∃ q, KO f x "object" ∧ KO f y q ∧ valV (ksM cl) (Sum.inr g : Key) = some (.str q)
  | .call x F as => ∃ (j : Nat) (g : FdT), fds[j]? = some g ∧ g.nm = F ∧ as.length = g.ns.length ∧ (∀ (i : Nat) y q, as[i]? = some y → g.ns[i]? = some q → KO f y q.2) ∧ KO f x g.res
  | .see x => ∃ q, KO f x q
  | .ifz x _ => KO f x "number"
  | .jump _ => True
  | .ret x => KO f x f.res
structure FdOk (cl : ClsT) (fds : List FdT) (f : FdT) : Prop where
  nf : Nam f.nm
  kd : IsKind f.res
  nam : ∀ q ∈ f.ns ++ f.ms, Nam q.1 ∧ IsKind q.2
  nd : ((f.ns ++ f.ms).map Prod.fst).Nodup
  l1 : f.ns.length ≤ 4
  l2 : f.ms.length ≤ 8
  rows : ∀ r ∈ f.rws, RowOk cl fds f r
  ok : OkG f.rws
theorem FdOk.kind {cl : ClsT} {fds : List FdT} {f : FdT} (h : FdOk cl fds f) {x q : Str} (m : KO f x q) : KindOf (kvP (f.ns ++ f.ms)) x q := valV_kvP_in (q := (x, q)) h.nd m
theorem FdOk.name {cl : ClsT} {fds : List FdT} {f : FdT} (h : FdOk cl fds f) {x q : Str} (m : KO f x q) : Nam x := (h.nam (x, q) m).1
theorem args_kind {f g : FdT} {as : List Str} (hl : as.length = g.ns.length) (hk : ∀ (i : Nat) y q, as[i]? = some y → g.ns[i]? = some q → KO f y q.2) : ∀ y ∈ as, ∃ q, KO f y q := by
  intro y m
  obtain ⟨i, hi, e⟩ := List.getElem_of_mem m
  have e1 : as[i]? = some y := by rw [List.getElem?_eq_getElem hi, e]
  have hi2 : i < g.ns.length := by omega
  exact ⟨_, hk i y _ e1 (List.getElem?_eq_getElem hi2)⟩
theorem form_of {R : Str → V → Prop} : ∀ {rs : List Str} {vs : List V}, Paired R rs vs → ∀ (i : Nat) x v, rs[i]? = some x → vs[i]? = some v → R x v
  | _, _, .nil, i, x, v, h, _ => by simp at h
  | _, _, .cons h t, 0, x, v, e1, e2 => by
    rw [← Option.some.inj e1, ← Option.some.inj e2]
    exact h
  | _, _, .cons h t, i + 1, x, v, e1, e2 => form_of t i x v (by simpa using e1) (by simpa using e2)
theorem FdOk.form {cl : ClsT} {fds : List FdT} {f : FdT} {fps : List Addr} {H : Hp} {qs : List Addr} {l : Addr} (h : FdOk cl fds f) (hN : (fds.map FdT.nm).Nodup) (hl : fps.length = fds.length) (hF : (cl.map Prod.fst).Nodup) (hq : qs.length = cl.length) {r : Rx} (hr : RowOk cl fds f r) (hA : ArgsAt H l r) :
    FormG H (csM cl qs) (ksM cl) (usOf fds fps) (.ref l) r := by
  have fld : ∀ {g q : Str}, valV (ksM cl) (Sum.inr g : Key) = some (.str q) → FitsG H (csM cl qs) (ksM cl) (usOf fds fps) "field" (.str g) := fun {g q} m => .fld (v := .str q) m (by intro z; cases z)
  unfold FormG
  cases r with
  | num x n => exact form_of (.cons (.sets (h.name hr.1)) (.cons (.num hr.2.1 hr.2.2) .nil))
  | nil x => exact form_of (.cons (.sets (h.name hr)) .nil)
  | copy x y =>
    obtain ⟨q, h1, h2⟩ := hr
    exact form_of (.cons (.sets (h.name h1)) (.cons (.reads (h.name h2)) .nil))
  | bin kk x y z => exact form_of (.cons (.sets (h.name hr.1)) (.cons (.reads (h.name hr.2.1)) (.cons (.reads (h.name hr.2.2)) .nil)))
  | same x y z =>
    obtain ⟨q, h1, h2, h3⟩ := hr
    exact form_of (.cons (.sets (h.name h1)) (.cons (.reads (h.name h2)) (.cons (.reads (h.name h3)) .nil)))
  | new x c =>
    obtain ⟨h1, h2⟩ := hr
    obtain ⟨d, md, rfl⟩ := List.mem_map.mp h2
    obtain ⟨i, hi, rfl⟩ := List.getElem_of_mem md
    have hi2 : i < qs.length := by omega
    exact form_of (.cons (.sets (h.name h1)) (.cons (.cls (cs_at hF (List.getElem?_eq_getElem hi) (List.getElem?_eq_getElem hi2)) (by intro z; cases z)) .nil))
  | get x y g =>
    obtain ⟨q, h1, h2, h3⟩ := hr
    exact form_of (.cons (.sets (h.name h2)) (.cons (.reads (h.name h1)) (.cons (fld h3) .nil)))
  | put x g y =>
    obtain ⟨q, h1, h2, h3⟩ := hr
    exact form_of (.cons (.reads (h.name h1)) (.cons (fld h3) (.cons (.reads (h.name h2)) .nil)))
  | call x F as =>
    obtain ⟨j, g, h1, h2, h3, h4, h5⟩ := hr
    obtain ⟨a1, a2⟩ := hA as rfl
    obtain ⟨a, ha⟩ : ∃ a, fps[j]? = some a := ⟨fps[j]'(by rw [hl]; exact (List.getElem?_eq_some_iff.mp h1).1), List.getElem?_eq_getElem _⟩
    have e : valV (usOf fds fps) (Sum.inr F : Key) = some (.ref a) := by
      rw [← h2]
      exact us_at hN h1 ha
    refine form_of (.cons (.sets (h.name h5)) (.cons (.fn e (by intro z; cases z)) (.cons (.many a1 (fun y m => ?_) a2) .nil)))
    obtain ⟨q, hq⟩ := args_kind h3 h4 y m
    exact h.name hq
  | see x =>
    obtain ⟨q, h1⟩ := hr
    exact form_of (.cons (.reads (h.name h1)) .nil)
  | ifz x r => exact form_of (.cons (.reads (h.name hr)) (.cons (.row _) .nil))
  | jump r => exact form_of (.cons (.row _) .nil)
  | ret x => exact form_of (.cons (.reads (h.name hr)) .nil)
theorem kind_str {q : Str} (h : IsKind q) : PyData.strOk q = true := by
  rcases h with rfl | rfl <;> decide +kernel
theorem FdOk.kinds {cl : ClsT} {fds : List FdT} {f : FdT} {fps : List Addr} {H : Hp} (h : FdOk cl fds f) (hN : (fds.map FdT.nm).Nodup) (hK : ∀ g ∈ fds, FdOk cl fds g)
    (hH : ∀ (j : Nat) (g : FdT), fds[j]? = some g → ∃ a dx pa fs ps, fps[j]? = some a ∧ HeadG K H a dx pa fs ps g.ns g.res) {r : Rx} (hr : RowOk cl fds f r) :
    KindsG K H (ksM cl) (usOf fds fps) (kvP (f.ns ++ f.ms)) f.res r := by
  have fld : ∀ {g q : Str}, valV (ksM cl) (Sum.inr g : Key) = some (.str q) → valV (ksM cl) (Sum.inr g : Key) = some (.str q) := fun {g q} m => m
  cases r with
  | num x n => exact h.kind hr.1
  | nil x => exact h.kind hr
  | copy x y =>
    obtain ⟨q, h1, h2⟩ := hr
    exact ⟨q, h.kind h1, h.kind h2⟩
  | bin kk x y z => exact ⟨h.kind hr.1, h.kind hr.2.1, h.kind hr.2.2⟩
  | same x y z =>
    obtain ⟨q, h1, h2, h3⟩ := hr
    exact ⟨q, h.kind h1, h.kind h2, h.kind h3⟩
  | new x c => exact h.kind hr.1
  | get x y g =>
    obtain ⟨q, h1, h2, h3⟩ := hr
    exact ⟨q, h.kind h1, h.kind h2, fld h3⟩
  | put x g y =>
    obtain ⟨q, h1, h2, h3⟩ := hr
    exact ⟨q, h.kind h1, h.kind h2, fld h3⟩
  | call x F as =>
    obtain ⟨j, g, h1, h2, h3, h4, h5⟩ := hr
    obtain ⟨a, dx, pa, fs, ps, ha, hg⟩ := hH j g h1
    refine ⟨a, dx, pa, fs, ps, g.ns, g.res, ?_, hg, h3, fun i y q e1 e2 => h.kind (h4 i y q e1 e2), fun q m => kind_str ((hK g (List.mem_of_getElem? h1)).nam q (List.mem_append_left _ m)).2, h.kind h5⟩
    rw [← h2]
    exact us_at hN h1 ha
  | see x => trivial
  | ifz x r => exact h.kind hr
  | jump r => trivial
  | ret x => exact h.kind hr
theorem FdOk.names {cl : ClsT} {fds : List FdT} {f : FdT} (h : FdOk cl fds f) {r : Rx} (hr : RowOk cl fds f r) : ∀ x ∈ r.names, ∃ v, valV (kvP (f.ns ++ f.ms)) (Sum.inr x : Key) = some v := by
  have key : ∀ x ∈ r.names, ∃ q, KO f x q := by
    intro x m
    cases r with
    | num y n =>
      simp only [Rx.names, Rx.sets, Rx.reads, List.mem_cons, List.not_mem_nil, or_false] at m
      exact ⟨_, m ▸ hr.1⟩
    | nil y =>
      simp only [Rx.names, Rx.sets, Rx.reads, List.mem_cons, List.not_mem_nil, or_false] at m
      exact ⟨_, m ▸ hr⟩
    | copy y z =>
      obtain ⟨q, h1, h2⟩ := hr
      simp only [Rx.names, Rx.sets, Rx.reads, List.mem_cons, List.not_mem_nil, or_false] at m
      rcases m with m | m
      · exact ⟨_, m ▸ h1⟩
      · exact ⟨_, m ▸ h2⟩
    | bin kk y z t =>
      obtain ⟨h1, h2, h3⟩ := hr
      simp only [Rx.names, Rx.sets, Rx.reads, List.mem_cons, List.not_mem_nil, or_false] at m
      rcases m with m | m | m
      · exact ⟨_, m ▸ h1⟩
      · exact ⟨_, m ▸ h2⟩
      · exact ⟨_, m ▸ h3⟩
    | same y z t =>
      obtain ⟨q, h1, h2, h3⟩ := hr
      simp only [Rx.names, Rx.sets, Rx.reads, List.mem_cons, List.not_mem_nil, or_false] at m
      rcases m with m | m | m
      · exact ⟨_, m ▸ h1⟩
      · exact ⟨_, m ▸ h2⟩
      · exact ⟨_, m ▸ h3⟩
    | new y c =>
      simp only [Rx.names, Rx.sets, Rx.reads, List.mem_cons, List.not_mem_nil, or_false] at m
      exact ⟨_, m ▸ hr.1⟩
    | get y z g =>
      obtain ⟨q, h1, h2, h3⟩ := hr
      simp only [Rx.names, Rx.sets, Rx.reads, List.mem_cons, List.not_mem_nil, or_false] at m
      rcases m with m | m
      · exact ⟨_, m ▸ h2⟩
      · exact ⟨_, m ▸ h1⟩
    | put y g z =>
      obtain ⟨q, h1, h2, h3⟩ := hr
      simp only [Rx.names, Rx.sets, Rx.reads, List.mem_cons, List.not_mem_nil, or_false] at m
      rcases m with m | m
      · exact ⟨_, m ▸ h1⟩
      · exact ⟨_, m ▸ h2⟩
    | call y F as =>
      obtain ⟨j, g, h1, h2, h3, h4, h5⟩ := hr
      simp only [Rx.names, Rx.sets, Rx.reads, List.mem_cons] at m
      rcases m with m | m
      · exact ⟨_, m ▸ h5⟩
      · exact args_kind h3 h4 x m
    | see y =>
      obtain ⟨q, h1⟩ := hr
      simp only [Rx.names, Rx.sets, Rx.reads, List.mem_cons, List.not_mem_nil, or_false] at m
      exact ⟨_, m ▸ h1⟩
    | ifz y g =>
      simp only [Rx.names, Rx.sets, Rx.reads, List.mem_cons, List.not_mem_nil, or_false] at m
      exact ⟨_, m ▸ hr⟩
    | jump g =>
      simp only [Rx.names, Rx.sets, Rx.reads, List.not_mem_nil] at m
    | ret y =>
      simp only [Rx.names, Rx.sets, Rx.reads, List.mem_cons, List.not_mem_nil, or_false] at m
      exact ⟨_, m ▸ hr⟩
  intro x m
  obtain ⟨q, hq⟩ := key x m
  exact ⟨_, h.kind hq⟩
/-- a Function with its rows -/
structure FunB (K : PySem.W.Frag) (H : Hp) (p dx pa va ba : Addr) (fs : List (Str × V)) (ps rs : List Addr) (f : FdT) : Prop where
  ob : H p = some (.ins (He.ga K "Function") dx fs)
  f1 : fs.lookup ("params" : Str) = some (.ref pa)
  f2 : fs.lookup ("result" : Str) = some (.str f.res)
  f3 : fs.lookup ("variables" : Str) = some (.ref va)
  f4 : fs.lookup ("body" : Str) = some (.ref ba)
  nohas : fs.lookup ("has_row" : Str) = none ∧ fs.lookup ("called_at" : Str) = none
  d1 : TupP H pa (ps.map V.ref)
  pr : PairsG H ps f.ns
  vd : H va = some (.dK (kvP (f.ns ++ f.ms)))
  tb : TupP H ba (rs.map V.ref)
  kr : KeptRows H rs f.rws
  ot : OthG H fs f.nm f.ms
theorem KeptRows.keep {H H' : Hp} {rs : List Addr} {rws : List Rx} (h : KeptRows H rs rws) (e : KeepTL H H') : KeptRows H' rs rws := ⟨h.len, fun i a r x y => by
  obtain ⟨l, h1, h2⟩ := h.at_ i a r x y
  exact ⟨l, e.1 _ _ h1, fun bs q => by
    have k := h2 bs q
    rw [if_pos rfl] at k ⊢
    exact e.1 _ _ k⟩⟩
theorem KeepTL.butF {H H' : Hp} {p C dx : Addr} {fs : List (Str × V)} (hp : H p = some (.ins C dx fs)) (b : But p H H') : KeepTL H H' :=
  ⟨fun a xs h => b _ _ h (ne_of h hp (by intro z; cases z)), fun a xs h => b _ _ h (ne_of h hp (by intro z; cases z))⟩
theorem FunB.mono {H H' : Hp} {p dx pa va ba : Addr} {fs : List (Str × V)} {ps rs : List Addr} {f : FdT} (h : FunB K H p dx pa va ba fs ps rs f) (e : Same H H') : FunB K H' p dx pa va ba fs ps rs f :=
  ⟨e _ _ h.ob, h.f1, h.f2, h.f3, h.f4, h.nohas, h.d1.mono e, h.pr.mono e, e _ _ h.vd, h.tb.mono e, h.kr.mono e, h.ot.keepN (.of e)⟩
theorem FunB.but {H H' : Hp} {p dx pa va ba b C dy : Addr} {fs gs : List (Str × V)} {ps rs : List Addr} {f : FdT} (h : FunB K H p dx pa va ba fs ps rs f) (hb : H b = some (.ins C dy gs)) (hn : p ≠ b) (e : But b H H') : FunB K H' p dx pa va ba fs ps rs f :=
  ⟨e _ _ h.ob hn, h.f1, h.f2, h.f3, h.f4, h.nohas, e.tupP hb h.d1, e.pairsG hb h.pr, e _ _ h.vd (ne_of h.vd hb (by intro z; cases z)), e.tupP hb h.tb, h.kr.keep (.butF hb e), h.ot.keepN (.but hb e)⟩
theorem FunG.but {H H' : Hp} {p dx pa va b C dy : Addr} {fs gs : List (Str × V)} {ps : List Addr} {ns ms : List (Str × Str)} {res nm : Str} (h : FunG K H p dx pa va fs ps ns ms res nm) (hb : H b = some (.ins C dy gs)) (hn : p ≠ b) (e : But b H H') : FunG K H' p dx pa va fs ps ns ms res nm :=
  ⟨e _ _ h.ob hn, h.f1, h.f2, h.f3, h.nohas, h.few, e.tupP hb h.d1, e.pairsG hb h.pr, e _ _ h.vd (ne_of h.vd hb (by intro z; cases z)), h.ot.keepN (.but hb e)⟩
theorem FunG.head {H : Hp} {p dx pa va : Addr} {fs : List (Str × V)} {ps : List Addr} {ns ms : List (Str × Str)} {res nm : Str} (h : FunG K H p dx pa va fs ps ns ms res nm) (hl : ns.length ≤ 4) : HeadG K H p dx pa fs ps ns res :=
  ⟨h.ob, h.f1, h.f2, h.d1.sq, h.pr.len, by omega, fun i a q e1 e2 => SqT.of (h.pr.at_ i a q e1 e2)⟩
theorem FunB.head {H : Hp} {p dx pa va ba : Addr} {fs : List (Str × V)} {ps rs : List Addr} {f : FdT} (h : FunB K H p dx pa va ba fs ps rs f) (hl : f.ns.length ≤ 4) : HeadG K H p dx pa fs ps f.ns f.res :=
  ⟨h.ob, h.f1, h.f2, h.d1.sq, h.pr.len, by omega, fun i a q e1 e2 => SqT.of (h.pr.at_ i a q e1 e2)⟩
/-- a Source of one class and these functions -/
def SrcX (K : PySem.W.Frag) (H : Hp) (p : Addr) (cl : ClsT) (fds : List FdT) : Prop := ∃ (fps qs : List Addr), ClsK H cl qs ∧ SrcH K H p (csM cl qs) (ksM cl) (usOf fds fps) ∧ fps.length = fds.length ∧
  ∀ (j : Nat) (f : FdT) (a : Addr), fds[j]? = some f → fps[j]? = some a → ∃ (dx pa va ba : Addr) (fs : List (Str × V)) (ps rs : List Addr), FunB K H a dx pa va ba fs ps rs f
theorem SrcX.mono {H H' : Hp} {p : Addr} {cl : ClsT} {fds : List FdT} (h : SrcX K H p cl fds) (e : Same H H') : SrcX K H' p cl fds := by
  obtain ⟨fps, qs, hq, h1, h2, h3⟩ := h
  refine ⟨fps, qs, hq.keepN (.of e), h1.mono e, h2, fun j f a e1 e2 => ?_⟩
  obtain ⟨dx, pa, va, ba, fs, ps, rs, q⟩ := h3 j f a e1 e2
  exact ⟨dx, pa, va, ba, fs, ps, rs, q.mono e⟩

end
end W7
set_option Elab.async false
set_option linter.all false
set_option maxRecDepth 100000
set_option maxHeartbeats 4000000
namespace W7
open PySem PySem.Spec PyProof.Rows L2 RZ
section
variable {P : Program} {w : World} {K : PySem.W.Frag} {mg : Str → Option Value} {base : Heap}

theorem KeepTL.trans {H H1 H2 : Hp} (a : KeepTL H H1) (b : KeepTL H1 H2) : KeepTL H H2 := ⟨fun c xs h => b.1 _ _ (a.1 _ _ h), fun c xs h => b.2 _ _ (a.2 _ _ h)⟩
theorem KeepTL.butL {H H' : Hp} {l : List Addr} (hl : ∀ d ∈ l, ∀ xs, H d ≠ some (.tup xs) ∧ H d ≠ some (.lst xs)) (b : ButL l H H') : KeepTL H H' :=
  ⟨fun a xs h => b _ _ h fun m => (hl a m xs).1 h, fun a xs h => b _ _ h fun m => (hl a m xs).2 h⟩
theorem ClsG.keep {H H' : Hp} {e : Addr} {c : Str × List (Str × Str)} (h : ClsG H e c) (k : KeepTL H H') : ClsG H' e c := by
  obtain ⟨fa, ps, h1, h2, h3⟩ := h
  exact ⟨fa, ps, k.1 _ _ h1, k.2 _ _ h2, h3.keep k⟩
theorem RawRows.keep {H H' : Hp} {rs : List Addr} {rws : List Rx} (h : RawRows H rs rws) (e : KeepTL H H') : RawRows H' rs rws := ⟨h.len, fun i a r x y => by
  obtain ⟨l, q1, q2⟩ := h.at_ i a r x y
  exact ⟨l, e.1 _ _ q1, fun bs z => ⟨e.2 _ _ (q2 bs z).1, (q2 bs z).2⟩⟩⟩
/-- a function as it is handed in, with its rows -/
def EntryR (H : Hp) (e : Addr) (f : FdT) : Prop := ∃ (pa oa ra : Addr) (ps qs rs : List Addr), EntryG H e pa oa ra f.nm f.res ps qs f.ns f.ms (rs.map V.ref) ∧ RawRows H rs f.rws
theorem EntryR.keep {H H' : Hp} {e : Addr} {f : FdT} (h : EntryR H e f) (k : KeepTL H H') : EntryR H' e f := by
  obtain ⟨pa, oa, ra, ps, qs, rs, q, r⟩ := h
  exact ⟨pa, oa, ra, ps, qs, rs, q.keep k, r.keep k⟩
theorem EntryR.entry {H : Hp} {e : Addr} {f : FdT} (h : EntryR H e f) : EntryAt H e f := by
  obtain ⟨pa, oa, ra, ps, qs, rs, q, r⟩ := h
  exact ⟨pa, oa, ra, ps, qs, _, q⟩
/-- classes and functions as they are handed in -/
structure RawSrc (H : Hp) (ca fa : Addr) (cl : ClsT) (fds : List FdT) : Prop where
  cs : ∃ es : List Addr, H ca = some (.lst (es.map V.ref)) ∧ es.length = cl.length ∧ ∀ (i : Nat) e c, es[i]? = some e → cl[i]? = some c → ClsG H e c
  oc : ClsOk cl
  fn : ∃ es : List Addr, H fa = some (.lst (es.map V.ref)) ∧ es.length = fds.length ∧ ∀ (i : Nat) e f, es[i]? = some e → fds[i]? = some f → EntryR H e f
  nn : (fds.map FdT.nm).Nodup
  l1 : 1 ≤ fds.length
  l6 : fds.length ≤ 6
  ok : ∀ f ∈ fds, FdOk cl fds f
theorem RawSrc.keep {H H' : Hp} {ca fa : Addr} {cl : ClsT} {fds : List FdT} (h : RawSrc H ca fa cl fds) (k : KeepTL H H') : RawSrc H' ca fa cl fds := by
  obtain ⟨⟨cs, c1, c2, c3⟩, h1, ⟨es, f1, f2, f3⟩, h5, h6, h7, h8⟩ := h
  exact ⟨⟨cs, k.2 _ _ c1, c2, fun i e c a b => (c3 i e c a b).keep k⟩, h1, ⟨es, k.2 _ _ f1, f2, fun i e f a b => (f3 i e f a b).keep k⟩, h5, h6, h7, h8⟩
def spSrcInitG (K : PySem.W.Frag) : Sp := fun vs H Q _ => ∃ (p dx ca fa : Addr) (cl : ClsT) (fds : List FdT), vs = [.ref p, .ref ca, .ref fa] ∧ H p = some (.ins (He.ga K "Source") dx []) ∧ RawSrc H ca fa cl fds ∧ ∀ H', But p H H' → SrcX K H' p cl fds → Q .non H' 
theorem sc_Source_init : FnScope ["self", "classes", "functions", "k", "entry"] ["self", "classes", "functions"] (defScope s_Source_init) := ⟨rfl, rfl, rfl, by decide +kernel, rfl, by decide +kernel, by decide +kernel⟩
theorem ok_Source_init (T : Ctx w K mg) (H_Source_take_classes : HasM P w K mg base 4 "Source" "_take_classes" ["self", "classes"] (spTakeCM K)) (H_Source_take_heads : HasM P w K mg base 6 "Source" "_take_heads" ["self", "functions"] (spTakeHG K)) (H_Source_take_rows : HasM P w K mg base 7 "Source" "_take_rows" ["self", "k", "function", "rows"] (spTakeRG K)) : HasM P w K mg base 8 "Source" "__init__" ["self", "classes", "functions"] (spSrcInitG K) := by
  obtain ⟨fd, F⟩ := T.D_Source_init
  obtain ⟨fd_Source_take_classes, G_Source_take_classes, b_Source_take_classes⟩ := H_Source_take_classes.ex
  obtain ⟨fd_Source_take_heads, G_Source_take_heads, b_Source_take_heads⟩ := H_Source_take_heads.ex
  obtain ⟨fd_Source_take_rows, G_Source_take_rows, b_Source_take_rows⟩ := H_Source_take_rows.ex
  refine ⟨⟨fd, F.ok sc_Source_init (fun vs H Q E h => ?_) (fun cdv A outer s H vs Q E hr h => ?_), F.bindsN fun _ _ _ _ _ _ us hl => match us, hl with | [_, _, _], _ => rfl⟩⟩
  · obtain ⟨p, dx, ca, fa, cl, fds, rfl, hp, HR, k⟩ := h; rfl
  · obtain ⟨p, dx, ca, fa, cl, fds, rfl, hp, HR, k⟩ := h
    have hr_Source_take_classes : Room 4 _ := hr.mono (by decide)
    have hr_Source_take_heads : Room 6 _ := hr.mono (by decide)
    have hr_Source_take_rows : Room 7 _ := hr.mono (by decide)
    have hu := hu_of hr
    refine ⟨_, PSs.nox (pss_cons (ps_fld (pv 0) pe_dnewK rfl)
      (pss_cons (ps_fld (pv 0) pe_dnewK rfl)
      (pss_cons (ps_fld (pv 0) pe_dnewK rfl)
      (pss_cons (ps_expr (pe_meth (pv 0) T.c_Source T.m_Source_take_classes G_Source_take_classes hr_Source_take_classes b_Source_take_classes .nil pass0 (pa_cons (pv 1) pa_nil)))
      (pss_cons (ps_expr (pe_meth (pv 0) T.c_Source T.m_Source_take_heads G_Source_take_heads hr_Source_take_heads b_Source_take_heads .nil pass0 (pa_cons (pv 2) pa_nil)))
      (pss_one (ps_for PassesOwn.never rfl (pi_enum (by rfl) T.f_enumerate (pa_cons (pv 2) pa_nil)) (pg_tup rfl (pgs_cons (pg_name (i := 3) sc_Source_init.nd rfl (Or.inl rfl)) (pgs_cons (pg_name (i := 4) sc_Source_init.nd rfl (Or.inl rfl)) pgs_nil)))
      (pss_one (ps_expr (pe_meth (pv 0) T.c_Source T.m_Source_take_rows G_Source_take_rows hr_Source_take_rows b_Source_take_rows .nil pass0 (pa_cons (pv 3) (pa_cons (pe_dget hu (pe_fldK (K := K) rfl (pv 0) (by rfl)) (pe_ix ix_tup (pv 4) pe_int (fun _ _ => rfl)) (fun _ _ => rfl)) (pa_cons (pe_ix ix_tup (pv 4) pe_int (fun _ _ => rfl)) pa_nil))))))))))))), ?_⟩
    intro d1 hd1
    have nd1 : d1 ≠ p := (ne_of_none hp hd1).symm
    refine ⟨_, rfl, p, _, dx, _, rfl, Same.new hd1 _ _ hp, T.c_Source, T.n_Source_field_kinds, few pf0, ?_⟩
    have b1 : But p H (upd (upd H d1 (.dK [])) p (.ins (He.ga K "Source") dx (putF "_field_kinds" (.ref d1) []))) := (But.of (Same.new hd1)).trans But.upd
    intro d2 hd2
    have nd2 : d2 ≠ p := fun z => by rw [z, upd_same] at hd2; cases hd2
    have n21 : d2 ≠ d1 := fun z => by rw [z, upd_ne nd1, upd_same] at hd2; cases hd2
    refine ⟨_, rfl, p, _, dx, _, rfl, Same.new hd2 _ _ upd_same, T.c_Source, T.n_Source_fields, few (pl1 pf0), ?_⟩
    have b2 := b1.trans ((But.of (Same.new (o := .dK []) hd2)).trans (But.upd (o := .ins (He.ga K "Source") dx (putF "_fields" (.ref d2) (putF "_field_kinds" (.ref d1) [])))))
    intro d3 hd3
    have nd3 : d3 ≠ p := fun z => by rw [z, upd_same] at hd3; cases hd3
    have n32 : d3 ≠ d2 := fun z => by rw [z, upd_ne nd2, upd_same] at hd3; cases hd3
    have n31 : d3 ≠ d1 := fun z => by rw [z, upd_ne nd1, upd_ne n21.symm, upd_ne nd1, upd_same] at hd3; cases hd3
    refine ⟨_, rfl, p, _, dx, _, rfl, Same.new hd3 _ _ upd_same, T.c_Source, T.n_Source_functions, few (pl1 (pl1 pf0)), ?_⟩
    have b3 := b2.trans ((But.of (Same.new (o := .dK []) hd3)).trans (But.upd (o := .ins (He.ga K "Source") dx (putF "_functions" (.ref d3) (putF "_fields" (.ref d2) (putF "_field_kinds" (.ref d1) []))))))
    generalize hH3 : upd (upd (upd (upd (upd (upd H d1 (.dK [])) p (.ins (He.ga K "Source") dx (putF "_field_kinds" (.ref d1) []))) d2 (.dK [])) p (.ins (He.ga K "Source") dx (putF "_fields" (.ref d2) (putF "_field_kinds" (.ref d1) [])))) d3 (.dK [])) p (.ins (He.ga K "Source") dx (putF "_functions" (.ref d3) (putF "_fields" (.ref d2) (putF "_field_kinds" (.ref d1) [])))) = H3 at b3 ⊢
    have S3 : SrcG K H3 p dx d2 d1 d3 (putF "_functions" (.ref d3) (putF "_fields" (.ref d2) (putF "_field_kinds" (.ref d1) []))) [] [] [] := by
      subst hH3
      refine ⟨upd_same, rfl, rfl, rfl, fun m hm => ?_, ?_, ?_, ?_⟩
      · simp only [List.mem_cons, List.not_mem_nil, or_false] at hm
        rcases hm with rfl | rfl | rfl | rfl | rfl | rfl | rfl | rfl | rfl | rfl <;> rfl
      · rw [upd_ne nd2, upd_ne n32.symm, upd_ne nd2, upd_same]
      · rw [upd_ne nd1, upd_ne n31.symm, upd_ne nd1, upd_ne n21.symm, upd_ne nd1, upd_same]
      · rw [upd_ne nd3, upd_same]
    generalize putF "_functions" (V.ref d3) (putF "_fields" (.ref d2) (putF "_field_kinds" (.ref d1) [])) = fs at S3
    have k3 : KeepTL H H3 := .butF hp b3
    have R3 := HR.keep k3
    clear hH3 b1 b2
    obtain ⟨ces, c1, c2, c3⟩ := R3.cs
    obtain ⟨es, f1, f2, f3⟩ := R3.fn
    refine ⟨_, rfl, p, dx, _, rfl, S3.ob, S3.nm _ (by decide +kernel), _, rfl, ?_⟩
    refine ⟨p, ca, dx, d2, d1, d3, fs, [], cl, ces, rfl, S3, n21, n32, n31, c1, c2, c3, HR.oc, fun H4 qs b4 hqs df4 dk4 => ?_⟩
    have k4 : KeepTL H3 H4 := .butL (fun d m xs => by
      rcases List.mem_cons.mp m with m | m
      · rw [m, S3.d1]
        exact ⟨(by intro z; cases z), (by intro z; cases z)⟩
      · rw [List.mem_singleton.mp m, S3.d2]
        exact ⟨(by intro z; cases z), (by intro z; cases z)⟩) b4
    have nin : ∀ {b : Addr}, b ≠ d2 → b ≠ d1 → b ∉ [d2, d1] := fun h1 h2 m => by
      rcases List.mem_cons.mp m with m | m
      · exact h1 m
      · exact h2 (List.mem_singleton.mp m)
    have S4 : SrcG K H4 p dx d2 d1 d3 fs (csM cl qs) (ksM cl) [] := ⟨b4 _ _ S3.ob (nin nd2.symm nd1.symm), S3.f1, S3.f2, S3.f3, S3.nm, df4, dk4, b4 _ _ S3.d3 (nin n32 n31)⟩
    refine ⟨_, rfl, p, dx, _, rfl, S4.ob, S4.nm _ (by decide +kernel), _, rfl, ?_⟩
    refine ⟨p, dx, d2, d1, d3, fa, fs, _, _, es, fds, rfl, S4, k4.2 _ _ f1, f2, fun i e f a b => ((f3 i e f a b).keep k4).entry, HR.nn, HR.l1, HR.l6, fun H5 fps b5 fl hH hfr hnd d5 => ?_⟩
    have k5 : KeepTL H4 H5 := .butD S4.d3 b5
    have n45 : KeepN H4 H5 := .butL (fun d m u e => by
      rw [List.mem_singleton.mp m, S4.d3] at e
      exact .inl ⟨_, (Option.some.inj e).symm⟩) b5
    have n5 : ∀ {b : Addr}, b ≠ d3 → b ∉ [d3] := fun h m => h (List.mem_singleton.mp m)
    have fin : ∀ a ∈ fps, ∃ (dy pa va : Addr) (gs : List (Str × V)) (ps' : List Addr) (f : FdT), FunG K H5 a dy pa va gs ps' f.ns f.ms f.res f.nm := fun a m => by
      obtain ⟨j, hj, e⟩ := List.getElem_of_mem m
      have e1 : fps[j]? = some a := by rw [List.getElem?_eq_getElem hj, e]
      have hj2 : j < fds.length := by omega
      obtain ⟨dy, pa, va, gs, ps', _, F⟩ := hH j _ a (List.getElem?_eq_getElem hj2) e1
      exact ⟨dy, pa, va, gs, ps', _, F⟩
    have nfp : ∀ {b : Addr} {u : HO}, H5 b = some u → (∀ dz gz, u ≠ .ins (He.ga K "Function") dz gz) → b ∉ fps := fun q n m => by
      obtain ⟨dy, pa, va, gs, ps', f, F⟩ := fin _ m
      rw [F.ob] at q
      exact n _ _ (Option.some.inj q).symm
    have p4 : H4 p = some (.ins (He.ga K "Source") dx fs) := S4.ob
    have npf : p ∉ fps := fun m => by
      have q := hfr p m
      rw [p4] at q
      cases q
    have S5 : SrcG K H5 p dx d2 d1 d3 fs (csM cl qs) (ksM cl) (usOf fds fps) := ⟨b5 _ _ S4.ob (n5 nd3.symm), S4.f1, S4.f2, S4.f3, S4.nm, b5 _ _ S4.d1 (n5 n32.symm), b5 _ _ S4.d2 (n5 n31.symm), d5⟩
    have k35 := k4.trans k5
    have fa5 := k35.2 _ _ f1
    have hlr : (es.map V.ref).length = fds.length := by rw [List.length_map, f2]
    refine ⟨_, rfl, fa, _, rfl, SqL.of fa5, ?_⟩
    refine for_it (walk_enum (K := K) (a := fa) (xs := es.map V.ref)) (fun i σ H1 => ∃ v1 v2 : Option V, σ = [some (.ref p), some (.ref ca), some (.ref fa), v1, v2] ∧ ButL fps H5 H1 ∧ (∀ (j : Nat) f a, fds[j]? = some f → fps[j]? = some a → j < i → ∃ (dy pa va ba : Addr) (gs : List (Str × V)) (ps' rs' : List Addr), FunB K H1 a dy pa va ba gs ps' rs' f) ∧
      (∀ (j : Nat) f a, fds[j]? = some f → fps[j]? = some a → i ≤ j → ∃ (dy pa va : Addr) (gs : List (Str × V)) (ps' : List Addr), FunG K H1 a dy pa va gs ps' f.ns f.ms f.res f.nm)) ⟨none, none, rfl, fun b u q _ => q, fun j f a _ _ h => absurd h (Nat.not_lt_zero j), fun j f a e1 e2 _ => by
        obtain ⟨dy, pa, va, gs, ps', _, F⟩ := hH j f a e1 e2
        exact ⟨dy, pa, va, gs, ps', F⟩⟩ (fun i σ H1 _ ⟨_, _, _, b6, _⟩ => SqL.of (b6 _ _ fa5 (nfp fa5 (by intro _ _ z; cases z)))) ?_ ?_
    · rintro i y σ H1 H2 hi ⟨v1, v2, rfl, b6, hB, hG⟩ ⟨u, a, b, rfl, hu0, rfl, h1, h2⟩
      have h2 : (es.map V.ref)[i]? = some b := h2
      obtain rfl : V.int (i : Nat) = a := Option.some.inj h1
      obtain ⟨e, hc, rfl⟩ := map_get h2
      have hif : i < fds.length := by rw [hlr] at hi; exact hi
      have hf : fds[i]? = some fds[i] := List.getElem?_eq_getElem hif
      have hip : i < fps.length := by omega
      have ha : fps[i]? = some fps[i] := List.getElem?_eq_getElem hip
      have hfm : fds[i] ∈ fds := List.getElem_mem hif
      have k6 : KeepTL H5 H1 := .butL (fun d m xs => by
        obtain ⟨dy, pa, va, gs, ps', f, F⟩ := fin _ m
        rw [F.ob]
        exact ⟨(by intro z; cases z), (by intro z; cases z)⟩) b6
      obtain ⟨pa, oa, ra, pp, qq, rs, E3, RR3⟩ := f3 i e _ hc hf
      have k36 := k35.trans k6
      have E1 := E3.keep k36
      have RR1 := RR3.keep k36
      have s1 : Same H1 (upd H1 u (.tup [.int (i : Nat), .ref e])) := Same.new hu0
      have S1 : SrcG K H1 p dx d2 d1 d3 fs (csM cl qs) (ksM cl) (usOf fds fps) := ⟨b6 _ _ S5.ob npf, S5.f1, S5.f2, S5.f3, S5.nm, b6 _ _ S5.d1 (nfp S5.d1 (by intro _ _ z; cases z)), b6 _ _ S5.d2 (nfp S5.d2 (by intro _ _ z; cases z)), b6 _ _ S5.d3 (nfp S5.d3 (by intro _ _ z; cases z))⟩
      have S2 := S1.mono s1
      have E2 := E1.keep (.of s1)
      have RR2 := RR1.mono s1
      obtain ⟨dy, ta, va, gs, ps', F0⟩ := hG i _ _ hf ha (Nat.le_refl _)
      have F2 := F0.mono s1
      have O := HR.ok _ hfm
      have hLen : rs.length = fds[i].rws.length := RR1.len
      refine ⟨u, _, rfl, SqT.of upd_same, rfl, _, _, rfl, _, _, rfl, rfl, ?_⟩
      refine ⟨_, rfl, p, dx, _, rfl, S2.ob, S2.nm _ (by decide +kernel), _, rfl, _, rfl, p, _, dx, _, _, rfl, S2.ob, T.c_Source, T.n_Source_functions, S2.f3, _, rfl, _, _, _, _, rfl, rfl, SqT.of E2.he, at0, d3, .ref fps[i], rfl, ?_, ?_⟩
      · have q := DGet.k (k := Sum.inr fds[i].nm) S2.d3
        rw [us_at HR.nn hf ha] at q
        exact q
      refine ⟨_, rfl, _, _, _, _, rfl, rfl, SqT.of E2.he, at4, ?_⟩
      have hHead : ∀ (j : Nat) (g : FdT), fds[j]? = some g → ∃ a dx pa fs ps, fps[j]? = some a ∧ HeadG K (upd H1 u (.tup [.int (i : Nat), .ref e])) a dx pa fs ps g.ns g.res := fun j g ej => by
        have hj : j < fps.length := by
          have := (List.getElem?_eq_some_iff.mp ej).1
          omega
        have aj : fps[j]? = some fps[j] := List.getElem?_eq_getElem hj
        have lj := (HR.ok g (List.mem_of_getElem? ej)).l1
        by_cases c : j < i
        · obtain ⟨dz, pz, vz, bz, gz, psz, rsz, Fz⟩ := hB j g _ ej aj c
          exact ⟨_, _, _, _, _, aj, (Fz.mono s1).head lj⟩
        · obtain ⟨dz, pz, vz, gz, psz, Fz⟩ := hG j g _ ej aj (by omega)
          exact ⟨_, _, _, _, _, aj, (Fz.mono s1).head lj⟩
      refine ⟨p, fps[i], dy, va, ra, (i : Nat), gs, _, _, _, _, _, rs, fds[i].rws, rfl, ⟨dx, d2, d1, d3, fs, S2⟩, F2.few, ⟨F2.ob, F2.f3, F2.f2, F2.vd⟩, E2.hra, RR2, fun j c r l e1 e2 e3 => ?_, fun r m => ⟨O.kinds HR.nn HR.ok hHead (O.rows r m), O.names (O.rows r m), O.ok.ok r m⟩, O.ok.last, O.ok.le, fun H7 q qs b7 F7 t7 q7 => ?_⟩
      · obtain ⟨l2, q1, q2⟩ := RR2.at_ j c r e1 e2
        refine O.form HR.nn fl HR.oc.nd hqs.len (O.rows r (List.mem_of_getElem? e2)) fun bs hb => ?_
        have el : l2 = l ∨ r.args = none := by
          cases r with
          | call x F as =>
            left
            rw [q1] at e3
            have := (HO.tup.inj (Option.some.inj e3))
            simp [Rx.parts] at this
            exact this
          | _ => exact .inr rfl
        rcases el with rfl | el
        · exact q2 bs hb
        · rw [el] at hb
          cases hb
      · have ob2 := F2.ob
        refine ⟨_, _, rfl, fun b u q n => ?_, fun j f a e1 e2 hj => ?_, fun j f a e1 e2 hj => ?_⟩
        · exact b7 _ _ (s1 _ _ (b6 _ _ q n)) fun z => n (by rw [z]; exact List.getElem_mem hip)
        · by_cases c : j = i
          · subst c
            rw [hf] at e1
            rw [ha] at e2
            have ef := Option.some.inj e1
            have ea := Option.some.inj e2
            subst ef
            subst ea
            refine ⟨dy, ta, va, q, _, ps', qs, F7.ob, ?_, F7.res, F7.vars, ?_, ?_, b7.tupP ob2 F2.d1, b7.pairsG ob2 F2.pr, F7.vd, t7, q7, ?_⟩
            · rw [lookup_putF, if_neg (by decide +kernel)]
              exact F2.f1
            · rw [lookup_putF, if_pos rfl]
            · rw [lookup_putF, lookup_putF, if_neg (by decide +kernel), if_neg (by decide +kernel)]
              exact F2.nohas
            · obtain ⟨o1, oa', qs', o2, o3⟩ := (F2.ot.keepN (.but ob2 b7))
              exact ⟨by rw [lookup_putF, if_neg (by decide +kernel)]; exact o1, oa', qs', by rw [lookup_putF, if_neg (by decide +kernel)]; exact o2, o3⟩
          · obtain ⟨dz, pz, vz, bz, gz, psz, rsz, Fz⟩ := hB j f a e1 e2 (by omega)
            refine ⟨dz, pz, vz, bz, gz, psz, rsz, (Fz.mono s1).but ob2 (fun z => c ?_) b7⟩
            exact (List.getElem?_inj (List.getElem?_eq_some_iff.mp e2).1 hnd).mp (by rw [e2, z, ha])
        · obtain ⟨dz, pz, vz, gz, psz, Fz⟩ := hG j f a e1 e2 (by omega)
          refine ⟨dz, pz, vz, gz, psz, (Fz.mono s1).but ob2 (fun z => ?_) b7⟩
          have := (List.getElem?_inj (List.getElem?_eq_some_iff.mp e2).1 hnd).mp (show fps[j]? = fps[i]? by rw [e2, z, ha])
          omega
    · rintro σ H1 ⟨v1, v2, rfl, b6, hB, hG⟩
      rw [hlr] at hB
      have S1 : SrcG K H1 p dx d2 d1 d3 fs (csM cl qs) (ksM cl) (usOf fds fps) := ⟨b6 _ _ S5.ob npf, S5.f1, S5.f2, S5.f3, S5.nm, b6 _ _ S5.d1 (nfp S5.d1 (by intro _ _ z; cases z)), b6 _ _ S5.d2 (nfp S5.d2 (by intro _ _ z; cases z)), b6 _ _ S5.d3 (nfp S5.d3 (by intro _ _ z; cases z))⟩
      have n56 : KeepN H5 H1 := .butL (fun d m u e => by
        obtain ⟨dy, pa, va, gs, ps', f, F⟩ := fin _ m
        rw [F.ob] at e
        exact .inr ⟨_, _, _, (Option.some.inj e).symm⟩) b6
      refine k H1 (fun b o q n => ?_) ⟨fps, qs, (hqs.keepN n45).keepN n56, ⟨dx, d2, d1, d3, fs, S1⟩, fl, fun j f a e1 e2 => hB j f a e1 e2 (List.getElem?_eq_some_iff.mp e1).1⟩
      have old : ∀ {d : Addr}, H d = none → b ≠ d := fun hd z => by
        rw [z, hd] at q
        cases q
      have q3 := b3 _ _ q n
      have m1 : b ≠ d1 := old hd1
      have m2 : b ≠ d2 := fun z => by
        rw [upd_ne nd2] at hd2
        by_cases w : d2 = d1
        · exact n21 w
        · rw [upd_ne w] at hd2
          exact old hd2 z
      have m3 : b ≠ d3 := fun z => by
        rw [upd_ne nd3, upd_ne n32, upd_ne nd3, upd_ne n31] at hd3
        exact old hd3 z
      have q4 := b4 _ _ q3 (nin m2 m1)
      have q5 := b5 _ _ q4 (n5 m3)
      exact b6 _ _ q5 fun m => by
        have := hfr b m
        rw [q4] at this
        cases this

end
end W7
set_option Elab.async false
set_option linter.all false
set_option maxRecDepth 100000
set_option maxHeartbeats 4000000
namespace W7
open PySem PySem.Spec PyProof.Rows L2 RZ
section
variable {P : Program} {w : World} {K : PySem.W.Frag} {mg : Str → Option Value} {base : Heap}

theorem FnOk.up {k : Nat} {f : Addr} {fd : FuncData} {ps : List Str} {sp : Sp} (F : FnOk P w K mg base CX0 k f fd ps sp) : FnOk P w K mg base (L2.CX P w) k f fd ps sp :=
  ⟨F.len, fun A outer s H args us vs Q E hr he hb hv hs => codeAny_mono (F.run A outer s H args us vs Q E hr he hb hv hs) fun r s2 z => by
    match r, z with
    | .ok (.ret u), z => exact z
    | .error e, z => exact z.elim⟩
theorem FnOk.or {CX : CXT} {k : Nat} {f : Addr} {fd : FuncData} {ps : List Str} {sp sp2 : Sp} (F : FnOk P w K mg base CX k f fd ps sp) (G : FnOk P w K mg base CX k f fd ps sp2) : FnOk P w K mg base CX k f fd ps (fun vs H Q E => sp vs H Q E ∨ sp2 vs H Q E) :=
  ⟨fun vs H Q E h => h.elim (F.len _ _ _ _) (G.len _ _ _ _), fun A outer s H args us vs Q E hr he hb hv hs => hs.elim (fun h => F.run A outer s H args us vs Q E hr he hb hv h) (fun h => G.run A outer s H args us vs Q E hr he hb hv h)⟩
/-- is_list_of of a list, both answers -/
def spListB : Sp := fun vs H Q _ => ∃ (a : Addr) (xs : List V) (lo hi : Int), vs = [.ref a, .int lo, .int hi] ∧ H a = some (.lst xs) ∧ Q (.bl (decide (lo ≤ (xs.length : Int)) && decide ((xs.length : Int) ≤ hi))) H
/-- a function as it is handed in, without rows -/
structure EntryZ (H : Hp) (e : Addr) : Prop where
  ex : ∃ (pa oa ra : Addr) (nm res : Str) (ps qs : List Addr) (ns ms : List (Str × Str)), H e = some (.tup [.str nm, .ref pa, .ref oa, .str res, .ref ra]) ∧ Nam nm ∧ IsKind res ∧ H pa = some (.lst (ps.map V.ref)) ∧ PairsG H ps ns ∧ H oa = some (.lst (qs.map V.ref)) ∧ PairsG H qs ms ∧
    (∀ q ∈ ns ++ ms, Nam q.1 ∧ IsKind q.2) ∧ ((ns ++ ms).map Prod.fst).Nodup ∧ ns.length ≤ 4 ∧ ms.length ≤ 8 ∧ H ra = some (.lst [])
def spHeadB : Sp := fun vs H Q _ => ∃ e, vs = [.ref e] ∧ ((∃ f, EntryAt H e f ∧ ∀ H', Same H H' → Q (.bl true) H') ∨ (EntryZ H e ∧ ∀ H', Same H H' → Q (.bl false) H'))
theorem EntryZ.keep {H H' : Hp} {e : Addr} (h : EntryZ H e) (k : KeepTL H H') : EntryZ H' e := by
  obtain ⟨pa, oa, ra, nm, res, ps, qs, ns, ms, h1, h2, h3, h4, h5, h6, h7, h8, h9, h10, h11, h12⟩ := h.ex
  exact ⟨pa, oa, ra, nm, res, ps, qs, ns, ms, k.1 _ _ h1, h2, h3, k.2 _ _ h4, h5.keep k, k.2 _ _ h6, h7.keep k, h8, h9, h10, h11, k.2 _ _ h12⟩
theorem scB_is_list_of : FnScope ["thing", "least", "most"] ["thing", "least", "most"] (defScope s_is_list_of) := ⟨rfl, rfl, rfl, by decide +kernel, rfl, by decide +kernel, by decide +kernel⟩
theorem okB_is_list_of (T : Ctx w K mg) : Has P w K mg base 1 "is_list_of" ["thing", "least", "most"] spListB := by
  obtain ⟨fd, F⟩ := T.D_is_list_of
  refine ⟨⟨fd, F.ok scB_is_list_of (fun vs H Q E h => ?_) (fun cdv A outer s H vs Q E hr h => ?_), F.bindsN fun _ _ _ _ _ _ us hl => match us, hl with | [_, _, _], _ => rfl⟩, F.kp, T.g_is_list_of⟩
  · obtain ⟨a, xs, lo, hi, rfl, ha, k⟩ := h; rfl
  · obtain ⟨a, xs, lo, hi, rfl, ha, k⟩ := h
    have hu := hu_of hr
    refine ⟨_, PSs.nox (pss_one (ps_ret (pe_and (pe_callB call_isi (by rfl) T.f_isinstance (by decide +kernel) (pa_cons (pv 0) (pa_cons (pe_bltn (v := .ty "list") (u := .type "list") rfl T.f_list (by decide +kernel) rfl) pa_nil))) (pe_one (pe_chain op_le op_le (pv 1) (pe_callB call_len_seq (by rfl) T.f_len (by decide +kernel) (pa_cons (pv 0) pa_nil)) (pv 2)))))), ?_⟩
    refine ⟨_, rfl, _, _, _, _, true, rfl, .ty _, .base (.lst ha), kit_ty (by decide +kernel), true, rfl, iteT ?_⟩
    by_cases h1 : lo ≤ (xs.length : Int)
    · refine ⟨_, rfl, _, rfl, _, _, rfl, .inl (SqL.of ha), _, _, rfl, rfl, _, rfl, ifT (decide_eq_true h1) ⟨_, rfl, _, _, rfl, rfl, ?_⟩⟩
      rw [decide_eq_true h1, Bool.true_and] at k
      exact k
    · refine ⟨_, rfl, _, rfl, _, _, rfl, .inl (SqL.of ha), _, _, rfl, rfl, _, rfl, ifF (decide_eq_false h1) ?_⟩
      rw [decide_eq_false h1, Bool.false_and] at k
      exact k
theorem scB_is_head : FnScope ["entry"] ["entry"] (defScope s_is_head) := ⟨rfl, rfl, rfl, by decide +kernel, rfl, by decide +kernel, by decide +kernel⟩
theorem okB_is_head (T : Ctx w K mg) (H_is_tuple_of : Has P w K mg base 1 "is_tuple_of" ["thing", "many"] spTupOf) (H_is_name : Has P w K mg base 1 "is_name" ["thing"] spName) (H_is_kind : Has P w K mg base 1 "is_kind" ["thing"] spKindG) (H_are_named_kinds : Has P w K mg base 2 "are_named_kinds" ["thing", "most"] spNamedG) (H_is_list_of : Has P w K mg base 1 "is_list_of" ["thing", "least", "most"] spListB) : Has P w K mg base 3 "_is_head" ["entry"] spHeadB := by
  obtain ⟨fd, F⟩ := T.D_is_head
  obtain ⟨fd_is_tuple_of, G_is_tuple_of, b_is_tuple_of⟩ := H_is_tuple_of.ex
  obtain ⟨fd_is_name, G_is_name, b_is_name⟩ := H_is_name.ex
  obtain ⟨fd_is_kind, G_is_kind, b_is_kind⟩ := H_is_kind.ex
  obtain ⟨fd_are_named_kinds, G_are_named_kinds, b_are_named_kinds⟩ := H_are_named_kinds.ex
  obtain ⟨fd_is_list_of, G_is_list_of, b_is_list_of⟩ := H_is_list_of.ex
  refine ⟨⟨fd, F.ok scB_is_head (fun vs H Q E h => ?_) (fun cdv A outer s H vs Q E hr h => ?_), F.bindsN fun _ _ _ _ _ _ us hl => match us, hl with | [_], _ => rfl⟩, F.kp, T.g_is_head⟩
  · obtain ⟨e, rfl, k⟩ := h; rfl
  · obtain ⟨e, rfl, k⟩ := h
    have hr_is_tuple_of : Room 1 _ := hr.mono (by decide)
    have hr_is_name : Room 1 _ := hr.mono (by decide)
    have hr_is_kind : Room 1 _ := hr.mono (by decide)
    have hr_are_named_kinds : Room 2 _ := hr.mono (by decide)
    have hr_is_list_of : Room 1 _ := hr.mono (by decide)
    have hu := hu_of hr
    obtain ⟨t_MOST_PARAMETERS, e_MOST_PARAMETERS⟩ := T.i_MOST_PARAMETERS
    obtain ⟨t_MOST_OTHERS, e_MOST_OTHERS⟩ := T.i_MOST_OTHERS
    obtain ⟨t_MOST_ROWS, e_MOST_ROWS⟩ := T.i_MOST_ROWS
    refine ⟨_, PSs.nox (pss_cons (ps_if (PW.pt (pw_or (pt_not (pt_val (pe_call G_is_tuple_of hr_is_tuple_of (by rfl) H_is_tuple_of.gl H_is_tuple_of.kp b_is_tuple_of .nil pass0 (pa_cons (pv 0) (pa_cons pe_int pa_nil))))) (pw_or (pt_not (pt_val (pe_call G_is_name hr_is_name (by rfl) H_is_name.gl H_is_name.kp b_is_name .nil pass0 (pa_cons (pe_ix ix_tup (pv 0) pe_int (fun _ _ => rfl)) pa_nil)))) (pw_or1 (pt_not (pt_val (pe_call G_is_kind hr_is_kind (by rfl) H_is_kind.gl H_is_kind.kp b_is_kind .nil pass0 (pa_cons (pe_ix ix_tup (pv 0) pe_int (fun _ _ => rfl)) pa_nil)))))))) (pss_one (ps_ret pe_bl)) pss_nil)
      (pss_cons (ps_if (PW.pt (pw_or (pt_not (pt_val (pe_call G_are_named_kinds hr_are_named_kinds (by rfl) H_are_named_kinds.gl H_are_named_kinds.kp b_are_named_kinds .nil pass0 (pa_cons (pe_ix ix_tup (pv 0) pe_int (fun _ _ => rfl)) (pa_cons (pe_glob (v := .int 4) rfl e_MOST_PARAMETERS ⟨_, rfl⟩) pa_nil))))) (pw_or1 (pt_not (pt_val (pe_call G_are_named_kinds hr_are_named_kinds (by rfl) H_are_named_kinds.gl H_are_named_kinds.kp b_are_named_kinds .nil pass0 (pa_cons (pe_ix ix_tup (pv 0) pe_int (fun _ _ => rfl)) (pa_cons (pe_glob (v := .int 8) rfl e_MOST_OTHERS ⟨_, rfl⟩) pa_nil)))))))) (pss_one (ps_ret pe_bl)) pss_nil)
      (pss_cons (ps_if (pt_not (pt_val (pe_call G_are_named_kinds hr_are_named_kinds (by rfl) H_are_named_kinds.gl H_are_named_kinds.kp b_are_named_kinds .nil pass0 (pa_cons (pe_op op_cat (pe_ix ix_tup (pv 0) pe_int (fun _ _ => rfl)) (pe_ix ix_tup (pv 0) pe_int (fun _ _ => rfl))) (pa_cons (pe_op op_add (pe_glob (v := .int 4) rfl e_MOST_PARAMETERS ⟨_, rfl⟩) (pe_glob (v := .int 8) rfl e_MOST_OTHERS ⟨_, rfl⟩)) pa_nil))))) (pss_one (ps_ret pe_bl)) pss_nil)
      (pss_one (ps_ret (pe_call G_is_list_of hr_is_list_of (by rfl) H_is_list_of.gl H_is_list_of.kp b_is_list_of .nil pass0 (pa_cons (pe_ix ix_tup (pv 0) pe_int (fun _ _ => rfl)) (pa_cons pe_int (pa_cons (pe_glob (v := .int 40) rfl e_MOST_ROWS ⟨_, rfl⟩) pa_nil))))))))), ?_⟩
    have both : ∃ (pa oa ra : Addr) (nm res : Str) (ps qs : List Addr) (ns ms : List (Str × Str)) (rs : List V), H e = some (.tup [.str nm, .ref pa, .ref oa, .str res, .ref ra]) ∧ Nam nm ∧ IsKind res ∧ H pa = some (.lst (ps.map V.ref)) ∧ PairsG H ps ns ∧ H oa = some (.lst (qs.map V.ref)) ∧ PairsG H qs ms ∧
        (∀ q ∈ ns ++ ms, Nam q.1 ∧ IsKind q.2) ∧ ((ns ++ ms).map Prod.fst).Nodup ∧ ns.length ≤ 4 ∧ ms.length ≤ 8 ∧ H ra = some (.lst rs) ∧ ∀ H', Same H H' → Q (.bl (decide ((1 : Int) ≤ (rs.length : Int)) && decide ((rs.length : Int) ≤ 40))) H' := by
      rcases k with ⟨f, ⟨pa, oa, ra, ps, qs, rs, he, nf, kd, hpa, hp1, hoa, hp2, hN, hnd, l1, l2, hra, l3, l4⟩, k⟩ | ⟨⟨pa, oa, ra, nm, res, ps, qs, ns, ms, he, nf, kd, hpa, hp1, hoa, hp2, hN, hnd, l1, l2, hra⟩, k⟩
      · refine ⟨pa, oa, ra, _, _, ps, qs, _, _, rs, he, nf, kd, hpa, hp1, hoa, hp2, hN, hnd, l1, l2, hra, fun H2 s2 => ?_⟩
        rw [decide_eq_true (show (1 : Int) ≤ (rs.length : Int) by omega), decide_eq_true (show (rs.length : Int) ≤ 40 by omega)]
        exact k _ s2
      · exact ⟨pa, oa, ra, _, _, ps, qs, _, _, [], he, nf, kd, hpa, hp1, hoa, hp2, hN, hnd, l1, l2, hra, fun H2 s2 => k _ s2⟩
    clear k
    obtain ⟨pa, oa, ra, nm, res, ps, qs, ns, ms, rs, he, nf, kd, hpa, hp1, hoa, hp2, hN, hnd, l1, l2, hra, kk⟩ := both
    have hnd0 := hnd
    rw [List.map_append] at hnd0
    have hnd1 := (List.nodup_append.mp hnd0).1
    have hnd2 := (List.nodup_append.mp hnd0).2.1
    refine ⟨_, rfl, e, _, 5, rfl, he, rfl, _, rfl, iteF ?_⟩
    refine ⟨_, rfl, _, _, _, _, rfl, rfl, SqT.of he, at0, nm, rfl, nf, fun H1 s1 => ⟨_, rfl, iteF ?_⟩⟩
    refine ⟨_, rfl, _, _, _, _, rfl, rfl, SqT.of (s1 _ _ he), at3, res, rfl, kd, _, rfl, iteF ?_⟩
    refine ⟨_, rfl, _, _, _, _, rfl, rfl, SqT.of (s1 _ _ he), at1, pa, ps, ns, 4, rfl, s1 _ _ hpa, hp1.mono s1, fun x m => hN x (List.mem_append_left _ m), hnd1, by omega, by omega, fun H2 s2 => ⟨_, rfl, iteF ?_⟩⟩
    have s12 := s1.trans s2
    refine ⟨_, rfl, _, _, _, _, rfl, rfl, SqT.of (s12 _ _ he), at2, oa, qs, ms, 8, rfl, s12 _ _ hoa, hp2.mono s12, fun x m => hN x (List.mem_append_right _ m), hnd2, by omega, by omega, fun H3 s3 => ⟨_, rfl, iteF ?_⟩⟩
    have s13 := s12.trans s3
    refine ⟨_, rfl, _, _, _, _, rfl, rfl, SqT.of (s13 _ _ he), at1, _, rfl, _, _, _, _, rfl, rfl, SqT.of (s13 _ _ he), at2, ?_⟩
    have hl1 : ps.length = ns.length := hp1.len
    have hl2 : qs.length = ms.length := hp2.len
    refine ⟨pa, oa, _, _, rfl, rfl, s13 _ _ hpa, s13 _ _ hoa, sz_of (by rw [List.length_map, List.length_map]; omega), fun c hc => ?_⟩
    have s4 := Same.new (o := .lst (ps.map V.ref ++ qs.map V.ref)) hc
    refine ⟨_, _, rfl, rfl, c, ps ++ qs, ns ++ ms, 12, rfl, by rw [upd_same, List.map_append], (hp1.append hp2).mono (s13.trans s4), hN, hnd, by rw [List.length_append]; omega, by rw [List.length_append]; omega, fun H5 s5 => ⟨_, rfl, iteF ?_⟩⟩
    have s15 := (s13.trans s4).trans s5
    exact ⟨_, rfl, _, _, _, _, rfl, rfl, SqT.of (s15 _ _ he), at4, ra, rs, 1, 40, rfl, s15 _ _ hra, kk _ s15⟩

end
end W7
set_option Elab.async false
set_option linter.all false
set_option maxRecDepth 100000
set_option maxHeartbeats 4000000
namespace W7
open PySem PySem.Spec PyProof.Rows L2 RZ
section
variable {P : Program} {w : World} {K : PySem.W.Frag} {mg : Str → Option Value} {base : Heap}

def BadHead (H : Hp) (f0 : FdT) (e1 : Addr) : Prop := EntryZ H e1 ∨ ∃ f1, EntryAt H e1 f1 ∧ f1.nm = f0.nm
theorem BadHead.keep {H H' : Hp} {f0 : FdT} {e : Addr} (h : BadHead H f0 e) (k : KeepTL H H') : BadHead H' f0 e := by
  rcases h with h | ⟨f1, h, n⟩
  · exact .inl (h.keep k)
  · exact .inr ⟨f1, h.keep k, n⟩
def spHeadsE (K : PySem.W.Frag) : Sp := fun vs H _ E => ∃ (p dx df dk du fa : Addr) (fs : List (Str × V)) (cs ks : List (Key × V)), vs = [.ref p, .ref fa] ∧ SrcG K H p dx df dk du fs cs ks [] ∧
  ((H fa = some (.lst []) ∧ SrcE K H (.str "functions") (.int (-1)) E) ∨
    ∃ (e0 e1 : Addr) (f0 : FdT), H fa = some (.lst [.ref e0, .ref e1]) ∧ EntryAt H e0 f0 ∧ BadHead H f0 e1 ∧ ∀ (H' : Hp) (t : Addr), ButL [du] H H' → H' t = some (.tup [.int 1]) → SrcE K H' (.str "functions") (.ref t) E)
theorem scE_Source_take_heads : FnScope ["self", "functions", "k", "entry"] ["self", "functions"] (defScope s_Source_take_heads) := ⟨rfl, rfl, rfl, by decide +kernel, rfl, by decide +kernel, by decide +kernel⟩
theorem okE_Source_take_heads (T : Ctx w K mg) (H_errS : HasM P w K mg base 1 "InvalidSource" "__init__" ["self", "part", "at"] (spSrcErr K)) (H_is_list_of : Has P w K mg base 1 "is_list_of" ["thing", "least", "most"] spListB) (H_is_head : Has P w K mg base 3 "_is_head" ["entry"] spHeadB) (H_Function_init : HasM P w K mg base 4 "Function" "__init__" ["self", "name", "params", "others", "result"] (spFnInitG K)) : HasMX P w K mg base 6 "Source" "_take_heads" ["self", "functions"] (spHeadsE K) := by
  obtain ⟨fd, F⟩ := T.D_Source_take_heads
  obtain ⟨fd_is_list_of, G_is_list_of, b_is_list_of⟩ := H_is_list_of.ex
  obtain ⟨fd_is_head, G_is_head, b_is_head⟩ := H_is_head.ex
  obtain ⟨fd_Function_init, G_Function_init, b_Function_init⟩ := H_Function_init.ex
  refine ⟨⟨fd, F.ok scE_Source_take_heads (fun vs H Q E h => ?_) (fun cdv A outer s H vs Q E hr h => ?_), F.bindsN fun _ _ _ _ _ _ us hl => match us, hl with | [_, _], _ => rfl⟩⟩
  · obtain ⟨p, dx, df, dk, du, fa, fs, cs, ks, rfl, S, k⟩ := h; rfl
  · obtain ⟨p, dx, df, dk, du, fa, fs, cs, ks, rfl, S, k⟩ := h
    have hr_is_list_of : Room 1 _ := hr.mono (by decide)
    have hr_is_head : Room 3 _ := hr.mono (by decide)
    have hr_Function_init : Room 5 _ := hr.mono (by decide)
    have hu := hu_of hr
    obtain ⟨t_c, e_MOST_FUNCTIONS⟩ := T.i_MOST_FUNCTIONS
    obtain ⟨fd_errS, G_errS, b_errS⟩ := H_errS.ex
    have hr_errS : Room 2 _ := hr.mono (by decide)
    refine ⟨_, (pss_cons (ps_if (pt_not (pt_val (pe_call G_is_list_of hr_is_list_of (by rfl) H_is_list_of.gl H_is_list_of.kp b_is_list_of .nil pass0 (pa_cons (pv 1) (pa_cons pe_int (pa_cons (pe_glob (v := .int 6) rfl e_MOST_FUNCTIONS ⟨_, rfl⟩) pa_nil)))))) (pss_one (ps_raiseE (x := "InvalidSource") rfl (takes_of rfl rfl rfl rfl) T.errS G_errS b_errS hr_errS rfl T.g_InvalidSource (by exact (pa_cons pe_str (pa_cons (pe_un un_neg pe_int) pa_nil))))) pss_nil)
      (pss_one (ps_for (passes_of rfl) rfl (pi_enum (by rfl) T.f_enumerate (pa_cons (pv 1) pa_nil)) (pg_tup rfl (pgs_cons (pg_name (i := 2) scE_Source_take_heads.nd rfl (Or.inl rfl)) (pgs_cons (pg_name (i := 3) scE_Source_take_heads.nd rfl (Or.inl rfl)) pgs_nil)))
      (pss_cons (ps_if (PW.pt (pw_or (pt_not (pt_val (pe_call G_is_head hr_is_head (by rfl) H_is_head.gl H_is_head.kp b_is_head .nil pass0 (pa_cons (pv 3) pa_nil)))) (pw_or1 (pt_cmp (pc_din hu (pe_ix ix_tup (pv 3) pe_int (fun _ _ => rfl)) (pe_fldK (K := K) rfl (pv 0) (by rfl))))))) (pss_one (ps_raiseE (x := "InvalidSource") rfl (takes_of rfl rfl rfl rfl) T.errS G_errS b_errS hr_errS rfl T.g_InvalidSource (by exact (pa_cons pe_str (pa_cons (pe_tup (pa_cons (pv 2) pa_nil)) pa_nil))))) pss_nil)
      (pss_one (ps_dput hu (pe_fldK (K := K) rfl (pv 0) (by rfl)) (pe_ix ix_tup (pv 3) pe_int (fun _ _ => rfl)) (pe_make T.k_Function G_Function_init hr_Function_init rfl T.g_Function b_Function_init .nil pass0 (pa_cons (pe_ix ix_tup (pv 3) pe_int (fun _ _ => rfl)) (pa_cons (pe_ix ix_tup (pv 3) pe_int (fun _ _ => rfl)) (pa_cons (pe_ix ix_tup (pv 3) pe_int (fun _ _ => rfl)) (pa_cons (pe_ix ix_tup (pv 3) pe_int (fun _ _ => rfl)) pa_nil))))) rfl)))))), ?_⟩
    rcases k with ⟨hfa, kE⟩ | ⟨e0, e1, f0, hfa, E0, Bad, kE⟩
    · refine ⟨_, rfl, fa, _, 1, 6, rfl, hfa, _, rfl, ifT rfl ?_⟩
      exact ⟨_, rfl, by show 2 ≤ 1000; decide, fun a hn => src_made hn T.errS fun d n => kE d n⟩
    have nd : ∀ {b : Addr} {u : HO}, H b = some u → (∀ z, u ≠ .dK z) → b ∉ [du] := fun q n m => by
      rw [List.mem_singleton.mp m, S.d3] at q
      exact n _ (Option.some.inj q).symm
    refine ⟨_, rfl, fa, _, 1, 6, rfl, hfa, _, rfl, ifF rfl ?_⟩
    refine ⟨_, rfl, fa, _, rfl, SqL.of hfa, ?_⟩
    refine for_it (walk_enum (K := K) (a := fa) (xs := [V.ref e0, V.ref e1])) (fun i σ H1 => i ≤ 1 ∧ ∃ v1 v2 : Option V, σ = [some (.ref p), some (.ref fa), v1, v2] ∧ ButL [du] H H1 ∧ ((i = 0 ∧ H1 du = some (.dK [])) ∨ (i = 1 ∧ ∃ x : Addr, H1 du = some (.dK [(Sum.inr f0.nm, .ref x)])))) ⟨by omega, none, none, rfl, fun b u q _ => q, .inl ⟨rfl, S.d3⟩⟩ (fun i σ H1 _ ⟨_, _, _, _, b1, _⟩ => SqL.of (b1 _ _ hfa (nd hfa (by intro z w; cases w)))) ?_ ?_
    · rintro i y σ H1 H2 hi ⟨hi1, v1, v2, rfl, b1, hst⟩ ⟨u, a, b, rfl, hu0, rfl, h1, h2⟩
      have h2 : ([V.ref e0, V.ref e1] : List V)[i]? = some b := h2
      obtain rfl : V.int (i : Nat) = a := Option.some.inj h1
      have s1 : ∀ o : HO, Same H1 (upd H1 u o) := fun o => Same.new hu0
      have kb : KeepTL H H1 := .butD S.d3 b1
      have obH := b1 _ _ S.ob (nd S.ob (by intro z w; cases w))
      rcases hst with ⟨rfl, hdu⟩ | ⟨rfl, x0, hdu⟩
      · obtain rfl : V.ref e0 = b := Option.some.inj h2
        have s1 := s1 (.tup [.int ((0 : Nat) : Int), .ref e0])
        have E1 := (E0.keep kb).keep (.of s1)
        refine ⟨u, _, rfl, SqT.of upd_same, rfl, _, _, rfl, _, _, rfl, rfl, ?_⟩
        refine ⟨_, rfl, e0, rfl, .inl ⟨f0, E1, fun H3 s3 => ⟨_, rfl, ifF rfl ?_⟩⟩⟩
        have s13 := s1.trans s3
        obtain ⟨pa, oa, ra, ps, qs, rs, A3⟩ := E1.keep (.of s3)
        have ob3 := s13 _ _ obH
        have d3 := s13 _ _ hdu
        refine ⟨_, rfl, _, _, _, _, rfl, rfl, SqT.of A3.he, at0, _, rfl, p, _, dx, fs, _, rfl, ob3, T.c_Source, T.n_Source_functions, S.f3, du, none, rfl, DGet.k (k := Sum.inr f0.nm) d3, _, rfl, iteF ?_⟩
        refine ⟨_, rfl, _, _, _, _, rfl, rfl, SqT.of A3.he, at0, _, rfl, _, _, _, _, rfl, rfl, SqT.of A3.he, at1, _, rfl, _, _, _, _, rfl, rfl, SqT.of A3.he, at2, _, rfl, _, _, _, _, rfl, rfl, SqT.of A3.he, at3, fun x dy nx ny nxy => ?_⟩
        have s4 : Same H3 (upd (upd H3 dy (.own x)) x (.ins (He.ga K "Function") dy [])) := (Same.new ny).trans (Same.new (by rw [upd_ne nxy.symm]; exact nx))
        have A4 := A3.keep (.of s4)
        refine ⟨x, dy, pa, oa, f0.nm, f0.res, ps, qs, f0.ns, f0.ms, rfl, upd_same, A4.hpa, A4.p1, A4.hoa, A4.p2, A4.nd, A4.l1, A4.l2, fun H5 ta va gs ps' b5 F5 hva => ⟨rfl, ?_⟩⟩
        have s15 : Same H1 H5 := fun b o q => b5 b o (s4 _ _ (s13 _ _ q)) (ne_of_none (s13 _ _ q) nx)
        have A5 := (((E0.keep kb).keep (.of s15)))
        obtain ⟨pa2, oa2, ra2, ps2, qs2, rs2, A5⟩ := A5
        have d5 := s15 _ _ hdu
        refine ⟨_, rfl, p, _, dx, fs, _, rfl, s15 _ _ obH, T.c_Source, T.n_Source_functions, S.f3, _, rfl, _, _, _, _, rfl, rfl, SqT.of A5.he, at0, du, _, rfl, DPut.k (k := Sum.inr f0.nm) d5 (sz_lt (by show 0 < 100000; decide)), ?_⟩
        refine ⟨by omega, _, _, rfl, fun b u q n => ?_, .inr ⟨rfl, x, ?_⟩⟩
        · rw [upd_ne (fun z => n (by rw [z]; exact List.mem_singleton_self _))]
          exact s15 _ _ (b1 _ _ q n)
        · rw [upd_same]
          rfl
      · obtain rfl : V.ref e1 = b := Option.some.inj h2
        have s1 := s1 (.tup [.int ((1 : Nat) : Int), .ref e1])
        have Bd := (Bad.keep kb).keep (.of s1)
        refine ⟨u, _, rfl, SqT.of upd_same, rfl, _, _, rfl, _, _, rfl, rfl, ?_⟩
        have fin : ∀ (H3 : Hp), H3 = H3 → True := fun _ _ => trivial
        rcases Bd with Z | ⟨f1, E1, en⟩
        · refine ⟨_, rfl, e1, rfl, .inr ⟨Z, fun H3 s3 => ⟨_, rfl, ifT rfl ?_⟩⟩⟩
          have s13 := s1.trans s3
          exact ⟨_, rfl, sz_of (by show 1 ≤ 100000; decide), fun t ht => ⟨by show 2 ≤ 1000; decide, fun a hn => src_made hn T.errS fun d n => kE _ t (fun b o q m => Same.new ht _ _ (s13 _ _ (b1 _ _ q m))) upd_same d n⟩⟩
        · refine ⟨_, rfl, e1, rfl, .inl ⟨f1, E1, fun H3 s3 => ⟨_, rfl, ifF rfl ?_⟩⟩⟩
          have s13 := s1.trans s3
          obtain ⟨pa, oa, ra, ps, qs, rs, A3⟩ := E1.keep (.of s3)
          have ob3 := s13 _ _ obH
          have d3 := s13 _ _ hdu
          have g3 := DGet.k (k := Sum.inr f1.nm) d3
          have ev : valV [((Sum.inr f0.nm : Key), V.ref x0)] (Sum.inr f1.nm : Key) = some (.ref x0) := by
            rw [en]
            unfold valV
            rw [List.find?_cons_of_pos (by simp)]
            rfl
          rw [ev] at g3
          refine ⟨_, rfl, _, _, _, _, rfl, rfl, SqT.of A3.he, at0, _, rfl, p, _, dx, fs, _, rfl, ob3, T.c_Source, T.n_Source_functions, S.f3, du, some (.ref x0), rfl, g3, _, rfl, iteT ?_⟩
          exact ⟨_, rfl, sz_of (by show 1 ≤ 100000; decide), fun t ht => ⟨by show 2 ≤ 1000; decide, fun a hn => src_made hn T.errS fun d n => kE _ t (fun b o q m => Same.new ht _ _ (s13 _ _ (b1 _ _ q m))) upd_same d n⟩⟩
    · rintro σ H1 ⟨h, _⟩
      exact absurd h (by simp)

end
end W7
set_option Elab.async false
set_option linter.all false
set_option maxRecDepth 100000
set_option maxHeartbeats 4000000
namespace W7
open PySem PySem.Spec PyProof.Rows L2 RZ
section
variable {P : Program} {w : World} {K : PySem.W.Frag} {mg : Str → Option Value} {base : Heap}

def spSrcInitE (K : PySem.W.Frag) : Sp := fun vs H _ E => ∃ (p dx ca fa : Addr) (cl : ClsT), vs = [.ref p, .ref ca, .ref fa] ∧ H p = some (.ins (He.ga K "Source") dx []) ∧ (∃ es : List Addr, H ca = some (.lst (es.map V.ref)) ∧ es.length = cl.length ∧ ∀ (i : Nat) e c, es[i]? = some e → cl[i]? = some c → ClsG H e c) ∧ ClsOk cl ∧
  ((H fa = some (.lst []) ∧ ∀ H', But p H H' → SrcE K H' (.str "functions") (.int (-1)) E) ∨
    ∃ (e0 e1 : Addr) (f0 : FdT), H fa = some (.lst [.ref e0, .ref e1]) ∧ EntryAt H e0 f0 ∧ BadHead H f0 e1 ∧ ∀ (H' : Hp) (t : Addr), But p H H' → H' t = some (.tup [.int 1]) → SrcE K H' (.str "functions") (.ref t) E)
theorem okS_Source_init {fd : FuncData} (T : Ctx w K mg) (F : FunD K "__init__" "Source.__init__" (defArgs s_Source_init) (defBody s_Source_init) (defScope s_Source_init) [] [] (He.ma K (He.ga K "Source") "__init__") fd) (H_Source_take_classes : HasM P w K mg base 4 "Source" "_take_classes" ["self", "classes"] (spTakeCM K)) (H_Source_take_heads : HasM P w K mg base 6 "Source" "_take_heads" ["self", "functions"] (spTakeHG K)) (H_Source_take_rows : HasM P w K mg base 7 "Source" "_take_rows" ["self", "k", "function", "rows"] (spTakeRG K)) : FnOk P w K mg base CX0 8 (He.ma K (He.ga K "Source") "__init__") fd ["self", "classes", "functions"] (spSrcInitG K) := by
  obtain ⟨fd_Source_take_classes, G_Source_take_classes, b_Source_take_classes⟩ := H_Source_take_classes.ex
  obtain ⟨fd_Source_take_heads, G_Source_take_heads, b_Source_take_heads⟩ := H_Source_take_heads.ex
  obtain ⟨fd_Source_take_rows, G_Source_take_rows, b_Source_take_rows⟩ := H_Source_take_rows.ex
  refine F.ok sc_Source_init (fun vs H Q E h => ?_) (fun cdv A outer s H vs Q E hr h => ?_)
  · obtain ⟨p, dx, ca, fa, cl, fds, rfl, hp, HR, k⟩ := h; rfl
  · obtain ⟨p, dx, ca, fa, cl, fds, rfl, hp, HR, k⟩ := h
    have hr_Source_take_classes : Room 4 _ := hr.mono (by decide)
    have hr_Source_take_heads : Room 6 _ := hr.mono (by decide)
    have hr_Source_take_rows : Room 7 _ := hr.mono (by decide)
    have hu := hu_of hr
    refine ⟨_, PSs.nox (pss_cons (ps_fld (pv 0) pe_dnewK rfl)
      (pss_cons (ps_fld (pv 0) pe_dnewK rfl)
      (pss_cons (ps_fld (pv 0) pe_dnewK rfl)
      (pss_cons (ps_expr (pe_meth (pv 0) T.c_Source T.m_Source_take_classes G_Source_take_classes hr_Source_take_classes b_Source_take_classes .nil pass0 (pa_cons (pv 1) pa_nil)))
      (pss_cons (ps_expr (pe_meth (pv 0) T.c_Source T.m_Source_take_heads G_Source_take_heads hr_Source_take_heads b_Source_take_heads .nil pass0 (pa_cons (pv 2) pa_nil)))
      (pss_one (ps_for PassesOwn.never rfl (pi_enum (by rfl) T.f_enumerate (pa_cons (pv 2) pa_nil)) (pg_tup rfl (pgs_cons (pg_name (i := 3) sc_Source_init.nd rfl (Or.inl rfl)) (pgs_cons (pg_name (i := 4) sc_Source_init.nd rfl (Or.inl rfl)) pgs_nil)))
      (pss_one (ps_expr (pe_meth (pv 0) T.c_Source T.m_Source_take_rows G_Source_take_rows hr_Source_take_rows b_Source_take_rows .nil pass0 (pa_cons (pv 3) (pa_cons (pe_dget hu (pe_fldK (K := K) rfl (pv 0) (by rfl)) (pe_ix ix_tup (pv 4) pe_int (fun _ _ => rfl)) (fun _ _ => rfl)) (pa_cons (pe_ix ix_tup (pv 4) pe_int (fun _ _ => rfl)) pa_nil))))))))))))), ?_⟩
    intro d1 hd1
    have nd1 : d1 ≠ p := (ne_of_none hp hd1).symm
    refine ⟨_, rfl, p, _, dx, _, rfl, Same.new hd1 _ _ hp, T.c_Source, T.n_Source_field_kinds, few pf0, ?_⟩
    have b1 : But p H (upd (upd H d1 (.dK [])) p (.ins (He.ga K "Source") dx (putF "_field_kinds" (.ref d1) []))) := (But.of (Same.new hd1)).trans But.upd
    intro d2 hd2
    have nd2 : d2 ≠ p := fun z => by rw [z, upd_same] at hd2; cases hd2
    have n21 : d2 ≠ d1 := fun z => by rw [z, upd_ne nd1, upd_same] at hd2; cases hd2
    refine ⟨_, rfl, p, _, dx, _, rfl, Same.new hd2 _ _ upd_same, T.c_Source, T.n_Source_fields, few (pl1 pf0), ?_⟩
    have b2 := b1.trans ((But.of (Same.new (o := .dK []) hd2)).trans (But.upd (o := .ins (He.ga K "Source") dx (putF "_fields" (.ref d2) (putF "_field_kinds" (.ref d1) [])))))
    intro d3 hd3
    have nd3 : d3 ≠ p := fun z => by rw [z, upd_same] at hd3; cases hd3
    have n32 : d3 ≠ d2 := fun z => by rw [z, upd_ne nd2, upd_same] at hd3; cases hd3
    have n31 : d3 ≠ d1 := fun z => by rw [z, upd_ne nd1, upd_ne n21.symm, upd_ne nd1, upd_same] at hd3; cases hd3
    refine ⟨_, rfl, p, _, dx, _, rfl, Same.new hd3 _ _ upd_same, T.c_Source, T.n_Source_functions, few (pl1 (pl1 pf0)), ?_⟩
    have b3 := b2.trans ((But.of (Same.new (o := .dK []) hd3)).trans (But.upd (o := .ins (He.ga K "Source") dx (putF "_functions" (.ref d3) (putF "_fields" (.ref d2) (putF "_field_kinds" (.ref d1) []))))))
    generalize hH3 : upd (upd (upd (upd (upd (upd H d1 (.dK [])) p (.ins (He.ga K "Source") dx (putF "_field_kinds" (.ref d1) []))) d2 (.dK [])) p (.ins (He.ga K "Source") dx (putF "_fields" (.ref d2) (putF "_field_kinds" (.ref d1) [])))) d3 (.dK [])) p (.ins (He.ga K "Source") dx (putF "_functions" (.ref d3) (putF "_fields" (.ref d2) (putF "_field_kinds" (.ref d1) [])))) = H3 at b3 ⊢
    have S3 : SrcG K H3 p dx d2 d1 d3 (putF "_functions" (.ref d3) (putF "_fields" (.ref d2) (putF "_field_kinds" (.ref d1) []))) [] [] [] := by
      subst hH3
      refine ⟨upd_same, rfl, rfl, rfl, fun m hm => ?_, ?_, ?_, ?_⟩
      · simp only [List.mem_cons, List.not_mem_nil, or_false] at hm
        rcases hm with rfl | rfl | rfl | rfl | rfl | rfl | rfl | rfl | rfl | rfl <;> rfl
      · rw [upd_ne nd2, upd_ne n32.symm, upd_ne nd2, upd_same]
      · rw [upd_ne nd1, upd_ne n31.symm, upd_ne nd1, upd_ne n21.symm, upd_ne nd1, upd_same]
      · rw [upd_ne nd3, upd_same]
    generalize putF "_functions" (V.ref d3) (putF "_fields" (.ref d2) (putF "_field_kinds" (.ref d1) [])) = fs at S3
    have k3 : KeepTL H H3 := .butF hp b3
    have R3 := HR.keep k3
    clear hH3 b1 b2
    obtain ⟨ces, c1, c2, c3⟩ := R3.cs
    obtain ⟨es, f1, f2, f3⟩ := R3.fn
    refine ⟨_, rfl, p, dx, _, rfl, S3.ob, S3.nm _ (by decide +kernel), _, rfl, ?_⟩
    refine ⟨p, ca, dx, d2, d1, d3, fs, [], cl, ces, rfl, S3, n21, n32, n31, c1, c2, c3, HR.oc, fun H4 qs b4 hqs df4 dk4 => ?_⟩
    have k4 : KeepTL H3 H4 := .butL (fun d m xs => by
      rcases List.mem_cons.mp m with m | m
      · rw [m, S3.d1]
        exact ⟨(by intro z; cases z), (by intro z; cases z)⟩
      · rw [List.mem_singleton.mp m, S3.d2]
        exact ⟨(by intro z; cases z), (by intro z; cases z)⟩) b4
    have nin : ∀ {b : Addr}, b ≠ d2 → b ≠ d1 → b ∉ [d2, d1] := fun h1 h2 m => by
      rcases List.mem_cons.mp m with m | m
      · exact h1 m
      · exact h2 (List.mem_singleton.mp m)
    have S4 : SrcG K H4 p dx d2 d1 d3 fs (csM cl qs) (ksM cl) [] := ⟨b4 _ _ S3.ob (nin nd2.symm nd1.symm), S3.f1, S3.f2, S3.f3, S3.nm, df4, dk4, b4 _ _ S3.d3 (nin n32 n31)⟩
    refine ⟨_, rfl, p, dx, _, rfl, S4.ob, S4.nm _ (by decide +kernel), _, rfl, ?_⟩
    refine ⟨p, dx, d2, d1, d3, fa, fs, _, _, es, fds, rfl, S4, k4.2 _ _ f1, f2, fun i e f a b => ((f3 i e f a b).keep k4).entry, HR.nn, HR.l1, HR.l6, fun H5 fps b5 fl hH hfr hnd d5 => ?_⟩
    have k5 : KeepTL H4 H5 := .butD S4.d3 b5
    have n45 : KeepN H4 H5 := .butL (fun d m u e => by
      rw [List.mem_singleton.mp m, S4.d3] at e
      exact .inl ⟨_, (Option.some.inj e).symm⟩) b5
    have n5 : ∀ {b : Addr}, b ≠ d3 → b ∉ [d3] := fun h m => h (List.mem_singleton.mp m)
    have fin : ∀ a ∈ fps, ∃ (dy pa va : Addr) (gs : List (Str × V)) (ps' : List Addr) (f : FdT), FunG K H5 a dy pa va gs ps' f.ns f.ms f.res f.nm := fun a m => by
      obtain ⟨j, hj, e⟩ := List.getElem_of_mem m
      have e1 : fps[j]? = some a := by rw [List.getElem?_eq_getElem hj, e]
      have hj2 : j < fds.length := by omega
      obtain ⟨dy, pa, va, gs, ps', _, F⟩ := hH j _ a (List.getElem?_eq_getElem hj2) e1
      exact ⟨dy, pa, va, gs, ps', _, F⟩
    have nfp : ∀ {b : Addr} {u : HO}, H5 b = some u → (∀ dz gz, u ≠ .ins (He.ga K "Function") dz gz) → b ∉ fps := fun q n m => by
      obtain ⟨dy, pa, va, gs, ps', f, F⟩ := fin _ m
      rw [F.ob] at q
      exact n _ _ (Option.some.inj q).symm
    have p4 : H4 p = some (.ins (He.ga K "Source") dx fs) := S4.ob
    have npf : p ∉ fps := fun m => by
      have q := hfr p m
      rw [p4] at q
      cases q
    have S5 : SrcG K H5 p dx d2 d1 d3 fs (csM cl qs) (ksM cl) (usOf fds fps) := ⟨b5 _ _ S4.ob (n5 nd3.symm), S4.f1, S4.f2, S4.f3, S4.nm, b5 _ _ S4.d1 (n5 n32.symm), b5 _ _ S4.d2 (n5 n31.symm), d5⟩
    have k35 := k4.trans k5
    have fa5 := k35.2 _ _ f1
    have hlr : (es.map V.ref).length = fds.length := by rw [List.length_map, f2]
    refine ⟨_, rfl, fa, _, rfl, SqL.of fa5, ?_⟩
    refine for_it (walk_enum (K := K) (a := fa) (xs := es.map V.ref)) (fun i σ H1 => ∃ v1 v2 : Option V, σ = [some (.ref p), some (.ref ca), some (.ref fa), v1, v2] ∧ ButL fps H5 H1 ∧ (∀ (j : Nat) f a, fds[j]? = some f → fps[j]? = some a → j < i → ∃ (dy pa va ba : Addr) (gs : List (Str × V)) (ps' rs' : List Addr), FunB K H1 a dy pa va ba gs ps' rs' f) ∧
      (∀ (j : Nat) f a, fds[j]? = some f → fps[j]? = some a → i ≤ j → ∃ (dy pa va : Addr) (gs : List (Str × V)) (ps' : List Addr), FunG K H1 a dy pa va gs ps' f.ns f.ms f.res f.nm)) ⟨none, none, rfl, fun b u q _ => q, fun j f a _ _ h => absurd h (Nat.not_lt_zero j), fun j f a e1 e2 _ => by
        obtain ⟨dy, pa, va, gs, ps', _, F⟩ := hH j f a e1 e2
        exact ⟨dy, pa, va, gs, ps', F⟩⟩ (fun i σ H1 _ ⟨_, _, _, b6, _⟩ => SqL.of (b6 _ _ fa5 (nfp fa5 (by intro _ _ z; cases z)))) ?_ ?_
    · rintro i y σ H1 H2 hi ⟨v1, v2, rfl, b6, hB, hG⟩ ⟨u, a, b, rfl, hu0, rfl, h1, h2⟩
      have h2 : (es.map V.ref)[i]? = some b := h2
      obtain rfl : V.int (i : Nat) = a := Option.some.inj h1
      obtain ⟨e, hc, rfl⟩ := map_get h2
      have hif : i < fds.length := by rw [hlr] at hi; exact hi
      have hf : fds[i]? = some fds[i] := List.getElem?_eq_getElem hif
      have hip : i < fps.length := by omega
      have ha : fps[i]? = some fps[i] := List.getElem?_eq_getElem hip
      have hfm : fds[i] ∈ fds := List.getElem_mem hif
      have k6 : KeepTL H5 H1 := .butL (fun d m xs => by
        obtain ⟨dy, pa, va, gs, ps', f, F⟩ := fin _ m
        rw [F.ob]
        exact ⟨(by intro z; cases z), (by intro z; cases z)⟩) b6
      obtain ⟨pa, oa, ra, pp, qq, rs, E3, RR3⟩ := f3 i e _ hc hf
      have k36 := k35.trans k6
      have E1 := E3.keep k36
      have RR1 := RR3.keep k36
      have s1 : Same H1 (upd H1 u (.tup [.int (i : Nat), .ref e])) := Same.new hu0
      have S1 : SrcG K H1 p dx d2 d1 d3 fs (csM cl qs) (ksM cl) (usOf fds fps) := ⟨b6 _ _ S5.ob npf, S5.f1, S5.f2, S5.f3, S5.nm, b6 _ _ S5.d1 (nfp S5.d1 (by intro _ _ z; cases z)), b6 _ _ S5.d2 (nfp S5.d2 (by intro _ _ z; cases z)), b6 _ _ S5.d3 (nfp S5.d3 (by intro _ _ z; cases z))⟩
      have S2 := S1.mono s1
      have E2 := E1.keep (.of s1)
      have RR2 := RR1.mono s1
      obtain ⟨dy, ta, va, gs, ps', F0⟩ := hG i _ _ hf ha (Nat.le_refl _)
      have F2 := F0.mono s1
      have O := HR.ok _ hfm
      have hLen : rs.length = fds[i].rws.length := RR1.len
      refine ⟨u, _, rfl, SqT.of upd_same, rfl, _, _, rfl, _, _, rfl, rfl, ?_⟩
      refine ⟨_, rfl, p, dx, _, rfl, S2.ob, S2.nm _ (by decide +kernel), _, rfl, _, rfl, p, _, dx, _, _, rfl, S2.ob, T.c_Source, T.n_Source_functions, S2.f3, _, rfl, _, _, _, _, rfl, rfl, SqT.of E2.he, at0, d3, .ref fps[i], rfl, ?_, ?_⟩
      · have q := DGet.k (k := Sum.inr fds[i].nm) S2.d3
        rw [us_at HR.nn hf ha] at q
        exact q
      refine ⟨_, rfl, _, _, _, _, rfl, rfl, SqT.of E2.he, at4, ?_⟩
      have hHead : ∀ (j : Nat) (g : FdT), fds[j]? = some g → ∃ a dx pa fs ps, fps[j]? = some a ∧ HeadG K (upd H1 u (.tup [.int (i : Nat), .ref e])) a dx pa fs ps g.ns g.res := fun j g ej => by
        have hj : j < fps.length := by
          have := (List.getElem?_eq_some_iff.mp ej).1
          omega
        have aj : fps[j]? = some fps[j] := List.getElem?_eq_getElem hj
        have lj := (HR.ok g (List.mem_of_getElem? ej)).l1
        by_cases c : j < i
        · obtain ⟨dz, pz, vz, bz, gz, psz, rsz, Fz⟩ := hB j g _ ej aj c
          exact ⟨_, _, _, _, _, aj, (Fz.mono s1).head lj⟩
        · obtain ⟨dz, pz, vz, gz, psz, Fz⟩ := hG j g _ ej aj (by omega)
          exact ⟨_, _, _, _, _, aj, (Fz.mono s1).head lj⟩
      refine ⟨p, fps[i], dy, va, ra, (i : Nat), gs, _, _, _, _, _, rs, fds[i].rws, rfl, ⟨dx, d2, d1, d3, fs, S2⟩, F2.few, ⟨F2.ob, F2.f3, F2.f2, F2.vd⟩, E2.hra, RR2, fun j c r l e1 e2 e3 => ?_, fun r m => ⟨O.kinds HR.nn HR.ok hHead (O.rows r m), O.names (O.rows r m), O.ok.ok r m⟩, O.ok.last, O.ok.le, fun H7 q qs b7 F7 t7 q7 => ?_⟩
      · obtain ⟨l2, q1, q2⟩ := RR2.at_ j c r e1 e2
        refine O.form HR.nn fl HR.oc.nd hqs.len (O.rows r (List.mem_of_getElem? e2)) fun bs hb => ?_
        have el : l2 = l ∨ r.args = none := by
          cases r with
          | call x F as =>
            left
            rw [q1] at e3
            have := (HO.tup.inj (Option.some.inj e3))
            simp [Rx.parts] at this
            exact this
          | _ => exact .inr rfl
        rcases el with rfl | el
        · exact q2 bs hb
        · rw [el] at hb
          cases hb
      · have ob2 := F2.ob
        refine ⟨_, _, rfl, fun b u q n => ?_, fun j f a e1 e2 hj => ?_, fun j f a e1 e2 hj => ?_⟩
        · exact b7 _ _ (s1 _ _ (b6 _ _ q n)) fun z => n (by rw [z]; exact List.getElem_mem hip)
        · by_cases c : j = i
          · subst c
            rw [hf] at e1
            rw [ha] at e2
            have ef := Option.some.inj e1
            have ea := Option.some.inj e2
            subst ef
            subst ea
            refine ⟨dy, ta, va, q, _, ps', qs, F7.ob, ?_, F7.res, F7.vars, ?_, ?_, b7.tupP ob2 F2.d1, b7.pairsG ob2 F2.pr, F7.vd, t7, q7, ?_⟩
            · rw [lookup_putF, if_neg (by decide +kernel)]
              exact F2.f1
            · rw [lookup_putF, if_pos rfl]
            · rw [lookup_putF, lookup_putF, if_neg (by decide +kernel), if_neg (by decide +kernel)]
              exact F2.nohas
            · obtain ⟨o1, oa', qs', o2, o3⟩ := (F2.ot.keepN (.but ob2 b7))
              exact ⟨by rw [lookup_putF, if_neg (by decide +kernel)]; exact o1, oa', qs', by rw [lookup_putF, if_neg (by decide +kernel)]; exact o2, o3⟩
          · obtain ⟨dz, pz, vz, bz, gz, psz, rsz, Fz⟩ := hB j f a e1 e2 (by omega)
            refine ⟨dz, pz, vz, bz, gz, psz, rsz, (Fz.mono s1).but ob2 (fun z => c ?_) b7⟩
            exact (List.getElem?_inj (List.getElem?_eq_some_iff.mp e2).1 hnd).mp (by rw [e2, z, ha])
        · obtain ⟨dz, pz, vz, gz, psz, Fz⟩ := hG j f a e1 e2 (by omega)
          refine ⟨dz, pz, vz, gz, psz, (Fz.mono s1).but ob2 (fun z => ?_) b7⟩
          have := (List.getElem?_inj (List.getElem?_eq_some_iff.mp e2).1 hnd).mp (show fps[j]? = fps[i]? by rw [e2, z, ha])
          omega
    · rintro σ H1 ⟨v1, v2, rfl, b6, hB, hG⟩
      rw [hlr] at hB
      have S1 : SrcG K H1 p dx d2 d1 d3 fs (csM cl qs) (ksM cl) (usOf fds fps) := ⟨b6 _ _ S5.ob npf, S5.f1, S5.f2, S5.f3, S5.nm, b6 _ _ S5.d1 (nfp S5.d1 (by intro _ _ z; cases z)), b6 _ _ S5.d2 (nfp S5.d2 (by intro _ _ z; cases z)), b6 _ _ S5.d3 (nfp S5.d3 (by intro _ _ z; cases z))⟩
      have n56 : KeepN H5 H1 := .butL (fun d m u e => by
        obtain ⟨dy, pa, va, gs, ps', f, F⟩ := fin _ m
        rw [F.ob] at e
        exact .inr ⟨_, _, _, (Option.some.inj e).symm⟩) b6
      refine k H1 (fun b o q n => ?_) ⟨fps, qs, (hqs.keepN n45).keepN n56, ⟨dx, d2, d1, d3, fs, S1⟩, fl, fun j f a e1 e2 => hB j f a e1 e2 (List.getElem?_eq_some_iff.mp e1).1⟩
      have old : ∀ {d : Addr}, H d = none → b ≠ d := fun hd z => by
        rw [z, hd] at q
        cases q
      have q3 := b3 _ _ q n
      have m1 : b ≠ d1 := old hd1
      have m2 : b ≠ d2 := fun z => by
        rw [upd_ne nd2] at hd2
        by_cases w : d2 = d1
        · exact n21 w
        · rw [upd_ne w] at hd2
          exact old hd2 z
      have m3 : b ≠ d3 := fun z => by
        rw [upd_ne nd3, upd_ne n32, upd_ne nd3, upd_ne n31] at hd3
        exact old hd3 z
      have q4 := b4 _ _ q3 (nin m2 m1)
      have q5 := b5 _ _ q4 (n5 m3)
      exact b6 _ _ q5 fun m => by
        have := hfr b m
        rw [q4] at this
        cases this
theorem okE_Source_init {fd : FuncData} (T : Ctx w K mg) (F : FunD K "__init__" "Source.__init__" (defArgs s_Source_init) (defBody s_Source_init) (defScope s_Source_init) [] [] (He.ma K (He.ga K "Source") "__init__") fd) (H_Source_take_classes : HasM P w K mg base 4 "Source" "_take_classes" ["self", "classes"] (spTakeCM K)) (H_Source_take_heads : HasMX P w K mg base 6 "Source" "_take_heads" ["self", "functions"] (spHeadsE K)) (H_Source_take_rows : HasM P w K mg base 7 "Source" "_take_rows" ["self", "k", "function", "rows"] (spTakeRG K)) : FnOk P w K mg base (L2.CX P w) 8 (He.ma K (He.ga K "Source") "__init__") fd ["self", "classes", "functions"] (spSrcInitE K) := by
  obtain ⟨fd_Source_take_classes, G_Source_take_classes, b_Source_take_classes⟩ := H_Source_take_classes.ex
  obtain ⟨fd_Source_take_heads, G_Source_take_heads, b_Source_take_heads⟩ := H_Source_take_heads.ex
  obtain ⟨fd_Source_take_rows, G_Source_take_rows, b_Source_take_rows⟩ := H_Source_take_rows.ex
  refine F.ok sc_Source_init (fun vs H Q E h => ?_) (fun cdv A outer s H vs Q E hr h => ?_)
  · obtain ⟨p, dx, ca, fa, cl, rfl, hp, HC, OC, k⟩ := h; rfl
  · obtain ⟨p, dx, ca, fa, cl, rfl, hp, HC, OC, k⟩ := h
    have hr_Source_take_classes : Room 4 _ := hr.mono (by decide)
    have hr_Source_take_heads : Room 6 _ := hr.mono (by decide)
    have hr_Source_take_rows : Room 7 _ := hr.mono (by decide)
    have hu := hu_of hr
    refine ⟨_, (pss_cons (ps_fld (pv 0) pe_dnewK rfl)
      (pss_cons (ps_fld (pv 0) pe_dnewK rfl)
      (pss_cons (ps_fld (pv 0) pe_dnewK rfl)
      (pss_cons (ps_expr (pe_meth (pv 0) T.c_Source T.m_Source_take_classes G_Source_take_classes hr_Source_take_classes b_Source_take_classes .nil pass0 (pa_cons (pv 1) pa_nil)))
      (pss_cons (ps_expr (pe_meth (pv 0) T.c_Source T.m_Source_take_heads G_Source_take_heads hr_Source_take_heads b_Source_take_heads .nil (passes_call (takes_of rfl rfl rfl rfl) (fun _ _ _ _ h => h)) (pa_cons (pv 2) pa_nil)))
      (pss_one (ps_for (passes_of rfl) rfl (pi_enum (by rfl) T.f_enumerate (pa_cons (pv 2) pa_nil)) (pg_tup rfl (pgs_cons (pg_name (i := 3) sc_Source_init.nd rfl (Or.inl rfl)) (pgs_cons (pg_name (i := 4) sc_Source_init.nd rfl (Or.inl rfl)) pgs_nil)))
      (pss_one (ps_expr (pe_meth (pv 0) T.c_Source T.m_Source_take_rows G_Source_take_rows hr_Source_take_rows b_Source_take_rows .nil pass0 (pa_cons (pv 3) (pa_cons (pe_dget hu (pe_fldK (K := K) rfl (pv 0) (by rfl)) (pe_ix ix_tup (pv 4) pe_int (fun _ _ => rfl)) (fun _ _ => rfl)) (pa_cons (pe_ix ix_tup (pv 4) pe_int (fun _ _ => rfl)) pa_nil))))))))))))), ?_⟩
    intro d1 hd1
    have nd1 : d1 ≠ p := (ne_of_none hp hd1).symm
    refine ⟨_, rfl, p, _, dx, _, rfl, Same.new hd1 _ _ hp, T.c_Source, T.n_Source_field_kinds, few pf0, ?_⟩
    have b1 : But p H (upd (upd H d1 (.dK [])) p (.ins (He.ga K "Source") dx (putF "_field_kinds" (.ref d1) []))) := (But.of (Same.new hd1)).trans But.upd
    intro d2 hd2
    have nd2 : d2 ≠ p := fun z => by rw [z, upd_same] at hd2; cases hd2
    have n21 : d2 ≠ d1 := fun z => by rw [z, upd_ne nd1, upd_same] at hd2; cases hd2
    refine ⟨_, rfl, p, _, dx, _, rfl, Same.new hd2 _ _ upd_same, T.c_Source, T.n_Source_fields, few (pl1 pf0), ?_⟩
    have b2 := b1.trans ((But.of (Same.new (o := .dK []) hd2)).trans (But.upd (o := .ins (He.ga K "Source") dx (putF "_fields" (.ref d2) (putF "_field_kinds" (.ref d1) [])))))
    intro d3 hd3
    have nd3 : d3 ≠ p := fun z => by rw [z, upd_same] at hd3; cases hd3
    have n32 : d3 ≠ d2 := fun z => by rw [z, upd_ne nd2, upd_same] at hd3; cases hd3
    have n31 : d3 ≠ d1 := fun z => by rw [z, upd_ne nd1, upd_ne n21.symm, upd_ne nd1, upd_same] at hd3; cases hd3
    refine ⟨_, rfl, p, _, dx, _, rfl, Same.new hd3 _ _ upd_same, T.c_Source, T.n_Source_functions, few (pl1 (pl1 pf0)), ?_⟩
    have b3 := b2.trans ((But.of (Same.new (o := .dK []) hd3)).trans (But.upd (o := .ins (He.ga K "Source") dx (putF "_functions" (.ref d3) (putF "_fields" (.ref d2) (putF "_field_kinds" (.ref d1) []))))))
    generalize hH3 : upd (upd (upd (upd (upd (upd H d1 (.dK [])) p (.ins (He.ga K "Source") dx (putF "_field_kinds" (.ref d1) []))) d2 (.dK [])) p (.ins (He.ga K "Source") dx (putF "_fields" (.ref d2) (putF "_field_kinds" (.ref d1) [])))) d3 (.dK [])) p (.ins (He.ga K "Source") dx (putF "_functions" (.ref d3) (putF "_fields" (.ref d2) (putF "_field_kinds" (.ref d1) [])))) = H3 at b3 ⊢
    have S3 : SrcG K H3 p dx d2 d1 d3 (putF "_functions" (.ref d3) (putF "_fields" (.ref d2) (putF "_field_kinds" (.ref d1) []))) [] [] [] := by
      subst hH3
      refine ⟨upd_same, rfl, rfl, rfl, fun m hm => ?_, ?_, ?_, ?_⟩
      · simp only [List.mem_cons, List.not_mem_nil, or_false] at hm
        rcases hm with rfl | rfl | rfl | rfl | rfl | rfl | rfl | rfl | rfl | rfl <;> rfl
      · rw [upd_ne nd2, upd_ne n32.symm, upd_ne nd2, upd_same]
      · rw [upd_ne nd1, upd_ne n31.symm, upd_ne nd1, upd_ne n21.symm, upd_ne nd1, upd_same]
      · rw [upd_ne nd3, upd_same]
    generalize putF "_functions" (V.ref d3) (putF "_fields" (.ref d2) (putF "_field_kinds" (.ref d1) [])) = fs at S3
    have k3 : KeepTL H H3 := .butF hp b3
    clear hH3 b1 b2
    obtain ⟨ces, c1, c2, c3⟩ := HC
    have c1 := k3.2 _ _ c1
    have c3 : ∀ (i : Nat) e c, ces[i]? = some e → cl[i]? = some c → ClsG H3 e c := fun i e c a b => (c3 i e c a b).keep k3
    refine ⟨_, rfl, p, dx, _, rfl, S3.ob, S3.nm _ (by decide +kernel), _, rfl, ?_⟩
    refine ⟨p, ca, dx, d2, d1, d3, fs, [], cl, ces, rfl, S3, n21, n32, n31, c1, c2, c3, OC, fun H4 qs b4 hqs df4 dk4 => ?_⟩
    have k4 : KeepTL H3 H4 := .butL (fun d m xs => by
      rcases List.mem_cons.mp m with m | m
      · rw [m, S3.d1]
        exact ⟨(by intro z; cases z), (by intro z; cases z)⟩
      · rw [List.mem_singleton.mp m, S3.d2]
        exact ⟨(by intro z; cases z), (by intro z; cases z)⟩) b4
    have nin : ∀ {b : Addr}, b ≠ d2 → b ≠ d1 → b ∉ [d2, d1] := fun h1 h2 m => by
      rcases List.mem_cons.mp m with m | m
      · exact h1 m
      · exact h2 (List.mem_singleton.mp m)
    have S4 : SrcG K H4 p dx d2 d1 d3 fs (csM cl qs) (ksM cl) [] := ⟨b4 _ _ S3.ob (nin nd2.symm nd1.symm), S3.f1, S3.f2, S3.f3, S3.nm, df4, dk4, b4 _ _ S3.d3 (nin n32 n31)⟩
    refine ⟨_, rfl, p, dx, _, rfl, S4.ob, S4.nm _ (by decide +kernel), _, rfl, ?_⟩
    refine ⟨p, dx, d2, d1, d3, fa, fs, _, _, rfl, S4, ?_⟩
    have k34 := k3.trans k4
    have old : ∀ {b d : Addr} {o : HO}, H b = some o → H d = none → b ≠ d := fun q hd z => by
      rw [z, hd] at q
      cases q
    have hd2H : H d2 = none := by
      rw [upd_ne nd2] at hd2
      by_cases w : d2 = d1
      · exact absurd w n21
      · rw [upd_ne w] at hd2
        exact hd2
    have hd3H : H d3 = none := by
      rw [upd_ne nd3, upd_ne n32, upd_ne nd3, upd_ne n31] at hd3
      exact hd3
    have b34 : But p H H4 := fun b o q n => b4 _ _ (b3 _ _ q n) (nin (old q hd2H) (old q hd1))
    rcases k with ⟨h1, kE⟩ | ⟨e0, e1, f0, h1, h2, h3, kE⟩
    · exact .inl ⟨k34.2 _ _ h1, kE _ b34⟩
    · exact .inr ⟨e0, e1, f0, k34.2 _ _ h1, h2.keep k34, h3.keep k34, fun H' t b5 => kE H' t fun b o q n => b5 _ _ (b34 _ _ q n) fun m => old q hd3H (List.mem_singleton.mp m)⟩
/-- making a Source: it is made, or its functions are refused -/
def spSrcB (K : PySem.W.Frag) : Sp := fun vs H Q E => spSrcInitG K vs H Q E ∨ spSrcInitE K vs H Q E
theorem okB_Source_init (T : Ctx w K mg) (h1 : HasM P w K mg base 4 "Source" "_take_classes" ["self", "classes"] (spTakeCM K)) (h2 : HasM P w K mg base 6 "Source" "_take_heads" ["self", "functions"] (spTakeHG K)) (h3 : HasM P w K mg base 7 "Source" "_take_rows" ["self", "k", "function", "rows"] (spTakeRG K)) (h4 : HasMX P w K mg base 6 "Source" "_take_heads" ["self", "functions"] (spHeadsE K)) :
    HasMX P w K mg base 8 "Source" "__init__" ["self", "classes", "functions"] (spSrcB K) := by
  obtain ⟨fd, F⟩ := T.D_Source_init
  exact ⟨⟨fd, W7.FnOk.or (W7.FnOk.up (okS_Source_init T F h1 h2 h3)) (okE_Source_init T F h1 h4 h3), F.bindsN fun _ _ _ _ _ _ us hl => match us, hl with | [_, _, _], _ => rfl⟩⟩

end
end W7
set_option Elab.async false
set_option linter.all false
set_option maxRecDepth 100000
set_option maxHeartbeats 4000000
namespace W7
open PySem PySem.Spec PyProof.Rows L2 RZ
section
variable {P : Program} {w : World} {K : PySem.W.Frag} {mg : Str → Option Value} {base : Heap}

/-- lines taken, one behind the other -/
def runL (st : TSt) : List (Bool × List Str) → Option TSt
  | [] => some st
  | l :: ls => (step st l).bind fun s => runL s ls
theorem runL_snoc {l : Bool × List Str} : ∀ (ls : List (Bool × List Str)) (st : TSt), runL st (ls ++ [l]) = (runL st ls).bind fun s => step s l
  | [], st => by
    show (step st l).bind (fun s => runL s []) = step st l
    cases step st l <;> rfl
  | x :: ls, st => by
    show (step st x).bind (fun s => runL s (ls ++ [l])) = ((step st x).bind fun s => runL s ls).bind fun s => step s l
    cases step st x with
    | none => rfl
    | some s => exact runL_snoc ls s
structure SmallN (n : Nat) (st : TSt) : Prop where
  c : st.cls.length ≤ n
  f : st.fns.length ≤ n
  r : ∀ f ∈ st.fns, f.rws.length ≤ n
theorem fnOf_rws {ws : List Str} {f : PFn} (h : fnOf ws = some f) : f.rws = [] := by
  match ws, h with
  | w0 :: w1 :: w2 :: w3 :: ws, h =>
    have h : fnOf4 w0 w1 w2 w3 ws = some f := h
    unfold fnOf4 at h
    split at h
    · cases h
    split at h
    · cases h
    obtain ⟨ns, _, h⟩ := Option.bind_eq_some_iff.mp h
    obtain ⟨ms, _, rfl⟩ := Option.map_eq_some_iff.mp h
    rfl
theorem step_cases {st st' : TSt} {l : Bool × List Str} (h : step st l = some st') : (∃ f r, st.fns.getLast? = some f ∧ st' = st.addRow f r) ∨ (∃ c, st' = st.addCls c) ∨ ∃ f, f.rws = [] ∧ st' = st.addFn f := by
  obtain ⟨b, ws⟩ := l
  cases b with
  | true =>
    rw [step_in] at h
    split at h
    · rename_i r f e1 e2
      exact .inl ⟨f, r, e2, (Option.some.inj h).symm⟩
    · cases h
  | false =>
    rw [step_out] at h
    match ws, h with
    | w0 :: w1 :: ws, h =>
      rw [head_eq] at h
      unfold head2 at h
      split at h
      · cases h
      split at h
      · obtain ⟨c, _, rfl⟩ := Option.map_eq_some_iff.mp h
        exact .inr (.inl ⟨c, rfl⟩)
      split at h
      · obtain ⟨f, hf, rfl⟩ := Option.map_eq_some_iff.mp h
        exact .inr (.inr ⟨f, fnOf_rws hf, rfl⟩)
      · cases h
theorem SmallN.step {n : Nat} {st st' : TSt} {l : Bool × List Str} (s : SmallN n st) (h : W7.step st l = some st') : SmallN (n + 1) st' := by
  rcases step_cases h with ⟨f, r, hf, rfl⟩ | ⟨c, rfl⟩ | ⟨f, hr, rfl⟩
  · obtain ⟨e1, e2, e3⟩ := last_get hf
    refine ⟨by show st.cls.length ≤ n + 1; have := s.c; omega, ?_, fun g m => ?_⟩
    · show (st.fns.dropLast ++ [f.more r]).length ≤ n + 1
      rw [List.length_append, List.length_dropLast, List.length_singleton]
      have := s.f
      omega
    · rcases List.mem_append.mp (show g ∈ st.fns.dropLast ++ [f.more r] from m) with m | m
      · have := s.r g (List.dropLast_subset _ m)
        omega
      · rw [List.mem_singleton.mp m]
        show (f.rws ++ [r]).length ≤ n + 1
        rw [List.length_append, List.length_singleton]
        have := s.r f (List.mem_of_getElem? e2)
        omega
  · refine ⟨?_, by show st.fns.length ≤ n + 1; have := s.f; omega, fun g m => by have := s.r g m; omega⟩
    show (st.cls ++ [c]).length ≤ n + 1
    rw [List.length_append, List.length_singleton]
    have := s.c
    omega
  · refine ⟨by show st.cls.length ≤ n + 1; have := s.c; omega, ?_, fun g m => ?_⟩
    · show (st.fns ++ [f]).length ≤ n + 1
      rw [List.length_append, List.length_singleton]
      have := s.f
      omega
    · rcases List.mem_append.mp (show g ∈ st.fns ++ [f] from m) with m | m
      · have := s.r g m
        omega
      · rw [List.mem_singleton.mp m, hr]
        exact Nat.zero_le _
/-! ### what was read, as plain data -/
def RowIs (v : RowV) (r : Rx) : Prop := match v.2 with
  | none => r.args = none ∧ ∀ l, v.1 = .str r.word :: r.parts l
  | some ns => r.args = some ns ∧ ns.length ≤ 1000 ∧ ∀ l, v.1 ++ [.ref l] = .str r.word :: r.parts (.ref l)
theorem RowM.raw {M : List Addr} {H : Hp} {a : Addr} {v : RowV} {r : Rx} (h : RowM M H a v) (e : RowIs v r) : ∃ l, H a = some (.tup (.str r.word :: r.parts (.ref l))) ∧ ArgsAt H l r := by
  obtain ⟨vs, m⟩ := v
  cases m with
  | none =>
    obtain ⟨e1, e2⟩ := (show r.args = none ∧ ∀ l, vs = .str r.word :: r.parts l from e)
    refine ⟨0, ?_, fun bs z => by rw [e1] at z; cases z⟩
    rw [← e2 (.ref 0)]
    exact (show At M H a (.tup vs) from h).1
  | some ns =>
    obtain ⟨e1, e3, e2⟩ := (show r.args = some ns ∧ ns.length ≤ 1000 ∧ ∀ l, vs ++ [.ref l] = .str r.word :: r.parts (.ref l) from e)
    obtain ⟨l, h1, h2⟩ := (show ∃ l : Addr, At M H a (.tup (vs ++ [.ref l])) ∧ At M H l (.lst (ns.map V.str)) from h)
    refine ⟨l, ?_, fun bs z => ?_⟩
    · rw [← e2 l]
      exact h1.1
    · rw [e1] at z
      rw [← Option.some.inj z]
      exact ⟨h2.1, e3⟩
structure FnIs (f : PFn) (g : FdT) : Prop where
  nm : f.nm = g.nm
  kd : f.kd = g.res
  ns : f.ns = g.ns
  ms : f.ms = g.ms
  len : f.rws.length = g.rws.length
  rw_ : ∀ (i : Nat) v r, f.rws[i]? = some v → g.rws[i]? = some r → RowIs v r
structure HeadOk (g : FdT) : Prop where
  nf : Nam g.nm
  kd : IsKind g.res
  nam : ∀ q ∈ g.ns ++ g.ms, Nam q.1 ∧ IsKind q.2
  nd : ((g.ns ++ g.ms).map Prod.fst).Nodup
  l1 : g.ns.length ≤ 4
  l2 : g.ms.length ≤ 8
theorem PairsM.g {M : List Addr} {H : Hp} {as : List Addr} {ps : List (Str × Str)} (h : PairsM M H as ps) : PairsG H as ps := ⟨h.1, fun i p q a b => (h.2 i p q a b).1⟩
theorem ClsM.g {M : List Addr} {H : Hp} {e : Addr} {c : Str × List (Str × Str)} (h : ClsM M H e c) : ClsG H e c := by
  obtain ⟨la, as, h1, h2, h3⟩ := h
  exact ⟨la, as, h1.1, h2.1, h3.g⟩
def RowsM (M : List Addr) (H : Hp) (ra : Addr) (f : PFn) : Prop := ∃ as : List Addr, H ra = some (.lst (as.map V.ref)) ∧ as.length = f.rws.length ∧ ∀ (j : Nat) a r, as[j]? = some a → f.rws[j]? = some r → RowM M H a r
theorem FnM.entryR {M : List Addr} {H : Hp} {e ra : Addr} {f : PFn} {g : FdT} (h : FnM M H e ra f) (r : RowsM M H ra f) (i : FnIs f g) (k : HeadOk g) (h1 : 1 ≤ g.rws.length) (h40 : g.rws.length ≤ 40) : EntryR H e g := by
  obtain ⟨pa, oa, as, bs, q1, q2, q3, q4, q5⟩ := h
  obtain ⟨rs, r1, r2, r3⟩ := r
  have rl : rs.length = g.rws.length := by rw [r2, i.len]
  refine ⟨pa, oa, ra, as, bs, rs, ⟨?_, k.nf, k.kd, q2.1, by rw [← i.ns]; exact q4.g, q3.1, by rw [← i.ms]; exact q5.g, k.nam, k.nd, k.l1, k.l2, r1, by rw [List.length_map]; omega, by rw [List.length_map]; omega⟩, rl, fun j a x e1 e2 => ?_⟩
  · rw [← i.nm, ← i.kd]
    exact q1.1
  · have hj : j < f.rws.length := by
      rw [i.len]
      exact (List.getElem?_eq_some_iff.mp e2).1
    have e3 : f.rws[j]? = some f.rws[j] := List.getElem?_eq_getElem hj
    exact (r3 j a _ e1 e3).raw (i.rw_ j _ _ e3 e2)
theorem FnM.entryZ {M : List Addr} {H : Hp} {e ra : Addr} {f : PFn} {g : FdT} (h : FnM M H e ra f) (r : RowsM M H ra f) (i : FnIs f g) (k : HeadOk g) (h0 : f.rws = []) : EntryZ H e := by
  obtain ⟨pa, oa, as, bs, q1, q2, q3, q4, q5⟩ := h
  obtain ⟨rs, r1, r2, r3⟩ := r
  have e0 : rs = [] := List.length_eq_zero_iff.mp (by rw [r2, h0]; rfl)
  subst e0
  refine ⟨pa, oa, ra, g.nm, g.res, as, bs, g.ns, g.ms, ?_, k.nf, k.kd, q2.1, by rw [← i.ns]; exact q4.g, q3.1, by rw [← i.ms]; exact q5.g, k.nam, k.nd, k.l1, k.l2, r1⟩
  rw [← i.nm, ← i.kd]
  exact q1.1
theorem FdOk.head {cl : ClsT} {fds : List FdT} {f : FdT} (h : FdOk cl fds f) : HeadOk f := ⟨h.nf, h.kd, h.nam, h.nd, h.l1, h.l2⟩
theorem OkG.pos {rws : List Rx} (h : OkG rws) : 1 ≤ rws.length := by
  obtain ⟨r0, rl, e, _⟩ := h.last
  rw [e, List.length_append]
  exact Nat.le_add_left _ _
def FnsIs (fs : List PFn) (gs : List FdT) : Prop := fs.length = gs.length ∧ ∀ (i : Nat) f g, fs[i]? = some f → gs[i]? = some g → FnIs f g
theorem StM.raw {H : Hp} {cl fl : Addr} {rs : List Addr} {st : TSt} {fds : List FdT} (S : StM H cl fl rs st) (oc : ClsOk st.cls) (hf : FnsIs st.fns fds) (nn : (fds.map FdT.nm).Nodup) (l1 : 1 ≤ fds.length) (l6 : fds.length ≤ 6) (ok : ∀ f ∈ fds, FdOk st.cls fds f) : RawSrc H cl fl st.cls fds := by
  obtain ⟨cs, c1, c2, c3⟩ := S.cs
  obtain ⟨es, f1, f2, f3, f4⟩ := S.fs
  refine ⟨⟨cs, c1, c2, fun i e c a b => (c3 i e c a b).g⟩, oc, ⟨es, f1, by rw [f2, hf.1], fun i e g a b => ?_⟩, nn, l1, l6, ok⟩
  have hi : i < st.fns.length := by
    rw [hf.1]
    exact (List.getElem?_eq_some_iff.mp b).1
  have ef : st.fns[i]? = some st.fns[i] := List.getElem?_eq_getElem hi
  have er : rs[i]? = some (rs[i]'(by omega)) := List.getElem?_eq_getElem (by omega)
  have O := ok g (List.mem_of_getElem? b)
  exact (f4 i e _ _ a er ef).entryR (S.rw_ i _ _ er ef) (hf.2 i _ g ef b) O.head O.ok.pos O.ok.le
/-- what a Source of what was read comes to; H: the heap ahead -/
def ToldSrc (K : PySem.W.Frag) (st : TSt) (H : Hp) (Q : VK) (E : XK) : Prop := ClsOk st.cls ∧
  ((∃ fds, FnsIs st.fns fds ∧ (fds.map FdT.nm).Nodup ∧ 1 ≤ fds.length ∧ fds.length ≤ 6 ∧ (∀ f ∈ fds, FdOk st.cls fds f) ∧ ∀ H' p, Same H H' → SrcX K H' p st.cls fds → Q (.ref p) H') ∨
    (st.fns = [] ∧ ∀ H', Same H H' → SrcE K H' (.str "functions") (.int (-1)) E) ∨
    ∃ f0 f1 g0 g1, st.fns = [f0, f1] ∧ FnIs f0 g0 ∧ HeadOk g0 ∧ 1 ≤ g0.rws.length ∧ g0.rws.length ≤ 40 ∧ FnIs f1 g1 ∧ HeadOk g1 ∧ g1.rws.length ≤ 40 ∧ (g1.rws = [] ∨ g1.nm = g0.nm) ∧ ∀ (H' : Hp) (t : Addr), Same H H' → H' t = some (.tup [.int 1]) → SrcE K H' (.str "functions") (.ref t) E)
structure TextOk (t : Str) : Prop where
  len : t.length ≤ 50000
  lines : ∀ l ∈ Txt.split t "\n", l.length ≤ 50000
  ne : Txt.split t "\n" ≠ []
  many : (Txt.split t "\n").length ≤ 50000
  words : ∀ l ∈ told t, (∀ w ∈ l.2, WordOk w) ∧ l.2.length ≤ 50000
def spRead (K : PySem.W.Frag) : Sp := fun vs H Q E => ∃ v, vs = [v] ∧ (((∃ c, (∀ H', Same H H' → TyX K H' v c) ∧ PySem.W.kitOne K c (.type "str") = some false) ∧ ∀ H', Same H H' → LineE K H' (-1) E) ∨
  ∃ t, v = .str t ∧ TextOk t ∧ (∀ (i : Nat) st l, runL ⟨[], []⟩ ((told t).take i) = some st → (told t)[i]? = some l → step st l = none → ∀ H', Same H H' → LineE K H' i E) ∧
    ∀ st, runL ⟨[], []⟩ (told t) = some st → ToldSrc K st H Q E)
theorem told_len {t : Str} (h : Txt.split t "\n" ≠ []) : (told t).length ≤ (Txt.split t "\n").length := by
  have hp : 0 < (Txt.split t "\n").length := List.length_pos_iff.mpr h
  unfold told
  rw [List.length_append, List.length_map, List.length_dropLast]
  split
  · simp
  · simp
    omega

theorem sc_read_source : FnScope ["text", "classes", "functions", "at", "inner", "words"] ["text"] (defScope s_read_source) := ⟨rfl, rfl, rfl, by decide +kernel, rfl, by decide +kernel, by decide +kernel⟩
theorem ok_read_source (T : Ctx w K mg) (H_errT : HasM P w K mg base 1 "InvalidText" "__init__" ["self", "line"] (spTextInit K)) (H_text_lines : HasX P w K mg base 3 "text_lines" ["text"] (spLines K)) (H_takes_line : Has P w K mg base 4 "_takes_line" ["inner", "words", "classes", "functions"] spTakesL) (H_Source_init : HasMX P w K mg base 8 "Source" "__init__" ["self", "classes", "functions"] (spSrcB K)) : HasX P w K mg base 10 "read_source" ["text"] (spRead K) := by
  obtain ⟨fd, F⟩ := T.D_read_source
  obtain ⟨fd_text_lines, G_text_lines, b_text_lines⟩ := H_text_lines.ex
  obtain ⟨fd_takes_line, G_takes_line, b_takes_line⟩ := H_takes_line.ex
  obtain ⟨fd_Source_init, G_Source_init, b_Source_init⟩ := H_Source_init.ex
  refine ⟨⟨fd, F.ok sc_read_source (fun vs H Q E h => ?_) (fun cdv A outer s H vs Q E hr h => ?_), F.bindsN fun _ _ _ _ _ _ us hl => match us, hl with | [_], _ => rfl⟩, F.kp, T.g_read_source⟩
  · obtain ⟨v, rfl, k⟩ := h; rfl
  · obtain ⟨v, rfl, k⟩ := h
    have hr_text_lines : Room 3 _ := hr.mono (by decide)
    have hr_takes_line : Room 4 _ := hr.mono (by decide)
    have hr_Source_init : Room 9 _ := hr.mono (by decide)
    have hu := hu_of hr
    obtain ⟨fd_errT, G_errT, b_errT⟩ := H_errT.ex
    have hr_errT : Room 2 _ := hr.mono (by decide)
    refine ⟨_, (pss_cons (ps_set (i := 1) sc_read_source.nd rfl (Or.inl rfl) (pe_lst pa_nil))
      (pss_cons (ps_set (i := 2) sc_read_source.nd rfl (Or.inl rfl) (pe_lst pa_nil))
      (pss_cons (ps_for (passes_of rfl) rfl (pi_enum (by rfl) T.f_enumerate (pa_cons (pe_call G_text_lines hr_text_lines (by rfl) H_text_lines.gl H_text_lines.kp b_text_lines .nil (passes_call (takes_of rfl rfl rfl rfl) (fun _ _ _ _ h => h)) (pa_cons (pv 0) pa_nil)) pa_nil)) (pg_tup rfl (pgs_cons (pg_name (i := 3) sc_read_source.nd rfl (Or.inl rfl)) (pgs_cons (pg_tup rfl (pgs_cons (pg_name (i := 4) sc_read_source.nd rfl (Or.inl rfl)) (pgs_cons (pg_name (i := 5) sc_read_source.nd rfl (Or.inl rfl)) pgs_nil))) pgs_nil)))
      (pss_one (ps_if (pt_not (pt_val (pe_call G_takes_line hr_takes_line (by rfl) H_takes_line.gl H_takes_line.kp b_takes_line .nil pass0 (pa_cons (pv 4) (pa_cons (pv 5) (pa_cons (pv 1) (pa_cons (pv 2) pa_nil))))))) (pss_one (ps_raiseE (x := "InvalidText") rfl (takes_of rfl rfl rfl rfl) T.errT G_errT b_errT hr_errT rfl T.g_InvalidText (by exact (pa_cons (pv 3) pa_nil)))) pss_nil)))
      (pss_one (ps_ret (pe_make T.k_Source G_Source_init hr_Source_init rfl T.g_Source b_Source_init .nil (passes_call (takes_of rfl rfl rfl rfl) (fun _ _ _ _ h => h)) (pa_cons (pv 1) (pa_cons (pv 2) pa_nil)))))))), ?_⟩
    refine ⟨sz_of (by show 0 ≤ 100000; decide), fun cl hcl => ⟨sz_of (by show 0 ≤ 100000; decide), fun fl hfl => ?_⟩⟩
    have s1 := Same.new (o := .lst []) hcl
    have s2 := Same.new (o := .lst []) hfl
    have s12 := s1.trans s2
    have hcl2 : upd (upd H cl (.lst [])) fl (.lst []) cl = some (.lst []) := s2 _ _ upd_same
    have hfl2 : upd (upd H cl (.lst [])) fl (.lst []) fl = some (.lst []) := upd_same
    have ncf : cl ≠ fl := fun z => by rw [← z, upd_same] at hfl; cases hfl
    generalize upd (upd H cl (.lst [])) fl (.lst []) = H2 at *
    rcases k with ⟨⟨c, tx, kt⟩, kE⟩ | ⟨t, rfl, TO, kE, kS⟩
    · exact ⟨_, rfl, v, rfl, .inr ⟨⟨c, tx _ s12, kt⟩, kE _ s12⟩⟩
    refine ⟨_, rfl, _, rfl, .inl ⟨t, rfl, TO.len, TO.lines, TO.ne, TO.many, fun q ps H3 s3 hq hq3 lat => ?_⟩⟩
    have hlen : ps.length ≤ 50000 := by
      rw [lat.1]
      exact Nat.le_trans (told_len TO.ne) TO.many
    have hW := TO.words
    generalize told t = ls at *
    have hB1 := s3 _ _ hcl2
    have hB2 := s3 _ _ hfl2
    have hflH : H fl = none := none_of s1 hfl
    have sameH : ∀ {H1 : Hp}, (∀ b o, H3 b = some o → b ≠ cl → b ≠ fl → H1 b = some o) → Same H H1 := fun kp b o e => kp _ _ ((s12.trans s3) _ _ e) (fun z => by rw [z, hcl] at e; cases e) (fun z => by rw [z, hflH] at e; cases e)
    refine ⟨q, _, rfl, SqL.of hq3, ?_⟩
    refine for_it (walk_enum (K := K) (a := q) (xs := ps.map V.ref)) (fun i σ H1 => ∃ (v1 v2 v3 : Option V) (rs : List Addr) (st : TSt), σ = [some (.str t), some (.ref cl), some (.ref fl), v1, v2, v3] ∧ runL ⟨[], []⟩ (ls.take i) = some st ∧ StM H1 cl fl rs st ∧ SmallN i st ∧ (∀ b o, H3 b = some o → b ≠ cl → b ≠ fl → H1 b = some o) ∧ ∀ b ∈ rs, H3 b = none) ⟨none, none, none, [], ⟨[], []⟩, rfl, rfl, StM.init hB1 hB2 ncf, ⟨Nat.le_refl _, Nat.le_refl _, fun f m => by cases m⟩, fun b o e _ _ => e, fun b m => by cases m⟩ ?_ ?_ ?_
    · rintro i σ H1 _ ⟨_, _, _, rs, st, rfl, _, S, _, kp, _⟩
      refine SqL.of (kp _ _ hq3 (fun z => ?_) (fun z => ?_))
      · rw [z, hcl2] at hq
        cases hq
      · rw [z, hfl2] at hq
        cases hq
    · rintro i y σ H1 H4 hi ⟨v1, v2, v3, rs, st, rfl, hrun, S, sm, kp, hrs⟩ ⟨u, a, b, rfl, hu0, rfl, h1, h2⟩
      have h2 : (ps.map V.ref)[i]? = some b := h2
      obtain rfl : V.int (i : Nat) = a := Option.some.inj h1
      obtain ⟨p, hp, rfl⟩ := map_get h2
      have hil : i < ls.length := by
        rw [← lat.1]
        exact (List.getElem?_eq_some_iff.mp hp).1
      have hl : ls[i]? = some ls[i] := List.getElem?_eq_getElem hil
      generalize hLi : ls[i] = l at hl
      obtain ⟨wa, hwn, hp3, hw3⟩ := lat.2 i p l hp hl
      have pcl : p ≠ cl := fun z => by rw [z, hB1] at hp3; cases hp3
      have pfl : p ≠ fl := fun z => by rw [z, hB2] at hp3; cases hp3
      have wcl : wa ≠ cl := fun z => by rw [z, hcl2] at hwn; cases hwn
      have wfl : wa ≠ fl := fun z => by rw [z, hfl2] at hwn; cases hwn
      have hp1 := kp _ _ hp3 pcl pfl
      have hw1 := kp _ _ hw3 wcl wfl
      have sH := sameH kp
      have s4 : Same H1 (upd H1 u (.tup [.int (i : Nat), .ref p])) := Same.new hu0
      have S4 := S.same s4
      have ml := List.mem_of_getElem? hl
      have i5 : i ≤ 50000 := by
        have := lat.1
        omega
      refine ⟨u, _, rfl, SqT.of upd_same, rfl, _, _, rfl, _, _, rfl, p, _, rfl, SqT.of (s4 _ _ hp1), rfl, _, _, rfl, _, _, rfl, rfl, rfl, ?_⟩
      refine ⟨_, rfl, _, rfl, _, rfl, _, rfl, l.1, wa, cl, fl, rs, st, l.2, rfl, s4 _ _ hw1, (hW l ml).1, (hW l ml).2, S4, ⟨Nat.le_trans sm.c i5, Nat.le_trans sm.f i5, fun f m => Nat.le_trans (sm.r f m) i5⟩, fun e H5 s5 => ⟨_, rfl, ifT rfl ?_⟩, fun st' e H5 rs' k5 nrs S5 => ⟨_, rfl, ifF rfl ?_⟩⟩
      · exact ⟨_, rfl, by show 1 ≤ 1000; decide, fun a hn => text_made hn T.errT fun d n => kE i st l hrun hl e H5 ((sH.trans s4).trans s5) d n⟩
      · refine ⟨_, _, _, rs', st', rfl, ?_, S5, sm.step e, fun b o e n1 n2 => k5 _ _ (s4 _ _ (kp _ _ e n1 n2)) (fun m => ?_), fun b m => ?_⟩
        · rw [take_snoc hl, runL_snoc, hrun]
          exact e
        · rcases List.mem_cons.mp m with m | m
          · exact n1 m
          rcases List.mem_cons.mp m with m | m
          · exact n2 m
          · rw [hrs b m] at e
            cases e
        · rcases nrs b m with m | m
          · exact hrs b m
          · have n1 := none_of s4 m
            cases c : H3 b with
            | none => rfl
            | some o =>
              obtain ⟨es, c1, _⟩ := S.cs
              obtain ⟨gs, f1, _⟩ := S.fs
              by_cases e1 : b = cl
              · rw [e1, c1] at n1
                cases n1
              by_cases e2 : b = fl
              · rw [e2, f1] at n1
                cases n1
              rw [kp _ _ c e1 e2] at n1
              cases n1
    · rintro σ H1 ⟨v1, v2, v3, rs, st, rfl, hrun, S, _, kp, hrs⟩
      have sH := sameH kp
      rw [List.take_of_length_le (by rw [List.length_map, lat.1]; exact Nat.le_refl _)] at hrun
      refine ⟨_, rfl, _, rfl, fun x dy nx ny nxy => ?_⟩
      have s4 : Same H1 (upd (upd H1 dy (.own x)) x (.ins (He.ga K "Source") dy [])) := (Same.new ny).trans (Same.new (by rw [upd_ne nxy.symm]; exact nx))
      have hx : upd (upd H1 dy (.own x)) x (.ins (He.ga K "Source") dy []) x = some (.ins (He.ga K "Source") dy []) := upd_same
      generalize upd (upd H1 dy (.own x)) x (.ins (He.ga K "Source") dy []) = H4 at *
      have sx := S.same s4
      have fin : ∀ {H' : Hp}, But x H4 H' → Same H H' := fun b y o e => b _ _ (s4 _ _ (sH _ _ e)) (ne_of_none (sH _ _ e) nx)
      obtain ⟨oc, q⟩ := kS st hrun
      rcases q with ⟨fds, hf, nn, l1, l6, ok, kA⟩ | ⟨h0, kB⟩ | ⟨f0, f1, g0, g1, hfs, i0, k0, r1, r2, i1, k1, r3, bad, kC⟩
      · exact .inl ⟨x, dy, cl, fl, st.cls, fds, rfl, hx, sx.raw oc hf nn l1 l6 ok, fun H' b X => ⟨rfl, kA H' x (fin b) X⟩⟩
      · obtain ⟨cs, c1, c2, c3⟩ := sx.cs
        obtain ⟨es, f1, f2, _⟩ := sx.fs
        have e0 : es = [] := List.length_eq_zero_iff.mp (by rw [f2, h0]; rfl)
        subst e0
        exact .inr ⟨x, dy, cl, fl, st.cls, rfl, hx, ⟨cs, c1, c2, fun i e c a b => (c3 i e c a b).g⟩, oc, .inl ⟨f1, fun H' b => kB H' (fin b)⟩⟩
      · obtain ⟨cs, c1, c2, c3⟩ := sx.cs
        obtain ⟨es, h1, h2, h3, h4⟩ := sx.fs
        have hr := sx.rw_
        rw [hfs] at h2 h3 h4 hr
        match es, h1, h2, rs, h3, h4, hr with
        | [e0, e1], h1, _, [ra, rb], _, h4, hr =>
          have R0 := hr 0 ra f0 rfl rfl
          have R1 := hr 1 rb f1 rfl rfl
          have F0 := h4 0 e0 ra f0 rfl rfl rfl
          have F1 := h4 1 e1 rb f1 rfl rfl rfl
          refine .inr ⟨x, dy, cl, fl, st.cls, rfl, hx, ⟨cs, c1, c2, fun i e c a b => (c3 i e c a b).g⟩, oc, .inr ⟨e0, e1, g0, h1, (F0.entryR R0 i0 k0 r1 r2).entry, ?_, fun H' t b ht => kC H' t (fin b) ht⟩⟩
          by_cases z : g1.rws = []
          · exact .inl (F1.entryZ R1 i1 k1 (List.length_eq_zero_iff.mp (by rw [i1.len, z]; rfl)))
          · rcases bad with b | b
            · exact absurd b z
            · exact .inr ⟨g1, (F1.entryR R1 i1 k1 (List.length_pos_iff.mpr z) r3).entry, b⟩

end
end W7
set_option Elab.async false
set_option linter.all false
set_option maxRecDepth 100000
set_option maxHeartbeats 4000000
namespace GD
open PySem PySem.Spec PyProof.Rows L2
/-- repr of data, where no guard stands around -/
def rReprD (K : PySem.W.Frag) : List V → Hp → VK → Prop := fun xs H Q => ∃ (x : V) (d : PyData), xs = [x] ∧ Dp K H x d ∧ d.showable = true ∧ d.hasDict = false ∧ d.shown.length ≤ sizeLine ∧ d.depth ≤ 64 ∧ (∀ i : Int, x = .int i → i.natAbs.log2 < 1920) ∧ Q (.str d.shown) H
theorem call_reprD {X : Cx} (hgd : X.A.guards = some []) (hu : X.A.units + 100 < cLine) : CallR X (.builtin "repr") (rReprD X.K) := by
  intro pins s σ H xs us Q I r h
  obtain ⟨x, d, rfl, hd, hs, hn, hz, hdp, hi, q⟩ := h
  obtain ⟨u, rfl, ru⟩ := vals1 r
  cases hd with
  | non =>
    cases ru
    exact PySem.P.repr_of_none ⟨.str _, H, I.tok _, ⟨_, rfl⟩, q⟩
  | bl b =>
    cases ru
    have e : (PyData.bool b).shown = (if b then "True" else "False" : Str) := by cases b <;> rfl
    rw [e] at q
    exact PySem.P.repr_of_bool ⟨.str _, H, I.tok _, ⟨_, rfl⟩, q⟩
  | int i =>
    obtain ⟨t, rfl⟩ := ru
    exact PySem.P.repr_of_int (hi i rfl) ⟨.str _, H, I.tok _, ⟨_, rfl⟩, q⟩
  | str z =>
    obtain ⟨t, rfl⟩ := ru
    exact PySem.P.repr_of_str ⟨.str _, H, I.tok _, ⟨_, rfl⟩, q⟩ hz
  | lst h1 h2 =>
    obtain ⟨as, rd⟩ := Dp.reads I _ _ _ (.lst h1 h2) ru
    cases ru
    exact repr_of_reads' rd hs (PyData.noDict_hsm hn) hgd (by omega) (fun _ _ e => e) (fun h' u tk hk => ⟨.str _, H, I.kept (t' := tk) hk, ⟨_, rfl⟩, q⟩) hz
  | tup h1 h2 =>
    obtain ⟨as, rd⟩ := Dp.reads I _ _ _ (.tup h1 h2) ru
    cases ru
    exact repr_of_reads' rd hs (PyData.noDict_hsm hn) hgd (by omega) (fun _ _ e => e) (fun h' u tk hk => ⟨.str _, H, I.kept (t' := tk) hk, ⟨_, rfl⟩, q⟩) hz
end GD
set_option Elab.async false
set_option linter.all false
set_option maxRecDepth 100000
set_option maxHeartbeats 4000000
namespace GD
open PySem PySem.Spec PyProof.Rows L2
/-- a def that keeps its promise where no guard stands around -/
structure OkG (P : Program) (w : World) (K : PySem.W.Frag) (mg : Str → Option Value) (base : Heap) (k : Nat) (f : Addr) (fd : FuncData) (ps : List Str) (sp : Sp) : Prop where
  len : ∀ vs H Q E, sp vs H Q E → vs.length = ps.length
  run : ∀ (A : Around) (outer : List Env) (s : Shared) (H : Hp) (args : Args) (us : List Value) (vs : List V) (Q : VK) (E : XK),
    Room k A → A.guards = some [] → Env0 P w K mg base A outer s H → BindsTo s fd args (ps.zip us) → Vals vs us → sp vs H Q E → codeAny (model P w) A (.call (.ref f) args) (CR CX0 outer P w H s Q E) s
section
variable {P : Program} {w : World} {K : PySem.W.Frag} {mg : Str → Option Value} {base : Heap} {k : Nat} {f : Addr} {fd : FuncData} {ps : List Str} {sp : Sp}
theorem OkG.of (F : FnOk P w K mg base CX0 k f fd ps sp) : OkG P w K mg base k f fd ps sp :=
  ⟨F.len, fun A outer s H args us vs Q E hr _ => F.run A outer s H args us vs Q E hr⟩
end
section
variable {P : Program} {w : World} {K : PySem.W.Frag} {mg : Str → Option Value} {base : Heap} {x qual : Str} {params : Arguments} {body : List Stmt} {scope : Scope} {dvs : List V} {kws : List (Str × V)} {f : Addr} {fd : FuncData}
/-- .. by its body's walk -/
theorem okG {N ps : List Str} {k : Nat} {sp : Sp} (F : FunD K x qual params body scope dvs kws f fd) (S : FnScope N ps scope) (len : ∀ vs H Q E, sp vs H Q E → vs.length = ps.length)
    (walk : ∀ (cdv : Value) (A : Around) (outer : List Env) (s : Shared) (H : Hp) (vs : List V) (Q : VK) (E : XK), A.guards = some [] → Room k (A.deeper (envOfC qual scope s.heap.objs.size f cdv)) → sp vs H Q E →
      ∃ t, PSs (cxOf CX0 P w K mg base N qual scope f cdv A outer s H E) body t ∧ t { nx := fun _ H' => Q .non H', rt := Q } (start N vs) H) : OkG P w K mg base (k + 1) f fd ps sp := by
  obtain ⟨oc, od, dV, kV, doc, pm, an, cdv, ct, osl, rfl, lk, hcd, _, _⟩ := F.ex
  refine ⟨len, fun A outer s H args us vs Q E hr gd en bd rv h => ?_⟩
  have inK : K.In s.heap := en.mod.kin.keeps fun b o z => (en.bs b o z).1
  have nolim : s.heap.NoLimit := en.mod.nolimit.keeps fun b o z => (en.bs b o z).1
  have kinds : ∀ y ∈ ps.zip us, scope.names.lookup y.1 = some .local ∨ (scope.names.lookup y.1 = some .cell ∧ ((cellsFrom (s.heap.objs.size + 1) scope.names []).lookup y.1).isSome = true) := by
    rintro ⟨n, v⟩ m
    rcases S.par n (List.of_mem_zip m).1 with c | c
    · exact .inl c
    · exact .inr ⟨c, PySem.W.cellsFrom_some _ _ _ (.inl c)⟩
  refine codeAny_call_function hr.depth (inK _ _ lk) rfl S.co S.gen rfl (PySem.W.codeRec_of inK hcd) (bd _ _ _ _ (wpAny_newFunctionEnv_cells S.kind kinds fun env ee s1 fresh => ?_))
  subst ee
  refine ⟨nolim.keeps fresh.toInCall.keep, codeAny_func ?_⟩
  obtain ⟨t, ht, q⟩ := walk cdv A outer s H vs Q E gd (hr.deeper _) h
  have J := inv_start (CX := CX0) (E := E) S hr.hd en (len _ _ _ _ h) rv fresh
  refine wpAny_mono (ht.run [] s1 (start N vs) H _ J q) (fun fl s2 z => ?_) fun er s2 z => z
  cases fl with
  | ret u =>
    obtain ⟨v, σ2, H2, I2, r2, q2⟩ := z
    exact ⟨v, H2, I2.os, I2.bare, I2.base, I2.hok, r2, q2⟩
  | next =>
    obtain ⟨σ2, H2, I2, q2⟩ := z
    exact ⟨.non, H2, I2.os, I2.bare, I2.base, I2.hok, rfl, q2⟩
  | brk =>
    obtain ⟨σ2, H2, I2, q2⟩ := z
    exact q2.elim
  | cont =>
    obtain ⟨σ2, H2, I2, q2⟩ := z
    exact q2.elim
end
section
variable {X : Cx} {k : Nat} {f : Addr} {fd : FuncData} {ps : List Str} {sp : Sp} {E : XK} {x : Str} {p pos : Pos} {e : Expr} {es : List Expr} {t : TA}
theorem runG {pins : List (Addr × Obj)} {σ : L2.St} {H : Hp} {s : Shared} {Q : VK} {us : List Value} {vs : List V} (F : OkG X.prog X.w X.K X.mg X.base k f fd ps sp) (hr : Room k X.A) (gd : X.A.guards = some []) (hb : Binds X.K fd ps []) (hx : Passes CX0 X E)
    (I : Inv X pins σ H s) (r : Vals vs us) (h : sp vs H Q E) : wpAny (model X.prog X.w) X.A (call (.ref f) us) (EP X pins σ Q) X.xe s := by
  have l : (us ++ []).length = ps.length := by
    rw [List.append_nil, ← r.length]
    exact F.len _ _ _ _ h
  have b := hb s us I.kIn l
  rw [List.append_nil] at b
  refine wpAny_call (codeAny_mono (F.run X.A X.stack s H ⟨us, []⟩ us vs Q E hr gd I.env0 b r h) fun z s2 q => ?_)
  match z, q with
  | .error er, q => exact hx pins σ H s er s2 I q
  | .ok (.ret u), q => exact I.after q
  | .ok .next, q => exact q.elim
  | .ok .brk, q => exact q.elim
  | .ok .cont, q => exact q.elim
theorem pe_callG (F : OkG X.prog X.w X.K X.mg X.base k f fd ps sp) (hr : Room k X.A) (gd : X.A.guards = some []) (hg : Gl X x) (hm : X.mg x = some (.ref f)) (hk : PySem.W.keepIn X.K (.ref f) = true) (hb : Binds X.K fd ps []) (hx : Passes CX0 X E) (ha : PA X (e :: es) t)
    (hdb : (x == ("__debug__" : Str)) = false := by decide) (he : starEach (e :: es) X.env = (false, eval e X.env) :: starEach es X.env := by rfl) (hpl : (backTo pos (starEach es X.env)).any (·.1) = false := by rfl) : PE X (.Call (.Name x p) (e :: es) [] pos) (tCall sp [] E t) :=
  ⟨fun pins s σ H Q I h => wpAny_Call_Name_kw (ld_glob I hg hm (PySem.W.callWith_K (h₀ := X.base) I.ok.mod.kin hk (thn (ha.run pos pins s σ H _ I h) fun us s1 ⟨vs, H1, I1, r, q⟩ => ⟨I1.kIn, by
    have z : sp (vs ++ []) H1 Q E := q
    rw [List.append_nil] at z
    exact runG F hr gd hb hx I1 r z⟩) he hpl) hdb)⟩
end
end GD
set_option Elab.async false
set_option linter.all false
set_option maxRecDepth 100000
set_option maxHeartbeats 4000000
namespace GD
open PySem PySem.Spec PyProof.Rows L2
section
variable {P : Program} {w : World} {K : PySem.W.Frag} {mg mb : Str → Option Value} {k : Nat} {fa a : Addr} {fd : FuncData} {x : Str} {sp : Sp} {s : Shared} {vs : List Value} {ns : List Int} {H : Hp}
/-- nothing is tracked but perhaps the script, locked -/
structure One (P : Program) (w : World) (K : PySem.W.Frag) (H : Hp) (h : Heap) (a : Addr) : Prop where
  only : Only H
  ok : HOk P w H h
  at_ : ∀ b u, H b = some u → b = a
  no : ∀ u, H a = some u → K.lookup a = none
theorem One.hid (O : One P w K H s.heap a) (ha : s.heap.get? a = some { cls := .type "list", data := .seq vs.toArray }) {b : Addr} {o : Obj} (e : s.heap.get? b = some o) (n : b = a → ∀ u, H a ≠ some u) : (hidT s.heap H).get? b = some o := by
  refine hidT_get e ?_
  cases c : H b with
  | none => rfl
  | some u =>
    have z := O.at_ b u c
    rw [z] at c
    exact absurd c (n z u)
theorem One.nsT (O : One P w K H s.heap a) (ha : s.heap.get? a = some { cls := .type "list", data := .seq vs.toArray }) {b : Addr} {m : Str → Option Value} (h : s.heap.Ns b m) : (hidT s.heap H).Ns b m := by
  obtain ⟨o, es, ep, e, d, r⟩ := h
  refine ⟨o, es, ep, O.hid ha e (fun z => ?_), d, r⟩
  rw [z, ha] at e
  rw [← Option.some.inj e] at d
  cases d
theorem One.run (O : One P w K H s.heap a) (hS : SqL K H a (ns.map V.int)) (KX : K.In s.heap) (hm : s.heap.Ns mainGlobals mg) (hb : s.heap.Ns builtinsNs mb) (hbb : ∀ x : Str, x ≠ "__name__" → mb x = bootBuiltins x) (hlim : s.heap.NoLimit) (hg : s.gens = #[])
    (ha : s.heap.get? a = some { cls := .type "list", data := .seq vs.toArray }) (hr : Room k callerA)
    (F : ∀ base : Heap, K.In base → base.Ns mainGlobals mg → OkG P w K mg base k fa fd [x] sp) (bd : ∀ (s : Shared) (u : Value), BindsTo s fd ⟨[u], []⟩ [(x, u)])
    (h : sp [.ref a] H (fun v _ => v = .bl true) fun _ _ _ => False) :
    codeAny (model P w) callerA (.call (.ref fa) ⟨[.ref a], []⟩) (fun r s' => r = .ok (.ret (.bool true)) ∧ OldK s.heap s'.heap ∧ s'.os = s.os ∧ AllBare s'.gens) s := by
  have inB : K.In (hidT s.heap H) := fun b o e => O.hid ha (KX b o e) (fun z u c => by
    rw [z] at e
    rw [O.no u c] at e
    cases e)
  have md : Mod K mg (hidT s.heap H) := by
    obtain ⟨mc, l1, l2⟩ := hlim
    exact ⟨inB, O.nsT ha hm, ⟨mb, O.nsT ha hb, hbb⟩, ⟨mc, O.nsT ha l1, l2⟩⟩
  have en : Env0 P w K mg (hidT s.heap H) callerA [] s H := by
    refine ⟨rfl, md, fun b o e => of_hidT e, Nat.le_of_eq (hidT_size _ _), trivial, ?_, O.ok, .of_eq hg⟩
    rintro b ⟨⟩
  refine codeAny_mono ((F _ inB (O.nsT ha hm)).run callerA [] s H ⟨[.ref a], []⟩ [.ref a] [.ref a] _ _ hr rfl en (bd s (.ref a)) (.cons rfl .nil) h) fun r s2 z => ?_
  match r, z with
  | .error er, z => exact z.elim
  | .ok .next, z => exact z.elim
  | .ok .brk, z => exact z.elim
  | .ok .cont, z => exact z.elim
  | .ok (.ret u), z =>
    obtain ⟨v, H2, os2, bare2, un, ok2, rv, rfl⟩ := z
    obtain rfl : u = Value.bool true := rv
    refine ⟨rfl, OldK.of_keep fun b o e => ?_, os2, bare2⟩
    cases c : H b with
    | none => exact un.keep b o e c (fun m => absurd (show b ∈ ([] : List Addr) from m) (by simp)) (by simp)
    | some u =>
      rcases O.only b with z | ⟨ob, xs, z⟩
      · rw [z] at c
        cases c
      · have q1 := (O.ok b _ z).1
        have q2 := (ok2 b _ (un.frzs b ob _ z)).1
        rw [e] at q1
        rw [Option.some.inj q1]
        exact q2
theorem lawG (KX : K.In s.heap) (hm : s.heap.Ns mainGlobals mg) (hb : s.heap.Ns builtinsNs mb) (hbb : ∀ x : Str, x ≠ "__name__" → mb x = bootBuiltins x) (hlim : s.heap.NoLimit) (hg : s.gens = #[])
    (ha : s.heap.get? a = some { cls := .type "list", data := .seq vs.toArray }) (hi : IntsAre vs ns) (hl : ns.length ≤ sizeLine) (hr : Room k callerA)
    (F : ∀ base : Heap, K.In base → base.Ns mainGlobals mg → OkG P w K mg base k fa fd [x] sp) (bd : ∀ (s : Shared) (u : Value), BindsTo s fd ⟨[u], []⟩ [(x, u)])
    (h : ∀ H : Hp, Only H → SqL K H a (ns.map V.int) → sp [.ref a] H (fun v _ => v = .bl true) fun _ _ _ => False) :
    codeAny (model P w) callerA (.call (.ref fa) ⟨[.ref a], []⟩) (fun r s' => r = .ok (.ret (.bool true)) ∧ OldK s.heap s'.heap ∧ s'.os = s.os ∧ AllBare s'.gens) s := by
  have rv := vals_ints hi
  cases hk : K.lookup a with
  | some o =>
    have e := KX a o hk
    rw [ha] at e
    have eo := Option.some.inj e
    subst eo
    have hS : SqL K (fun _ => none) a (ns.map V.int) := .inr ⟨_, vs.toArray, _, hk, rfl, rfl, rfl, by rw [List.size_toArray, hi.length]; exact hl, by simpa using rv⟩
    have O : One P w K (fun _ => none) s.heap a := ⟨fun _ => .inl rfl, (fun b u z => by cases (show (none : Option HO) = some u from z)), (fun b u z => by cases (show (none : Option HO) = some u from z)), (fun u z => by cases (show (none : Option HO) = some u from z))⟩
    exact O.run hS KX hm hb hbb hlim hg ha hr F bd (h _ O.only hS)
  | none =>
    generalize hH : (fun b => if b = a then some (HO.frz { cls := .type "list", data := .seq vs.toArray } (.lst (ns.map V.int))) else none : Hp) = H
    have hHa : H a = some (.frz { cls := .type "list", data := .seq vs.toArray } (.lst (ns.map V.int))) := by
      rw [← hH]
      exact if_pos rfl
    have hHn : ∀ b, b ≠ a → H b = none := fun b n => by
      rw [← hH]
      exact if_neg n
    have hS : SqL K H a (ns.map V.int) := .inl (.inr ⟨_, hHa⟩)
    have at_ : ∀ b u, H b = some u → b = a := fun b u z => by
      by_cases n : b = a
      · exact n
      · rw [hHn b n] at z
        cases z
    have O : One P w K H s.heap a := by
      refine ⟨fun b => ?_, fun b u z => ?_, at_, fun _ _ => hk⟩
      · by_cases n : b = a
        · rw [n]
          exact .inr ⟨_, _, hHa⟩
        · exact .inl (hHn b n)
      · have eb := at_ b u z
        subst eb
        rw [hHa] at z
        rw [← Option.some.inj z]
        exact ⟨ha, by rw [List.length_map]; exact hl, vs, _, rv, ha⟩
    exact O.run hS KX hm hb hbb hlim hg ha hr F bd (h _ O.only hS)
end
/-- the end of a law over a head by facts, for a def that wants no guard around -/
theorem walkG {l : PySem.W.OpenLaw} {n k : Nat} {q : Program} {loose : List Str} {XP : (Str → Option Value) → Heap → Prop} {YP : World → Heap → Prop} {d : DefRec} {x : Str} (hn : l.most = some n) (hn2 : n ≤ sizeLine) (hdf : d.params.defaults = []) (hr : Room k callerA)
    (F : ∀ (w : World) (mg : Str → Option Value) (fa : Addr) (h : Heap), YP w h → h.Ns mainGlobals mg → mg d.name = some (.ref fa) → ∃ (K : PySem.W.Frag) (fd : FuncData) (sp : Sp), K.In h ∧ (∀ (s : Shared) (u : Value), BindsTo s fd ⟨[u], []⟩ [(x, u)]) ∧
      (∀ (H : Hp) (a : Addr) (ns : List Int), ns.length ≤ n → Only H → SqL K H a (ns.map V.int) → sp [.ref a] H (fun v _ => v = .bl true) fun _ _ _ => False) ∧ ∀ base : Heap, K.In base → base.Ns mainGlobals mg → OkG l.prog w K mg base k fa fd [x] sp) :
    PySem.W.WalkO q loose XP YP l.row.toRowW d [] (fun f vs => PySem.call f vs) := by
  refine Att.attach_call hn hdf fun w s₀ s₁ mg mb fa o pm cd doc a vs ns G Y _ _ _ named obj are few gens => ?_
  obtain ⟨K, fd, sp, inK, bd, hsp, hF⟩ := F w mg fa _ Y G.T.g named
  exact lawG inK G.T.g G.T.b G.T.builtins G.T.nolimit gens obj are (Nat.le_trans few hn2) hr hF bd fun H o S => hsp H a ns few o S
end GD
set_option Elab.async false
set_option linter.all false
set_option maxRecDepth 100000
set_option maxHeartbeats 4000000
namespace GD
open PySem PySem.Spec PyProof.Rows L2
/-- C(e, ..): an error of the program, held as a value -/
def tMkH (C : Addr) (sp : Sp) (ta : TA) : TE := fun σ H Q => ta σ H fun vs H1 => vs.length ≤ 1000 ∧ ∀ a, H1 a = none → sp (.ref a :: vs) (upd H1 a (exo a C none)) (fun v H2 => v = .non ∧ Q (.ref a) H2) (fun _ _ _ => False)
theorem pe_mkE {X : Cx} {CX : CXT} {e : Expr} {es : List Expr} {ta : TA} {p pos : Pos} {x : Str} {C fI : Addr} {k : Nat} {fd : FuncData} {ps : List Str} {sp : Sp} (T : AE.AeC X.K C)
    (iC : PySem.W.findIn X.K (.ref C) "__init__" = some (some (.ref fI))) (tI : PySem.W.typeIn X.K (.ref fI) = some (.type "function")) (F1 : FnOk X.prog X.w X.K X.mg X.base CX k fI fd ps sp)
    (hr : Room (k + 1) X.A) (hb : Binds X.K fd ps []) (hx : Passes CX X (fun _ _ _ => False)) (hg : Gl X x) (hm : X.mg x = some (.ref C)) (ha : PA X (e :: es) ta)
    (hdb : (x == ("__debug__" : Str)) = false := by decide) (he : starEach (e :: es) X.env = (false, eval e X.env) :: starEach es X.env := by rfl) (hpl : (backTo pos (starEach es X.env)).any (·.1) = false := by rfl) :
    PE X (.Call (.Name x p) (e :: es) [] pos) (tMkH C sp ta) := by
  refine ⟨fun pins s σ H Q I h => wpAny_Call_Name_kw (ld_glob I hg hm ?_ hdb)⟩
  refine PySem.W.callWith_K (h₀ := X.base) I.ok.mod.kin T.kC (thn (ha.run pos pins s σ H _ I h) fun us s1 q1 => ?_) he hpl
  obtain ⟨vs, H1, I1, r1, hz, q1⟩ := q1
  refine ⟨I1.kIn, ?_⟩
  show wpAny _ _ (call (.ref C) us) _ _ _
  obtain ⟨hp, g, dr, tk, os⟩ := s1
  obtain ⟨nm, N, qn, bs, bm, hd, sn, sub, ab, col, dd, k0, k1, k2, k3, k5, hC, hbm⟩ := PySem.W.excInit_of I1.kIn T.cls
  generalize hG : (hp.push (PySem.W.kdv_tup us)).push (PySem.HandSPX.excO C hp.objs.size) = G
  have new : hp.objs.size ≤ hp.objs.size + 1 := Nat.le_succ _
  have keep : ∀ b o, hp.get? b = some o → G.get? b = some o := fun b o q => by
    rw [← hG]
    exact Heap.get?_push_of_some _ (Heap.get?_push_of_some _ q)
  have there : G.get? (hp.objs.size + 1) = some (PySem.HandSPX.excO C hp.objs.size) := by
    rw [← hG]
    heap_get
  have I2 : Inv X pins σ (upd H1 (hp.objs.size + 1) (exo (hp.objs.size + 1) C none)) ⟨G, g, dr, tk, os⟩ := I1.laid (t' := tk) (a := hp.objs.size + 1) keep new (exo_ok there)
  have hq := q1 (hp.objs.size + 1) (I1.hok.fresh new)
  have r2 : Vals (V.ref (hp.objs.size + 1) :: vs) (Value.ref (hp.objs.size + 1) :: us) := .cons rfl r1
  have len : (Value.ref (hp.objs.size + 1) :: us ++ []).length = ps.length := by
    rw [List.append_nil, ← r2.length, F1.len _ _ _ _ hq]
  have few : us.length ≤ sizeLine := by
    rw [← Paired.length r1, sizeLine_eq]
    omega
  have run := F1.run _ X.stack _ _ ⟨Value.ref (hp.objs.size + 1) :: us, []⟩ (Value.ref (hp.objs.size + 1) :: us) _ _ (fun _ _ _ => False) (hr.make C us []) (I2.env0.make C us []) (by
    have z := hb _ (Value.ref (hp.objs.size + 1) :: us) I2.kIn len
    rw [List.append_nil] at z
    exact z) r2 hq
  refine wpAny_call (PySem.HandSPX.call_own F.excBase_ArithmeticError hbm hC (PySem.W.looks_findIn I1.kIn iC) (fun self => PySem.W.bind_fn I1.kIn self tI) few ?_)
  rw [hG]
  refine codeAny_mono run fun r s' z => ?_
  match r, z with
  | .error er, z => exact hx pins σ _ _ er s' I2 z
  | .ok (.ret v), z =>
    obtain ⟨y, H2, I3, rv, ey, q2⟩ := I2.after z
    subst ey
    exact ⟨rv, .ref (hp.objs.size + 1), H2, I3, rfl, q2⟩
  | .ok .next, z => exact z.elim
  | .ok .brk, z => exact z.elim
  | .ok .cont, z => exact z.elim
/-- e.f of such an error -/
def tFldH (C : Addr) (f : Str) (te : TE) : TE := fun σ H Q => te σ H fun x H1 => ∃ (a dd : Addr) (fs : List (Str × V)) (v : V), x = .ref a ∧ H1 a = some (exo a C (some dd)) ∧ H1 dd = some (exd dd fs) ∧ fs.lookup f = some v ∧ Q v H1
theorem inst_of {X : Cx} {pins : List (Addr × Obj)} {σ : L2.St} {H : Hp} {s : Shared} {a C dd : Addr} {fs : List (Str × V)} (I : Inv X pins σ H s) (ea : H a = some (exo a C (some dd))) (ed : H dd = some (exd dd fs)) :
    ∃ (oe od : Obj) (mA : Str → Option Value), PySem.W.InstAt s.heap a oe C (some od) ∧ (∀ f, PySem.W.lookIn f od = some (mA f)) ∧ ∀ f, RelO (fs.lookup f) (mA f) := by
  obtain ⟨t1, ho⟩ := exo_at I.hok ea
  obtain ⟨mA, hns, rel⟩ := exd_at I.hok ed
  obtain ⟨od, hod, hl⟩ := lookIn_ns hns
  exact ⟨_, od, mA, ⟨ho, rfl, rfl, hod⟩, hl, rel⟩
theorem pe_fldH {X : Cx} {C : Addr} {e : Expr} {te : TE} {pos : Pos} {n : Str} (T : XfC X.K C) (hno : PySem.W.findIn X.K (.ref C) n = some none) (he : PE X e te) (hb : attributeBase e n X.env (eval e X.env) = eval e X.env := by rfl) :
    PE X (.Attribute e n pos) (tFldH C n te) := by
  refine ⟨fun pins s σ H Q I h => attr_of hb (thn (he.run pins s σ H _ I h) fun u s1 hh => ?_)⟩
  obtain ⟨x, H1, I1, rx, a, dd, fs, v, rfl, ea, ed, l, q⟩ := hh
  obtain rfl : u = Value.ref a := rx
  obtain ⟨oe, od, mA, J, hl, hr⟩ := inst_of I1 ea ed
  obtain ⟨u, hu, ru⟩ := RelO.some_of (v := v) (o := mA n) (by rw [← l]; exact hr n)
  exact HandSPX.exc_get I1.kIn J T.ga T.gg T.exC (PySem.W.findObj_own T.hdC hno rfl (by rw [hl, hu])) (handed_of ru) ⟨v, H1, I1.tok _, ru, q⟩
/-- isinstance(e, c) of such an error -/
theorem call_isH {X : Cx} {D : Addr} (C : ExcC X.K D) : CallR X (.builtin "isinstance") (fun xs H Q => ∃ (a dd : Addr) (fs : List (Str × V)) (c : V) (cv : Value) (b : Bool), xs = [.ref a, c] ∧ H a = some (exo a D (some dd)) ∧ H dd = some (exd dd fs) ∧ (∀ u, RelV c u → u = cv) ∧ PySem.W.kitOne X.K (.ref D) cv = some b ∧ Q (.bl b) H) := by
  intro pins s σ H xs us Q I r h
  obtain ⟨a, dd, fs, c, cv, b, rfl, ea, ed, hcv, e, q⟩ := h
  obtain ⟨oe, od, mA, J, _, _⟩ := inst_of I ea ed
  match us, r with
  | [_, _], .cons rx (.cons rt .nil) =>
    cases rx
    obtain rfl := hcv _ rt
    exact PySem.W.kia_one (AE.kit_of C) I.kIn J e (fun z => nomatch z) fun tk => ⟨.bl b, H, I.kept (t' := tk) fun _ _ z => z, rfl, q⟩
end GD
set_option Elab.async false
set_option linter.all false
set_option maxRecDepth 100000
set_option maxHeartbeats 4000000
namespace GD
open PySem PySem.W PySem.Calls PySem.HandSPX
section
variable {M : Model} {A : Around} {E : Value → Shared → Prop} {h : Heap} {g : Array GenState} {d : Drawn} {t : Nat} {os : OsState}
variable {nm q : Str} {C N : Addr} {bs bm bmB : List Value} {hdct : Bool} {sn : List Str} {sub : List Value} {ab : Bool} {col : Option Bool} {dd : Option Addr} {k0 k1 k2 k3 k5 : Option Value} {B newId initId : String} {kw : List (Str × Value)}
theorem kw_check (F : ExcBaseFacts B newId initId bmB) (hT : ∀ X : String, bm.contains (.type X) = bmB.contains (.type X)) {Q : Unit → Shared → Prop}
    (hC : h.get? C = some (excClassObj nm q C N bs bm hdct sn sub ab col dd k0 k1 k2 k3 k5 newId)) (hq : Q () ⟨h, g, d, t, os⟩) : wpAny M A (checkBuiltinCall newId ⟨[.ref C], kw⟩) Q E ⟨h, g, d, t, os⟩ := by
  have here : (Value.ref C :: bm).contains (.type B) = true := by
    rw [List.contains_cons, hT, F.hasB, Bool.or_true]
  have st := F.noStar
  unfold checkBuiltinCall
  simp only [F.newKind, F.newSplit, F.newRow]
  repeat (first
    | refine wpAny_loadPart_at hC ?_
    | (refine wpAny_isSubtype_exc hC ?_; rw [here])
    | refine wpAny_staticBase_exc hC ?_
    | refine wpAny_madeBy_exc hC ?_
    | simp only [bne_self_eq_false, Bool.false_eq_true, if_false]
    | wp_step)
  exact hq
end
section
variable {prog : Program} {w : World} {A : Around} {E : Value → Shared → Prop} {R : Result → Shared → Prop} {h : Heap} {g : Array GenState} {d : Drawn} {t : Nat} {os : OsState}
variable {nm q : Str} {C N : Addr} {bs bm bmB : List Value} {hdct : Bool} {sn : List Str} {sub : List Value} {ab : Bool} {col : Option Bool} {dd : Option Addr} {k0 k1 k2 k3 k5 : Option Value} {B newId initId : String} {kw : List (Str × Value)}
theorem kw_new (F : ExcBaseFacts B newId initId bmB) (hT : ∀ X : String, bm.contains (.type X) = bmB.contains (.type X))
    (hC : h.get? C = some (excClassObj nm q C N bs bm hdct sn sub ab col dd k0 k1 k2 k3 k5 newId))
    (hq : R (.ok (.ret (.ref (h.objs.size + 1)))) ⟨(h.push (W.kdv_tup [])).push (excO C h.objs.size), g, d, t, os⟩) :
    codeAny (model prog w) A (.builtin newId ⟨[.ref C], kw⟩) R ⟨h, g, d, t, os⟩ := by
  have fin := F.ends
  have isB : (Value.ref C :: bm).contains (.type B) = true := by
    rw [List.contains_cons, hT, F.hasB, Bool.or_true]
  have noA : (Value.ref C :: bm).contains (.type "AttributeError") = false := by
    rw [List.contains_cons, hT, F.noAttr]; rfl
  have noN : (Value.ref C :: bm).contains (.type "NameError") = false := by
    rw [List.contains_cons, hT, F.noName]; rfl
  have few : ([] : List Value).length ≤ sizeLine := Nat.zero_le _
  refine codeAny_builtinAt F.entry ?_
  unfold Builtin.«BaseException.__new__»
  refine wpAt_bind ?_
  show wpAt _ _ _ (stack >>= _) _ _ _
  refine wpAt_bind (wpAt_stack fun p below => wpAt_of_wpAny ?_)
  wp_walk
  refine wpAt_of_wpAny ?_
  rw [F.owner]
  repeat (first
    | with_reducible refine wpAny_madeHere_exc F.canon hC ?_
    | with_reducible refine wpAny_loadPart_at hC ?_
    | (with_reducible refine wpAny_isSubtype_exc hC ?_; first | rw [isB] | rw [noA] | rw [noN])
    | wp_step)
  show R _ _
  rw [Heap.size_push]
  exact hq
theorem kw_type {fI : Addr} {Q : PySem.Fin → Shared → Prop} (F : ExcBaseFacts B newId initId bmB) (hT : ∀ X : String, bm.contains (.type X) = bmB.contains (.type X))
    (hC : h.get? C = some (excClassObj nm q C N bs bm hdct sn sub ab col dd k0 k1 k2 k3 k5 newId))
    (hi : W.Looks (model prog w) h (typeLookup (.ref C) "__init__") (some (.ref fI))) (hb : ∀ self, W.Looks (model prog w) h (bindSpecial (.ref fI) self) (.ref fI, [self]))
    (hq : codeAny (model prog w) A (.call (.ref fI) ⟨[.ref (h.objs.size + 1)], kw⟩)
      (fun r s' => match r with | .ok (.ret v) => v = .none ∧ Q (.done (.ret (.ref (h.objs.size + 1)))) s' | .ok _ => False | .error e => E e s') ⟨(h.push (W.kdv_tup [])).push (excO C h.objs.size), g, d, t, os⟩) :
    wpAny (model prog w) A (Builtin.«type.__call__» ⟨[.ref C], kw⟩) Q E ⟨h, g, d, t, os⟩ := by
  repeat (first
    | with_reducible refine wpAny_loadPart_at hC ?_
    | with_reducible refine wpAny_madeBy_exc hC ?_
    | wp_step)
  refine codeAny_call_builtin_code (Code.quiet_builtin _ F.quiet) (kw_check F hT hC (kw_new F hT hC ?_))
  show wpAny _ _ _ _ _ _
  generalize hH : (h.push (W.kdv_tup [])).push (excO C h.objs.size) = G at *
  have up : ∀ b o, h.get? b = some o → G.get? b = some o := fun b o e => by
    rw [← hH]
    exact Heap.get?_push_of_some _ (Heap.get?_push_of_some _ e)
  have atC := up _ _ hC
  have made : G.get? (h.objs.size + 1) = some (excO C h.objs.size) := by
    rw [← hH]
    heap_get
  have own : (Value.ref C :: bm).contains (.ref C) = true := by simp
  unfold isInstance
  repeat (first
    | with_reducible refine wpAny_loadPart_at made ?_
    | (with_reducible refine wpAny_isSubtype_exc atC ?_; rw [own])
    | wp_step)
  show wpAny _ _ (typeLookup (.ref C) _) _ _ _
  refine (hi.keeps up).at (wpAny_holding (wpAny_bind (((hb (.ref (h.objs.size + 1))).keeps up).at ?_)))
  refine wpAny_bind (wpAny_call (codeAny_mono hq fun r s' z => ?_))
  match r, z with
  | .error e, z => exact z
  | .ok .next, z => exact z.elim
  | .ok .brk, z => exact z.elim
  | .ok .cont, z => exact z.elim
  | .ok (.ret v), z =>
    obtain ⟨rfl, z⟩ := z
    first
      | exact wpAny_pure (wpAny_pure z)
      | (wp_walk; exact z)
theorem kw_call {fI : Addr} (F : ExcBaseFacts B newId initId bmB) (hT : ∀ X : String, bm.contains (.type X) = bmB.contains (.type X))
    (hC : h.get? C = some (excClassObj nm q C N bs bm hdct sn sub ab col dd k0 k1 k2 k3 k5 newId))
    (hi : W.Looks (model prog w) h (typeLookup (.ref C) "__init__") (some (.ref fI))) (hb : ∀ self, W.Looks (model prog w) h (bindSpecial (.ref fI) self) (.ref fI, [self]))
    (hq : codeAny (model prog w) (A.under (.builtin "type.__call__" ⟨[.ref C], kw⟩)) (.call (.ref fI) ⟨[.ref (h.objs.size + 1)], kw⟩) (W.InitBack (h.objs.size + 1) R) ⟨(h.push (W.kdv_tup [])).push (excO C h.objs.size), g, d, t, os⟩) :
    codeAny (model prog w) A (.call (.ref C) ⟨[], kw⟩) R ⟨h, g, d, t, os⟩ := by
  have l1 := tc_lookup
  have l2 := tc_bind (.ref C)
  have ty : (⟨h, g, d, t, os⟩ : Shared).TypeIs (.ref C) "type" := ⟨_, hC, rfl⟩
  refine codeAny_of_tree ?_
  show wpAny _ _ (callAny (.ref C) _) _ _ _
  repeat (any_goals (first
    | assumption
    | with_reducible refine wpAny_loadPart_at hC ?_
    | wp_step))
  refine ⟨rfl, ?_⟩
  refine codeAny_call_builtin_at (Code.quiet_builtin _ (by decide +kernel)) entry_typeCall (wpAny_check_type_call_sub hC (kw_type F hT hC hi hb ?_))
  refine codeAny_mono hq fun r s' z => ?_
  match r, z with
  | .error e, z => exact z
  | .ok .next, z => exact z
  | .ok .brk, z => exact z
  | .ok .cont, z => exact z
  | .ok (.ret v), z => exact z
end
end GD
set_option Elab.async false
set_option linter.all false
set_option maxRecDepth 100000
set_option maxHeartbeats 4000000
namespace W7
open PySem PySem.Spec PyProof.Rows L2
theorem vals_rev : ∀ {vs : List V} {us : List Value}, Vals vs us → Vals vs.reverse us.reverse
  | _, _, .nil => .nil
  | _, _, .cons h t => by
    rw [List.reverse_cons, List.reverse_cons]
    exact (vals_rev t).append (.cons h .nil)
section
variable {K : PySem.W.Frag} {x qual : Str} {params : Arguments} {body : List Stmt} {scope : Scope} {kws : List (Str × V)} {f : Addr} {fd : FuncData} {ps : List Str}
/-- all arguments by name, in the order behind -/
theorem _root_.L2.FunD.kbindsR (F : FunD K x qual params body scope [] kws f fd) (ks : List Str)
    (h : ∀ (kV doc pm : Value) (an : Option Addr) (cdv ct : Value) (ws : List Value), ws.length = ks.length → bindArgs (PySem.W.fnOf x qual params body scope .none kV doc pm an cdv ct) ⟨[], ks.zip ws⟩ = pure (ps.zip ws.reverse)) : KBn K fd ps 0 ks (fun _ ws => ws.reverse) (fun _ zs => zs.reverse) := by
  obtain ⟨oc, od, dV, kV, doc, pm, an, cdv, ct, osl, rfl, lk, hcd, hD, hK⟩ := F.ex
  rcases hD with ⟨_, rfl⟩ | ⟨e, _⟩
  · refine ⟨fun s us ws X l1 l2 => ?_, fun _ rz => vals_rev rz⟩
    have e : us = [] := List.length_eq_zero_iff.mp l1
    subst e
    exact .of_eq (h kV doc pm an cdv ct ws l2)
  · exact absurd rfl e
end
section
variable {X : Cx} {CX : CXT} {k n : Nat} {f : Addr} {fd : FuncData} {ps ks : List Str} {sp : Sp} {E : XK} {x : Str} {p pos : Pos} {kws : List Keyword} {tk : TA} {g : List Value → List Value → List Value} {gV : List V → List V → List V}
/-- f(k = v, ..) -/
theorem pe_callKO (F : FnOk X.prog X.w X.K X.mg X.base CX k f fd ps sp) (hr : Room k X.A) (hg : Gl X x) (hm : X.mg x = some (.ref f)) (hk : PySem.W.keepIn X.K (.ref f) = true) (hb : KBn X.K fd ps 0 ks g gV) (hx : Passes CX X E)
    (hkw : PK X kws tk) (hall : (backToKw pos (keywordEach kws X.env)).all (·.1.isSome) = true := by rfl) (hks : (backToKw pos (keywordEach kws X.env)).filterMap (·.1) = ks := by rfl)
    (hdb : (x == ("__debug__" : Str)) = false := by decide)
    (hpl : ((backTo pos (starEach [] X.env)).any (·.1) || (backToKw pos (keywordEach kws X.env)).any (·.1.isNone)) = false := by rfl) :
    PE X (.Call (.Name x p) [] kws pos) (tCallN 0 ks.length sp gV E tNil tk) := by
  refine ⟨fun pins s σ H Q I h => ?_⟩
  refine wpAny_Call_Name_kw (ld_glob I hg hm ?_ hdb)
  refine PySem.W.callWith_KW0 (h₀ := X.base) I.ok.mod.kin hk hall ?_ hpl
  refine thn (hkw.run pos pins s σ H _ I h) fun ws s2 ⟨zs, H2, I2, rz, l1, l2, q2⟩ => ⟨I2.kIn, ?_⟩
  rw [hks]
  exact run_fnN (us := []) (vs := []) F hr hb hx I2 .nil rz l1 l2 q2
end
end W7
set_option Elab.async false
set_option linter.all false
set_option maxRecDepth 100000
set_option maxHeartbeats 4000000
namespace GD
open PySem PySem.Spec PyProof.Rows L2
/-- self, then all by name -/
theorem kself {K : PySem.W.Frag} {x qual : Str} {params : Arguments} {body : List Stmt} {scope : Scope} {kws : List (Str × V)} {f : Addr} {fd : FuncData} {ps : List Str} (F : FunD K x qual params body scope [] kws f fd) (ks : List Str)
    (h : ∀ (kV doc pm : Value) (an : Option Addr) (cdv ct : Value) (u : Value) (ws : List Value), ws.length = ks.length → bindArgs (PySem.W.fnOf x qual params body scope .none kV doc pm an cdv ct) ⟨[u], ks.zip ws⟩ = pure (ps.zip (u :: ws.reverse))) : KBn K fd ps 1 ks (fun us ws => us ++ ws.reverse) (fun vs zs => vs ++ zs.reverse) := by
  obtain ⟨oc, od, dV, kV, doc, pm, an, cdv, ct, osl, rfl, lk, hcd, hD, hK⟩ := F.ex
  rcases hD with ⟨_, rfl⟩ | ⟨e, _⟩
  · refine ⟨fun s us ws X l1 l2 => ?_, fun r rz => r.append (W7.vals_rev rz)⟩
    match us, l1 with
    | [u], _ => exact .of_eq (h kV doc pm an cdv ct u ws l2)
  · exact absurd rfl e
/-- C(k = v, ..): an error of the program, held as a value -/
def tMkHK (C : Addr) (m : Nat) (sp : Sp) (gV : List V → List V → List V) (tk : TA) : TE := fun σ H Q => tk σ H fun zs H1 => zs.length = m ∧ ∀ a, H1 a = none → sp (gV [.ref a] zs) (upd H1 a (exo a C none)) (fun v H2 => v = .non ∧ Q (.ref a) H2) (fun _ _ _ => False)
theorem pe_mkEK {X : Cx} {CX : CXT} {kws : List Keyword} {tk : TA} {p pos : Pos} {x : Str} {C fI : Addr} {k : Nat} {fd : FuncData} {ps ks : List Str} {sp : Sp} {g : List Value → List Value → List Value} {gV : List V → List V → List V} (T : AE.AeC X.K C)
    (iC : PySem.W.findIn X.K (.ref C) "__init__" = some (some (.ref fI))) (tI : PySem.W.typeIn X.K (.ref fI) = some (.type "function")) (F1 : FnOk X.prog X.w X.K X.mg X.base CX k fI fd ps sp)
    (hr : Room (k + 1) X.A) (hb : KBn X.K fd ps 1 ks g gV) (hx : Passes CX X (fun _ _ _ => False)) (hg : Gl X x) (hm : X.mg x = some (.ref C)) (hkw : PK X kws tk) (hall : (backToKw pos (keywordEach kws X.env)).all (·.1.isSome) = true := by rfl)
    (hks : (backToKw pos (keywordEach kws X.env)).filterMap (·.1) = ks := by rfl) (hdb : (x == ("__debug__" : Str)) = false := by decide) (hpl : ((backTo pos (starEach [] X.env)).any (·.1) || (backToKw pos (keywordEach kws X.env)).any (·.1.isNone)) = false := by rfl) :
    PE X (.Call (.Name x p) [] kws pos) (tMkHK C ks.length sp gV tk) := by
  refine ⟨fun pins s σ H Q I h => wpAny_Call_Name_kw (ld_glob I hg hm ?_ hdb)⟩
  refine PySem.W.callWith_KW0 (h₀ := X.base) I.ok.mod.kin T.kC hall ?_ hpl
  refine thn (hkw.run pos pins s σ H _ I h) fun ws s1 ⟨zs, H1, I1, rz, lz, q1⟩ => ⟨I1.kIn, ?_⟩
  rw [hks]
  show wpAny _ _ (call (.ref C) [] (ks.zip ws)) _ _ _
  obtain ⟨hp, gg, dr, tk2, os⟩ := s1
  obtain ⟨nm, N, qn, bs, bm, hd, sn, sub, ab, col, dd, k0, k1, k2, k3, k5, hC, hbm⟩ := PySem.W.excInit_of I1.kIn T.cls
  generalize hG : (hp.push (PySem.W.kdv_tup [])).push (PySem.HandSPX.excO C hp.objs.size) = G
  have new : hp.objs.size ≤ hp.objs.size + 1 := Nat.le_succ _
  have keep : ∀ b o, hp.get? b = some o → G.get? b = some o := fun b o q => by
    rw [← hG]
    exact Heap.get?_push_of_some _ (Heap.get?_push_of_some _ q)
  have there : G.get? (hp.objs.size + 1) = some (PySem.HandSPX.excO C hp.objs.size) := by
    rw [← hG]
    heap_get
  have I2 : Inv X pins σ (upd H1 (hp.objs.size + 1) (exo (hp.objs.size + 1) C none)) ⟨G, gg, dr, tk2, os⟩ := I1.laid (t' := tk2) (a := hp.objs.size + 1) keep new (exo_ok there)
  have hq := q1 (hp.objs.size + 1) (I1.hok.fresh new)
  have r1 : Vals [V.ref (hp.objs.size + 1)] [Value.ref (hp.objs.size + 1)] := .cons rfl .nil
  have lw : ws.length = ks.length := rz.length.symm.trans lz
  have run := F1.run _ X.stack _ _ ⟨[.ref (hp.objs.size + 1)], ks.zip ws⟩ (g [.ref (hp.objs.size + 1)] ws) _ _ (fun _ _ _ => False) (hr.make C [] (ks.zip ws)) (I2.env0.make C [] (ks.zip ws)) (hb.to _ [.ref (hp.objs.size + 1)] ws I2.kIn rfl lw) (hb.rel r1 rz) hq
  refine wpAny_call (kw_call F.excBase_ArithmeticError hbm hC (PySem.W.looks_findIn I1.kIn iC) (fun self => PySem.W.bind_fn I1.kIn self tI) ?_)
  rw [hG]
  refine codeAny_mono run fun r s' z => ?_
  match r, z with
  | .error er, z => exact hx pins σ _ _ er s' I2 z
  | .ok (.ret v), z =>
    obtain ⟨y, H2, I3, rv, ey, q2⟩ := I2.after z
    subst ey
    exact ⟨rv, .ref (hp.objs.size + 1), H2, I3, rfl, q2⟩
  | .ok .next, z => exact z.elim
  | .ok .brk, z => exact z.elim
  | .ok .cont, z => exact z.elim
section
variable {X : Cx} {CX : CXT} {k : Nat} {f C : Addr} {fd : FuncData} {ps ks : List Str} {sp : Sp} {E : XK} {x : Str} {p pos : Pos} {kws : List Keyword} {tk : TA} {g : List Value → List Value → List Value} {gV : List V → List V → List V}
/-- C(k = v, ..): a new instance of an own class -/
theorem pe_makeKO (M : Mk X.K C f) (F : FnOk X.prog X.w X.K X.mg X.base CX k f fd ps sp) (hr : Room (k + 1) X.A) (hg : Gl X x) (hm : X.mg x = some (.ref C)) (hb : KBn X.K fd ps (0 + 1) ks g gV) (hx : Passes CX X E)
    (hkw : PK X kws tk) (hall : (backToKw pos (keywordEach kws X.env)).all (·.1.isSome) = true := by rfl) (hks : (backToKw pos (keywordEach kws X.env)).filterMap (·.1) = ks := by rfl) (hdb : (x == ("__debug__" : Str)) = false := by decide)
    (hpl : ((backTo pos (starEach [] X.env)).any (·.1) || (backToKw pos (keywordEach kws X.env)).any (·.1.isNone)) = false := by rfl) : PE X (.Call (.Name x p) [] kws pos) (tMakeN C 0 ks.length sp gV E tNil tk) := by
  refine ⟨fun pins s σ H Q I h => wpAny_Call_Name_kw (ld_glob I hg hm ?_ hdb)⟩
  refine PySem.W.callWith_KW0 (h₀ := X.base) I.ok.mod.kin M.kp hall ?_ hpl
  refine thn (hkw.run pos pins s σ H _ I h) fun ws s2 ⟨zs, H2, I2, rz, l1, l2, q2⟩ => ⟨I2.kIn, ?_⟩
  rw [hks]
  exact run_makeN (us := []) (vs := []) M F hr hb hx I2 .nil rz l1 l2 q2
end
end GD
set_option Elab.async false
set_option linter.all false
set_option maxRecDepth 100000
set_option maxHeartbeats 4000000
namespace GD
open PySem PySem.W PySem.Calls
section
variable {prog : Program} {w : World} {A : Around} {E : Value → Shared → Prop} {s : Shared} {K : Frag} {x C f : Addr} {ox : Obj} {od : Option Obj} {b tb : Value}
/-- object.__ne__ of an instance whose class has its own __eq__ -/
theorem ne_tree {Q : PySem.Fin → Shared → Prop} (hu : A.units < cLine) (X : K.In s.heap) (I : InstAt s.heap x ox C od) (heq : findIn K (.ref C) "__eq__" = some (some (.ref f))) (hf : isFn K (.ref f) = true)
    (h : wpAny (model prog w) A (call (.ref f) [.ref x, b]) (fun v s' => ∃ r, v = .bool r ∧ Q (.done (.ret (.bool (!r)))) s') E s) : wpAny (model prog w) A (Builtin.«object.__ne__» ⟨[.ref x, b], []⟩) Q E s := by
  unfold Builtin.«object.__ne__»
  obtain ⟨hp, g, d, t, os⟩ := s
  repeat (first
    | with_reducible refine wpAny_cRoomFor hu ?_
    | (refine wpAny_bind (m := callSpecialIfBound? (.ref x) (Str.ofString "__eq__") [b]) (ifBound_K X I heq hf (wpAny_mono h (fun v s' z => ?_) fun _ _ e => e)))
    | wp_step)
  obtain ⟨r, rfl, q⟩ := z
  repeat (first
    | exact q
    | exact wpAny_pure q
    | exact wpAny_truthy_bool q
    | (refine wpAny_bind (m := truthy (.bool _)) (wpAny_truthy_bool ?_))
    | wp_step)
end
end GD
set_option Elab.async false
set_option linter.all false
set_option maxRecDepth 100000
set_option maxHeartbeats 4000000
namespace GD
open PySem PySem.W PySem.Calls
section
variable {prog : Program} {w : World} {A : Around} {E : Value → Shared → Prop} {s : Shared} {K : Frag} {x y C f : Addr} {ox oy : Obj} {od : Option Obj}
theorem ne_try {Q : Option Value → Shared → Prop} (hu : A.units + 1 < cLine) (X : K.In s.heap) (I : InstAt s.heap x ox C od) (hne : findIn K (.ref C) "__ne__" = some (some (.builtin "object.__ne__"))) (hsub : subIn K (.ref C) (.type "object") = some true)
    (heq : findIn K (.ref C) "__eq__" = some (some (.ref f))) (hf : isFn K (.ref f) = true)
    (h : wpAny (model prog w) A.in1 (call (.ref f) [.ref x, .ref y]) (fun v s' => ∃ r, v = .bool r ∧ Q (some (.bool (!r))) s') E s) : wpAny (model prog w) A (tryCompare (.ref x) "__ne__" (.ref y)) Q E s := by
  have S := F.cmp_object.ne
  simp only [tryCompare, callSpecialIfBound?, bindSpecialIfBound?]
  have go : wpAny (model prog w) A (call (.builtin "object.__ne__") [.ref x, .ref y]) (fun v s' => ∃ r, v = .bool r ∧ Q (some v) s') E s := by
    refine wpAny_call (codeAny_call_builtin S.plain F.cmpEntry_ne (check_slot F.cmpKind_ne F.cmpSplit_ne (I.type.andThen (looks_subIn X hsub)) (F.cmpArgs_ne _ _) ?_))
    refine ne_tree (A := A.in1) hu X I heq hf (wpAny_mono h (fun v s' z => ?_) fun _ _ e => e)
    obtain ⟨r, rfl, q⟩ := z
    exact ⟨r, rfl, _, rfl, q⟩
  refine wpAny_bind (wpAny_holding (wpAny_bind (wpAny_bind (wpAny_bind (I.type.here ((looks_findIn X hne).here ?_))))))
  simp only [S.bind]
  refine wpAny_bind (wpAny_askSetting (wpAny_ite ?_))
  have fin : wpAny (model prog w) A (call (.builtin "object.__ne__") ([.ref x] ++ [.ref y]) >>= fun v => pure (some v)) (fun v s' => ∃ r, v = some (.bool r) ∧ Q (some (.bool r)) s') E s :=
    wpAny_bind (wpAny_mono go (fun v s' z => by
      obtain ⟨r, rfl, q⟩ := z
      exact wpAny_pure ⟨r, rfl, q⟩) fun _ _ e => e)
  split
  · exact wpAny_bind (wpAny_pure (wpAny_pure (wpAny_mono fin (fun v s' z => by
      obtain ⟨r, rfl, q⟩ := z
      exact wpAny_pure q) fun _ _ e => e)))
  · exact wpAny_tryCatch (wpAny_bind (wpAny_pure (wpAny_pure (wpAny_mono fin (fun v s' z => by
      obtain ⟨r, rfl, q⟩ := z
      exact wpAny_pure q) fun _ _ e => e))))
theorem ne_rich {Q : Value → Shared → Prop} (hu : A.units + 1 < cLine) (X : K.In s.heap) (I : InstAt s.heap x ox C od) (hy : s.heap.get? y = some oy) (hyc : oy.cls = .ref C) (hne : findIn K (.ref C) "__ne__" = some (some (.builtin "object.__ne__"))) (hsub : subIn K (.ref C) (.type "object") = some true)
    (heq : findIn K (.ref C) "__eq__" = some (some (.ref f))) (hf : isFn K (.ref f) = true)
    (h : wpAny (model prog w) A.in1 (call (.ref f) [.ref x, .ref y]) (fun v s' => ∃ r, v = .bool r ∧ Q (.bool (!r)) s') E s) : wpAny (model prog w) A (richCompare .NotEq (.ref x) (.ref y)) Q E s := by
  unfold richCompare
  simp only [oneThing_ref]
  refine wpAny_holding (wpAny_bind (wpAny_cRoomFor (Nat.lt_of_succ_lt hu) ?_))
  rw [cmpInfo_NotEq]
  dsimp only
  refine wpAny_bind (I.type.here ?_)
  obtain ⟨hp, g, d, t, os⟩ := s
  refine wpAny_bind (wpAny_typeOf_ref hy ?_)
  rw [hyc]
  rw [show (Value.ref C != Value.ref C) = false from by simp]
  simp only [Bool.false_eq_true, if_false]
  refine wpAny_bind (wpAny_pure ?_)
  simp only [Bool.false_eq_true, if_false]
  refine wpAny_bind (ne_try hu X I hne hsub heq hf (wpAny_mono h (fun v s' hv => ?_) fun _ _ e => e))
  obtain ⟨b, rfl, hq⟩ := hv
  first | exact ⟨b, rfl, wpAny_pure hq⟩ | exact ⟨b, rfl, wpAny_pure (wpAny_pure hq)⟩
end
end GD
set_option Elab.async false
set_option linter.all false
set_option maxRecDepth 100000
set_option maxHeartbeats 4000000
namespace GD
open PySem PySem.Spec PyProof.Rows L2
section
variable {X : Cx} {CX : CXT} {n : Nat} {C f : Addr} {fd : FuncData} {ps : List Str} {sp : Sp} {E : XK}
/-- x == y, x != y of two instances of a class with its own __eq__, whatever it answers -/
def rOwnEq (C : Addr) (sp : Sp) (E : XK) (g : Bool → Bool) : R2 := fun x y H Q => ∃ a b dx dy fs gs, x = .ref a ∧ y = .ref b ∧ H a = some (.ins C dx fs) ∧ H b = some (.ins C dy gs) ∧ sp [.ref a, .ref b] H (fun v H' => ∃ r, v = .bl r ∧ Q (.bl (g r)) H') E
theorem own_run (F : FnOk X.prog X.w X.K X.mg X.base CX n f fd ps sp) (hb : Binds X.K fd ps []) (hx : Passes CX X E) {A : Around} (sb : Sub X n A) {pins : List (Addr × Obj)} {σ : L2.St} {H : Hp} {s : Shared} (I : Inv X pins σ H s) {a b : Addr} {Q : VK} (h : sp [.ref a, .ref b] H Q E) :
    wpAny (model X.prog X.w) A (call (.ref f) [.ref a, .ref b]) (EP X pins σ Q) X.xe s := by
  have e0 : Env0 X.prog X.w X.K X.mg X.base A X.stack s H := by
    have e := I.env0
    exact ⟨by rw [sb.fr]; exact e.frames, e.mod, e.bs, e.bsz, e.funs, e.frf, e.hok, e.bare⟩
  have hl := F.len _ _ _ _ h
  have r2 : Vals [V.ref a, V.ref b] [Value.ref a, Value.ref b] := .cons rfl (.cons rfl .nil)
  refine wpAny_call (codeAny_mono (F.run A X.stack s H ⟨[.ref a, .ref b], []⟩ [.ref a, .ref b] [.ref a, .ref b] _ E sb.room e0 (by
    have := hb s [.ref a, .ref b] I.kIn (by simpa using hl)
    simpa using this) r2 h) fun r s' hq => ?_)
  match r, hq with
  | .error e, hq => exact hx pins σ H s e s' I hq
  | .ok (.ret u), hq => exact I.after hq
  | .ok .next, hq => exact False.elim hq
  | .ok .brk, hq => exact False.elim hq
  | .ok .cont, hq => exact False.elim hq
theorem op_eqI (F : FnOk X.prog X.w X.K X.mg X.base CX n f fd ps sp) (hs : PySem.W.findIn X.K (.ref C) "__eq__" = some (some (.ref f))) (hf : PySem.W.isFn X.K (.ref f) = true) (hb : Binds X.K fd ps []) (hx : Passes CX X E) (hr : Room n X.A) : OpR X (compareOp .Eq) (rOwnEq C sp E id) := by
  intro pins s σ H x y v u Q I rx ry h
  obtain ⟨a, b, dx, dy, fs, gs, rfl, rfl, ha, hb', h⟩ := h
  cases rx
  cases ry
  obtain ⟨mA, J, _⟩ := ins_get I.hok ha
  obtain ⟨mB, J', _⟩ := ins_get I.hok hb'
  obtain ⟨od, J, _⟩ := J.look
  obtain ⟨od', J', _⟩ := J'.look
  obtain ⟨m, hF⟩ := I.fr
  show wpAny (model X.prog X.w) X.A (richCompare .Eq (.ref a) (.ref b)) (EP X pins σ Q) X.xe s
  refine PySem.W.cmp_K (op := .Eq) (tb := .ref C) hr.units0 hF I.ok.mod.kin J J'.type (by simp [PySem.W.notFirst]) hs hf ?_
  refine wpAny_mono (own_run F hb hx ⟨hr, rfl⟩ I h) (fun w s' z => ?_) fun _ _ e => e
  obtain ⟨x, H2, I2, rv, r, rfl, q⟩ := z
  cases rv
  exact ⟨.bl r, H2, I2, rfl, q⟩
theorem op_neI (F : FnOk X.prog X.w X.K X.mg X.base CX n f fd ps sp) (hs : PySem.W.findIn X.K (.ref C) "__eq__" = some (some (.ref f))) (hne : PySem.W.findIn X.K (.ref C) "__ne__" = some (some (.builtin "object.__ne__"))) (hsub : PySem.W.subIn X.K (.ref C) (.type "object") = some true) (hf : PySem.W.isFn X.K (.ref f) = true) (hb : Binds X.K fd ps []) (hx : Passes CX X E) (hr : Room (n + 1) X.A) : OpR X (compareOp .NotEq) (rOwnEq C sp E not) := by
  intro pins s σ H x y v u Q I rx ry h
  obtain ⟨a, b, dx, dy, fs, gs, rfl, rfl, ha, hb', h⟩ := h
  cases rx
  cases ry
  obtain ⟨mA, J, _⟩ := ins_get I.hok ha
  obtain ⟨mB, J', _⟩ := ins_get I.hok hb'
  obtain ⟨od, J, _⟩ := J.look
  obtain ⟨od', J', _⟩ := J'.look
  show wpAny (model X.prog X.w) X.A (richCompare .NotEq (.ref a) (.ref b)) (EP X pins σ Q) X.xe s
  refine ne_rich hr.in1.units0 I.kIn J J'.at_ J'.cls hne hsub hs hf ?_
  have sb : Sub X n X.A.in1 := Sub.in1 ⟨hr, rfl⟩
  refine wpAny_mono (own_run F hb hx sb I h) (fun w s' z => ?_) fun _ _ e => e
  obtain ⟨x, H2, I2, rv, r, rfl, q⟩ := z
  cases rv
  exact ⟨r, rfl, .bl (!r), H2, I2, rfl, q⟩
end
end GD
set_option Elab.async false
set_option linter.all false
set_option maxRecDepth 100000
set_option maxHeartbeats 4000000
namespace W7
open PySem PySem.Spec PyProof.Rows L2 RZ
section
variable {P : Program} {w : World} {K : PySem.W.Frag} {mg : Str → Option Value} {base : Heap}

theorem call_isiK {X : Cx} {K : PySem.W.Frag} (hk : X.K = K) : CallR X (.builtin "isinstance") (rIsi K) := by
  subst hk
  exact call_isi
theorem call_list_ofK {X : Cx} {K : PySem.W.Frag} (hk : X.K = K) : CallR X (.type "list") (fun xs H Q => ∃ p ys, xs = [.ref p] ∧ (SqL K H p ys ∨ SqT K H p ys) ∧ ∀ l, H l = none → Q (.ref l) (upd H l (.lst ys))) := by
  subst hk
  exact call_list_of
/-! ### what a source tells of itself -/
/-- tuples stay, and the lists of which Z speaks -/
def KeepZ (Z : Addr → Prop) (H H' : Hp) : Prop := (∀ b xs, H b = some (.tup xs) → H' b = some (.tup xs)) ∧ ∀ b xs, Z b → H b = some (.lst xs) → H' b = some (.lst xs)
theorem KeepZ.of {Z : Addr → Prop} {H H' : Hp} (e : Same H H') : KeepZ Z H H' := ⟨fun b xs h => e _ _ h, fun b xs _ h => e _ _ h⟩
theorem KeepZ.but {H H' : Hp} {D : Addr} {xs : List V} (hD : H D = some (.lst xs)) (b : But D H H') : KeepZ (· ≠ D) H H' := ⟨fun c ys h => b _ _ h (ne_of h hD (by intro z; cases z)), fun c ys n h => b _ _ h n⟩
theorem PairsG.keepZ {Z : Addr → Prop} {H H' : Hp} {ps : List Addr} {qs : List (Str × Str)} (h : PairsG H ps qs) (k : KeepZ Z H H') : PairsG H' ps qs := ⟨h.len, fun i p x a b => k.1 _ _ (h.at_ i p x a b)⟩
def RowT (Z : Addr → Prop) (H : Hp) (a : Addr) (r : Rx) : Prop := ∃ l : Addr, H a = some (.tup (.str r.word :: r.parts (.ref l))) ∧ ∀ bs, r.args = some bs → Z l ∧ H l = some (.lst (bs.map V.str))
theorem RowT.to {Z Y : Addr → Prop} {H H' : Hp} {a : Addr} {r : Rx} (h : RowT Z H a r) (f : ∀ b, Z b → Y b) (k : KeepZ Z H H') : RowT Y H' a r := by
  obtain ⟨l, h1, h2⟩ := h
  exact ⟨l, k.1 _ _ h1, fun bs e => ⟨f _ (h2 bs e).1, k.2 _ _ (h2 bs e).1 (h2 bs e).2⟩⟩
structure RowsT (Z : Addr → Prop) (H : Hp) (rs : List Addr) (rws : List Rx) : Prop where
  len : rs.length = rws.length
  at_ : ∀ (i : Nat) a r, rs[i]? = some a → rws[i]? = some r → RowT Z H a r
theorem RowsT.to {Z Y : Addr → Prop} {H H' : Hp} {rs : List Addr} {rws : List Rx} (h : RowsT Z H rs rws) (f : ∀ b, Z b → Y b) (k : KeepZ Z H H') : RowsT Y H' rs rws := ⟨h.len, fun i a r x y => (h.at_ i a r x y).to f k⟩
def EntryT (Z : Addr → Prop) (H : Hp) (e : Addr) (f : FdT) : Prop := ∃ (pa oa ra : Addr) (ps qs rs : List Addr), H e = some (.tup [.str f.nm, .ref pa, .ref oa, .str f.res, .ref ra]) ∧ (Z pa ∧ Z oa ∧ Z ra) ∧ H pa = some (.lst (ps.map V.ref)) ∧ PairsG H ps f.ns ∧ H oa = some (.lst (qs.map V.ref)) ∧ PairsG H qs f.ms ∧ H ra = some (.lst (rs.map V.ref)) ∧ RowsT Z H rs f.rws
theorem EntryT.to {Z Y : Addr → Prop} {H H' : Hp} {e : Addr} {f : FdT} (h : EntryT Z H e f) (g : ∀ b, Z b → Y b) (k : KeepZ Z H H') : EntryT Y H' e f := by
  obtain ⟨pa, oa, ra, ps, qs, rs, h1, ⟨z1, z2, z3⟩, h2, h3, h4, h5, h6, h7⟩ := h
  exact ⟨pa, oa, ra, ps, qs, rs, k.1 _ _ h1, ⟨g _ z1, g _ z2, g _ z3⟩, k.2 _ _ z1 h2, h3.keepZ k, k.2 _ _ z2 h4, h5.keepZ k, k.2 _ _ z3 h6, h7.to g k⟩
def ClsZ (Z : Addr → Prop) (H : Hp) (e : Addr) (c : Str × List (Str × Str)) : Prop := ∃ (la : Addr) (ps : List Addr), H e = some (.tup [.str c.1, .ref la]) ∧ Z la ∧ H la = some (.lst (ps.map V.ref)) ∧ PairsG H ps c.2
theorem ClsZ.to {Z Y : Addr → Prop} {H H' : Hp} {e : Addr} {c : Str × List (Str × Str)} (h : ClsZ Z H e c) (g : ∀ b, Z b → Y b) (k : KeepZ Z H H') : ClsZ Y H' e c := by
  obtain ⟨la, ps, h1, z, h2, h3⟩ := h
  exact ⟨la, ps, k.1 _ _ h1, g _ z, k.2 _ _ z h2, h3.keepZ k⟩
def Tru (_ : Addr) : Prop := True
/-- a list of things, each of which R speaks -/
def LstR (α : Type) (R : Hp → Addr → α → Prop) (H : Hp) (a : Addr) (xs : List α) : Prop := ∃ es : List Addr, H a = some (.lst (es.map V.ref)) ∧ es.length = xs.length ∧ ∀ (i : Nat) e x, es[i]? = some e → xs[i]? = some x → R H e x
abbrev TCls := LstR (Str × List (Str × Str)) (ClsZ Tru)
abbrev TFns := LstR FdT (EntryT Tru)
theorem refs_of {R : Nat → Addr → Prop} : ∀ {xs : List V}, (∀ (i : Nat) v, xs[i]? = some v → ∃ e, v = .ref e ∧ R i e) → ∃ es : List Addr, xs = es.map V.ref ∧ ∀ (i : Nat) e, es[i]? = some e → R i e := by
  intro xs
  induction xs generalizing R with
  | nil => exact fun _ => ⟨[], rfl, fun i e h => by simp at h⟩
  | cons x xs ih =>
    intro h
    obtain ⟨e, rfl, r⟩ := h 0 x rfl
    obtain ⟨es, rfl, q⟩ := ih (R := fun i e => R (i + 1) e) fun i v hv => h (i + 1) v (by simpa using hv)
    refine ⟨e :: es, rfl, fun i u hu => ?_⟩
    cases i with
    | zero =>
      rw [← show e = u from Option.some.inj hu]
      exact r
    | succ i => exact q i u (by simpa using hu)
/-- a comprehension whose elements keep what R says, whatever becomes of the list itself -/
theorem lc_any {J : It} {n : Nat} {G : Hp → Prop} {Y : Nat → Hp → V → Hp → Prop} (w : Walk J n G Y) {gg : TG} {te : TE} {vs : List Nat} {σ : L2.St} {H0 : Hp} {D : Addr} {Qd : Hp → Prop} (hD : H0 D = none) (R : Nat → Hp → V → Prop) (hn : n < 100000)
    (stab : ∀ i H H' v xs, H D = some (.lst xs) → But D H H' → R i H v → R i H' v) (hG : ∀ H, Same H0 H → G H)
    (hs : ∀ i H x H' xs, i < n → Same H0 H → H D = some (.lst xs) → Y i H x H' → ∀ Qe : VK, (∀ v H4, Same H H4 → R i H4 v → Qe v H4) → gg x (wipe σ vs) H' fun σ2 H2 => wipe σ2 vs = wipe σ vs ∧ te σ2 H2 Qe)
    (hd : ∀ (H : Hp) (xs : List V), Same H0 H → xs.length = n → (∀ (i : Nat) v, xs[i]? = some v → R i H v) → H D = some (.lst xs) → Qd H) :
    ∃ W : Nat → Nat → Hp → Prop, (∃ m, W 0 m (upd H0 D (.lst []))) ∧ ∀ i m H, W i m H →
      (J.stop i H ∧ Qd H) ∨ (J.go i H ∧ ∃ Nx : Hp → Prop, (∀ H', Nx H' → ∃ m', m' < m ∧ W (i + 1) m' H') ∧ ∀ x H', J.yld i H x H' → gg x (wipe σ vs) H' fun σ2 H2 => wipe σ2 vs = wipe σ vs ∧ tYes σ2 H2 fun b H3 =>
        if b = true then te σ2 H3 fun y H4 => ∃ acc, H4 D = some (.lst acc) ∧ acc.length < sizeLine ∧ Nx (upd H4 D (.lst (acc ++ [y]))) else Nx H3) := by
  refine lc_it w (fun i H => Same H0 H ∧ ∃ xs : List V, xs.length = i ∧ (∀ (j : Nat) v, xs[j]? = some v → R j H v) ∧ H D = some (.lst xs)) ⟨Same.new hD, [], rfl, fun j v e => by simp at e, upd_same⟩ (fun i H _ p => hG H p.1) (fun i x H H' hi q y => ?_) (fun H q => ?_)
  · obtain ⟨s1, xs, hl, hx, hDD⟩ := q
    have q := hs i H x H' xs hi s1 hDD y (fun y H4 => ∃ acc, H4 D = some (.lst acc) ∧ acc.length < sizeLine ∧ (Same H0 (upd H4 D (.lst (acc ++ [y]))) ∧ ∃ xs : List V, xs.length = i + 1 ∧ (∀ (j : Nat) v, xs[j]? = some v → R j (upd H4 D (.lst (acc ++ [y]))) v) ∧ upd H4 D (.lst (acc ++ [y])) D = some (.lst xs))) (fun v H4 s4 mv => ?_)
    · exact q
    · have h4 := s4 _ _ hDD
      refine ⟨xs, h4, sz_lt (by omega), Same.mut (s1.trans s4) hD, xs ++ [v], by rw [List.length_append, hl]; rfl, fun j u e => stab j H4 _ u xs h4 But.upd ?_, upd_same⟩
      by_cases hj : j < xs.length
      · rw [List.getElem?_append_left hj] at e
        exact stab j H H4 u xs hDD (But.of s4) (hx j u e)
      · rw [List.getElem?_append_right (by omega)] at e
        have h2 := (List.getElem?_eq_some_iff.mp e).1
        simp at h2
        have ej : j = i := by omega
        have e0 : j - xs.length = 0 := by omega
        rw [e0] at e
        rw [← Option.some.inj e, ej]
        exact mv
  · obtain ⟨s1, xs, hl, hx, hDD⟩ := q
    exact hd H xs s1 hl hx hDD
/-- the part of a row as it is told -/
def PartT (H0 : Hp) (D : Addr) (r : Rx) (l : V) (i : Nat) (H : Hp) (v : V) : Prop := ((r.args.isSome && (i == 3)) = false ∧ v = (V.str r.word :: r.parts l).getD i .non) ∨ ((r.args.isSome && (i == 3)) = true ∧ ∃ q, v = .ref q ∧ q ≠ D ∧ H0 q = none ∧ H q = some (.lst (r.namesOf.map V.str)))
def spToldRow : Sp := fun vs H Q _ => ∃ (a : Addr) (r : Rx), vs = [.ref a] ∧ RowAt true H a r ∧ ∀ p H', Same H H' → RowT (fun b => H b = none) H' p r → Q (.ref p) H' 
theorem sc_told_row : FnScope ["row", "part"] ["row"] (defScope s_told_row) := ⟨rfl, rfl, rfl, by decide +kernel, rfl, by decide +kernel, by decide +kernel⟩
theorem ok_told_row (T : Ctx w K mg) : Has P w K mg base 1 "told_row" ["row"] spToldRow := by
  obtain ⟨fd, F⟩ := T.D_told_row
  refine ⟨⟨fd, F.ok sc_told_row (fun vs H Q E h => ?_) (fun cdv A outer s H vs Q E hr h => ?_), F.bindsN fun _ _ _ _ _ _ us hl => match us, hl with | [_], _ => rfl⟩, F.kp, T.g_told_row⟩
  · obtain ⟨a, r, rfl, hR, k⟩ := h; rfl
  · obtain ⟨a, r, rfl, hR, k⟩ := h
    have hu := hu_of hr
    refine ⟨_, PSs.nox (pss_one (ps_ret (pe_callTy call_tuple_of (by rfl) T.f_tuple (by decide +kernel) (pa_cons (pe_lc (own := [("part", 1)]) (g := gName 1) (tt := tYes) rfl sc_told_row.nd (pi_tup (pv 0)) (blkOk_by (N := ["row", "part"]) (sc := defScope s_told_row) (by decide +kernel)) (fun _ _ _ _ _ => (pg_name (i := 1) sc_told_row.nd rfl (Or.inl rfl))) (fun _ _ _ _ _ => pts_nil) (fun _ _ _ _ _ => (pe_ifExp (pt_val (pe_callB (call_isiK (K := K) rfl) (by rfl) T.f_isinstance (by decide +kernel) (pa_cons (pv 1) (pa_cons (pe_bltn (v := .ty "tuple") (u := .type "tuple") rfl T.f_tuple (by decide +kernel) rfl) pa_nil)))) (pe_callTy (call_list_ofK (K := K) rfl) (by rfl) T.f_list (by decide +kernel) (pa_cons (pv 1) pa_nil)) (pv 1)))) pa_nil)))), ?_⟩
    obtain ⟨l, ha, hm⟩ := hR
    refine ⟨_, rfl, a, rfl, ⟨_, SqT.of ha⟩, fun D hD => ?_⟩
    have hlp : (V.str r.word :: r.parts (.ref l)).length ≤ 4 := by cases r <;> simp [Rx.parts]
    refine lc_any (walk_tup (K := K) (a := a) (xs := V.str r.word :: r.parts (.ref l))) hD (fun i H1 v => PartT H D r (.ref l) i H1 v) (by omega) (fun i H1 H2 v xs h1 b h => ?_) (fun H2 s2 => SqT.of (s2 _ _ ha)) (fun i H2 y H3 xs hi s2 hDl hy Qe qe => ?_) (fun H2 xs s2 hl hx h2 => ?_)
    · rcases h with h | ⟨c, q, e, n, n0, h⟩
      · exact .inl h
      · exact .inr ⟨c, q, e, n, n0, b _ _ h n⟩
    · obtain ⟨rfl, hy⟩ := hy
      rcases parts_at hy with ⟨f1, c1⟩ | ⟨bs, hb, rfl, rfl⟩
      · have hy2 := (getD_of hy).symm
        cases f1 with
        | str x => exact ⟨rfl, _, rfl, _, _, _, _, false, rfl, .ty _, .base (.str x), kit_ty (by decide +kernel), false, rfl, iteF ⟨_, rfl, qe _ _ (Same.refl _) (.inl ⟨c1, hy2⟩)⟩⟩
        | int x => exact ⟨rfl, _, rfl, _, _, _, _, false, rfl, .ty _, .base (.int x), kit_ty (by decide +kernel), false, rfl, iteF ⟨_, rfl, qe _ _ (Same.refl _) (.inl ⟨c1, hy2⟩)⟩⟩
      · have q1 := hm bs hb
        rw [if_pos rfl] at q1
        have q2 := s2 _ _ q1
        refine ⟨rfl, _, rfl, _, _, _, _, true, rfl, .ty _, .base (.tup q2), kit_ty (by decide +kernel), true, rfl, iteT ⟨_, rfl, l, bs.map V.str, rfl, .inr (SqT.of q2), fun q hq => qe _ _ (Same.new hq) (.inr ⟨by rw [hb]; rfl, q, rfl, fun z => ?_, none_of s2 hq, ?_⟩)⟩⟩
        · rw [z, hDl] at hq
          cases hq
        · rw [upd_same]
          unfold Rx.namesOf
          rw [hb]
          rfl
    refine ⟨D, xs, rfl, .inl ⟨SqL.of h2, fun q hq => k q _ (s2.trans (Same.new hq)) ?_⟩⟩
    have same : ∀ (i : Nat) v, xs[i]? = some v → (r.args.isSome && (i == 3)) = false → v = (V.str r.word :: r.parts (.ref l)).getD i .non := fun i v e c => by
      rcases hx i v e with ⟨_, h⟩ | ⟨h, _⟩
      · exact h
      · rw [c] at h
        cases h
    cases e : r.args with
    | none =>
      refine ⟨l, ?_, fun bs z => by rw [e] at z; cases z⟩
      rw [upd_same]
      have ex : xs = V.str r.word :: r.parts (.ref l) := by
        apply List.ext_getElem hl
        intro i h1 h3
        have := same i xs[i] (List.getElem?_eq_getElem h1) (by rw [e]; rfl)
        rw [this, List.getD_eq_getElem?_getD, List.getElem?_eq_getElem h3]
        rfl
      rw [ex]
    | some bs =>
      cases r with
      | call x F cs =>
        obtain rfl : cs = bs := Option.some.inj e
        have h4 : xs.length = 4 := hl
        match xs, h4 with
        | [a0, a1, a2, a3], _ =>
          have e0 := same 0 a0 rfl rfl
          have e1 := same 1 a1 rfl rfl
          have e2 := same 2 a2 rfl rfl
          rcases hx 3 a3 rfl with ⟨z, _⟩ | ⟨_, q3, e3, _, n0, h3⟩
          · cases z
          · subst e0 e1 e2 e3
            exact ⟨q3, upd_same, fun bs2 z => by
              obtain rfl := Option.some.inj z
              exact ⟨n0, Same.new hq _ _ h3⟩⟩
      | _ => cases e

end
end W7
set_option Elab.async false
set_option linter.all false
set_option maxRecDepth 100000
set_option maxHeartbeats 4000000
namespace W7
open PySem PySem.Spec PyProof.Rows L2 RZ
section
variable {P : Program} {w : World} {K : PySem.W.Frag} {mg : Str → Option Value} {base : Heap}

theorem KeepZ.butZ {Z : Addr → Prop} {H H' : Hp} {D : Addr} {xs : List V} (hD : H D = some (.lst xs)) (hz : ∀ b, Z b → b ≠ D) (b : But D H H') : KeepZ Z H H' := ⟨fun c ys h => b _ _ h (ne_of h hD (by intro z; cases z)), fun c ys n h => b _ _ h (hz _ n)⟩
theorem KeepZ.free {Z : Addr → Prop} {H : Hp} {d : Addr} {od : Obj} {u u2 : HO} (hd : H d = some (.frz od u)) : KeepZ Z H (upd H d u2) := ⟨fun c ys h => by rw [upd_ne (ne_of h hd (by intro z; cases z))]; exact h, fun c ys n h => by rw [upd_ne (ne_of h hd (by intro z; cases z))]; exact h⟩
theorem Same.locked {H H2 : Hp} {d : Addr} {od : Obj} {u : HO} (hd : H d = some u) (s : Same (upd H d (.frz od u)) H2) : Same H (upd H2 d u) := fun b v e => by
  by_cases z : b = d
  · rw [z, hd] at e
    rw [z, upd_same]
    exact e
  · rw [upd_ne z]
    exact s _ _ (by rw [upd_ne z]; exact e)
theorem csM_get {cl : List (Str × List (Str × Str))} {qs : List Addr} {i : Nat} {k : Key} {v : V} (h : (csM cl qs)[i]? = some (k, v)) : ∃ c q, cl[i]? = some c ∧ qs[i]? = some q ∧ k = Sum.inr c.1 ∧ v = .ref q := by
  unfold csM at h
  rw [List.getElem?_map] at h
  cases e : (cl.zip qs)[i]? with
  | none => rw [e] at h; cases h
  | some z =>
    rw [e] at h
    have h2 := Option.some.inj h
    obtain ⟨h3, h4⟩ := List.getElem?_zip_eq_some.mp e
    exact ⟨z.1, z.2, h3, h4, (Prod.mk.inj h2).1.symm, (Prod.mk.inj h2).2.symm⟩
theorem usOf_get {fds : List FdT} {qs : List Addr} {i : Nat} {k : Key} {v : V} (h : (usOf fds qs)[i]? = some (k, v)) : ∃ f q, fds[i]? = some f ∧ qs[i]? = some q ∧ k = Sum.inr f.nm ∧ v = .ref q := by
  unfold usOf at h
  rw [List.getElem?_map] at h
  cases e : (fds.zip qs)[i]? with
  | none => rw [e] at h; cases h
  | some z =>
    rw [e] at h
    have h2 := Option.some.inj h
    obtain ⟨h3, h4⟩ := List.getElem?_zip_eq_some.mp e
    exact ⟨z.1, z.2, h3, h4, (Prod.mk.inj h2).1.symm, (Prod.mk.inj h2).2.symm⟩
/-- a function, all but its variables -/
structure FunV (K : PySem.W.Frag) (H : Hp) (p dx pa va ba : Addr) (fs : List (Str × V)) (ps rs : List Addr) (f : FdT) : Prop where
  ob : H p = some (.ins (He.ga K "Function") dx fs)
  f1 : fs.lookup ("params" : Str) = some (.ref pa)
  f2 : fs.lookup ("result" : Str) = some (.str f.res)
  f4 : fs.lookup ("body" : Str) = some (.ref ba)
  d1 : TupP H pa (ps.map V.ref)
  pr : PairsG H ps f.ns
  tb : TupP H ba (rs.map V.ref)
  kr : KeptRows H rs f.rws
  ot : OthG H fs f.nm f.ms
theorem FunB.v {H : Hp} {p dx pa va ba : Addr} {fs : List (Str × V)} {ps rs : List Addr} {f : FdT} (h : FunB K H p dx pa va ba fs ps rs f) : FunV K H p dx pa va ba fs ps rs f := ⟨h.ob, h.f1, h.f2, h.f4, h.d1, h.pr, h.tb, h.kr, h.ot⟩
theorem FunV.mono {H H' : Hp} {p dx pa va ba : Addr} {fs : List (Str × V)} {ps rs : List Addr} {f : FdT} (h : FunV K H p dx pa va ba fs ps rs f) (e : Same H H') : FunV K H' p dx pa va ba fs ps rs f :=
  ⟨e _ _ h.ob, h.f1, h.f2, h.f4, h.d1.mono e, h.pr.mono e, h.tb.mono e, h.kr.mono e, h.ot.keepN (.of e)⟩
theorem FunV.lock {H : Hp} {p dx pa va ba d : Addr} {od : Obj} {kvs : List (Key × V)} {fs : List (Str × V)} {ps rs : List Addr} {f : FdT} (h : FunV K H p dx pa va ba fs ps rs f) (hd : H d = some (.dK kvs)) : FunV K (upd H d (.frz od (.dK kvs))) p dx pa va ba fs ps rs f := by
  have kN : KeepN H (upd H d (.frz od (.dK kvs))) := fun b u e n => by
    rw [upd_ne (fun z => n (.inl ⟨kvs, by rw [z, hd] at e; exact (Option.some.inj e).symm⟩))]
    exact e
  refine ⟨by rw [upd_ne (ne_of h.ob hd (by intro z; cases z))]; exact h.ob, h.f1, h.f2, h.f4, h.d1.keepN kN, h.pr.keepN kN, h.tb.keepN kN, ⟨h.kr.len, fun i a r x y => ?_⟩, h.ot.keepN kN⟩
  obtain ⟨l, h1, h2⟩ := h.kr.at_ i a r x y
  refine ⟨l, kN _ _ h1 loose_tup, fun bs q => ?_⟩
  have z := h2 bs q
  rw [if_pos rfl] at z ⊢
  exact kN _ _ z loose_tup
def spToldFn (K : PySem.W.Frag) : Sp := fun vs H Q _ => ∃ (a dx pa va ba : Addr) (fs : List (Str × V)) (ps rs : List Addr) (f : FdT), vs = [.ref a] ∧ FunV K H a dx pa va ba fs ps rs f ∧ f.rws.length ≤ 100 ∧ ∀ e H', Same H H' → EntryT (fun b => H b = none) H' e f → Q (.ref e) H'
/-- what is asked of a source that tells of itself -/
structure TellS (cl : ClsT) (fds : List FdT) : Prop where
  nc : (cl.map Prod.fst).Nodup
  nf : (fds.map FdT.nm).Nodup
  lc : cl.length ≤ 6
  lf : fds.length ≤ 6
  lr : ∀ f ∈ fds, f.rws.length ≤ 40
def spClasses (K : PySem.W.Frag) : Sp := fun vs H Q _ => ∃ (p : Addr) (cl : ClsT) (fds : List FdT), vs = [.ref p] ∧ SrcX K H p cl fds ∧ TellS cl fds ∧ ∀ a H', Same H H' → TCls H' a cl → Q (.ref a) H'
def spFunctions (K : PySem.W.Frag) : Sp := fun vs H Q _ => ∃ (p : Addr) (cl : ClsT) (fds : List FdT), vs = [.ref p] ∧ SrcX K H p cl fds ∧ TellS cl fds ∧ ∀ a H', Same H H' → H a = none → LstR FdT (EntryT (fun b => H b = none)) H' a fds → Q (.ref a) H' 
theorem sc_told_function : FnScope ["function", "rows", "row"] ["function"] (defScope s_told_function) := ⟨rfl, rfl, rfl, by decide +kernel, rfl, by decide +kernel, by decide +kernel⟩
theorem ok_told_function (T : Ctx w K mg) (H_told_row : Has P w K mg base 1 "told_row" ["row"] spToldRow) : Has P w K mg base 2 "_told_function" ["function"] (spToldFn K) := by
  obtain ⟨fd, F⟩ := T.D_told_function
  obtain ⟨fd_told_row, G_told_row, b_told_row⟩ := H_told_row.ex
  refine ⟨⟨fd, F.ok sc_told_function (fun vs H Q E h => ?_) (fun cdv A outer s H vs Q E hr h => ?_), F.bindsN fun _ _ _ _ _ _ us hl => match us, hl with | [_], _ => rfl⟩, F.kp, T.g_told_function⟩
  · obtain ⟨a, dx, pa, va, ba, fs, ps, rs, f, rfl, FB, hr1, k⟩ := h; rfl
  · obtain ⟨a, dx, pa, va, ba, fs, ps, rs, f, rfl, FB, hr1, k⟩ := h
    have hr_told_row : Room 1 _ := hr.mono (by decide)
    have hu := hu_of hr
    refine ⟨_, PSs.nox (pss_cons (ps_setLc (i := 1) (own := [("row", 2)]) (g := gName 2) (tt := tYes) rfl sc_told_function.nd rfl rfl (sw_true rfl rfl rfl (by decide +kernel)) (pi_tup (pe_fldK (K := K) rfl (pv 0) (by rfl))) (blkOk_by (N := ["function", "rows", "row"]) (sc := defScope s_told_function) (by decide +kernel)) (fun _ _ _ _ _ => (pg_name (i := 2) sc_told_function.nd rfl (Or.inl rfl))) (fun _ _ _ _ _ => pts_nil) (fun _ _ _ _ _ => (pe_call G_told_row hr_told_row (by rfl) H_told_row.gl H_told_row.kp b_told_row .nil pass0 (pa_cons (pv 2) pa_nil))))
      (pss_one (ps_ret (pe_tup (pa_cons (pe_fldK (K := K) rfl (pv 0) (by rfl)) (pa_cons (pe_callTy call_list_of (by rfl) T.f_list (by decide +kernel) (pa_cons (pe_fldK (K := K) rfl (pv 0) (by rfl)) pa_nil)) (pa_cons (pe_callTy call_list_of (by rfl) T.f_list (by decide +kernel) (pa_cons (pe_fldK (K := K) rfl (pv 0) (by rfl)) pa_nil)) (pa_cons (pe_fldK (K := K) rfl (pv 0) (by rfl)) (pa_cons (pv 1) pa_nil))))))))), ?_⟩
    refine ⟨_, rfl, a, _, dx, fs, _, rfl, FB.ob, T.c_Function, T.n_Function_body, FB.f4, ba, rfl, ⟨_, FB.tb.sq⟩, fun D hD => ?_⟩
    refine lc_any (walk_tup (K := K) (a := ba) (xs := rs.map V.ref)) hD (fun i H1 v => ∃ e, v = .ref e ∧ ∀ r, f.rws[i]? = some r → RowT (fun b => b ≠ D ∧ H b = none) H1 e r) (by rw [List.length_map, FB.kr.len]; omega) (fun i H1 H2 v xs h1 b h => ?_) (fun H2 s2 => (FB.tb.mono s2).sq) (fun i H2 y H3 xs hi s2 hDl hy Qe qe => ?_) (fun H2 xs s2 hl hx h2 => ?_)
    · obtain ⟨e, rfl, h⟩ := h
      exact ⟨e, rfl, fun r er => (h r er).to (fun _ z => z) (.butZ h1 (fun _ z => z.1) b)⟩
    · obtain ⟨rfl, hy⟩ := hy
      obtain ⟨p1, hp1, rfl⟩ := map_get hy
      have hir : i < f.rws.length := by
        rw [← FB.kr.len]
        exact (List.getElem?_eq_some_iff.mp hp1).1
      have er : f.rws[i]? = some f.rws[i] := List.getElem?_eq_getElem hir
      refine ⟨rfl, _, rfl, p1, f.rws[i], rfl, (FB.kr.at_ i p1 _ hp1 er).mono s2, fun q H4 s4 hk => qe _ _ s4 ⟨q, rfl, fun r e => ?_⟩⟩
      rw [er] at e
      rw [← Option.some.inj e]
      refine hk.to (fun b z => ⟨fun w => ?_, none_of s2 z⟩) (.of (Same.refl _))
      rw [w, hDl] at z
      cases z
    obtain ⟨ts, rfl, hts⟩ := refs_of hx
    have F2 := FB.mono s2
    obtain ⟨o1, oa, qs, o2, o3, o4⟩ := F2.ot
    refine ⟨_, rfl, a, _, dx, fs, _, rfl, F2.ob, T.c_Function, T.n_Function_name, o1, ?_⟩
    refine ⟨_, rfl, a, _, dx, fs, _, rfl, F2.ob, T.c_Function, T.n_Function_params, F2.f1, pa, ps.map V.ref, rfl, .inr F2.d1.sq, fun l1 hl1 => ?_⟩
    have s3 := Same.new (o := .lst (ps.map V.ref)) hl1
    have F3 := F2.mono s3
    refine ⟨_, rfl, a, _, dx, fs, _, rfl, F3.ob, T.c_Function, T.n_Function_others, o2, oa, qs.map V.ref, rfl, .inr (o3.mono s3).sq, fun l2 hl2 => ?_⟩
    have s4 := Same.new (o := .lst (qs.map V.ref)) hl2
    have F4 := F3.mono s4
    have s34 := s3.trans s4
    refine ⟨_, rfl, a, _, dx, fs, _, rfl, F4.ob, T.c_Function, T.n_Function_result, F4.f2, _, rfl, sz_of (by show 5 ≤ 100000; decide), fun e he => ?_⟩
    have s5 := Same.new (o := .tup [.str f.nm, .ref l1, .ref l2, .str f.res, .ref D]) he
    have s25 := s34.trans s5
    refine k e _ (s2.trans s25) ⟨l1, l2, D, ps, qs, ts, upd_same, ⟨none_of s2 hl1, none_of s2 (none_of s3 hl2), hD⟩, (s4.trans s5) _ _ upd_same, F2.pr.mono s25, s5 _ _ upd_same, o4.mono s25, s25 _ _ h2, ⟨by rw [List.length_map] at hl; rw [hl, List.length_map, FB.kr.len], fun i t r e1 e2 => ?_⟩⟩
    exact (hts i t e1 r e2).to (fun _ z => z.2) (.of s25)
theorem sc_Source_classes : FnScope ["self", "name"] ["self"] (defScope s_Source_classes) := ⟨rfl, rfl, rfl, by decide +kernel, rfl, by decide +kernel, by decide +kernel⟩
theorem ok_Source_classes (T : Ctx w K mg) : HasM P w K mg base 1 "Source" "classes" ["self"] (spClasses K) := by
  obtain ⟨fd, F⟩ := T.D_Source_classes
  refine ⟨⟨fd, F.ok sc_Source_classes (fun vs H Q E h => ?_) (fun cdv A outer s H vs Q E hr h => ?_), F.bindsN fun _ _ _ _ _ _ us hl => match us, hl with | [_], _ => rfl⟩⟩
  · obtain ⟨p, cl, fds, rfl, X, TS, k⟩ := h; rfl
  · obtain ⟨p, cl, fds, rfl, X, TS, k⟩ := h
    have hu := hu_of hr
    refine ⟨_, PSs.nox (pss_one (ps_ret (pe_lock (pe_lc (own := [("name", 1)]) (g := gName 1) (tt := tYes) rfl sc_Source_classes.nd (pi_keys (pe_fldK (K := K) rfl (pv 0) (by rfl))) (blkOk_by (N := ["self", "name"]) (sc := defScope s_Source_classes) (by decide +kernel)) (fun _ _ _ _ _ => (pg_name (i := 1) sc_Source_classes.nd rfl (Or.inl rfl))) (fun _ _ _ _ _ => pts_nil) (fun _ _ _ _ _ => (pe_tup (pa_cons (pv 1) (pa_cons (pe_callTy (call_list_ofK (K := K) rfl) (by rfl) T.f_list (by decide +kernel) (pa_cons (pe_dget hu (pe_fldK (K := K) rfl (pv 0) (by rfl)) (pv 1) (fun _ _ => rfl)) pa_nil)) pa_nil)))))))), ?_⟩
    obtain ⟨fps, qs, hq, ⟨dx, df, dk, du, fs, S⟩, hfl, hF⟩ := X
    refine ⟨df, .dK (csM cl qs), S.d1, trivial, fun od => ?_⟩
    have obl : upd H df (.frz od (.dK (csM cl qs))) p = some (.ins (He.ga K "Source") dx fs) := by
      rw [upd_ne (ne_of S.ob S.d1 (by intro z; cases z))]
      exact S.ob
    have hdl : upd H df (.frz od (.dK (csM cl qs))) df = some (.frz od (.dK (csM cl qs))) := upd_same
    have kN : KeepN H (upd H df (.frz od (.dK (csM cl qs)))) := fun b u e n => by
      rw [upd_ne (fun z => n (.inl ⟨csM cl qs, by rw [z, S.d1] at e; exact (Option.some.inj e).symm⟩))]
      exact e
    have hql := hq.keepN kN
    refine ⟨_, rfl, p, _, dx, fs, _, rfl, obl, T.c_Source, T.n_Source_fields, S.f1, df, od, rfl, .inl ⟨_, hdl, fun D hD => ?_⟩⟩
    have hlen : (csM cl qs).length = cl.length := by
      unfold csM
      rw [List.length_map, List.length_zip, hq.len, Nat.min_self]
    have lc := TS.lc
    generalize hHl : upd H df (.frz od (.dK (csM cl qs))) = Hl at *
    refine lc_any (walk_keys (d := df) (o := od) (kvs := csM cl qs)) hD (fun i H1 v => ∃ e, v = .ref e ∧ ∀ c, cl[i]? = some c → ClsZ (fun b => b ≠ D) H1 e c) (by omega) (fun i H1 H2 v xs h1 b h => ?_) (fun H2 s2 => s2 _ _ hdl) (fun i H2 y H3 xs hi s2 hDl hy Qe qe => ?_) (fun H2 xs s2 hl hx h2 => ?_)
    · obtain ⟨e, rfl, h⟩ := h
      exact ⟨e, rfl, fun c ec => (h c ec).to (fun _ z => z) (.butZ h1 (fun _ z => z) b)⟩
    · obtain ⟨rfl, kk, v, hkv, rfl⟩ := hy
      obtain ⟨c, q, hc, hqi, rfl, rfl⟩ := csM_get hkv
      obtain ⟨ps, tq, pq⟩ := (hql.at_ i c q hc hqi)
      have tq2 := tq.mono s2
      refine ⟨rfl, _, rfl, _, rfl, p, _, dx, fs, _, rfl, s2 _ _ obl, T.c_Source, T.n_Source_fields, S.f1, _, rfl, df, .ref q, rfl, .inl ⟨_, Sum.inr c.1, .inr ⟨od, s2 _ _ hdl⟩, rfl, (cs_at TS.nc hc hqi).symm⟩, q, ps.map V.ref, rfl, .inr tq2.sq, fun l1 hl1 => ?_⟩
      have s3 := Same.new (o := .lst (ps.map V.ref)) hl1
      refine ⟨sz_of (by show 2 ≤ 100000; decide), fun e he => ?_⟩
      have s4 := Same.new (o := .tup [.str c.1, .ref l1]) he
      refine qe _ _ (s3.trans s4) ⟨e, rfl, fun c2 ec => ?_⟩
      rw [hc] at ec
      rw [← Option.some.inj ec]
      refine ⟨l1, ps, upd_same, fun z => ?_, s4 _ _ upd_same, (pq.mono s2).mono (s3.trans s4)⟩
      rw [z, hDl] at hl1
      cases hl1
    obtain ⟨ts, rfl, hts⟩ := refs_of hx
    rw [List.length_map, hlen] at hl
    refine ⟨s2 _ _ hdl, k D _ (Same.locked S.d1 (by rw [hHl]; exact s2)) ⟨ts, ?_, hl, fun i e c e1 e2 => (hts i e e1 c e2).to (fun _ _ => trivial) (.free (s2 _ _ hdl))⟩⟩
    rw [upd_ne (ne_of h2 (s2 _ _ hdl) (by intro z; cases z))]
    exact h2
theorem sc_Source_functions : FnScope ["self", "name"] ["self"] (defScope s_Source_functions) := ⟨rfl, rfl, rfl, by decide +kernel, rfl, by decide +kernel, by decide +kernel⟩
theorem ok_Source_functions (T : Ctx w K mg) (H_told_function : Has P w K mg base 2 "_told_function" ["function"] (spToldFn K)) : HasM P w K mg base 3 "Source" "functions" ["self"] (spFunctions K) := by
  obtain ⟨fd, F⟩ := T.D_Source_functions
  obtain ⟨fd_told_function, G_told_function, b_told_function⟩ := H_told_function.ex
  refine ⟨⟨fd, F.ok sc_Source_functions (fun vs H Q E h => ?_) (fun cdv A outer s H vs Q E hr h => ?_), F.bindsN fun _ _ _ _ _ _ us hl => match us, hl with | [_], _ => rfl⟩⟩
  · obtain ⟨p, cl, fds, rfl, X, TS, k⟩ := h; rfl
  · obtain ⟨p, cl, fds, rfl, X, TS, k⟩ := h
    have hr_told_function : Room 2 _ := hr.mono (by decide)
    have hu := hu_of hr
    refine ⟨_, PSs.nox (pss_one (ps_ret (pe_lock (pe_lc (own := [("name", 1)]) (g := gName 1) (tt := tYes) rfl sc_Source_functions.nd (pi_keys (pe_fldK (K := K) rfl (pv 0) (by rfl))) (blkOk_by (N := ["self", "name"]) (sc := defScope s_Source_functions) (by decide +kernel)) (fun _ _ _ _ _ => (pg_name (i := 1) sc_Source_functions.nd rfl (Or.inl rfl))) (fun _ _ _ _ _ => pts_nil) (fun _ _ _ _ _ => (pe_call G_told_function hr_told_function (by rfl) H_told_function.gl H_told_function.kp b_told_function .nil pass0 (pa_cons (pe_dget hu (pe_fldK (K := K) rfl (pv 0) (by rfl)) (pv 1) (fun _ _ => rfl)) pa_nil))))))), ?_⟩
    obtain ⟨fps, qs, hq, ⟨dx, df, dk, du, fs, S⟩, hfl, hF⟩ := X
    refine ⟨du, .dK (usOf fds fps), S.d3, trivial, fun od => ?_⟩
    have obl : upd H du (.frz od (.dK (usOf fds fps))) p = some (.ins (He.ga K "Source") dx fs) := by
      rw [upd_ne (ne_of S.ob S.d3 (by intro z; cases z))]
      exact S.ob
    have hdl : upd H du (.frz od (.dK (usOf fds fps))) du = some (.frz od (.dK (usOf fds fps))) := upd_same
    have hF2 : ∀ (j : Nat) (f : FdT) (a : Addr), fds[j]? = some f → fps[j]? = some a → ∃ (dx pa va ba : Addr) (fs : List (Str × V)) (ps rs : List Addr), FunV K (upd H du (.frz od (.dK (usOf fds fps)))) a dx pa va ba fs ps rs f := fun j f a e1 e2 => by
      obtain ⟨dx, pa, va, ba, fs, ps, rs, FB⟩ := hF j f a e1 e2
      exact ⟨dx, pa, va, ba, fs, ps, rs, FB.v.lock S.d3⟩
    refine ⟨_, rfl, p, _, dx, fs, _, rfl, obl, T.c_Source, T.n_Source_functions, S.f3, du, od, rfl, .inl ⟨_, hdl, fun D hD => ?_⟩⟩
    have hlen : (usOf fds fps).length = fds.length := by
      unfold usOf
      rw [List.length_map, List.length_zip, hfl, Nat.min_self]
    have lf := TS.lf
    have hlow : ∀ {b : Addr}, upd H du (.frz od (.dK (usOf fds fps))) b = none → H b = none := fun {b} z => by
      by_cases w : b = du
      · rw [w, upd_same] at z
        cases z
      · rw [upd_ne w] at z
        exact z
    generalize hHl : upd H du (.frz od (.dK (usOf fds fps))) = Hl at *
    refine lc_any (walk_keys (d := du) (o := od) (kvs := usOf fds fps)) hD (fun i H1 v => ∃ e, v = .ref e ∧ ∀ f, fds[i]? = some f → EntryT (fun b => b ≠ D ∧ H b = none) H1 e f) (by omega) (fun i H1 H2 v xs h1 b h => ?_) (fun H2 s2 => s2 _ _ hdl) (fun i H2 y H3 xs hi s2 hDl hy Qe qe => ?_) (fun H2 xs s2 hl hx h2 => ?_)
    · obtain ⟨e, rfl, h⟩ := h
      exact ⟨e, rfl, fun c ec => (h c ec).to (fun _ z => z) (.butZ h1 (fun _ z => z.1) b)⟩
    · obtain ⟨rfl, kk, v, hkv, rfl⟩ := hy
      obtain ⟨f, q, hc, hqi, rfl, rfl⟩ := usOf_get hkv
      obtain ⟨dy, pa, va, ba, gs, ps, rs, FV⟩ := hF2 i f q hc hqi
      have lr := TS.lr f (List.mem_of_getElem? hc)
      refine ⟨rfl, _, rfl, p, _, dx, fs, _, rfl, s2 _ _ obl, T.c_Source, T.n_Source_functions, S.f3, _, rfl, du, .ref q, rfl, .inl ⟨_, Sum.inr f.nm, .inr ⟨od, s2 _ _ hdl⟩, rfl, (us_at TS.nf hc hqi).symm⟩, ?_⟩
      refine ⟨q, dy, pa, va, ba, gs, ps, rs, f, rfl, FV.mono s2, by omega, fun e H4 s4 E4 => qe _ _ s4 ⟨e, rfl, fun f2 ef => ?_⟩⟩
      rw [hc] at ef
      rw [← Option.some.inj ef]
      refine E4.to (fun b z => ⟨fun w => ?_, hlow (none_of s2 z)⟩) (.of (Same.refl _))
      rw [w, hDl] at z
      cases z
    obtain ⟨ts, rfl, hts⟩ := refs_of hx
    rw [List.length_map, hlen] at hl
    refine ⟨s2 _ _ hdl, k D _ (Same.locked S.d3 (by rw [hHl]; exact s2)) (hlow hD) ⟨ts, ?_, hl, fun i e c e1 e2 => (hts i e e1 c e2).to (fun _ z => z.2) (.free (s2 _ _ hdl))⟩⟩
    rw [upd_ne (ne_of h2 (s2 _ _ hdl) (by intro z; cases z))]
    exact h2

end
end W7
set_option Elab.async false
set_option linter.all false
set_option maxRecDepth 100000
set_option maxHeartbeats 4000000
namespace W7
open PySem PySem.Spec PyProof.Rows L2 RZ
section
variable {P : Program} {w : World} {K : PySem.W.Frag} {mg : Str → Option Value} {base : Heap}

/-! ### what a source tells, as data -/
def partD (l : PyData) : V → PyData
  | .str x => .str x
  | .int i => .int i
  | _ => l
def Rx.data (r : Rx) : PyData := .tuple (.str r.word :: (r.parts .non).map (partD (.list ((r.args.getD []).map PyData.str))))
def pairD (q : Str × Str) : PyData := .tuple [.str q.1, .str q.2]
def pairsD (qs : List (Str × Str)) : PyData := .list (qs.map pairD)
def clsD1 (c : Str × List (Str × Str)) : PyData := .tuple [.str c.1, pairsD c.2]
def clsD (cl : ClsT) : PyData := .list (cl.map clsD1)
def fnD (f : FdT) : PyData := .tuple [.str f.nm, pairsD f.ns, pairsD f.ms, .str f.res, .list (f.rws.map Rx.data)]
def fnsD (fds : List FdT) : PyData := .list (fds.map fnD)
theorem dpAll_refs {α : Type} {H : Hp} (g : α → PyData) : ∀ {es : List Addr} {xs : List α}, es.length = xs.length → (∀ (i : Nat) e x, es[i]? = some e → xs[i]? = some x → Dp K H (.ref e) (g x)) → DpAll K H (es.map V.ref) (xs.map g)
  | [], [], _, _ => .nil
  | e :: es, x :: xs, hl, h => .cons (h 0 e x rfl rfl) (dpAll_refs g (by simpa using hl) fun i a b c d => h (i + 1) a b (by simpa using c) (by simpa using d))
theorem dp_pairs {H : Hp} {la : Addr} {ps : List Addr} {qs : List (Str × Str)} (h : H la = some (.lst (ps.map V.ref))) (p : PairsG H ps qs) : Dp K H (.ref la) (pairsD qs) :=
  .lst (SqL.of h) (dpAll_refs pairD p.len fun i e x a b => .tup (SqT.of (p.at_ i e x a b)) (.cons (.str _) (.cons (.str _) .nil)))
theorem dp_strs {H : Hp} {a : Addr} {ns : List Str} (h : H a = some (.lst (ns.map V.str))) : Dp K H (.ref a) (.list (ns.map PyData.str)) := by
  refine .lst (SqL.of h) ?_
  clear h
  induction ns with
  | nil => exact .nil
  | cons x l ih => exact .cons (.str _) ih
theorem dp_row {Z : Addr → Prop} {H : Hp} {a : Addr} {r : Rx} (h : RowT Z H a r) : Dp K H (.ref a) r.data := by
  obtain ⟨l, h1, h2⟩ := h
  refine .tup (SqT.of h1) (.cons (.str _) ?_)
  cases r with
  | call x F as => exact .cons (.str _) (.cons (.str _) (.cons (dp_strs (h2 as rfl).2) .nil))
  | _ => repeat (first | exact .nil | refine .cons (.str _) ?_ | refine .cons (.int _) ?_)
theorem dp_cls {H : Hp} {a : Addr} {cl : ClsT} (h : TCls H a cl) : Dp K H (.ref a) (clsD cl) := by
  obtain ⟨es, h1, h2, h3⟩ := h
  refine .lst (SqL.of h1) (dpAll_refs clsD1 h2 fun i e c a b => ?_)
  obtain ⟨la, ps, q1, _, q2, q3⟩ := h3 i e c a b
  exact .tup (SqT.of q1) (.cons (.str _) (.cons (dp_pairs q2 q3) .nil))
theorem dp_fns {H : Hp} {a : Addr} {fds : List FdT} (h : TFns H a fds) : Dp K H (.ref a) (fnsD fds) := by
  obtain ⟨es, h1, h2, h3⟩ := h
  refine .lst (SqL.of h1) (dpAll_refs fnD h2 fun i e f a b => ?_)
  obtain ⟨pa, oa, ra, ps, qs, rs, q1, _, q2, q3, q4, q5, q6, q7⟩ := h3 i e f a b
  exact .tup (SqT.of q1) (.cons (.str _) (.cons (dp_pairs q2 q3) (.cons (dp_pairs q4 q5) (.cons (.str _) (.cons (.lst (SqL.of q6) (dpAll_refs Rx.data q7.len fun i t r c d => dp_row (q7.at_ i t r c d))) .nil)))))
theorem LstR.mono {α : Type} {R : Hp → Addr → α → Prop} {H H' : Hp} {a : Addr} {xs : List α} (h : LstR α R H a xs) (e : Same H H') (f : ∀ b x, R H b x → R H' b x) : LstR α R H' a xs := by
  obtain ⟨es, h1, h2, h3⟩ := h
  exact ⟨es, e _ _ h1, h2, fun i b x c d => f _ _ (h3 i b x c d)⟩
theorem tcls_mono {H H' : Hp} {a : Addr} {cl : ClsT} (h : TCls H a cl) (e : Same H H') : TCls H' a cl := h.mono e fun b x q => q.to (fun _ z => z) (.of e)
theorem tfns_mono {H H' : Hp} {a : Addr} {fds : List FdT} (h : TFns H a fds) (e : Same H H') : TFns H' a fds := h.mono e fun b x q => q.to (fun _ z => z) (.of e)
theorem tfns_any {Z : Addr → Prop} {H : Hp} {a : Addr} {fds : List FdT} (h : LstR FdT (EntryT Z) H a fds) : TFns H a fds := by
  obtain ⟨es, h1, h2, h3⟩ := h
  exact ⟨es, h1, h2, fun i b x c d => (h3 i b x c d).to (fun _ _ => trivial) (.of (Same.refl _))⟩
theorem SrcX.ins {H : Hp} {p : Addr} {cl : ClsT} {fds : List FdT} (h : SrcX K H p cl fds) : ∃ dx fs, H p = some (.ins (He.ga K "Source") dx fs) ∧ fs.lookup ("classes" : Str) = none ∧ fs.lookup ("functions" : Str) = none := by
  obtain ⟨fps, qs, hq, ⟨dx, df, dk, du, fs, S⟩, _⟩ := h
  exact ⟨dx, fs, S.ob, S.nm _ (by decide +kernel), S.nm _ (by decide +kernel)⟩
def sameS (cl cl2 : ClsT) (fds fds2 : List FdT) : Bool := PyData.eqv (clsD cl) (clsD cl2) && PyData.eqv (fnsD fds) (fnsD fds2)
structure EqS (cl : ClsT) (fds : List FdT) : Prop extends TellS cl fds where
  sc : SeqAt.shaped (clsD cl) = true
  sf : SeqAt.shaped (fnsD fds) = true
def spSrcEq (K : PySem.W.Frag) : Sp := fun vs H Q _ => ∃ (p q : Addr) (cl cl2 : ClsT) (fds fds2 : List FdT), vs = [.ref p, .ref q] ∧ SrcX K H p cl fds ∧ SrcX K H q cl2 fds2 ∧ EqS cl fds ∧ EqS cl2 fds2 ∧ ∀ H', Same H H' → Q (.bl (sameS cl cl2 fds fds2)) H' 
theorem sc_Source_eq : FnScope ["self", "other"] ["self", "other"] (defScope s_Source_eq) := ⟨rfl, rfl, rfl, by decide +kernel, rfl, by decide +kernel, by decide +kernel⟩
theorem ok_Source_eq (T : Ctx w K mg) (H_Source_classes : HasM P w K mg base 1 "Source" "classes" ["self"] (spClasses K)) (H_Source_functions : HasM P w K mg base 3 "Source" "functions" ["self"] (spFunctions K)) : HasM P w K mg base 4 "Source" "__eq__" ["self", "other"] (spSrcEq K) := by
  obtain ⟨fd, F⟩ := T.D_Source_eq
  obtain ⟨fd_Source_classes, G_Source_classes, b_Source_classes⟩ := H_Source_classes.ex
  obtain ⟨fd_Source_functions, G_Source_functions, b_Source_functions⟩ := H_Source_functions.ex
  refine ⟨⟨fd, F.ok sc_Source_eq (fun vs H Q E h => ?_) (fun cdv A outer s H vs Q E hr h => ?_), F.bindsN fun _ _ _ _ _ _ us hl => match us, hl with | [_, _], _ => rfl⟩⟩
  · obtain ⟨p, q, cl, cl2, fds, fds2, rfl, X, Y, EX, EY, k⟩ := h; rfl
  · obtain ⟨p, q, cl, cl2, fds, fds2, rfl, X, Y, EX, EY, k⟩ := h
    have hr_Source_classes : Room 1 _ := hr.mono (by decide)
    have hr_Source_functions : Room 3 _ := hr.mono (by decide)
    have hu := hu_of hr
    refine ⟨_, PSs.nox (pss_one (ps_ret (pe_and (pe_callB call_isi (by rfl) T.f_isinstance (by decide +kernel) (pa_cons (pv 1) (pa_cons (pe_glob (v := .ref (He.ga K "Source")) rfl T.g_Source rfl) pa_nil))) (pe_and (pe_cmpR (op_eqD hr.units) ((pe_meth0 (pv 0) T.c_Source T.m_Source_classes G_Source_classes hr_Source_classes b_Source_classes .nil pass0)) ((pe_meth0 (pv 1) T.c_Source T.m_Source_classes G_Source_classes hr_Source_classes b_Source_classes .nil pass0)) (nomark _)) (pe_one (pe_cmpR (op_eqD hr.units) ((pe_meth0 (pv 0) T.c_Source T.m_Source_functions G_Source_functions hr_Source_functions b_Source_functions .nil pass0)) ((pe_meth0 (pv 1) T.c_Source T.m_Source_functions G_Source_functions hr_Source_functions b_Source_functions .nil pass0)) (nomark _))))))), ?_⟩
    obtain ⟨dx, fs, ob, n1, n2⟩ := X.ins
    obtain ⟨dy, gs, ob2, m1, m2⟩ := Y.ins
    obtain ⟨t1, t2⟩ := T.isSource ob2
    refine ⟨_, rfl, _, _, _, _, true, rfl, .own _, t1, t2, true, rfl, iteT ?_⟩
    refine ⟨_, rfl, p, dx, fs, rfl, ob, n1, ?_⟩
    refine ⟨p, cl, fds, rfl, X, EX.toTellS, fun a H1 s1 C1 => ?_⟩
    refine ⟨_, rfl, q, dy, gs, rfl, s1 _ _ ob2, m1, ?_⟩
    refine ⟨q, cl2, fds2, rfl, Y.mono s1, EY.toTellS, fun b H2 s2 C2 => ?_⟩
    have s12 := s1.trans s2
    refine ⟨_, _, dp_cls (tcls_mono C1 s2), dp_cls C2, EX.sc, EY.sc, ?_⟩
    by_cases c : PyData.eqv (clsD cl) (clsD cl2) = true
    · refine ⟨_, rfl, ifT c ?_⟩
      refine ⟨_, rfl, p, dx, fs, rfl, s12 _ _ ob, n2, ?_⟩
      refine ⟨p, cl, fds, rfl, X.mono s12, EX.toTellS, fun a3 H3 s3 _ C3 => ?_⟩
      refine ⟨_, rfl, q, dy, gs, rfl, s3 _ _ (s12 _ _ ob2), m2, ?_⟩
      refine ⟨q, cl2, fds2, rfl, (Y.mono s12).mono s3, EY.toTellS, fun b4 H4 s4 _ C4 => ?_⟩
      refine ⟨_, _, dp_fns (tfns_mono (tfns_any C3) s4), dp_fns (tfns_any C4), EX.sf, EY.sf, ?_⟩
      have k2 := k H4 (s12.trans (s3.trans s4))
      unfold sameS at k2
      rw [c, Bool.true_and] at k2
      exact k2
    · have c2 : PyData.eqv (clsD cl) (clsD cl2) = false := by simpa using c
      refine ⟨_, rfl, ifF c2 ?_⟩
      have k2 := k H2 s12
      unfold sameS at k2
      rw [c2, Bool.false_and] at k2
      exact k2

end
end W7
set_option Elab.async false
set_option linter.all false
set_option maxRecDepth 100000
set_option maxHeartbeats 4000000
namespace W7
open PySem PySem.Spec PyProof.Rows L2 RZ
section
variable {P : Program} {w : World} {K : PySem.W.Frag} {mg : Str → Option Value} {base : Heap}

theorem call_strF {X : Cx} : CallR X (.type "str") (fun xs H Q => (∃ i, xs = [.int i] ∧ i.natAbs.log2 < 1920 ∧ Q (.str (toString i)) H) ∨ ∃ a, xs = [.str a] ∧ Q (.str a) H) := by
  intro pins s σ H xs us Q I r h
  rcases h with h | h
  · exact call_str_int pins s σ H xs us Q I r h
  · exact SkE.call_str_str pins s σ H xs us Q I r h
/-! ### the text of a source -/
def lineT (ws : List Str) : Str := Txt.join " " ws ++ "\n"
def rlineT (ws : List Str) : Str := ("  " : Str) ++ lineT ws
def lineOkB (ws : List Str) : Bool := decide ((ws.map (·.length)).sum + ws.length * (" " : Str).length ≤ 16777216) && (decide ((Txt.join " " ws).length + ("\n" : Str).length ≤ sizeLine) && decide (("  " : Str).length + (lineT ws).length ≤ sizeLine))
theorem lineOk_ok {ws : List Str} (h : lineOkB ws = true) : (ws.map (·.length)).sum + ws.length * (" " : Str).length ≤ 16777216 ∧ (Txt.join " " ws).length + ("\n" : Str).length ≤ sizeLine ∧ ("  " : Str).length + (lineT ws).length ≤ sizeLine := by
  obtain ⟨h1, h⟩ := He.ba h
  obtain ⟨h2, h3⟩ := He.ba h
  exact ⟨of_decide_eq_true h1, of_decide_eq_true h2, of_decide_eq_true h3⟩
def pairW (q : Str × Str) : Str := q.1 ++ (":" : Str) ++ q.2
def pairOkB (q : Str × Str) : Bool := decide (q.1.length + (":" : Str).length ≤ sizeLine) && decide ((q.1 ++ (":" : Str)).length + q.2.length ≤ sizeLine)
def partW (as : List Str) : V → List Str
  | .str x => [x]
  | .int i => [toString i]
  | _ => as
def Rx.as (r : Rx) : List Str := r.args.getD []
def wordsR (r : Rx) : List Str := (V.str r.word :: r.parts .non).flatMap (partW r.as)
theorem wordsR_at (r : Rx) (l : Addr) : (V.str r.word :: r.parts (.ref l)).flatMap (partW r.as) = wordsR r := by cases r <;> rfl
def intOkB : V → Bool
  | .int i => decide (i.natAbs.log2 < 1920)
  | _ => true
def wokB (r : Rx) : Bool := decide (r.as.length ≤ 1000) && (r.parts .non).all intOkB
theorem flat_len {f : V → List Str} : ∀ {xs : List V}, (∀ x ∈ xs, (f x).length ≤ 1000) → (xs.flatMap f).length ≤ 1000 * xs.length
  | [], _ => Nat.le_refl _
  | x :: xs, h => by
    have h1 := h x List.mem_cons_self
    have h2 := flat_len (f := f) (xs := xs) fun y m => h y (List.mem_cons_of_mem _ m)
    rw [List.flatMap_cons, List.length_append, List.length_cons]
    omega
theorem partW_len {as : List Str} (h : as.length ≤ 1000) (x : V) : (partW as x).length ≤ 1000 := by
  cases x <;> first | exact h | (show 1 ≤ 1000; decide)
theorem int_at {r : Rx} {l : Addr} {i : Nat} {z : Int} (h : wokB r = true) (e : (V.str r.word :: r.parts (.ref l))[i]? = some (.int z)) : z.natAbs.log2 < 1920 := by
  have h2 := (He.ba h).2
  have m : V.int z ∈ r.parts .non := by
    have m := List.mem_of_getElem? e
    rcases List.mem_cons.mp m with m | m
    · cases m
    · cases r with
      | call x F as => simp [Rx.parts] at m
      | _ => exact m
  exact of_decide_eq_true (show intOkB (.int z) = true from List.all_eq_true.mp h2 _ m)
def spLineOf (K : PySem.W.Frag) : Sp := fun vs H Q _ => ∃ (a : Addr) (ws : List Str), vs = [.ref a] ∧ SqL K H a (ws.map V.str) ∧ lineOkB ws = true ∧ Q (.str (lineT ws)) H
def spRowLine (K : PySem.W.Frag) : Sp := fun vs H Q _ => ∃ (a : Addr) (ws : List Str), vs = [.ref a] ∧ SqL K H a (ws.map V.str) ∧ lineOkB ws = true ∧ Q (.str (rlineT ws)) H
def spPairWords : Sp := fun vs H Q _ => ∃ (a : Addr) (ps : List Addr) (qs : List (Str × Str)), vs = [.ref a] ∧ H a = some (.lst (ps.map V.ref)) ∧ PairsG H ps qs ∧ qs.length ≤ 100 ∧ (∀ q ∈ qs, pairOkB q = true) ∧ ∀ p H', Same H H' → H p = none → H' p = some (.lst ((qs.map pairW).map V.str)) → Q (.ref p) H'
def spRowWords : Sp := fun vs H Q _ => ∃ (a : Addr) (r : Rx), vs = [.ref a] ∧ RowT Tru H a r ∧ wokB r = true ∧ ∀ p H', Same H H' → H p = none → H' p = some (.lst ((wordsR r).map V.str)) → Q (.ref p) H' 
theorem sc_line_of : FnScope ["words"] ["words"] (defScope s_line_of) := ⟨rfl, rfl, rfl, by decide +kernel, rfl, by decide +kernel, by decide +kernel⟩
theorem ok_line_of (T : Ctx w K mg) : Has P w K mg base 1 "line_of" ["words"] (spLineOf K) := by
  obtain ⟨fd, F⟩ := T.D_line_of
  refine ⟨⟨fd, F.ok sc_line_of (fun vs H Q E h => ?_) (fun cdv A outer s H vs Q E hr h => ?_), F.bindsN fun _ _ _ _ _ _ us hl => match us, hl with | [_], _ => rfl⟩, F.kp, T.g_line_of⟩
  · obtain ⟨a, ws, rfl, ha, hw, k⟩ := h; rfl
  · obtain ⟨a, ws, rfl, ha, hw, k⟩ := h
    have hu := hu_of hr
    refine ⟨_, PSs.nox (pss_one (ps_ret (pe_op op_add_str (pe_join pe_str (pv 0)) pe_str))), ?_⟩
    obtain ⟨h1, h2, _⟩ := lineOk_ok hw
    exact ⟨⟨_, rfl⟩, _, rfl, " ", a, ws, rfl, rfl, .inl ha, h1, _, _, rfl, rfl, h2, k⟩
theorem sc_row_line : FnScope ["words"] ["words"] (defScope s_row_line) := ⟨rfl, rfl, rfl, by decide +kernel, rfl, by decide +kernel, by decide +kernel⟩
theorem ok_row_line (T : Ctx w K mg) (H_line_of : Has P w K mg base 1 "line_of" ["words"] (spLineOf K)) : Has P w K mg base 2 "row_line" ["words"] (spRowLine K) := by
  obtain ⟨fd, F⟩ := T.D_row_line
  obtain ⟨fd_line_of, G_line_of, b_line_of⟩ := H_line_of.ex
  refine ⟨⟨fd, F.ok sc_row_line (fun vs H Q E h => ?_) (fun cdv A outer s H vs Q E hr h => ?_), F.bindsN fun _ _ _ _ _ _ us hl => match us, hl with | [_], _ => rfl⟩, F.kp, T.g_row_line⟩
  · obtain ⟨a, ws, rfl, ha, hw, k⟩ := h; rfl
  · obtain ⟨a, ws, rfl, ha, hw, k⟩ := h
    have hr_line_of : Room 1 _ := hr.mono (by decide)
    have hu := hu_of hr
    obtain ⟨ti, e_INDENT⟩ := T.s_INDENT
    refine ⟨_, PSs.nox (pss_one (ps_ret (pe_op op_add_str (pe_glob (v := .str "  ") rfl e_INDENT ⟨_, rfl⟩) (pe_call G_line_of hr_line_of (by rfl) H_line_of.gl H_line_of.kp b_line_of .nil pass0 (pa_cons (pv 0) pa_nil))))), ?_⟩
    obtain ⟨_, _, h3⟩ := lineOk_ok hw
    exact ⟨_, rfl, a, ws, rfl, ha, hw, _, _, rfl, rfl, h3, k⟩
theorem sc_pair_words : FnScope ["pairs", "name", "kind"] ["pairs"] (defScope s_pair_words) := ⟨rfl, rfl, rfl, by decide +kernel, rfl, by decide +kernel, by decide +kernel⟩
theorem ok_pair_words (T : Ctx w K mg) : Has P w K mg base 1 "pair_words" ["pairs"] spPairWords := by
  obtain ⟨fd, F⟩ := T.D_pair_words
  refine ⟨⟨fd, F.ok sc_pair_words (fun vs H Q E h => ?_) (fun cdv A outer s H vs Q E hr h => ?_), F.bindsN fun _ _ _ _ _ _ us hl => match us, hl with | [_], _ => rfl⟩, F.kp, T.g_pair_words⟩
  · obtain ⟨a, ps, qs, rfl, ha, hp, hl, ho, k⟩ := h; rfl
  · obtain ⟨a, ps, qs, rfl, ha, hp, hl, ho, k⟩ := h
    have hu := hu_of hr
    refine ⟨_, PSs.nox (pss_one (ps_ret (pe_lc (own := [("name", 1), ("kind", 2)]) (g := gTup K 2 (gCons (gName 1) (gCons (gName 2) (gNil)))) (tt := tYes) rfl sc_pair_words.nd (pi_list (pv 0)) (blkOk_by (N := ["pairs", "name", "kind"]) (sc := defScope s_pair_words) (by decide +kernel)) (fun _ _ _ _ _ => (pg_tup rfl (pgs_cons (pg_name (i := 1) sc_pair_words.nd rfl (Or.inl rfl)) (pgs_cons (pg_name (i := 2) sc_pair_words.nd rfl (Or.inl rfl)) pgs_nil)))) (fun _ _ _ _ _ => pts_nil) (fun _ _ _ _ _ => (pe_op op_add_str (pe_op op_add_str (pv 1) pe_str) (pv 2)))))), ?_⟩
    refine ⟨_, rfl, a, rfl, ⟨_, SqL.of ha⟩, fun D hD => ?_⟩
    refine lc_pure (walk_list (K := K) (a := a) (xs := ps.map V.ref)) hD (fun i => .str (pairW (qs.getD i ("", "")))) (by rw [List.length_map, hp.len]; omega) (fun H1 s1 => SqL.of (s1 _ _ ha)) (fun i H1 y H2 hi s1 hy Qe qe => ?_) (fun H1 s1 h1 => ?_)
    · obtain ⟨rfl, hy⟩ := hy
      obtain ⟨p1, x, rfl, hp1, hx, hpt⟩ := (hp.mono s1).get hy
      obtain ⟨l1, l2⟩ := He.ba (ho x (List.mem_of_getElem? hx))
      have ex : qs.getD i ("", "") = x := by rw [List.getD_eq_getElem?_getD, hx]; rfl
      rw [ex] at qe
      exact ⟨p1, _, rfl, SqT.of hpt, rfl, _, _, rfl, _, _, rfl, rfl, rfl, _, rfl, _, _, rfl, rfl, of_decide_eq_true l1, _, rfl, _, _, rfl, rfl, of_decide_eq_true l2, qe _ (Same.refl _)⟩
    · refine k D _ s1 hD ?_
      rw [h1, List.length_map, hp.len]
      refine congrArg (fun z => some (HO.lst z)) ?_
      apply List.ext_getElem
      · simp
      · intro i h2 h3
        simp at h2
        simp [h2]
theorem sc_row_words : FnScope ["row", "words", "part"] ["row"] (defScope s_row_words) := ⟨rfl, rfl, rfl, by decide +kernel, rfl, by decide +kernel, by decide +kernel⟩
theorem ok_row_words (T : Ctx w K mg) : Has P w K mg base 1 "row_words" ["row"] spRowWords := by
  obtain ⟨fd, F⟩ := T.D_row_words
  refine ⟨⟨fd, F.ok sc_row_words (fun vs H Q E h => ?_) (fun cdv A outer s H vs Q E hr h => ?_), F.bindsN fun _ _ _ _ _ _ us hl => match us, hl with | [_], _ => rfl⟩, F.kp, T.g_row_words⟩
  · obtain ⟨a, r, rfl, hR, hw, k⟩ := h; rfl
  · obtain ⟨a, r, rfl, hR, hw, k⟩ := h
    have hu := hu_of hr
    refine ⟨_, PSs.nox (pss_cons (ps_set (i := 1) sc_row_words.nd rfl (Or.inl rfl) (pe_lst pa_nil))
      (pss_cons (ps_for PassesOwn.never rfl (pi_tup (pv 0)) (pg_name (i := 2) sc_row_words.nd rfl (Or.inl rfl))
      (pss_one (ps_if (pt_val (pe_callB call_isi (by rfl) T.f_isinstance (by decide +kernel) (pa_cons (pv 2) (pa_cons (pe_bltn (v := .ty "list") (u := .type "list") rfl T.f_list (by decide +kernel) rfl) pa_nil)))) (pss_one (ps_expr (pe_bm PySem.F.plainAttrs_list PySem.F.slot_list_extend PySem.F.type_list_extend mt_extend (pv 1) (pa_cons (pv 2) pa_nil)))) (pss_one (ps_expr (pe_bm PySem.F.plainAttrs_list PySem.F.slot_list_append PySem.F.type_list_append mt_append (pv 1) (pa_cons (pe_callTy call_strF (by rfl) T.f_str (by decide +kernel) (pa_cons (pv 2) pa_nil)) pa_nil)))))))
      (pss_one (ps_ret (pv 1))))), ?_⟩
    obtain ⟨l, ha, hm⟩ := hR
    have has : r.as.length ≤ 1000 := of_decide_eq_true (He.ba hw).1
    have hlp : (V.str r.word :: r.parts (.ref l)).length ≤ 4 := by cases r <;> simp [Rx.parts]
    have hfl : ∀ i, (((V.str r.word :: r.parts (.ref l)).take i).flatMap (partW r.as)).length ≤ 4000 := fun i => by
      have h1 := flat_len (f := partW r.as) (xs := (V.str r.word :: r.parts (.ref l)).take i) fun x _ => partW_len has x
      have h2 : ((V.str r.word :: r.parts (.ref l)).take i).length ≤ 4 := by
        rw [List.length_take]
        omega
      omega
    refine ⟨sz_of (by show 0 ≤ 100000; decide), fun d hd => ?_⟩
    have s0 := Same.new (o := .lst []) hd
    refine ⟨_, rfl, a, rfl, ⟨_, SqT.of (s0 _ _ ha)⟩, ?_⟩
    refine for_it (walk_tup (K := K) (a := a) (xs := V.str r.word :: r.parts (.ref l))) (fun i σ H1 => ∃ v : Option V, σ = [some (.ref a), some (.ref d), v] ∧ Same H H1 ∧ H1 d = some (.lst ((((V.str r.word :: r.parts (.ref l)).take i).flatMap (partW r.as)).map V.str))) ⟨none, rfl, s0, upd_same⟩ (fun i σ H1 _ ⟨_, _, s1, _⟩ => SqT.of (s1 _ _ ha)) ?_ ?_
    · rintro i y σ H1 H2 hi ⟨v, rfl, s1, hd1⟩ ⟨rfl, hy⟩
      have snoc : ∀ ws, partW r.as y = ws → (((V.str r.word :: r.parts (.ref l)).take (i + 1)).flatMap (partW r.as)).map V.str = (((V.str r.word :: r.parts (.ref l)).take i).flatMap (partW r.as)).map V.str ++ ws.map V.str := fun ws e => by
        rw [take_snoc hy, List.flatMap_append, List.map_append, List.flatMap_cons, e]
        simp
      have hl1 := hfl i
      rcases parts_at hy with ⟨f1, c1⟩ | ⟨bs, hb, rfl, rfl⟩
      · cases f1 with
        | str x =>
          refine ⟨_, rfl, _, _, _, _, false, rfl, .ty _, .base (.str x), kit_ty (by decide +kernel), false, rfl, iteF ?_⟩
          refine ⟨_, rfl, .inl ⟨rfl, _, SqL.of hd1⟩, _, rfl, .inr ⟨x, rfl, d, _, _, rfl, rfl, hd1, sz_lt (by rw [List.length_map]; omega), ?_⟩⟩
          exact ⟨_, rfl, Same.mut s1 hd, by rw [upd_same, snoc [x] rfl]; rfl⟩
        | int x =>
          refine ⟨_, rfl, _, _, _, _, false, rfl, .ty _, .base (.int x), kit_ty (by decide +kernel), false, rfl, iteF ?_⟩
          refine ⟨_, rfl, .inl ⟨rfl, _, SqL.of hd1⟩, _, rfl, .inl ⟨x, rfl, int_at hw hy, d, _, _, rfl, rfl, hd1, sz_lt (by rw [List.length_map]; omega), ?_⟩⟩
          exact ⟨_, rfl, Same.mut s1 hd, by rw [upd_same, snoc [toString x] rfl]; rfl⟩
      · have q1 := s1 _ _ (hm bs hb).2
        have eas : r.as = bs := by unfold Rx.as; rw [hb]; rfl
        refine ⟨_, rfl, _, _, _, _, true, rfl, .ty _, .base (.lst q1), kit_ty (by decide +kernel), true, rfl, iteT ?_⟩
        refine ⟨_, rfl, .inl ⟨rfl, _, SqL.of hd1⟩, _, rfl, d, l, _, _, rfl, rfl, hd1, q1, sz_of (by rw [List.length_map, List.length_map, ← eas]; omega), ?_⟩
        exact ⟨_, rfl, Same.mut s1 hd, by rw [upd_same, snoc bs eas]⟩
    · rintro σ H1 ⟨v, rfl, s1, hd1⟩
      rw [List.take_length, wordsR_at] at hd1
      exact ⟨_, rfl, k d H1 s1 hd hd1⟩

end
end W7
set_option Elab.async false
set_option linter.all false
set_option maxRecDepth 100000
set_option maxHeartbeats 4000000
namespace W7
open PySem PySem.Spec PyProof.Rows L2 RZ
section
variable {P : Program} {w : World} {K : PySem.W.Frag} {mg : Str → Option Value} {base : Heap}

theorem pa_starK {X : Cx} {K : PySem.W.Frag} {e : Expr} {es : List Expr} {te : TE} {t : TA} {p : Pos} (hk : X.K = K) (he : PE X e te) (hr : PA X es t) (hs : starEach (.Starred e p :: es) X.env = (true, eval e X.env) :: starEach es X.env := by rfl) : PA X (.Starred e p :: es) (StX.tStar K te t) := by
  subst hk
  exact StX.pa_star he hr hs
def clsW (c : Str × List (Str × Str)) : List Str := ("class" : Str) :: c.1 :: c.2.map pairW
def headW (f : FdT) : List Str := ("function" : Str) :: f.nm :: f.res :: (f.ns.map pairW ++ ("/" : Str) :: f.ms.map pairW)
def fnLines (f : FdT) : List Str := lineT (headW f) :: f.rws.map fun r => rlineT (wordsR r)
def clsLines (cl : ClsT) : List Str := cl.map fun c => lineT (clsW c)
def linesS (cl : ClsT) (fds : List FdT) : List Str := clsLines cl ++ fds.flatMap fnLines
def textS (cl : ClsT) (fds : List FdT) : Str := Txt.join "" (linesS cl fds)
/-- a source whose text may be told -/
structure TxtS (cl : ClsT) (fds : List FdT) : Prop extends TellS cl fds where
  c : ∀ c ∈ cl, c.2.length ≤ 100 ∧ (∀ q ∈ c.2, pairOkB q = true) ∧ lineOkB (clsW c) = true
  f : ∀ f ∈ fds, (f.ns.length ≤ 100 ∧ ∀ q ∈ f.ns, pairOkB q = true) ∧ (f.ms.length ≤ 100 ∧ ∀ q ∈ f.ms, pairOkB q = true) ∧ lineOkB (headW f) = true ∧ ∀ r ∈ f.rws, wokB r = true ∧ lineOkB (wordsR r) = true
  j : ((linesS cl fds).map (·.length)).sum + (linesS cl fds).length * ("" : Str).length ≤ 16777216
def spSrcText (K : PySem.W.Frag) : Sp := fun vs H Q E => ∃ v, vs = [v] ∧ ((∃ c, TyX K H v c ∧ PySem.W.kitOne K c (.ref (He.ga K "Source")) = some false ∧ SrcE K H (.str "source") .non E) ∨
  ∃ (p : Addr) (cl : ClsT) (fds : List FdT), v = .ref p ∧ SrcX K H p cl fds ∧ TxtS cl fds ∧ ∀ H', Same H H' → Q (.str (textS cl fds)) H')
theorem fn_lines_len {fds : List FdT} (h : ∀ f ∈ fds, f.rws.length ≤ 40) : (fds.flatMap fnLines).length ≤ 41 * fds.length := by
  induction fds with
  | nil => exact Nat.le_refl _
  | cons f l ih =>
    have h1 := h f List.mem_cons_self
    have h2 := ih fun g m => h g (List.mem_cons_of_mem _ m)
    have h3 : (fnLines f).length = f.rws.length + 1 := by
      unfold fnLines
      rw [List.length_cons, List.length_map]
    rw [List.flatMap_cons, List.length_append, List.length_cons, h3]
    omega
theorem sc_source_text : FnScope ["source", "lines", "name", "params", "others", "result", "rows", "fields", "row"] ["source"] (defScope s_source_text) := ⟨rfl, rfl, rfl, by decide +kernel, rfl, by decide +kernel, by decide +kernel⟩
theorem ok_source_text (T : Ctx w K mg) (H_errS : HasM P w K mg base 1 "InvalidSource" "__init__" ["self", "part", "at"] (spSrcErr K)) (H_Source_classes : HasM P w K mg base 1 "Source" "classes" ["self"] (spClasses K)) (H_Source_functions : HasM P w K mg base 3 "Source" "functions" ["self"] (spFunctions K)) (H_line_of : Has P w K mg base 1 "line_of" ["words"] (spLineOf K)) (H_pair_words : Has P w K mg base 1 "pair_words" ["pairs"] spPairWords) (H_row_line : Has P w K mg base 2 "row_line" ["words"] (spRowLine K)) (H_row_words : Has P w K mg base 1 "row_words" ["row"] spRowWords) : HasX P w K mg base 4 "source_text" ["source"] (spSrcText K) := by
  obtain ⟨fd, F⟩ := T.D_source_text
  obtain ⟨fd_Source_classes, G_Source_classes, b_Source_classes⟩ := H_Source_classes.ex
  obtain ⟨fd_Source_functions, G_Source_functions, b_Source_functions⟩ := H_Source_functions.ex
  obtain ⟨fd_line_of, G_line_of, b_line_of⟩ := H_line_of.ex
  obtain ⟨fd_pair_words, G_pair_words, b_pair_words⟩ := H_pair_words.ex
  obtain ⟨fd_row_line, G_row_line, b_row_line⟩ := H_row_line.ex
  obtain ⟨fd_row_words, G_row_words, b_row_words⟩ := H_row_words.ex
  refine ⟨⟨fd, F.ok sc_source_text (fun vs H Q E h => ?_) (fun cdv A outer s H vs Q E hr h => ?_), F.bindsN fun _ _ _ _ _ _ us hl => match us, hl with | [_], _ => rfl⟩, F.kp, T.g_source_text⟩
  · obtain ⟨v, rfl, k⟩ := h; rfl
  · obtain ⟨v, rfl, k⟩ := h
    have hr_Source_classes : Room 1 _ := hr.mono (by decide)
    have hr_Source_functions : Room 3 _ := hr.mono (by decide)
    have hr_line_of : Room 1 _ := hr.mono (by decide)
    have hr_pair_words : Room 1 _ := hr.mono (by decide)
    have hr_row_line : Room 2 _ := hr.mono (by decide)
    have hr_row_words : Room 1 _ := hr.mono (by decide)
    have hu := hu_of hr
    obtain ⟨fd_errS, G_errS, b_errS⟩ := H_errS.ex
    have hr_errS : Room 2 _ := hr.mono (by decide)
    obtain ⟨ti, e_STROKE⟩ := T.s_STROKE
    refine ⟨_, (pss_cons (ps_if (pt_not (pt_val (pe_callB call_isi (by rfl) T.f_isinstance (by decide +kernel) (pa_cons (pv 0) (pa_cons (pe_glob (v := .ref (He.ga K "Source")) rfl T.g_Source rfl) pa_nil))))) (pss_one (ps_raiseE (x := "InvalidSource") rfl (takes_of rfl rfl rfl rfl) T.errS G_errS b_errS hr_errS rfl T.g_InvalidSource (by exact (pa_cons pe_str (pa_cons pe_non pa_nil))))) pss_nil)
      (pss_cons (ps_setLc (i := 1) (own := [("name", 2), ("fields", 7)]) (g := gTup K 2 (gCons (gName 2) (gCons (gName 7) (gNil)))) (tt := tYes) rfl sc_source_text.nd rfl rfl (sw_true rfl rfl rfl (by decide +kernel)) (pi_list ((pe_meth0 (pv 0) T.c_Source T.m_Source_classes G_Source_classes hr_Source_classes b_Source_classes .nil pass0))) (blkOk_by (N := ["source", "lines", "name", "params", "others", "result", "rows", "fields", "row"]) (sc := defScope s_source_text) (by decide +kernel)) (fun _ _ _ _ _ => (pg_tup rfl (pgs_cons (pg_name (i := 2) sc_source_text.nd rfl (Or.inl rfl)) (pgs_cons (pg_name (i := 7) sc_source_text.nd rfl (Or.inl rfl)) pgs_nil)))) (fun _ _ _ _ _ => pts_nil) (fun _ _ _ _ _ => (pe_call G_line_of hr_line_of (by rfl) H_line_of.gl H_line_of.kp b_line_of .nil pass0 (pa_cons (pe_lst (pa_cons pe_str (pa_cons (pv 2) (pa_starK (K := K) rfl (pe_call G_pair_words hr_pair_words (by rfl) H_pair_words.gl H_pair_words.kp b_pair_words .nil pass0 (pa_cons (pv 7) pa_nil)) pa_nil)))) pa_nil))))
      (pss_cons (ps_for (passes_of rfl) rfl (pi_list ((pe_meth0 (pv 0) T.c_Source T.m_Source_functions G_Source_functions hr_Source_functions b_Source_functions .nil pass0))) (pg_tup rfl (pgs_cons (pg_name (i := 2) sc_source_text.nd rfl (Or.inl rfl)) (pgs_cons (pg_name (i := 3) sc_source_text.nd rfl (Or.inl rfl)) (pgs_cons (pg_name (i := 4) sc_source_text.nd rfl (Or.inl rfl)) (pgs_cons (pg_name (i := 5) sc_source_text.nd rfl (Or.inl rfl)) (pgs_cons (pg_name (i := 6) sc_source_text.nd rfl (Or.inl rfl)) pgs_nil))))))
      (pss_cons (ps_expr (pe_bm PySem.F.plainAttrs_list PySem.F.slot_list_append PySem.F.type_list_append mt_append (pv 1) (pa_cons (pe_call G_line_of hr_line_of (by rfl) H_line_of.gl H_line_of.kp b_line_of .nil pass0 (pa_cons (pe_lst (pa_cons pe_str (pa_cons (pv 2) (pa_cons (pv 5) (pa_starK (K := K) rfl (pe_call G_pair_words hr_pair_words (by rfl) H_pair_words.gl H_pair_words.kp b_pair_words .nil pass0 (pa_cons (pv 3) pa_nil)) (pa_cons (pe_glob (v := .str "/") rfl e_STROKE ⟨_, rfl⟩) (pa_starK (K := K) rfl (pe_call G_pair_words hr_pair_words (by rfl) H_pair_words.gl H_pair_words.kp b_pair_words .nil pass0 (pa_cons (pv 4) pa_nil)) pa_nil))))))) pa_nil)) pa_nil)))
      (pss_one (ps_expr (pe_bm PySem.F.plainAttrs_list PySem.F.slot_list_extend PySem.F.type_list_extend mt_extend (pv 1) (pa_cons (pe_lc (own := [("row", 8)]) (g := gName 8) (tt := tYes) rfl sc_source_text.nd (pi_list (pv 6)) (blkOk_by (N := ["source", "lines", "name", "params", "others", "result", "rows", "fields", "row"]) (sc := defScope s_source_text) (by decide +kernel)) (fun _ _ _ _ _ => (pg_name (i := 8) sc_source_text.nd rfl (Or.inl rfl))) (fun _ _ _ _ _ => pts_nil) (fun _ _ _ _ _ => (pe_call G_row_line hr_row_line (by rfl) H_row_line.gl H_row_line.kp b_row_line .nil pass0 (pa_cons (pe_call G_row_words hr_row_words (by rfl) H_row_words.gl H_row_words.kp b_row_words .nil pass0 (pa_cons (pv 8) pa_nil)) pa_nil)))) pa_nil))))))
      (pss_one (ps_ret (pe_join pe_str (pv 1))))))), ?_⟩
    rcases k with ⟨c, tx, kt, kE⟩ | ⟨p, cl, fds, rfl, X, TS, k⟩
    · refine ⟨_, rfl, _, _, _, _, false, rfl, .own _, tx, kt, false, rfl, iteT ?_⟩
      exact ⟨by show 2 ≤ 1000; decide, fun a hn => src_made hn T.errS fun d n => kE d n⟩
    obtain ⟨dx, fs, ob, n1, n2⟩ := X.ins
    obtain ⟨t1, t2⟩ := T.isSource ob
    refine ⟨_, rfl, _, _, _, _, true, rfl, .own _, t1, t2, true, rfl, iteF ?_⟩
    refine ⟨_, rfl, p, dx, fs, rfl, ob, n1, p, cl, fds, rfl, X, TS.toTellS, fun ca H1 s1 C1 => ?_⟩
    obtain ⟨es, e1, e2, e3⟩ := C1
    refine ⟨ca, rfl, ⟨_, SqL.of e1⟩, fun D hD => ?_⟩
    have lc := TS.lc
    refine lc_pure (walk_list (K := K) (a := ca) (xs := es.map V.ref)) hD (fun i => .str (lineT (clsW (cl.getD i ("", []))))) (by rw [List.length_map, e2]; omega) (fun H2 s2 => SqL.of (s2 _ _ e1)) (fun i H2 y H3 hi s2 hy Qe qe => ?_) (fun H2 s2 h2 => ?_)
    · obtain ⟨rfl, hy⟩ := hy
      obtain ⟨e, he, rfl⟩ := map_get hy
      have hic : i < cl.length := by
        rw [← e2]
        exact (List.getElem?_eq_some_iff.mp he).1
      have hc : cl[i]? = some cl[i] := List.getElem?_eq_getElem hic
      have ex : cl.getD i ("", []) = cl[i] := by rw [List.getD_eq_getElem?_getD, hc]; rfl
      rw [ex] at qe
      obtain ⟨la, ps, q1, _, q2, q3⟩ := e3 i e _ he hc
      obtain ⟨c1, c2, c3⟩ := TS.c _ (List.mem_of_getElem? hc)
      generalize cl[i] = c at *
      refine ⟨e, _, rfl, SqT.of (s2 _ _ q1), rfl, _, _, rfl, _, _, rfl, rfl, rfl, ?_⟩
      refine ⟨_, rfl, _, rfl, la, ps, c.2, rfl, s2 _ _ q2, q3.mono s2, c1, c2, fun q H4 s4 _ h4 => ⟨q, _, rfl, .inr (SqL.of h4), sz_of ?_, fun l hl => ?_⟩⟩
      · simp
        omega
      have s5 := Same.new (o := .lst ((clsW c).map V.str)) hl
      have e5 : (V.str "class" :: V.str c.1 :: ((c.2.map pairW).map V.str ++ []) : List V) = (clsW c).map V.str := by
        rw [List.append_nil]
        rfl
      refine ⟨l, clsW c, rfl, SqL.of (by rw [upd_same]; exact congrArg (fun z => some (HO.lst z)) e5), c3, qe _ ?_⟩
      rw [e5]
      exact s4.trans s5
    have h2 : H2 D = some (.lst ((clsLines cl).map V.str)) := by
      rw [h2, List.length_map, e2]
      refine congrArg (fun z => some (HO.lst z)) ?_
      unfold clsLines
      apply List.ext_getElem
      · simp
      · intro i g1 g2
        simp at g1
        simp [g1]
    have s12 := s1.trans s2
    have X2 := X.mono s12
    refine ⟨_, rfl, p, dx, fs, rfl, s12 _ _ ob, n2, p, cl, fds, rfl, X2, TS.toTellS, fun fa H3 s3 nfa C3 => ?_⟩
    obtain ⟨gs, g1, g2, g3⟩ := C3
    have hD3 := s3 _ _ h2
    have zD : ∀ {b : Addr}, H2 b = none → b ≠ D := fun z w => by
      rw [w, h2] at z
      cases z
    have fne : fa ≠ D := zD nfa
    have lf := TS.lf
    refine ⟨fa, rfl, ⟨_, SqL.of g1⟩, ?_⟩
    have bound : ∀ i, ((clsLines cl ++ (fds.take i).flatMap fnLines)).length ≤ 1000 := fun i => by
      have h1 := fn_lines_len (fds := fds.take i) fun f m => TS.lr f (List.take_subset _ _ m)
      have h2 : (fds.take i).length ≤ 6 := by
        rw [List.length_take]
        omega
      have h3 : (clsLines cl).length = cl.length := by
        unfold clsLines
        rw [List.length_map]
      rw [List.length_append, h3]
      omega
    refine for_it (walk_list (K := K) (a := fa) (xs := gs.map V.ref)) (fun i σ H1 => ∃ v2 v3 v4 v5 v6 v7 v8 : Option V, σ = [some (.ref p), some (.ref D), v2, v3, v4, v5, v6, v7, v8] ∧ But D H3 H1 ∧ H1 D = some (.lst ((clsLines cl ++ (fds.take i).flatMap fnLines).map V.str))) ⟨_, _, _, _, _, _, _, rfl, But.refl _ _, by rw [hD3]; simp⟩ (fun i σ H1 _ ⟨_, _, _, _, _, _, _, _, b1, _⟩ => SqL.of (b1 _ _ g1 fne)) ?_ ?_
    · rintro i y σ H4 H5 hi ⟨v2, v3, v4, v5, v6, v7, v8, rfl, b4, hD4⟩ ⟨rfl, hy⟩
      obtain ⟨e, he, rfl⟩ := map_get hy
      have hic : i < fds.length := by
        rw [← g2]
        exact (List.getElem?_eq_some_iff.mp he).1
      have hc : fds[i]? = some fds[i] := List.getElem?_eq_getElem hic
      have bd := bound (i + 1)
      have bd0 := bound i
      have tk : fds.take (i + 1) = fds.take i ++ [fds[i]] := take_snoc hc
      rw [tk, List.flatMap_append] at bd
      obtain ⟨⟨p1, p2⟩, ⟨p3, p4⟩, p5, p6⟩ := TS.f _ (List.mem_of_getElem? hc)
      have lr := TS.lr _ (List.mem_of_getElem? hc)
      have E3 := (g3 i e _ he hc).to (Y := fun b => H2 b = none) (fun _ z => z) (.butZ hD3 (fun _ z => zD z) b4)
      have goal : ∀ (H6 : Hp), But D H3 H6 → H6 D = some (.lst ((clsLines cl ++ (fds.take i).flatMap fnLines).map V.str ++ (fnLines fds[i]).map V.str)) → H6 D = some (.lst ((clsLines cl ++ (fds.take (i + 1)).flatMap fnLines).map V.str)) := fun H6 _ h => by
        rw [h, tk, List.flatMap_append, List.flatMap_cons, List.flatMap_nil, List.append_nil]
        simp only [List.map_append, List.append_assoc]
      generalize fds[i] = f at *
      obtain ⟨pa, oa, ra, ps, qs, rs, q1, ⟨z1, z2, z3⟩, q2, q3, q4, q5, q6, q7⟩ := E3
      refine ⟨e, _, rfl, SqT.of q1, rfl, _, _, rfl, _, _, rfl, _, _, rfl, _, _, rfl, _, _, rfl, rfl, ?_⟩
      -- lines.append(..)
      refine ⟨_, rfl, .inl ⟨rfl, _, SqL.of hD4⟩, _, rfl, _, rfl, _, rfl, pa, ps, f.ns, rfl, q2, q3, p1, p2, fun w1 H6 s6 _ h6 => ⟨w1, _, rfl, .inr (SqL.of h6), _, rfl, oa, qs, f.ms, rfl, s6 _ _ q4, q5.mono s6, p3, p4, fun w2 H7 s7 _ h7 => ⟨w2, _, rfl, .inr (SqL.of h7), sz_of ?_, fun l hl => ?_⟩⟩⟩
      · simp
        omega
      have s8 := Same.new (o := .lst ((headW f).map V.str)) hl
      have e8 : (V.str "function" :: V.str f.nm :: V.str f.res :: ((f.ns.map pairW).map V.str ++ V.str "/" :: ((f.ms.map pairW).map V.str ++ [])) : List V) = (headW f).map V.str := by
        simp [headW]
      refine ⟨l, headW f, rfl, SqL.of (by rw [upd_same]; exact congrArg (fun z => some (HO.lst z)) e8), p5, ?_⟩
      have s48 : Same H5 (upd H7 l (.lst ((headW f).map V.str))) := (s6.trans s7).trans s8
      have hD8 := s48 _ _ hD4
      rw [e8]
      refine ⟨D, _, _, rfl, rfl, hD8, sz_lt (by rw [List.length_map]; omega), ?_⟩
      have b8 : But D H5 (upd (upd H7 l (.lst ((headW f).map V.str))) D (.lst ((clsLines cl ++ (fds.take i).flatMap fnLines).map V.str ++ [.str (lineT (headW f))]))) := (But.of s48).trans But.upd
      have hD9 : upd (upd H7 l (.lst ((headW f).map V.str))) D (.lst ((clsLines cl ++ (fds.take i).flatMap fnLines).map V.str ++ [.str (lineT (headW f))])) D = some (.lst ((clsLines cl ++ (fds.take i).flatMap fnLines).map V.str ++ [.str (lineT (headW f))])) := upd_same
      generalize upd (upd H7 l (.lst ((headW f).map V.str))) D (.lst ((clsLines cl ++ (fds.take i).flatMap fnLines).map V.str ++ [.str (lineT (headW f))])) = H9 at *
      have hra := b8 _ _ q6 (zD z3)
      have q9 := q7.to (Y := fun b => H2 b = none) (fun _ z => z) (.butZ hD4 (fun _ z => zD z) b8)
      -- lines.extend(..)
      refine ⟨_, rfl, .inl ⟨rfl, _, SqL.of hD9⟩, _, rfl, ra, rfl, ⟨_, SqL.of hra⟩, fun D2 hD2 => ?_⟩
      refine lc_pure (walk_list (K := K) (a := ra) (xs := rs.map V.ref)) hD2 (fun j => .str (rlineT (wordsR (f.rws.getD j (.jump 0))))) (by rw [List.length_map, q7.len]; omega) (fun Ha sa => SqL.of (sa _ _ hra)) (fun j Ha y Hb hj sa hy Qe qe => ?_) (fun Ha sa h10 => ?_)
      · obtain ⟨rfl, hy⟩ := hy
        obtain ⟨t, ht, rfl⟩ := map_get hy
        have hjr : j < f.rws.length := by
          rw [← q7.len]
          exact (List.getElem?_eq_some_iff.mp ht).1
        have hr2 : f.rws[j]? = some f.rws[j] := List.getElem?_eq_getElem hjr
        have er : f.rws.getD j (.jump 0) = f.rws[j] := by rw [List.getD_eq_getElem?_getD, hr2]; rfl
        rw [er] at qe
        obtain ⟨w1, w2⟩ := p6 _ (List.mem_of_getElem? hr2)
        refine ⟨rfl, _, rfl, t, _, rfl, (q9.at_ j t _ ht hr2).to (fun _ _ => trivial) (.of sa), w1, fun u Hc sc _ hu => ⟨u, _, rfl, SqL.of hu, w2, qe _ sc⟩⟩
      · have h10 : Ha D2 = some (.lst ((f.rws.map fun r => rlineT (wordsR r)).map V.str)) := by
          rw [h10, List.length_map, q7.len]
          refine congrArg (fun z => some (HO.lst z)) ?_
          apply List.ext_getElem
          · simp
          · intro i k1 k2
            simp at k1
            simp [k1]
        have hDa := sa _ _ hD9
        have bl : (fnLines f).length = f.rws.length + 1 := by
          unfold fnLines
          rw [List.length_cons, List.length_map]
        refine ⟨D, D2, _, _, rfl, rfl, hDa, h10, sz_of (by rw [List.length_append, List.length_map, List.length_map, List.length_map, List.length_singleton]; omega), ?_⟩
        have b11 : But D H3 (upd Ha D (.lst ((clsLines cl ++ (fds.take i).flatMap fnLines).map V.str ++ [.str (lineT (headW f))] ++ (f.rws.map fun r => rlineT (wordsR r)).map V.str))) := ((b4.trans b8).trans (But.of sa)).trans But.upd
        exact ⟨_, _, _, _, _, _, _, rfl, b11, goal _ b11 (by rw [upd_same]; simp [fnLines])⟩
    · rintro σ H4 ⟨v2, v3, v4, v5, v6, v7, v8, rfl, b4, hD4⟩
      rw [List.length_map, g2, List.take_length] at hD4
      exact ⟨⟨_, rfl⟩, _, rfl, "", D, linesS cl fds, rfl, rfl, .inl (SqL.of hD4), TS.j, k H4 fun b u e => b4 _ _ (s3 _ _ (s12 _ _ e)) fun w => by
        rw [w, none_of s1 hD] at e
        cases e⟩

end
end W7
set_option Elab.async false
set_option linter.all false
set_option maxRecDepth 100000
set_option maxHeartbeats 4000000
namespace W7
open PySem PySem.Spec PyProof.Rows L2 RZ
section
variable {P : Program} {w : World} {K : PySem.W.Frag} {mg : Str → Option Value} {base : Heap}

/-! ### errors, held as values -/
def spE1 (K : PySem.W.Frag) (f : Str) : Sp := fun vs H Q _ => ∃ (a C : Addr) (y : V), vs = [.ref a, y] ∧ ErrOk K C [f] ∧ H a = some (exo a C none) ∧ ∀ dx, H dx = none → dx ≠ a → Q .non (upd (upd H dx (exd dx [(f, y)])) a (exo a C (some dx)))
theorem sc_InvalidState : FnScope ["self", "part"] ["self", "part"] (defScope s_InvalidState_init) := ⟨rfl, rfl, rfl, by decide +kernel, rfl, by decide +kernel, by decide +kernel⟩
theorem ok_InvalidState (T : Ctx w K mg) : HasM P w K mg base 1 "InvalidState" "__init__" ["self", "part"] (spE1 K "part") := by
  obtain ⟨fd, F⟩ := T.D_InvalidState_init
  refine ⟨⟨fd, F.ok sc_InvalidState (fun vs H Q E h => ?_) (fun cdv A outer s H vs Q E hr h => ?_), F.bindsN fun _ _ _ _ _ _ us hl => match us, hl with | [_, _], _ => rfl⟩⟩
  · obtain ⟨a, C, y, rfl, _⟩ := h
    rfl
  · obtain ⟨a, C, y, rfl, O, ha, k⟩ := h
    refine ⟨_, PSs.nox (pss_one (AE.ps_ast (pv 0) (pv 1))), ?_⟩
    exact ⟨_, rfl, _, rfl, a, C, rfl, O.ae, O.no _ (by simp), ha, fun dx n ne => k dx n ne⟩
theorem sc_InvalidArgument : FnScope ["self", "part"] ["self", "part"] (defScope s_InvalidArgument_init) := ⟨rfl, rfl, rfl, by decide +kernel, rfl, by decide +kernel, by decide +kernel⟩
theorem ok_InvalidArgument (T : Ctx w K mg) : HasM P w K mg base 1 "InvalidArgument" "__init__" ["self", "part"] (spE1 K "part") := by
  obtain ⟨fd, F⟩ := T.D_InvalidArgument_init
  refine ⟨⟨fd, F.ok sc_InvalidArgument (fun vs H Q E h => ?_) (fun cdv A outer s H vs Q E hr h => ?_), F.bindsN fun _ _ _ _ _ _ us hl => match us, hl with | [_, _], _ => rfl⟩⟩
  · obtain ⟨a, C, y, rfl, _⟩ := h
    rfl
  · obtain ⟨a, C, y, rfl, O, ha, k⟩ := h
    refine ⟨_, PSs.nox (pss_one (AE.ps_ast (pv 0) (pv 1))), ?_⟩
    exact ⟨_, rfl, _, rfl, a, C, rfl, O.ae, O.no _ (by simp), ha, fun dx n ne => k dx n ne⟩
theorem sc_InvalidNumber : FnScope ["self", "number"] ["self", "number"] (defScope s_InvalidNumber_init) := ⟨rfl, rfl, rfl, by decide +kernel, rfl, by decide +kernel, by decide +kernel⟩
theorem ok_InvalidNumber (T : Ctx w K mg) : HasM P w K mg base 1 "InvalidNumber" "__init__" ["self", "number"] (spE1 K "number") := by
  obtain ⟨fd, F⟩ := T.D_InvalidNumber_init
  refine ⟨⟨fd, F.ok sc_InvalidNumber (fun vs H Q E h => ?_) (fun cdv A outer s H vs Q E hr h => ?_), F.bindsN fun _ _ _ _ _ _ us hl => match us, hl with | [_, _], _ => rfl⟩⟩
  · obtain ⟨a, C, y, rfl, _⟩ := h
    rfl
  · obtain ⟨a, C, y, rfl, O, ha, k⟩ := h
    refine ⟨_, PSs.nox (pss_one (AE.ps_ast (pv 0) (pv 1))), ?_⟩
    exact ⟨_, rfl, _, rfl, a, C, rfl, O.ae, O.no _ (by simp), ha, fun dx n ne => k dx n ne⟩
theorem sc_LimitExceeded : FnScope ["self", "limit"] ["self", "limit"] (defScope s_LimitExceeded_init) := ⟨rfl, rfl, rfl, by decide +kernel, rfl, by decide +kernel, by decide +kernel⟩
theorem ok_LimitExceeded (T : Ctx w K mg) : HasM P w K mg base 1 "LimitExceeded" "__init__" ["self", "limit"] (spE1 K "limit") := by
  obtain ⟨fd, F⟩ := T.D_LimitExceeded_init
  refine ⟨⟨fd, F.ok sc_LimitExceeded (fun vs H Q E h => ?_) (fun cdv A outer s H vs Q E hr h => ?_), F.bindsN fun _ _ _ _ _ _ us hl => match us, hl with | [_, _], _ => rfl⟩⟩
  · obtain ⟨a, C, y, rfl, _⟩ := h
    rfl
  · obtain ⟨a, C, y, rfl, O, ha, k⟩ := h
    refine ⟨_, PSs.nox (pss_one (AE.ps_ast (pv 0) (pv 1))), ?_⟩
    exact ⟨_, rfl, _, rfl, a, C, rfl, O.ae, O.no _ (by simp), ha, fun dx n ne => k dx n ne⟩
theorem sc_InvalidCode : FnScope ["self", "part", "at"] ["self", "part", "at"] (defScope s_InvalidCode_init) := ⟨rfl, rfl, rfl, by decide +kernel, rfl, by decide +kernel, by decide +kernel⟩
theorem ok_InvalidCode (T : Ctx w K mg) : HasM P w K mg base 1 "InvalidCode" "__init__" ["self", "part", "at"] (spSrcErr K) := by
  obtain ⟨fd, F⟩ := T.D_InvalidCode_init
  refine ⟨⟨fd, F.ok sc_InvalidCode (fun vs H Q E h => ?_) (fun cdv A outer s H vs Q E hr h => ?_), F.bindsN fun _ _ _ _ _ _ us hl => match us, hl with | [_, _, _], _ => rfl⟩⟩
  · obtain ⟨a, C, y, z, rfl, _⟩ := h
    rfl
  · obtain ⟨a, C, y, z, rfl, O, ha, k⟩ := h
    refine ⟨_, PSs.nox (pss_cons (AE.ps_ast (pv 0) (pv 1)) (pss_one (AE.ps_ast2 (pv 0) (pv 2)))), ?_⟩
    refine ⟨_, rfl, _, rfl, a, C, rfl, O.ae, O.no _ (by simp), ha, fun dx n ne => ?_⟩
    exact ⟨_, rfl, _, rfl, a, C, dx, _, rfl, O.ae, O.no _ (by simp), upd_same, by rw [upd_ne ne, upd_same], by show 1 ≤ 900; decide, k dx n ne⟩
def ErrAt (H : Hp) (a C : Addr) (fs : List (Str × V)) : Prop := ∃ dd, H a = some (exo a C (some dd)) ∧ H dd = some (exd dd fs)
theorem ErrAt.mono {H H' : Hp} {a C : Addr} {fs : List (Str × V)} (h : ErrAt H a C fs) (e : Same H H') : ErrAt H' a C fs := by
  obtain ⟨dd, h1, h2⟩ := h
  exact ⟨dd, e _ _ h1, e _ _ h2⟩
theorem mk1 {f : Str} {C a : Addr} {y : V} {H1 : Hp} {G : V → Hp → Prop} {E : XK} (O : ErrOk K C [f]) (hn : H1 a = none) (k : ∀ H2, Same H1 H2 → ErrAt H2 a C [(f, y)] → G .non H2) :
    spE1 K f [.ref a, y] (upd H1 a (exo a C none)) G E := by
  refine ⟨a, C, y, rfl, O, upd_same, fun d n ne => k _ (fun b u e => ?_) ⟨d, upd_same, by rw [upd_ne ne, upd_same]⟩⟩
  have e1 : b ≠ a := fun w => by rw [w, hn] at e; cases e
  have e2 : b ≠ d := fun w => by rw [upd_ne ne] at n; rw [w, n] at e; cases e
  rw [upd_ne e1, upd_ne e2, upd_ne e1]
  exact e
theorem mkT {C a : Addr} {y : V} {H1 : Hp} {G : V → Hp → Prop} {E : XK} (O : ErrOk K C ["line"]) (hn : H1 a = none) (k : ∀ H2, Same H1 H2 → ErrAt H2 a C [("line", y)] → G .non H2) :
    spTextInit K [.ref a, y] (upd H1 a (exo a C none)) G E := mk1 (f := "line") (E := E) O hn k
theorem mk2 {C a : Addr} {y z : V} {H1 : Hp} {G : V → Hp → Prop} {E : XK} (O : ErrOk K C ["part", "at"]) (hn : H1 a = none) (k : ∀ H2, Same H1 H2 → ErrAt H2 a C [("at", z), ("part", y)] → G .non H2) :
    spSrcErr K [.ref a, y, z] (upd H1 a (exo a C none)) G E := by
  refine ⟨a, C, y, z, rfl, O, upd_same, fun d n ne => k _ (fun b u e => ?_) ⟨d, by rw [upd_ne ne.symm, upd_same], upd_same⟩⟩
  have e1 : b ≠ a := fun w => by rw [w, hn] at e; cases e
  have e2 : b ≠ d := fun w => by rw [upd_ne ne] at n; rw [w, n] at e; cases e
  rw [upd_ne e2, upd_ne e1, upd_ne e2, upd_ne e1]
  exact e
theorem sql_mono7 {H H' : Hp} {a : Addr} {xs : List V} (h : SqL K H a xs) (e : Same H H') : SqL K H' a xs := Or.imp (fun r => Or.imp (e _ _) (fun ⟨o, q⟩ => ⟨o, e _ _ q⟩) r) id h
/-! ### data stays -/
mutual
theorem dp_mono {H H' : Hp} (e : Same H H') : ∀ (d : PyData) (v : V), Dp K H v d → Dp K H' v d
  | .none, _, h => by cases h; exact .non
  | .bool b, _, h => by cases h; exact .bl b
  | .int i, _, h => by cases h; exact .int i
  | .str x, _, h => by cases h; exact .str x
  | .list ds, _, h => by
    cases h with
    | lst h1 h2 => exact .lst (sql_mono7 h1 e) (dpAll_mono e ds _ h2)
  | .tuple ds, _, h => by
    cases h with
    | tup h1 h2 => exact .tup (Same.tup e h1) (dpAll_mono e ds _ h2)
  | .dict _, _, h => by cases h
theorem dpAll_mono {H H' : Hp} (e : Same H H') : ∀ (ds : List PyData) (vs : List V), DpAll K H vs ds → DpAll K H' vs ds
  | [], _, h => by cases h; exact .nil
  | d :: ds, _, h => by
    cases h with
    | cons h1 h2 => exact .cons (dp_mono e d _ h1) (dpAll_mono e ds _ h2)
end
theorem call_isHA {X : Cx} {K : PySem.W.Frag} (hk : X.K = K) (Ds : List Addr) (C : ∀ D ∈ Ds, ExcC K D) : CallR X (.builtin "isinstance") (fun xs H Q => ∃ (D a : Addr) (fs : List (Str × V)) (c : V) (cv : Value) (b : Bool), D ∈ Ds ∧ xs = [.ref a, c] ∧ ErrAt H a D fs ∧ (∀ u, RelV c u → u = cv) ∧ PySem.W.kitOne K (.ref D) cv = some b ∧ Q (.bl b) H) := by
  subst hk
  intro pins s σ H xs us Q I r h
  obtain ⟨D, a, fs, c, cv, b, m, e, ⟨dd, h1, h2⟩, h3, h4, q⟩ := h
  exact GD.call_isH (C D m) pins s σ H xs us Q I r ⟨a, dd, fs, c, cv, b, e, h1, h2, h3, h4, q⟩
def erC (K : PySem.W.Frag) (j : Nat) : Addr := He.ga K (W7.errN.getD j "")
theorem Ctx.exA (T : Ctx w K mg) : ∀ D ∈ (List.range 7).map (erC K), ExcC K D := by
  intro D m
  obtain ⟨j, hj, rfl⟩ := List.mem_map.mp m
  have hj := List.mem_range.mp hj
  match j, hj with
  | 0, _ => exact T.exc T.errS
  | 1, _ => exact T.exc T.errC
  | 2, _ => exact T.exc T.errT
  | 3, _ => exact T.exc T.errSt
  | 4, _ => exact T.exc T.errA
  | 5, _ => exact T.exc T.errN
  | 6, _ => exact T.exc T.errL
theorem Ctx.mark (T : Ctx w K mg) {i j : Nat} (hi : i < 7) (hj : j < 7) : PySem.W.kitOne K (.ref (erC K i)) (.ref (erC K j)) = some (decide (i = j)) ∧ PySem.W.kitOne K (.ref (erC K i)) (.ref (He.ga K "CodeError")) = some true ∧ PySem.W.kitOne K (.ref (erC K i)) (.type "ArithmeticError") = some true := by
  have mem : ∀ n, n < 7 → W7.errN.getD n "" ∈ W7.errN := by decide +kernel
  have e := List.all_eq_true.mp T.marks _ (mem i hi)
  obtain ⟨e1, e2⟩ := He.ba e
  obtain ⟨e2, e3⟩ := He.ba e2
  have e1 := of_decide_eq_true (List.all_eq_true.mp e1 _ (mem j hj))
  refine ⟨?_, of_decide_eq_true e2, of_decide_eq_true e3⟩
  have inj : ∀ n, n < 7 → ∀ m, m < 7 → (decide (W7.errN.getD n "" = W7.errN.getD m "")) = decide (n = m) := by decide +kernel
  rw [inj i hi j hj] at e1
  exact e1
end
end W7
set_option Elab.async false
set_option linter.all false
set_option maxRecDepth 100000
set_option maxHeartbeats 4000000
namespace W7
open PySem PySem.Spec PyProof.Rows L2 RZ
section
variable {P : Program} {w : World} {K : PySem.W.Frag} {mg : Str → Option Value} {base : Heap}

def marksV (j : Nat) : List V := (List.range 7).map (fun m => .bl (decide (j = m))) ++ [.bl true, .bl true]
def spMarks (K : PySem.W.Frag) : Sp := fun vs H Q _ => ∃ (a : Addr) (j : Nat) (fs : List (Str × V)), vs = [.ref a] ∧ j < 7 ∧ ErrAt H a (erC K j) fs ∧ ∀ p H', Same H H' → H p = none → H' p = some (.lst (marksV j)) → Q (.ref p) H' 
theorem sc_L_marks : FnScope ["_law_e", "_law_marks_here"] ["_law_e"] (defScope s_L_marks) := ⟨rfl, rfl, rfl, by decide +kernel, rfl, by decide +kernel, by decide +kernel⟩
theorem ok_L_marks (T : Ctx w K mg) : Has P w K mg base 1 "_law_marks" ["_law_e"] (spMarks K) := by
  obtain ⟨fd, F⟩ := T.D_L_marks
  refine ⟨⟨fd, F.ok sc_L_marks (fun vs H Q E h => ?_) (fun cdv A outer s H vs Q E hr h => ?_), F.bindsN fun _ _ _ _ _ _ us hl => match us, hl with | [_], _ => rfl⟩, F.kp, T.g_L_marks⟩
  · obtain ⟨a, j, fs, rfl, hj, Er, k⟩ := h; rfl
  · obtain ⟨a, j, fs, rfl, hj, Er, k⟩ := h
    have hu := hu_of hr
    refine ⟨_, PSs.nox (pss_cons (ps_set (i := 1) sc_L_marks.nd rfl (Or.inl rfl) (pe_lst (pa_cons (pe_callB (call_isHA (K := K) rfl ((List.range 7).map (erC K)) T.exA) (by rfl) T.f_isinstance (by decide +kernel) (pa_cons (pv 0) (pa_cons (pe_glob (v := .ref (He.ga K "InvalidSource")) rfl T.g_InvalidSource rfl) pa_nil))) (pa_cons (pe_callB (call_isHA (K := K) rfl ((List.range 7).map (erC K)) T.exA) (by rfl) T.f_isinstance (by decide +kernel) (pa_cons (pv 0) (pa_cons (pe_glob (v := .ref (He.ga K "InvalidCode")) rfl T.g_InvalidCode rfl) pa_nil))) (pa_cons (pe_callB (call_isHA (K := K) rfl ((List.range 7).map (erC K)) T.exA) (by rfl) T.f_isinstance (by decide +kernel) (pa_cons (pv 0) (pa_cons (pe_glob (v := .ref (He.ga K "InvalidText")) rfl T.g_InvalidText rfl) pa_nil))) pa_nil)))))
      (pss_cons (ps_set (i := 1) sc_L_marks.nd rfl (Or.inl rfl) (pe_op op_cat (pv 1) (pe_lst (pa_cons (pe_callB (call_isHA (K := K) rfl ((List.range 7).map (erC K)) T.exA) (by rfl) T.f_isinstance (by decide +kernel) (pa_cons (pv 0) (pa_cons (pe_glob (v := .ref (He.ga K "InvalidState")) rfl T.g_InvalidState rfl) pa_nil))) (pa_cons (pe_callB (call_isHA (K := K) rfl ((List.range 7).map (erC K)) T.exA) (by rfl) T.f_isinstance (by decide +kernel) (pa_cons (pv 0) (pa_cons (pe_glob (v := .ref (He.ga K "InvalidArgument")) rfl T.g_InvalidArgument rfl) pa_nil))) (pa_cons (pe_callB (call_isHA (K := K) rfl ((List.range 7).map (erC K)) T.exA) (by rfl) T.f_isinstance (by decide +kernel) (pa_cons (pv 0) (pa_cons (pe_glob (v := .ref (He.ga K "InvalidNumber")) rfl T.g_InvalidNumber rfl) pa_nil))) pa_nil))))))
      (pss_one (ps_ret (pe_op op_cat (pv 1) (pe_lst (pa_cons (pe_callB (call_isHA (K := K) rfl ((List.range 7).map (erC K)) T.exA) (by rfl) T.f_isinstance (by decide +kernel) (pa_cons (pv 0) (pa_cons (pe_glob (v := .ref (He.ga K "LimitExceeded")) rfl T.g_LimitExceeded rfl) pa_nil))) (pa_cons (pe_callB (call_isHA (K := K) rfl ((List.range 7).map (erC K)) T.exA) (by rfl) T.f_isinstance (by decide +kernel) (pa_cons (pv 0) (pa_cons (pe_glob (v := .ref (He.ga K "CodeError")) rfl T.g_CodeError rfl) pa_nil))) (pa_cons (pe_callB (call_isHA (K := K) rfl ((List.range 7).map (erC K)) T.exA) (by rfl) T.f_isinstance (by decide +kernel) (pa_cons (pv 0) (pa_cons (pe_bltn (v := .ty "ArithmeticError") (u := .type "ArithmeticError") rfl T.f_ArithmeticError (by decide +kernel) rfl) pa_nil))) pa_nil))))))))), ?_⟩
    have hm : erC K j ∈ (List.range 7).map (erC K) := List.mem_map.mpr ⟨j, List.mem_range.mpr hj, rfl⟩
    refine ⟨_, rfl, erC K j, a, fs, _, _, _, hm, rfl, Er, (fun _ r => r), (T.mark hj (show 0 < 7 by decide)).1, _, rfl, erC K j, a, fs, _, _, _, hm, rfl, Er, (fun _ r => r), (T.mark hj (show 1 < 7 by decide)).1, _, rfl, erC K j, a, fs, _, _, _, hm, rfl, Er, (fun _ r => r), (T.mark hj (show 2 < 7 by decide)).1, sz_of (by show 3 ≤ 100000; decide), fun l1 hl1 => ?_⟩
    have s1 := Same.new (o := .lst [.bl (decide (j = 0)), .bl (decide (j = 1)), .bl (decide (j = 2))]) hl1
    have h1 : upd H l1 (.lst [.bl (decide (j = 0)), .bl (decide (j = 1)), .bl (decide (j = 2))]) l1 = some (.lst [.bl (decide (j = 0)), .bl (decide (j = 1)), .bl (decide (j = 2))]) := upd_same
    have E1 := Er.mono s1
    generalize upd H l1 (.lst [.bl (decide (j = 0)), .bl (decide (j = 1)), .bl (decide (j = 2))]) = H1 at *
    refine ⟨_, rfl, _, rfl, erC K j, a, fs, _, _, _, hm, rfl, E1, (fun _ r => r), (T.mark hj (show 3 < 7 by decide)).1, _, rfl, erC K j, a, fs, _, _, _, hm, rfl, E1, (fun _ r => r), (T.mark hj (show 4 < 7 by decide)).1, _, rfl, erC K j, a, fs, _, _, _, hm, rfl, E1, (fun _ r => r), (T.mark hj (show 5 < 7 by decide)).1, sz_of (by show 3 ≤ 100000; decide), fun l2 hl2 => ?_⟩
    have s2 := Same.new (o := .lst [.bl (decide (j = 3)), .bl (decide (j = 4)), .bl (decide (j = 5))]) hl2
    have h2 : upd H1 l2 (.lst [.bl (decide (j = 3)), .bl (decide (j = 4)), .bl (decide (j = 5))]) l2 = some (.lst [.bl (decide (j = 3)), .bl (decide (j = 4)), .bl (decide (j = 5))]) := upd_same
    have h12 := s2 _ _ h1
    have s12 := s1.trans s2
    have E2 := E1.mono s2
    generalize upd H1 l2 (.lst [.bl (decide (j = 3)), .bl (decide (j = 4)), .bl (decide (j = 5))]) = H2 at *
    refine ⟨l1, l2, _, _, rfl, rfl, h12, h2, sz_of (by show 6 ≤ 100000; decide), fun l3 hl3 => ?_⟩
    have s3 := Same.new (o := .lst ([.bl (decide (j = 0)), .bl (decide (j = 1)), .bl (decide (j = 2))] ++ [.bl (decide (j = 3)), .bl (decide (j = 4)), .bl (decide (j = 5))])) hl3
    have h3 : upd H2 l3 (.lst ([.bl (decide (j = 0)), .bl (decide (j = 1)), .bl (decide (j = 2))] ++ [.bl (decide (j = 3)), .bl (decide (j = 4)), .bl (decide (j = 5))])) l3 = some (.lst ([.bl (decide (j = 0)), .bl (decide (j = 1)), .bl (decide (j = 2))] ++ [.bl (decide (j = 3)), .bl (decide (j = 4)), .bl (decide (j = 5))])) := upd_same
    have s13 := s12.trans s3
    have E3 := E2.mono s3
    generalize upd H2 l3 (.lst ([.bl (decide (j = 0)), .bl (decide (j = 1)), .bl (decide (j = 2))] ++ [.bl (decide (j = 3)), .bl (decide (j = 4)), .bl (decide (j = 5))])) = H3 at *
    refine ⟨_, rfl, _, rfl, erC K j, a, fs, _, _, _, hm, rfl, E3, (fun _ r => r), (T.mark hj (show 6 < 7 by decide)).1, _, rfl, erC K j, a, fs, _, _, _, hm, rfl, E3, (fun _ r => r), (T.mark hj hj).2.1, _, rfl, erC K j, a, fs, _, _, _, hm, rfl, E3, (fun _ r => r), (T.mark hj hj).2.2, sz_of (by show 3 ≤ 100000; decide), fun l4 hl4 => ?_⟩
    have s4 := Same.new (o := .lst [.bl (decide (j = 6)), .bl true, .bl true]) hl4
    refine ⟨l3, l4, _, _, rfl, rfl, s4 _ _ h3, upd_same, sz_of (by show 9 ≤ 100000; decide), fun l5 hl5 => ?_⟩
    exact k l5 _ (s13.trans (s4.trans (Same.new hl5))) (none_of s13 (none_of s4 hl5)) upd_same

end
end W7
set_option Elab.async false
set_option linter.all false
set_option maxRecDepth 100000
set_option maxHeartbeats 4000000
namespace W7
open PySem PySem.Spec PyProof.Rows L2 RZ
section
variable {P : Program} {w : World} {K : PySem.W.Frag} {mg : Str → Option Value} {base : Heap}

/-- a method that is called by place and by names -/
structure HasMK (P : Program) (w : World) (K : PySem.W.Frag) (mg : Str → Option Value) (base : Heap) (k : Nat) (C m : Str) (ps ks : List Str) (sp : Sp) : Prop where
  ex : ∃ fd, FnOk P w K mg base CX0 k (He.ma K (He.ga K C) m) fd ps sp ∧ Binds K fd ps [] ∧ KBn K fd ps 1 ks (fun us ws => us ++ ws.reverse) (fun vs zs => vs ++ zs.reverse)
/-- a def that wants no guard around -/
structure HasG (P : Program) (w : World) (K : PySem.W.Frag) (mg : Str → Option Value) (base : Heap) (k : Nat) (x : Str) (ps : List Str) (sp : Sp) : Prop where
  ex : ∃ fd, GD.OkG P w K mg base k (He.ga K x) fd ps sp ∧ Binds K fd ps []
  kp : PySem.W.keepIn K (.ref (He.ga K x)) = true
  gl : mg x = some (.ref (He.ga K x))
theorem scK_InvalidSource : FnScope ["self", "part", "at"] ["self", "part", "at"] (defScope s_InvalidSource_init) := ⟨rfl, rfl, rfl, by decide +kernel, rfl, by decide +kernel, by decide +kernel⟩
theorem okK_InvalidSource (T : Ctx w K mg) : HasMK P w K mg base 1 "InvalidSource" "__init__" ["self", "part", "at"] ["at", "part"] (spSrcErr K) := by
  obtain ⟨fd, F⟩ := T.D_InvalidSource_init
  refine ⟨⟨fd, F.ok scK_InvalidSource (fun vs H Q E h => ?_) (fun cdv A outer s H vs Q E hr h => ?_), F.bindsN (fun _ _ _ _ _ _ us hl => match us, hl with | [_, _, _], _ => rfl), GD.kself F ["at", "part"] (fun _ _ _ _ _ _ _ ws hl => match ws, hl with | [_, _], _ => rfl)⟩⟩
  · obtain ⟨a, C, y, z, rfl, _⟩ := h
    rfl
  · obtain ⟨a, C, y, z, rfl, O, ha, k⟩ := h
    refine ⟨_, PSs.nox (pss_cons (AE.ps_ast (pv 0) (pv 1)) (pss_one (AE.ps_ast2 (pv 0) (pv 2)))), ?_⟩
    refine ⟨_, rfl, _, rfl, a, C, rfl, O.ae, O.no _ (by simp), ha, fun dx n ne => ?_⟩
    exact ⟨_, rfl, _, rfl, a, C, dx, _, rfl, O.ae, O.no _ (by simp), upd_same, by rw [upd_ne ne, upd_same], by show 1 ≤ 900; decide, k dx n ne⟩
theorem scK_InvalidCode : FnScope ["self", "part", "at"] ["self", "part", "at"] (defScope s_InvalidCode_init) := ⟨rfl, rfl, rfl, by decide +kernel, rfl, by decide +kernel, by decide +kernel⟩
theorem okK_InvalidCode (T : Ctx w K mg) : HasMK P w K mg base 1 "InvalidCode" "__init__" ["self", "part", "at"] ["at", "part"] (spSrcErr K) := by
  obtain ⟨fd, F⟩ := T.D_InvalidCode_init
  refine ⟨⟨fd, F.ok scK_InvalidCode (fun vs H Q E h => ?_) (fun cdv A outer s H vs Q E hr h => ?_), F.bindsN (fun _ _ _ _ _ _ us hl => match us, hl with | [_, _, _], _ => rfl), GD.kself F ["at", "part"] (fun _ _ _ _ _ _ _ ws hl => match ws, hl with | [_, _], _ => rfl)⟩⟩
  · obtain ⟨a, C, y, z, rfl, _⟩ := h
    rfl
  · obtain ⟨a, C, y, z, rfl, O, ha, k⟩ := h
    refine ⟨_, PSs.nox (pss_cons (AE.ps_ast (pv 0) (pv 1)) (pss_one (AE.ps_ast2 (pv 0) (pv 2)))), ?_⟩
    refine ⟨_, rfl, _, rfl, a, C, rfl, O.ae, O.no _ (by simp), ha, fun dx n ne => ?_⟩
    exact ⟨_, rfl, _, rfl, a, C, dx, _, rfl, O.ae, O.no _ (by simp), upd_same, by rw [upd_ne ne, upd_same], by show 1 ≤ 900; decide, k dx n ne⟩
theorem scK_InvalidText : FnScope ["self", "line"] ["self", "line"] (defScope s_InvalidText_init) := ⟨rfl, rfl, rfl, by decide +kernel, rfl, by decide +kernel, by decide +kernel⟩
theorem okK_InvalidText (T : Ctx w K mg) : HasMK P w K mg base 1 "InvalidText" "__init__" ["self", "line"] ["line"] (spTextInit K) := by
  obtain ⟨fd, F⟩ := T.D_InvalidText_init
  refine ⟨⟨fd, F.ok scK_InvalidText (fun vs H Q E h => ?_) (fun cdv A outer s H vs Q E hr h => ?_), F.bindsN (fun _ _ _ _ _ _ us hl => match us, hl with | [_, _], _ => rfl), GD.kself F ["line"] (fun _ _ _ _ _ _ _ ws hl => match ws, hl with | [_], _ => rfl)⟩⟩
  · obtain ⟨a, C, y, rfl, _⟩ := h
    rfl
  · obtain ⟨a, C, y, rfl, O, ha, k⟩ := h
    refine ⟨_, PSs.nox (pss_one (AE.ps_ast (pv 0) (pv 1))), ?_⟩
    exact ⟨_, rfl, _, rfl, a, C, rfl, O.ae, O.no _ (by simp), ha, fun dx n ne => k dx n ne⟩
theorem scK_InvalidState : FnScope ["self", "part"] ["self", "part"] (defScope s_InvalidState_init) := ⟨rfl, rfl, rfl, by decide +kernel, rfl, by decide +kernel, by decide +kernel⟩
theorem okK_InvalidState (T : Ctx w K mg) : HasMK P w K mg base 1 "InvalidState" "__init__" ["self", "part"] ["part"] (spE1 K "part") := by
  obtain ⟨fd, F⟩ := T.D_InvalidState_init
  refine ⟨⟨fd, F.ok scK_InvalidState (fun vs H Q E h => ?_) (fun cdv A outer s H vs Q E hr h => ?_), F.bindsN (fun _ _ _ _ _ _ us hl => match us, hl with | [_, _], _ => rfl), GD.kself F ["part"] (fun _ _ _ _ _ _ _ ws hl => match ws, hl with | [_], _ => rfl)⟩⟩
  · obtain ⟨a, C, y, rfl, _⟩ := h
    rfl
  · obtain ⟨a, C, y, rfl, O, ha, k⟩ := h
    refine ⟨_, PSs.nox (pss_one (AE.ps_ast (pv 0) (pv 1))), ?_⟩
    exact ⟨_, rfl, _, rfl, a, C, rfl, O.ae, O.no _ (by simp), ha, fun dx n ne => k dx n ne⟩
theorem scK_InvalidArgument : FnScope ["self", "part"] ["self", "part"] (defScope s_InvalidArgument_init) := ⟨rfl, rfl, rfl, by decide +kernel, rfl, by decide +kernel, by decide +kernel⟩
theorem okK_InvalidArgument (T : Ctx w K mg) : HasMK P w K mg base 1 "InvalidArgument" "__init__" ["self", "part"] ["part"] (spE1 K "part") := by
  obtain ⟨fd, F⟩ := T.D_InvalidArgument_init
  refine ⟨⟨fd, F.ok scK_InvalidArgument (fun vs H Q E h => ?_) (fun cdv A outer s H vs Q E hr h => ?_), F.bindsN (fun _ _ _ _ _ _ us hl => match us, hl with | [_, _], _ => rfl), GD.kself F ["part"] (fun _ _ _ _ _ _ _ ws hl => match ws, hl with | [_], _ => rfl)⟩⟩
  · obtain ⟨a, C, y, rfl, _⟩ := h
    rfl
  · obtain ⟨a, C, y, rfl, O, ha, k⟩ := h
    refine ⟨_, PSs.nox (pss_one (AE.ps_ast (pv 0) (pv 1))), ?_⟩
    exact ⟨_, rfl, _, rfl, a, C, rfl, O.ae, O.no _ (by simp), ha, fun dx n ne => k dx n ne⟩
theorem scK_InvalidNumber : FnScope ["self", "number"] ["self", "number"] (defScope s_InvalidNumber_init) := ⟨rfl, rfl, rfl, by decide +kernel, rfl, by decide +kernel, by decide +kernel⟩
theorem okK_InvalidNumber (T : Ctx w K mg) : HasMK P w K mg base 1 "InvalidNumber" "__init__" ["self", "number"] ["number"] (spE1 K "number") := by
  obtain ⟨fd, F⟩ := T.D_InvalidNumber_init
  refine ⟨⟨fd, F.ok scK_InvalidNumber (fun vs H Q E h => ?_) (fun cdv A outer s H vs Q E hr h => ?_), F.bindsN (fun _ _ _ _ _ _ us hl => match us, hl with | [_, _], _ => rfl), GD.kself F ["number"] (fun _ _ _ _ _ _ _ ws hl => match ws, hl with | [_], _ => rfl)⟩⟩
  · obtain ⟨a, C, y, rfl, _⟩ := h
    rfl
  · obtain ⟨a, C, y, rfl, O, ha, k⟩ := h
    refine ⟨_, PSs.nox (pss_one (AE.ps_ast (pv 0) (pv 1))), ?_⟩
    exact ⟨_, rfl, _, rfl, a, C, rfl, O.ae, O.no _ (by simp), ha, fun dx n ne => k dx n ne⟩
theorem scK_LimitExceeded : FnScope ["self", "limit"] ["self", "limit"] (defScope s_LimitExceeded_init) := ⟨rfl, rfl, rfl, by decide +kernel, rfl, by decide +kernel, by decide +kernel⟩
theorem okK_LimitExceeded (T : Ctx w K mg) : HasMK P w K mg base 1 "LimitExceeded" "__init__" ["self", "limit"] ["limit"] (spE1 K "limit") := by
  obtain ⟨fd, F⟩ := T.D_LimitExceeded_init
  refine ⟨⟨fd, F.ok scK_LimitExceeded (fun vs H Q E h => ?_) (fun cdv A outer s H vs Q E hr h => ?_), F.bindsN (fun _ _ _ _ _ _ us hl => match us, hl with | [_, _], _ => rfl), GD.kself F ["limit"] (fun _ _ _ _ _ _ _ ws hl => match ws, hl with | [_], _ => rfl)⟩⟩
  · obtain ⟨a, C, y, rfl, _⟩ := h
    rfl
  · obtain ⟨a, C, y, rfl, O, ha, k⟩ := h
    refine ⟨_, PSs.nox (pss_one (AE.ps_ast (pv 0) (pv 1))), ?_⟩
    exact ⟨_, rfl, _, rfl, a, C, rfl, O.ae, O.no _ (by simp), ha, fun dx n ne => k dx n ne⟩
theorem call_reprDK {X : Cx} {K : PySem.W.Frag} (hk : X.K = K) (hgd : X.A.guards = some []) (hu : X.A.units + 100 < cLine) : CallR X (.builtin "repr") (GD.rReprD K) := by
  subst hk
  exact GD.call_reprD hgd hu
structure RepOk (x : V) (d : PyData) : Prop where
  s : d.showable = true
  n : d.hasDict = false
  z : d.shown.length ≤ sizeLine
  dp : d.depth ≤ 64
  i : ∀ i : Int, x = .int i → i.natAbs.log2 < 1920
  ok : PyData.strOk d.shown = true
def spErrs (K : PySem.W.Frag) : Sp := fun vs H Q _ => ∃ (x y : V) (d e : PyData), vs = [x, y] ∧ Dp K H x d ∧ Dp K H y e ∧ RepOk x d ∧ RepOk y e ∧ ∀ H', Same H H' → Q (.bl true) H' 

end
end W7
set_option Elab.async false
set_option linter.all false
set_option maxRecDepth 100000
set_option maxHeartbeats 4000000
namespace W7
open PySem PySem.Spec PyProof.Rows L2 RZ
section
variable {P : Program} {w : World} {K : PySem.W.Frag} {mg : Str → Option Value} {base : Heap}

theorem at5 {a b c d e v : V} {xs : List V} : atI (a :: b :: c :: d :: e :: v :: xs) 5 = some v := atI_nat (j := 5) rfl
theorem at6 {a b c d e f v : V} {xs : List V} : atI (a :: b :: c :: d :: e :: f :: v :: xs) 6 = some v := atI_nat (j := 6) rfl
theorem ErrAt.but {H H' : Hp} {q a C : Addr} {xs : List V} {fs : List (Str × V)} (hq : H q = some (.lst xs)) (b : But q H H') (h : ErrAt H a C fs) : ErrAt H' a C fs := by
  obtain ⟨dd, h1, h2⟩ := h
  exact ⟨dd, b _ _ h1 (ne_of h1 hq (by intro z; cases z)), b _ _ h2 (ne_of h2 hq (by intro z; cases z))⟩
/-- seven errors of the program -/
structure Sev (K : PySem.W.Frag) (H : Hp) (x y : V) (a0 a1 a2 a3 a4 a5 a6 : Addr) : Prop where
  e0 : ErrAt H a0 (He.ga K "InvalidSource") [("at", y), ("part", x)]
  e1 : ErrAt H a1 (He.ga K "InvalidCode") [("at", y), ("part", x)]
  e2 : ErrAt H a2 (He.ga K "InvalidText") [("line", x)]
  e3 : ErrAt H a3 (He.ga K "InvalidState") [("part", x)]
  e4 : ErrAt H a4 (He.ga K "InvalidArgument") [("part", x)]
  e5 : ErrAt H a5 (He.ga K "InvalidNumber") [("number", x)]
  e6 : ErrAt H a6 (He.ga K "LimitExceeded") [("limit", x)]
theorem Sev.mono {H H' : Hp} {x y : V} {a0 a1 a2 a3 a4 a5 a6 : Addr} (h : Sev K H x y a0 a1 a2 a3 a4 a5 a6) (e : Same H H') : Sev K H' x y a0 a1 a2 a3 a4 a5 a6 := ⟨h.e0.mono e, h.e1.mono e, h.e2.mono e, h.e3.mono e, h.e4.mono e, h.e5.mono e, h.e6.mono e⟩
theorem Sev.but {H H' : Hp} {x y : V} {q a0 a1 a2 a3 a4 a5 a6 : Addr} {xs : List V} (h : Sev K H x y a0 a1 a2 a3 a4 a5 a6) (hq : H q = some (.lst xs)) (b : But q H H') : Sev K H' x y a0 a1 a2 a3 a4 a5 a6 := ⟨h.e0.but hq b, h.e1.but hq b, h.e2.but hq b, h.e3.but hq b, h.e4.but hq b, h.e5.but hq b, h.e6.but hq b⟩
theorem Sev.get {H : Hp} {x y : V} {a0 a1 a2 a3 a4 a5 a6 : Addr} (h : Sev K H x y a0 a1 a2 a3 a4 a5 a6) {i : Nat} {a : Addr} (e : ([a0, a1, a2, a3, a4, a5, a6] : List Addr)[i]? = some a) : i < 7 ∧ ∃ fs, ErrAt H a (erC K i) fs := by
  match i, e with
  | 0, e => exact ⟨by omega, _, (show a0 = a from Option.some.inj e) ▸ h.e0⟩
  | 1, e => exact ⟨by omega, _, (show a1 = a from Option.some.inj e) ▸ h.e1⟩
  | 2, e => exact ⟨by omega, _, (show a2 = a from Option.some.inj e) ▸ h.e2⟩
  | 3, e => exact ⟨by omega, _, (show a3 = a from Option.some.inj e) ▸ h.e3⟩
  | 4, e => exact ⟨by omega, _, (show a4 = a from Option.some.inj e) ▸ h.e4⟩
  | 5, e => exact ⟨by omega, _, (show a5 = a from Option.some.inj e) ▸ h.e5⟩
  | 6, e => exact ⟨by omega, _, (show a6 = a from Option.some.inj e) ▸ h.e6⟩
  | n + 7, e => simp at e
def nineV (x y : V) : List V := [x, x, x, x, x, x, x, y, y]
def nineS (d e : PyData) : List Str := [d.shown, d.shown, d.shown, d.shown, d.shown, d.shown, d.shown, e.shown, e.shown]
theorem nine_at {x y v : V} {d e : PyData} {i : Nat} (h : (nineV x y)[i]? = some v) : (v = x ∧ (nineS d e).getD i "" = d.shown) ∨ (v = y ∧ (nineS d e).getD i "" = e.shown) := by
  match i, h with
  | 0, h | 1, h | 2, h | 3, h | 4, h | 5, h | 6, h => exact .inl ⟨(Option.some.inj h).symm, rfl⟩
  | 7, h | 8, h => exact .inr ⟨(Option.some.inj h).symm, rfl⟩
  | n + 9, h => simp [nineV] at h
theorem eqv_strs : ∀ ns : List Str, PyData.eqv (.list (ns.map PyData.str)) (.list (ns.map PyData.str)) = true := by
  intro ns
  have key : ∀ ns : List Str, PyData.eqvAll (ns.map PyData.str) (ns.map PyData.str) = true := by
    intro ns
    induction ns with
    | nil => rfl
    | cons a l ih =>
      rw [List.map_cons, PyData.eqvAll, ih, PyData.eqv]
      simp
  rw [PyData.eqv]
  exact key ns
def bitsD (bs : List Bool) : PyData := .list (bs.map PyData.bool)
theorem dp_bits {H : Hp} {a : Addr} {bs : List Bool} (h : H a = some (.lst (bs.map V.bl))) : Dp K H (.ref a) (bitsD bs) := by
  refine .lst (SqL.of h) ?_
  clear h
  induction bs with
  | nil => exact .nil
  | cons x l ih => exact .cons (.bl _) ih
def marksB2 (j : Nat) : List Bool := (List.range 7).map (fun m => decide (j = m)) ++ [true, true]
theorem marks_eq (j : Nat) : marksV j = (marksB2 j).map V.bl := by
  unfold marksV marksB2
  rw [List.map_append, List.map_map]
  rfl
theorem lap7 : ∀ i : Nat, i < 14 → ∀ m : Nat, m < 7 → decide (V.int ((i : Int) - 7 * Int.fdiv (i : Int) 7) = V.int (0 + (m : Int))) = decide (i % 7 = m) := by decide +kernel
theorem bits_ok : ∀ j, j < 7 → SeqAt.shaped (bitsD (marksB2 j)) = true ∧ PyData.eqv (bitsD (marksB2 j)) (bitsD (marksB2 j)) = true := by decide +kernel

theorem sc_L_errors_right : FnScope ["_law_odd", "_law_spot", "_law_some_here", "_law_twins", "_law_e", "_law_k", "_law_told", "_law_one", "_law_spare"] ["_law_odd", "_law_spot"] (defScope s_L_errors_right) := ⟨rfl, rfl, rfl, by decide +kernel, rfl, by decide +kernel, by decide +kernel⟩
theorem ok_L_errors_right (T : Ctx w K mg) (H_InvalidSource : HasMK P w K mg base 1 "InvalidSource" "__init__" ["self", "part", "at"] ["at", "part"] (spSrcErr K)) (H_InvalidCode : HasMK P w K mg base 1 "InvalidCode" "__init__" ["self", "part", "at"] ["at", "part"] (spSrcErr K)) (H_InvalidText : HasMK P w K mg base 1 "InvalidText" "__init__" ["self", "line"] ["line"] (spTextInit K)) (H_InvalidState : HasMK P w K mg base 1 "InvalidState" "__init__" ["self", "part"] ["part"] (spE1 K "part")) (H_InvalidArgument : HasMK P w K mg base 1 "InvalidArgument" "__init__" ["self", "part"] ["part"] (spE1 K "part")) (H_InvalidNumber : HasMK P w K mg base 1 "InvalidNumber" "__init__" ["self", "number"] ["number"] (spE1 K "number")) (H_LimitExceeded : HasMK P w K mg base 1 "LimitExceeded" "__init__" ["self", "limit"] ["limit"] (spE1 K "limit")) (H_L_marks : Has P w K mg base 1 "_law_marks" ["_law_e"] (spMarks K)) : HasG P w K mg base 4 "_law_errors_right" ["_law_odd", "_law_spot"] (spErrs K) := by
  obtain ⟨fd, F⟩ := T.D_L_errors_right
  obtain ⟨fd_L_marks, G_L_marks, b_L_marks⟩ := H_L_marks.ex
  refine ⟨⟨fd, GD.okG F sc_L_errors_right (fun vs H Q E h => ?_) (fun cdv A outer s H vs Q E gd hr h => ?_), F.bindsN fun _ _ _ _ _ _ us hl => match us, hl with | [_, _], _ => rfl⟩, F.kp, T.g_L_errors_right⟩
  · obtain ⟨x, y, d, e, rfl, dx, dy, rx, ry, k⟩ := h; rfl
  · obtain ⟨x, y, d, e, rfl, dx, dy, rx, ry, k⟩ := h
    have hr_L_marks : Room 1 _ := hr.mono (by decide)
    have hu := hu_of hr
    obtain ⟨fd_InvalidSource, G_InvalidSource, b_InvalidSource, k_InvalidSource⟩ := H_InvalidSource.ex
    obtain ⟨fd_InvalidCode, G_InvalidCode, b_InvalidCode, k_InvalidCode⟩ := H_InvalidCode.ex
    obtain ⟨fd_InvalidText, G_InvalidText, b_InvalidText, k_InvalidText⟩ := H_InvalidText.ex
    obtain ⟨fd_InvalidState, G_InvalidState, b_InvalidState, k_InvalidState⟩ := H_InvalidState.ex
    obtain ⟨fd_InvalidArgument, G_InvalidArgument, b_InvalidArgument, k_InvalidArgument⟩ := H_InvalidArgument.ex
    obtain ⟨fd_InvalidNumber, G_InvalidNumber, b_InvalidNumber, k_InvalidNumber⟩ := H_InvalidNumber.ex
    obtain ⟨fd_LimitExceeded, G_LimitExceeded, b_LimitExceeded, k_LimitExceeded⟩ := H_LimitExceeded.ex
    have hr_e : Room 2 _ := hr.mono (by decide)
    have h100 : (A.deeper (envOfC "_law_errors_right" (defScope s_L_errors_right) s.heap.objs.size (He.ga K "_law_errors_right") cdv)).units + 100 < cLine := by
      have := hr.un
      omega
    refine ⟨_, PSs.nox (pss_cons (ps_set (i := 2) sc_L_errors_right.nd rfl (Or.inl rfl) (pe_lst (pa_cons (GD.pe_mkE T.errS.ae T.errS.init T.errS.ty G_InvalidSource hr_e b_InvalidSource pass0 (by rfl) T.g_InvalidSource (pa_cons (pv 0) (pa_cons (pv 1) pa_nil))) (pa_cons (GD.pe_mkE T.errC.ae T.errC.init T.errC.ty G_InvalidCode hr_e b_InvalidCode pass0 (by rfl) T.g_InvalidCode (pa_cons (pv 0) (pa_cons (pv 1) pa_nil))) (pa_cons (GD.pe_mkE T.errT.ae T.errT.init T.errT.ty G_InvalidText hr_e b_InvalidText pass0 (by rfl) T.g_InvalidText (pa_cons (pv 0) pa_nil)) (pa_cons (GD.pe_mkE T.errSt.ae T.errSt.init T.errSt.ty G_InvalidState hr_e b_InvalidState pass0 (by rfl) T.g_InvalidState (pa_cons (pv 0) pa_nil)) (pa_cons (GD.pe_mkE T.errA.ae T.errA.init T.errA.ty G_InvalidArgument hr_e b_InvalidArgument pass0 (by rfl) T.g_InvalidArgument (pa_cons (pv 0) pa_nil)) pa_nil)))))))
      (pss_cons (ps_set (i := 2) sc_L_errors_right.nd rfl (Or.inl rfl) (pe_op op_cat (pv 2) (pe_lst (pa_cons (GD.pe_mkE T.errN.ae T.errN.init T.errN.ty G_InvalidNumber hr_e b_InvalidNumber pass0 (by rfl) T.g_InvalidNumber (pa_cons (pv 0) pa_nil)) (pa_cons (GD.pe_mkE T.errL.ae T.errL.init T.errL.ty G_LimitExceeded hr_e b_LimitExceeded pass0 (by rfl) T.g_LimitExceeded (pa_cons (pv 0) pa_nil)) pa_nil)))))
      (pss_cons (ps_set (i := 3) sc_L_errors_right.nd rfl (Or.inl rfl) (pe_lst (pa_cons (GD.pe_mkEK T.errS.ae T.errS.init T.errS.ty G_InvalidSource hr_e k_InvalidSource pass0 (by rfl) T.g_InvalidSource (pk_cons (pv 1) (pk_cons (pv 0) pk_nil))) (pa_cons (GD.pe_mkEK T.errC.ae T.errC.init T.errC.ty G_InvalidCode hr_e k_InvalidCode pass0 (by rfl) T.g_InvalidCode (pk_cons (pv 1) (pk_cons (pv 0) pk_nil))) (pa_cons (GD.pe_mkEK T.errT.ae T.errT.init T.errT.ty G_InvalidText hr_e k_InvalidText pass0 (by rfl) T.g_InvalidText (pk_cons (pv 0) pk_nil)) pa_nil)))))
      (pss_cons (ps_set (i := 3) sc_L_errors_right.nd rfl (Or.inl rfl) (pe_op op_cat (pv 3) (pe_lst (pa_cons (GD.pe_mkEK T.errSt.ae T.errSt.init T.errSt.ty G_InvalidState hr_e k_InvalidState pass0 (by rfl) T.g_InvalidState (pk_cons (pv 0) pk_nil)) (pa_cons (GD.pe_mkEK T.errA.ae T.errA.init T.errA.ty G_InvalidArgument hr_e k_InvalidArgument pass0 (by rfl) T.g_InvalidArgument (pk_cons (pv 0) pk_nil)) (pa_cons (GD.pe_mkEK T.errN.ae T.errN.init T.errN.ty G_InvalidNumber hr_e k_InvalidNumber pass0 (by rfl) T.g_InvalidNumber (pk_cons (pv 0) pk_nil)) pa_nil))))))
      (pss_cons (ps_expr (pe_bm PySem.F.plainAttrs_list PySem.F.slot_list_append PySem.F.type_list_append mt_append (pv 3) (pa_cons (GD.pe_mkEK T.errL.ae T.errL.init T.errL.ty G_LimitExceeded hr_e k_LimitExceeded pass0 (by rfl) T.g_LimitExceeded (pk_cons (pv 0) pk_nil)) pa_nil)))
      (pss_cons (ps_for PassesOwn.never rfl (pi_list (pe_lst (pa_cons (pv 2) (pa_cons (pv 3) pa_nil)))) (pg_name (i := 4) sc_L_errors_right.nd rfl (Or.inl rfl))
      (pss_cons (ps_set (i := 6) sc_L_errors_right.nd rfl (Or.inl rfl) (pe_lst (pa_cons (GD.pe_fldH T.errS.xf (T.errS.no _ (by simp)) (pe_ix ix_list (pv 4) pe_int (fun _ _ => rfl))) (pa_cons (GD.pe_fldH T.errC.xf (T.errC.no _ (by simp)) (pe_ix ix_list (pv 4) pe_int (fun _ _ => rfl))) (pa_cons (GD.pe_fldH T.errT.xf (T.errT.no _ (by simp)) (pe_ix ix_list (pv 4) pe_int (fun _ _ => rfl))) (pa_cons (GD.pe_fldH T.errSt.xf (T.errSt.no _ (by simp)) (pe_ix ix_list (pv 4) pe_int (fun _ _ => rfl))) (pa_cons (GD.pe_fldH T.errA.xf (T.errA.no _ (by simp)) (pe_ix ix_list (pv 4) pe_int (fun _ _ => rfl))) (pa_cons (GD.pe_fldH T.errN.xf (T.errN.no _ (by simp)) (pe_ix ix_list (pv 4) pe_int (fun _ _ => rfl))) (pa_cons (GD.pe_fldH T.errL.xf (T.errL.no _ (by simp)) (pe_ix ix_list (pv 4) pe_int (fun _ _ => rfl))) pa_nil)))))))))
      (pss_one (ps_if (pt_cmpR (op_neD hr.units) (pe_lc (own := [("_law_one", 7)]) (g := gName 7) (tt := tYes) rfl sc_L_errors_right.nd (pi_list (pe_op op_cat (pv 6) (pe_lst (pa_cons (GD.pe_fldH T.errS.xf (T.errS.no _ (by simp)) (pe_ix ix_list (pv 4) pe_int (fun _ _ => rfl))) (pa_cons (GD.pe_fldH T.errC.xf (T.errC.no _ (by simp)) (pe_ix ix_list (pv 4) pe_int (fun _ _ => rfl))) pa_nil))))) (blkOk_by (N := ["_law_odd", "_law_spot", "_law_some_here", "_law_twins", "_law_e", "_law_k", "_law_told", "_law_one", "_law_spare"]) (sc := defScope s_L_errors_right) (by decide +kernel)) (fun _ _ _ _ _ => (pg_name (i := 7) sc_L_errors_right.nd rfl (Or.inl rfl))) (fun _ _ _ _ _ => pts_nil) (fun _ _ _ _ _ => (pe_callB (call_reprDK (K := K) rfl gd h100) (by rfl) T.f_repr (by decide +kernel) (pa_cons (pv 7) pa_nil)))) (pe_op op_cat (pe_op op_rep (pe_lst (pa_cons (pe_callB (call_reprDK (K := K) rfl gd h100) (by rfl) T.f_repr (by decide +kernel) (pa_cons (pv 0) pa_nil)) pa_nil)) pe_int) (pe_op op_rep (pe_lst (pa_cons (pe_callB (call_reprDK (K := K) rfl gd h100) (by rfl) T.f_repr (by decide +kernel) (pa_cons (pv 1) pa_nil)) pa_nil)) pe_int)) (nomark _)) (pss_one (ps_ret pe_bl)) pss_nil))))
      (pss_cons (ps_for PassesOwn.never rfl (pi_enum (by rfl) T.f_enumerate (pa_cons (pe_op op_cat (pv 2) (pv 3)) pa_nil)) (pg_tup rfl (pgs_cons (pg_name (i := 5) sc_L_errors_right.nd rfl (Or.inr rfl)) (pgs_cons (pg_name (i := 4) sc_L_errors_right.nd rfl (Or.inl rfl)) pgs_nil)))
      (pss_one (ps_if (pt_cmpR (op_neD hr.units) (pe_call G_L_marks hr_L_marks (by rfl) H_L_marks.gl H_L_marks.kp b_L_marks .nil pass0 (pa_cons (pv 4) pa_nil)) (pe_op op_cat (pe_lc (own := [("_law_spare", 8)]) (g := gName 8) (tt := tYes) rfl sc_L_errors_right.nd (pi_range1 (by rfl) T.f_range (pa_cons pe_int pa_nil)) (blkOk_by (N := ["_law_odd", "_law_spot", "_law_some_here", "_law_twins", "_law_e", "_law_k", "_law_told", "_law_one", "_law_spare"]) (sc := defScope s_L_errors_right) (by decide +kernel)) (fun _ _ _ _ _ => (pg_name (i := 8) sc_L_errors_right.nd rfl (Or.inl rfl))) (fun _ _ _ _ _ => pts_nil) (fun _ _ _ _ _ => (pe_cmpR op_eq (pe_op op_sub (pv 5) (pe_op op_mul pe_int (pe_op op_fdivN (pv 5) pe_int))) (pv 8) (nomark _)))) (pe_lst (pa_cons pe_bl (pa_cons pe_bl pa_nil)))) (nomark _)) (pss_one (ps_ret pe_bl)) pss_nil)))
      (pss_one (ps_ret pe_bl))))))))), ?_⟩
    refine ⟨_, rfl, _, rfl, by show 2 ≤ 1000; decide, fun a0 n0 => mk2 T.errS n0 fun H1 s1 E0 => ⟨rfl, ?_⟩⟩
    refine ⟨_, rfl, _, rfl, by show 2 ≤ 1000; decide, fun a1 n1 => mk2 T.errC n1 fun H2 s2 E1 => ⟨rfl, ?_⟩⟩
    refine ⟨_, rfl, by show 1 ≤ 1000; decide, fun a2 n2 => mkT T.errT n2 fun H3 s3 E2 => ⟨rfl, ?_⟩⟩
    refine ⟨_, rfl, by show 1 ≤ 1000; decide, fun a3 n3 => mk1 T.errSt n3 fun H4 s4 E3 => ⟨rfl, ?_⟩⟩
    refine ⟨_, rfl, by show 1 ≤ 1000; decide, fun a4 n4 => mk1 T.errA n4 fun H5 s5 E4 => ⟨rfl, ?_⟩⟩
    refine ⟨sz_of (by show 5 ≤ 100000; decide), fun l1 hl1 => ?_⟩
    have s6 := Same.new (o := .lst ([V.ref a0, V.ref a1, V.ref a2, V.ref a3, V.ref a4])) hl1
    have ql1 : upd H5 l1 (.lst ([V.ref a0, V.ref a1, V.ref a2, V.ref a3, V.ref a4])) l1 = some (.lst [V.ref a0, V.ref a1, V.ref a2, V.ref a3, V.ref a4]) := upd_same
    generalize upd H5 l1 (.lst ([V.ref a0, V.ref a1, V.ref a2, V.ref a3, V.ref a4])) = H6 at *
    refine ⟨_, rfl, _, rfl, by show 1 ≤ 1000; decide, fun a5 n5 => mk1 T.errN n5 fun H7 s7 E5 => ⟨rfl, ?_⟩⟩
    refine ⟨_, rfl, by show 1 ≤ 1000; decide, fun a6 n6 => mk1 T.errL n6 fun H8 s8 E6 => ⟨rfl, ?_⟩⟩
    refine ⟨sz_of (by show 2 ≤ 100000; decide), fun l2 hl2 => ?_⟩
    have s9 := Same.new (o := .lst ([V.ref a5, V.ref a6])) hl2
    have ql2 : upd H8 l2 (.lst ([V.ref a5, V.ref a6])) l2 = some (.lst [V.ref a5, V.ref a6]) := upd_same
    generalize upd H8 l2 (.lst ([V.ref a5, V.ref a6])) = H9 at *
    refine ⟨l1, l2, _, _, rfl, rfl, ((s7.trans s8).trans s9) _ _ ql1, (Same.refl _) _ _ ql2, sz_of (by show 7 ≤ 100000; decide), fun l3 hl3 => ?_⟩
    have s10 := Same.new (o := .lst ([V.ref a0, V.ref a1, V.ref a2, V.ref a3, V.ref a4] ++ [V.ref a5, V.ref a6])) hl3
    have ql3 : upd H9 l3 (.lst ([V.ref a0, V.ref a1, V.ref a2, V.ref a3, V.ref a4] ++ [V.ref a5, V.ref a6])) l3 = some (.lst [V.ref a0, V.ref a1, V.ref a2, V.ref a3, V.ref a4, V.ref a5, V.ref a6]) := upd_same
    generalize upd H9 l3 (.lst ([V.ref a0, V.ref a1, V.ref a2, V.ref a3, V.ref a4] ++ [V.ref a5, V.ref a6])) = H10 at *
    refine ⟨_, rfl, _, rfl, rfl, fun a7 n7 => mk2 T.errS n7 fun H11 s11 E7 => ⟨rfl, ?_⟩⟩
    refine ⟨_, rfl, _, rfl, rfl, fun a8 n8 => mk2 T.errC n8 fun H12 s12 E8 => ⟨rfl, ?_⟩⟩
    refine ⟨_, rfl, rfl, fun a9 n9 => mkT T.errT n9 fun H13 s13 E9 => ⟨rfl, ?_⟩⟩
    refine ⟨sz_of (by show 3 ≤ 100000; decide), fun m1 hm1 => ?_⟩
    have s14 := Same.new (o := .lst ([V.ref a7, V.ref a8, V.ref a9])) hm1
    have qm1 : upd H13 m1 (.lst ([V.ref a7, V.ref a8, V.ref a9])) m1 = some (.lst [V.ref a7, V.ref a8, V.ref a9]) := upd_same
    generalize upd H13 m1 (.lst ([V.ref a7, V.ref a8, V.ref a9])) = H14 at *
    refine ⟨_, rfl, _, rfl, rfl, fun a10 n10 => mk1 T.errSt n10 fun H15 s15 E10 => ⟨rfl, ?_⟩⟩
    refine ⟨_, rfl, rfl, fun a11 n11 => mk1 T.errA n11 fun H16 s16 E11 => ⟨rfl, ?_⟩⟩
    refine ⟨_, rfl, rfl, fun a12 n12 => mk1 T.errN n12 fun H17 s17 E12 => ⟨rfl, ?_⟩⟩
    refine ⟨sz_of (by show 3 ≤ 100000; decide), fun m2 hm2 => ?_⟩
    have s18 := Same.new (o := .lst ([V.ref a10, V.ref a11, V.ref a12])) hm2
    have qm2 : upd H17 m2 (.lst ([V.ref a10, V.ref a11, V.ref a12])) m2 = some (.lst [V.ref a10, V.ref a11, V.ref a12]) := upd_same
    generalize upd H17 m2 (.lst ([V.ref a10, V.ref a11, V.ref a12])) = H18 at *
    refine ⟨m1, m2, _, _, rfl, rfl, (((s15.trans s16).trans s17).trans s18) _ _ qm1, (Same.refl _) _ _ qm2, sz_of (by show 6 ≤ 100000; decide), fun m3 hm3 => ?_⟩
    have s19 := Same.new (o := .lst ([V.ref a7, V.ref a8, V.ref a9] ++ [V.ref a10, V.ref a11, V.ref a12])) hm3
    have qm3 : upd H18 m3 (.lst ([V.ref a7, V.ref a8, V.ref a9] ++ [V.ref a10, V.ref a11, V.ref a12])) m3 = some (.lst [V.ref a7, V.ref a8, V.ref a9, V.ref a10, V.ref a11, V.ref a12]) := upd_same
    generalize upd H18 m3 (.lst ([V.ref a7, V.ref a8, V.ref a9] ++ [V.ref a10, V.ref a11, V.ref a12])) = H19 at *
    refine ⟨_, rfl, .inl ⟨rfl, _, SqL.of qm3⟩, _, rfl, rfl, fun a13 n13 => mk1 T.errL n13 fun H20 s20 E13 => ⟨rfl, ?_⟩⟩
    have pm3 := s20 _ _ qm3
    have pl3 := (((((((((s11.trans s12).trans s13).trans s14).trans s15).trans s16).trans s17).trans s18).trans s19).trans s20) _ _ ql3
    have V1 : Sev K H20 x y a0 a1 a2 a3 a4 a5 a6 := ⟨E0.mono ((((((((((((((((((s2.trans s3).trans s4).trans s5).trans s6).trans s7).trans s8).trans s9).trans s10).trans s11).trans s12).trans s13).trans s14).trans s15).trans s16).trans s17).trans s18).trans s19).trans s20), E1.mono (((((((((((((((((s3.trans s4).trans s5).trans s6).trans s7).trans s8).trans s9).trans s10).trans s11).trans s12).trans s13).trans s14).trans s15).trans s16).trans s17).trans s18).trans s19).trans s20), E2.mono ((((((((((((((((s4.trans s5).trans s6).trans s7).trans s8).trans s9).trans s10).trans s11).trans s12).trans s13).trans s14).trans s15).trans s16).trans s17).trans s18).trans s19).trans s20), E3.mono (((((((((((((((s5.trans s6).trans s7).trans s8).trans s9).trans s10).trans s11).trans s12).trans s13).trans s14).trans s15).trans s16).trans s17).trans s18).trans s19).trans s20), E4.mono ((((((((((((((s6.trans s7).trans s8).trans s9).trans s10).trans s11).trans s12).trans s13).trans s14).trans s15).trans s16).trans s17).trans s18).trans s19).trans s20), E5.mono ((((((((((((s8.trans s9).trans s10).trans s11).trans s12).trans s13).trans s14).trans s15).trans s16).trans s17).trans s18).trans s19).trans s20), E6.mono (((((((((((s9.trans s10).trans s11).trans s12).trans s13).trans s14).trans s15).trans s16).trans s17).trans s18).trans s19).trans s20)⟩
    have V2 : Sev K H20 x y a7 a8 a9 a10 a11 a12 a13 := ⟨E7.mono ((((((((s12.trans s13).trans s14).trans s15).trans s16).trans s17).trans s18).trans s19).trans s20), E8.mono (((((((s13.trans s14).trans s15).trans s16).trans s17).trans s18).trans s19).trans s20), E9.mono ((((((s14.trans s15).trans s16).trans s17).trans s18).trans s19).trans s20), E10.mono ((((s16.trans s17).trans s18).trans s19).trans s20), E11.mono (((s17.trans s18).trans s19).trans s20), E12.mono ((s18.trans s19).trans s20), E13.mono (Same.refl _)⟩
    have sZ : Same H H20 := (((((((((((((((((((s1.trans s2).trans s3).trans s4).trans s5).trans s6).trans s7).trans s8).trans s9).trans s10).trans s11).trans s12).trans s13).trans s14).trans s15).trans s16).trans s17).trans s18).trans s19).trans s20)
    have hm3H : H m3 = none := none_of (((((((((((((((((s1.trans s2).trans s3).trans s4).trans s5).trans s6).trans s7).trans s8).trans s9).trans s10).trans s11).trans s12).trans s13).trans s14).trans s15).trans s16).trans s17).trans s18) hm3
    have nl3 : l3 ≠ m3 := fun w => by
      have z := (((((((s11.trans s12).trans s13).trans s14).trans s15).trans s16).trans s17).trans s18) _ _ ql3
      rw [w, hm3] at z
      cases z
    refine ⟨m3, _, _, rfl, rfl, pm3, sz_lt (by show 6 < 100000; decide), ?_⟩
    have bF : But m3 H20 (upd H20 m3 (.lst ([V.ref a7, V.ref a8, V.ref a9, V.ref a10, V.ref a11, V.ref a12] ++ [V.ref a13]))) := But.upd
    have sF : Same H (upd H20 m3 (.lst ([V.ref a7, V.ref a8, V.ref a9, V.ref a10, V.ref a11, V.ref a12] ++ [V.ref a13]))) := Same.mut sZ hm3H
    have fm : upd H20 m3 (.lst ([V.ref a7, V.ref a8, V.ref a9, V.ref a10, V.ref a11, V.ref a12] ++ [V.ref a13])) m3 = some (.lst [V.ref a7, V.ref a8, V.ref a9, V.ref a10, V.ref a11, V.ref a12, V.ref a13]) := upd_same
    have fl := bF _ _ pl3 nl3
    have W1 := V1.but pm3 bF
    have W2 := V2.but pm3 bF
    generalize upd H20 m3 (.lst ([V.ref a7, V.ref a8, V.ref a9, V.ref a10, V.ref a11, V.ref a12] ++ [V.ref a13])) = F at *
    clear bF V1 V2 pl3 pm3
    have pick : ∀ (i : Nat) (v : V), ([V.ref l3, V.ref m3] : List V)[i]? = some v → ∃ l b0 b1 b2 b3 b4 b5 b6, v = .ref l ∧ F l = some (.lst [V.ref b0, V.ref b1, V.ref b2, V.ref b3, V.ref b4, V.ref b5, V.ref b6]) ∧ Sev K F x y b0 b1 b2 b3 b4 b5 b6 := fun i v e => by
      match i, e with
      | 0, e => exact ⟨l3, a0, a1, a2, a3, a4, a5, a6, (Option.some.inj e).symm, fl, W1⟩
      | 1, e => exact ⟨m3, a7, a8, a9, a10, a11, a12, a13, (Option.some.inj e).symm, fm, W2⟩
      | n + 2, e => simp at e
    refine ⟨_, rfl, _, rfl, sz_of (by show 2 ≤ 100000; decide), fun w hw => ⟨w, rfl, ⟨_, SqL.of upd_same⟩, ?_⟩⟩
    have sw := Same.new (o := .lst [V.ref l3, V.ref m3]) hw
    have qw : upd F w (.lst [V.ref l3, V.ref m3]) w = some (.lst [V.ref l3, V.ref m3]) := upd_same
    generalize upd F w (.lst [V.ref l3, V.ref m3]) = G0 at *
    refine for_it (walk_list (K := K) (a := w) (xs := [V.ref l3, V.ref m3])) (fun i σ Hz => ∃ v4 v5 v6 v7 v8, σ = [some x, some y, some (.ref l3), some (.ref m3), v4, v5, v6, v7, v8] ∧ Same G0 Hz) ⟨_, _, _, _, _, rfl, Same.refl _⟩ (fun i σ Hz _ ⟨_, _, _, _, _, _, sz⟩ => SqL.of (sz _ _ qw)) ?_ ?_
    · rintro i v σ Hz Hz2 hi ⟨v4, v5, v6, v7, v8, rfl, sz⟩ ⟨rfl, hy⟩
      obtain ⟨l, b0, b1, b2, b3, b4, b5, b6, rfl, hl, VV⟩ := pick i v hy
      have sFz := sw.trans sz
      have hl1 := sFz _ _ hl
      have V1 := VV.mono sFz
      obtain ⟨⟨_, x0, y0⟩, ⟨_, x1, y1⟩, ⟨_, x2, y2⟩, ⟨_, x3, y3⟩, ⟨_, x4, y4⟩, ⟨_, x5, y5⟩, ⟨_, x6, y6⟩⟩ := V1
      refine ⟨_, rfl, _, _, _, _, rfl, rfl, SqL.of hl1, at0, b0, _, _, _, rfl, x0, y0, rfl, _, rfl, _, _, _, _, rfl, rfl, SqL.of hl1, at1, b1, _, _, _, rfl, x1, y1, rfl, _, rfl, _, _, _, _, rfl, rfl, SqL.of hl1, at2, b2, _, _, _, rfl, x2, y2, rfl, _, rfl, _, _, _, _, rfl, rfl, SqL.of hl1, at3, b3, _, _, _, rfl, x3, y3, rfl, _, rfl, _, _, _, _, rfl, rfl, SqL.of hl1, at4, b4, _, _, _, rfl, x4, y4, rfl, _, rfl, _, _, _, _, rfl, rfl, SqL.of hl1, at5, b5, _, _, _, rfl, x5, y5, rfl, _, rfl, _, _, _, _, rfl, rfl, SqL.of hl1, at6, b6, _, _, _, rfl, x6, y6, rfl, sz_of (by show 7 ≤ 100000; decide), fun t ht => ?_⟩
      have st := Same.new (o := .lst [x, x, x, x, x, x, x]) ht
      have qt : upd Hz2 t (.lst [x, x, x, x, x, x, x]) t = some (.lst [x, x, x, x, x, x, x]) := upd_same
      generalize upd Hz2 t (.lst [x, x, x, x, x, x, x]) = Ht at *
      refine ⟨_, rfl, _, rfl, _, _, _, _, rfl, rfl, SqL.of (st _ _ hl1), at0, b0, _, _, _, rfl, st _ _ x0, st _ _ y0, rfl, _, rfl, _, _, _, _, rfl, rfl, SqL.of (st _ _ hl1), at1, b1, _, _, _, rfl, st _ _ x1, st _ _ y1, rfl, sz_of (by show 2 ≤ 100000; decide), fun t2 ht2 => ⟨t, t2, _, _, rfl, rfl, Same.new ht2 _ _ qt, upd_same, sz_of (by show 9 ≤ 100000; decide), fun t3 ht3 => ?_⟩⟩
      have st2 := (Same.new (o := .lst [y, y]) ht2).trans (Same.new (o := .lst ([x, x, x, x, x, x, x] ++ [y, y])) ht3)
      have qt3 : upd (upd Ht t2 (.lst [y, y])) t3 (.lst ([x, x, x, x, x, x, x] ++ [y, y])) t3 = some (.lst (nineV x y)) := upd_same
      generalize upd (upd Ht t2 (.lst [y, y])) t3 (.lst ([x, x, x, x, x, x, x] ++ [y, y])) = H3' at *
      have s0 : Same H H3' := sF.trans (sFz.trans (st.trans st2))
      refine ⟨t3, rfl, ⟨_, SqL.of qt3⟩, fun D hD => ?_⟩
      refine lc_pure (walk_list (K := K) (a := t3) (xs := nineV x y)) hD (fun i => .str ((nineS d e).getD i "")) (by show 9 < 100000; decide) (fun Ha sa => SqL.of (sa _ _ qt3)) (fun i Ha v Hb hi sa hy Qe qe => ?_) (fun Ha sa ha => ?_)
      · obtain ⟨rfl, hy⟩ := hy
        rcases nine_at (d := d) (e := e) hy with ⟨rfl, h⟩ | ⟨rfl, h⟩
        · rw [h] at qe
          exact ⟨rfl, _, rfl, _, d, rfl, dp_mono (s0.trans sa) _ _ dx, rx.s, rx.n, rx.z, rx.dp, rx.i, qe _ (Same.refl _)⟩
        · rw [h] at qe
          exact ⟨rfl, _, rfl, _, e, rfl, dp_mono (s0.trans sa) _ _ dy, ry.s, ry.n, ry.z, ry.dp, ry.i, qe _ (Same.refl _)⟩
      have ha : Ha D = some (.lst ((nineS d e).map V.str)) := ha
      refine ⟨_, rfl, x, d, rfl, dp_mono (s0.trans sa) _ _ dx, rx.s, rx.n, rx.z, rx.dp, rx.i, sz_of (by show 1 ≤ 100000; decide), fun r1 hr1 => ⟨r1, 7, _, rfl, rfl, upd_same, by decide, by decide, sz_of (by show 1 * 7 ≤ 100000; decide), fun r2 hr2 => ?_⟩⟩
      have u1 := (Same.new (o := .lst [.str d.shown]) hr1).trans (Same.new (o := .lst (List.replicate (7 : Int).toNat [V.str d.shown]).flatten) hr2)
      have g2 : upd (upd Ha r1 (.lst [.str d.shown])) r2 (.lst (List.replicate (7 : Int).toNat [V.str d.shown]).flatten) r2 = some (.lst (List.replicate (7 : Int).toNat [V.str d.shown]).flatten) := upd_same
      generalize upd (upd Ha r1 (.lst [.str d.shown])) r2 (.lst (List.replicate (7 : Int).toNat [V.str d.shown]).flatten) = Hc at *
      refine ⟨_, rfl, y, e, rfl, dp_mono ((s0.trans sa).trans u1) _ _ dy, ry.s, ry.n, ry.z, ry.dp, ry.i, sz_of (by show 1 ≤ 100000; decide), fun r3 hr3 => ⟨r3, 2, _, rfl, rfl, upd_same, by decide, by decide, sz_of (by show 1 * 2 ≤ 100000; decide), fun r4 hr4 => ⟨r2, r4, _, _, rfl, rfl, Same.new hr4 _ _ (Same.new hr3 _ _ g2), upd_same, sz_of (by show 9 ≤ 100000; decide), fun r5 hr5 => ?_⟩⟩⟩
      have u2 := (Same.new (o := .lst [.str e.shown]) hr3).trans ((Same.new (o := .lst (List.replicate (2 : Int).toNat [V.str e.shown]).flatten) hr4).trans (Same.new (o := .lst ((List.replicate (7 : Int).toNat [V.str d.shown]).flatten ++ (List.replicate (2 : Int).toNat [V.str e.shown]).flatten)) hr5))
      have g5 : upd (upd (upd Hc r3 (.lst [.str e.shown])) r4 (.lst (List.replicate (2 : Int).toNat [V.str e.shown]).flatten)) r5 (.lst ((List.replicate (7 : Int).toNat [V.str d.shown]).flatten ++ (List.replicate (2 : Int).toNat [V.str e.shown]).flatten)) r5 = some (.lst ((nineS d e).map V.str)) := upd_same
      generalize upd (upd (upd Hc r3 (.lst [.str e.shown])) r4 (.lst (List.replicate (2 : Int).toNat [V.str e.shown]).flatten)) r5 (.lst ((List.replicate (7 : Int).toNat [V.str d.shown]).flatten ++ (List.replicate (2 : Int).toNat [V.str e.shown]).flatten)) = He' at *
      have ok9 : SeqAt.shaped (.list ((nineS d e).map PyData.str)) = true := strs_ok fun z m => by
        simp only [nineS, List.mem_cons, List.not_mem_nil, or_false] at m
        rcases m with rfl | rfl | rfl | rfl | rfl | rfl | rfl | rfl | rfl <;> first | exact rx.ok | exact ry.ok
      refine ⟨_, _, dp_strs (u2 _ _ (u1 _ _ ha)), dp_strs g5, ok9, ok9, _, rfl, ifF (by rw [eqv_strs]; rfl) ?_⟩
      exact ⟨_, _, _, _, _, rfl, (sz.trans st).trans (st2.trans (sa.trans (u1.trans u2)))⟩
    rintro σ Hz ⟨v4, v5, v6, v7, v8, rfl, sz⟩
    have sFz := sw.trans sz
    refine ⟨_, rfl, _, rfl, l3, m3, _, _, rfl, rfl, sFz _ _ fl, sFz _ _ fm, sz_of (by show 14 ≤ 100000; decide), fun w2 hw2 => ⟨w2, _, rfl, SqL.of upd_same, ?_⟩⟩
    have s2' := Same.new (o := .lst ([V.ref a0, V.ref a1, V.ref a2, V.ref a3, V.ref a4, V.ref a5, V.ref a6] ++ [V.ref a7, V.ref a8, V.ref a9, V.ref a10, V.ref a11, V.ref a12, V.ref a13])) hw2
    have qw2 : upd Hz w2 (.lst ([V.ref a0, V.ref a1, V.ref a2, V.ref a3, V.ref a4, V.ref a5, V.ref a6] ++ [V.ref a7, V.ref a8, V.ref a9, V.ref a10, V.ref a11, V.ref a12, V.ref a13])) w2 = some (.lst [V.ref a0, V.ref a1, V.ref a2, V.ref a3, V.ref a4, V.ref a5, V.ref a6, V.ref a7, V.ref a8, V.ref a9, V.ref a10, V.ref a11, V.ref a12, V.ref a13]) := upd_same
    generalize upd Hz w2 (.lst ([V.ref a0, V.ref a1, V.ref a2, V.ref a3, V.ref a4, V.ref a5, V.ref a6] ++ [V.ref a7, V.ref a8, V.ref a9, V.ref a10, V.ref a11, V.ref a12, V.ref a13])) = G1 at *
    have U1 := W1.mono (sFz.trans s2')
    have U2 := W2.mono (sFz.trans s2')
    have pick2 : ∀ (i : Nat) (v : V), ([V.ref a0, V.ref a1, V.ref a2, V.ref a3, V.ref a4, V.ref a5, V.ref a6, V.ref a7, V.ref a8, V.ref a9, V.ref a10, V.ref a11, V.ref a12, V.ref a13] : List V)[i]? = some v → ∃ a fs, v = .ref a ∧ i < 14 ∧ ErrAt G1 a (erC K (i % 7)) fs := fun i v e => by
      match i, e with
      | 0, e => exact ⟨a0, _, (Option.some.inj e).symm, by omega, U1.e0⟩
      | 1, e => exact ⟨a1, _, (Option.some.inj e).symm, by omega, U1.e1⟩
      | 2, e => exact ⟨a2, _, (Option.some.inj e).symm, by omega, U1.e2⟩
      | 3, e => exact ⟨a3, _, (Option.some.inj e).symm, by omega, U1.e3⟩
      | 4, e => exact ⟨a4, _, (Option.some.inj e).symm, by omega, U1.e4⟩
      | 5, e => exact ⟨a5, _, (Option.some.inj e).symm, by omega, U1.e5⟩
      | 6, e => exact ⟨a6, _, (Option.some.inj e).symm, by omega, U1.e6⟩
      | 7, e => exact ⟨a7, _, (Option.some.inj e).symm, by omega, U2.e0⟩
      | 8, e => exact ⟨a8, _, (Option.some.inj e).symm, by omega, U2.e1⟩
      | 9, e => exact ⟨a9, _, (Option.some.inj e).symm, by omega, U2.e2⟩
      | 10, e => exact ⟨a10, _, (Option.some.inj e).symm, by omega, U2.e3⟩
      | 11, e => exact ⟨a11, _, (Option.some.inj e).symm, by omega, U2.e4⟩
      | 12, e => exact ⟨a12, _, (Option.some.inj e).symm, by omega, U2.e5⟩
      | 13, e => exact ⟨a13, _, (Option.some.inj e).symm, by omega, U2.e6⟩
      | n + 14, e => simp at e
    refine for_it (walk_enum (K := K) (a := w2) (xs := [V.ref a0, V.ref a1, V.ref a2, V.ref a3, V.ref a4, V.ref a5, V.ref a6, V.ref a7, V.ref a8, V.ref a9, V.ref a10, V.ref a11, V.ref a12, V.ref a13])) (fun i σ Hz => ∃ v4 v5 v6 v7 v8, σ = [some x, some y, some (.ref l3), some (.ref m3), v4, v5, v6, v7, v8] ∧ Same G1 Hz) ⟨_, _, _, _, _, rfl, Same.refl _⟩ (fun i σ Hz _ ⟨_, _, _, _, _, _, sz⟩ => SqL.of (sz _ _ qw2)) ?_ ?_
    · rintro i v σ Hy Hy2 hi ⟨v4, v5, v6, v7, v8, rfl, sy⟩ ⟨u, a, b, rfl, hu0, rfl, h1, h2⟩
      obtain rfl : V.int (i : Nat) = a := Option.some.inj h1
      obtain ⟨ad, fs, rfl, hi14, Er⟩ := pick2 i b h2
      have su := Same.new (o := .tup [.int (i : Nat), .ref ad]) hu0
      refine ⟨u, _, rfl, SqT.of upd_same, rfl, _, _, rfl, _, _, rfl, rfl, ?_⟩
      have h7 : i % 7 < 7 := Nat.mod_lt _ (by decide)
      refine ⟨_, rfl, ad, i % 7, fs, rfl, h7, (Er.mono sy).mono su, fun p H4 s4 n4 h4 => ?_⟩
      refine ⟨7, rfl, by decide, by decide, fun D hD => ?_⟩
      refine lc_pure (walk_range (lo := 0) (n := (7 : Int).toNat)) hD (fun m => .bl (decide (i % 7 = m))) (by decide) (fun _ _ => trivial) (fun m Ha y' Hb hm sa hy Qe qe => ?_) (fun Ha sa ha => ?_)
      · obtain ⟨rfl, rfl⟩ := hy
        refine ⟨rfl, _, rfl, _, rfl, _, _, rfl, rfl, ⟨by show (7 : Int) ≠ 0; decide, by show (7 : Int).natAbs < 1073741824; decide⟩, _, _, rfl, rfl, .inl ⟨by decide, by decide⟩, _, _, rfl, rfl, _, rfl, rfl, ?_⟩
        have z := qe _ (Same.refl _)
        rw [← lap7 i hi14 m hm] at z
        exact z
      · refine ⟨sz_of (by show 2 ≤ 100000; decide), fun t2 ht2 => ⟨D, t2, _, _, rfl, rfl, Same.new ht2 _ _ ha, upd_same, sz_of (by show 9 ≤ 100000; decide), fun t3 ht3 => ?_⟩⟩
        have u2 := (Same.new (o := .lst [.bl true, .bl true]) ht2).trans (Same.new (o := .lst ((List.range (7 : Int).toNat).map (fun m => V.bl (decide (i % 7 = m))) ++ [.bl true, .bl true])) ht3)
        have g3 : upd (upd Ha t2 (.lst [.bl true, .bl true])) t3 (.lst ((List.range (7 : Int).toNat).map (fun m => V.bl (decide (i % 7 = m))) ++ [.bl true, .bl true])) t3 = some (.lst (marksV (i % 7))) := upd_same
        rw [marks_eq] at g3 h4
        obtain ⟨k1, k2⟩ := bits_ok (i % 7) h7
        refine ⟨_, _, dp_bits ((sa.trans u2) _ _ h4), dp_bits g3, k1, k1, _, rfl, ifF (by rw [k2]; rfl) ?_⟩
        exact ⟨_, _, _, _, _, rfl, (sy.trans su).trans (s4.trans (sa.trans u2))⟩
    · rintro σ Hy ⟨v4, v5, v6, v7, v8, rfl, sy⟩
      exact k _ (sF.trans (sFz.trans (s2'.trans sy)))

end
end W7
set_option Elab.async false
set_option linter.all false
set_option maxRecDepth 100000
set_option maxHeartbeats 4000000
namespace W7
open PySem PySem.Spec PyProof.Rows L2 RZ CA
section
variable {P : Program} {w : World} {K : PySem.W.Frag} {mg : Str → Option Value} {base : Heap}

/-- a source of draws -/
def WellAt (H : Hp) (p : Addr) : Prop := ∃ a b c : Int, H p = some (.lst [.int a, .int b, .int c])
theorem fm {a : Int} {m : Nat} (h : 0 < m) : ∃ k : Nat, k < m ∧ a.fmod (m : Int) = (k : Int) := by
  have h0 : (0 : Int) < (m : Int) := by omega
  have h1 : 0 ≤ a.fmod (m : Int) := Int.fmod_nonneg_of_pos a h0
  have h2 : a.fmod (m : Int) < (m : Int) := Int.fmod_lt_of_pos a h0
  exact ⟨(a.fmod (m : Int)).toNat, by omega, by omega⟩
theorem mb {a m : Int} (h : 0 < m) (h2 : m < 2 ^ 64) : -(2 ^ 64) < a.fmod m ∧ a.fmod m < 2 ^ 64 := by
  have h1 : 0 ≤ a.fmod m := Int.fmod_nonneg_of_pos a h
  have h3 : a.fmod m < m := Int.fmod_lt_of_pos a h
  omega
theorem bb (b : Bool) : -(2 ^ 64) < b2i b ∧ b2i b < 2 ^ 64 := by cases b <;> decide
theorem sql_mono {H H' : Hp} {a : Addr} {xs : List V} (h : SqL K H a xs) (e : Same H H') : SqL K H' a xs := Or.imp (fun r => Or.imp (e _ _) (fun ⟨o, q⟩ => ⟨o, e _ _ q⟩) r) id h
def spMix : Sp := fun vs H Q _ => ∃ c k : Int, vs = [.int c, .int k] ∧ ∀ z : Int, Q (.int z) H
def spWell (K : PySem.W.Frag) : Sp := fun vs H Q _ => ∃ (a : Addr) (ns : List Int) (k : Nat), vs = [.ref a, .int k] ∧ SqL K H a (ns.map V.int) ∧ ns.length ≤ 1000 ∧ ∀ p H', Same H H' → H p = none → WellAt H' p → Q (.ref p) H'
def spDraw : Sp := fun vs H Q _ => ∃ (p : Addr) (m : Nat), vs = [.ref p, .int m] ∧ WellAt H p ∧ 0 < m ∧ m ≤ 1000 ∧ ∀ (k : Nat) (H' : Hp), k < m → But p H H' → WellAt H' p → Q (.int k) H' 
theorem sc_L_mix : FnScope ["_law_cell", "_law_lap", "_law_blend"] ["_law_cell", "_law_lap"] (defScope s_L_mix) := ⟨rfl, rfl, rfl, by decide +kernel, rfl, by decide +kernel, by decide +kernel⟩
theorem ok_L_mix (T : Ctx w K mg) : Has P w K mg base 1 "_law_mix" ["_law_cell", "_law_lap"] spMix := by
  obtain ⟨fd, F⟩ := T.D_L_mix
  refine ⟨⟨fd, F.ok sc_L_mix (fun vs H Q E h => ?_) (fun cdv A outer s H vs Q E hr h => ?_), F.bindsN fun _ _ _ _ _ _ us hl => match us, hl with | [_, _], _ => rfl⟩, F.kp, T.g_L_mix⟩
  · obtain ⟨c, kk, rfl, k⟩ := h; rfl
  · obtain ⟨c, kk, rfl, k⟩ := h
    have hu := hu_of hr
    refine ⟨_, PSs.nox (pss_cons (ps_set (i := 2) sc_L_mix.nd rfl (Or.inl rfl) (pe_op op_add (pe_op op_add (pe_op op_add (pe_op op_modN (pe_callTy call_int1 (by rfl) T.f_int (by decide +kernel) (pa_cons (pv 0) pa_nil)) pe_int) (pe_op op_mul pe_int (pv 1))) (pe_op op_modN (pe_callTy call_int1 (by rfl) T.f_int (by decide +kernel) (pa_cons (pe_op op_fdivW (pv 0) pe_int) pa_nil)) pe_int)) pe_int))
      (pss_cons (ps_set (i := 2) sc_L_mix.nd rfl (Or.inl rfl) (pe_op op_modN (pe_callTy call_int1 (by rfl) T.f_int (by decide +kernel) (pa_cons (pe_op op_mul (pv 2) pe_int) pa_nil)) pe_int))
      (pss_cons (ps_set (i := 2) sc_L_mix.nd rfl (Or.inl rfl) (pe_op op_modN (pe_callTy call_int1 (by rfl) T.f_int (by decide +kernel) (pa_cons (pe_op op_mul (pv 2) (pe_op op_add (pe_op op_add (pe_op op_fdivN (pv 2) pe_int) pe_int) (pv 1))) pa_nil)) pe_int))
      (pss_one (ps_ret (pe_op op_modN (pe_callTy call_int1 (by rfl) T.f_int (by decide +kernel) (pa_cons (pe_op op_mul (pv 2) (pe_op op_add (pe_op op_fdivN (pv 2) pe_int) pe_int)) pa_nil)) pe_int)))))), ?_⟩
    refine ⟨_, rfl, .inl ⟨_, rfl, _, _, rfl, rfl, (by show (2147483629 : Int) ≠ 0; decide), _, rfl, _, _, rfl, rfl, .inl ⟨by decide, by decide⟩, _, _, rfl, rfl, ?_⟩⟩
    refine ⟨_, rfl, _, _, rfl, rfl, wide_div (b := 40) (by decide) (by decide) (by decide) (by decide), .inl ⟨_, rfl, _, _, rfl, rfl, (by show (1000003 : Int) ≠ 0; decide), _, _, rfl, rfl, _, _, rfl, rfl, ?_⟩⟩
    refine ⟨_, rfl, _, _, rfl, rfl, .inr ⟨by decide, by decide⟩, .inl ⟨_, rfl, _, _, rfl, rfl, (by show (2147483629 : Int) ≠ 0; decide), ?_⟩⟩
    refine ⟨_, rfl, _, rfl, _, _, rfl, rfl, ⟨by show (1021 : Int) ≠ 0; decide, by show (1021 : Int).natAbs < 1073741824; decide⟩, _, _, rfl, rfl, _, rfl, _, _, rfl, rfl, _, _, rfl, rfl, .inl (mb (by decide) (by decide)), .inl ⟨_, rfl, _, _, rfl, rfl, (by show (2147483587 : Int) ≠ 0; decide), ?_⟩⟩
    exact ⟨_, rfl, _, rfl, _, _, rfl, rfl, ⟨by show (2011 : Int) ≠ 0; decide, by show (2011 : Int).natAbs < 1073741824; decide⟩, _, _, rfl, rfl, _, _, rfl, rfl, .inl (mb (by decide) (by decide)), .inl ⟨_, rfl, _, _, rfl, rfl, (by show (2147483563 : Int) ≠ 0; decide), k _⟩⟩
theorem sc_L_well : FnScope ["_law_script", "_law_k", "_law_cell"] ["_law_script", "_law_k"] (defScope s_L_well) := ⟨rfl, rfl, rfl, by decide +kernel, rfl, by decide +kernel, by decide +kernel⟩
theorem ok_L_well (T : Ctx w K mg) : Has P w K mg base 1 "_law_well" ["_law_script", "_law_k"] (spWell K) := by
  obtain ⟨fd, F⟩ := T.D_L_well
  refine ⟨⟨fd, F.ok sc_L_well (fun vs H Q E h => ?_) (fun cdv A outer s H vs Q E hr h => ?_), F.bindsN fun _ _ _ _ _ _ us hl => match us, hl with | [_, _], _ => rfl⟩, F.kp, T.g_L_well⟩
  · obtain ⟨a, ns, kk, rfl, hS, hl, k⟩ := h; rfl
  · obtain ⟨a, ns, kk, rfl, hS, hl, k⟩ := h
    have hu := hu_of hr
    refine ⟨_, PSs.nox (pss_cons (ps_set (i := 2) sc_L_well.nd rfl (Or.inl rfl) (pe_op op_add (pe_ix ix_list (pe_op op_catL (pv 0) (pe_lst (pa_cons pe_int pa_nil))) pe_int (fun _ _ => rfl)) (pe_op op_mul pe_int (pv 1))))
      (pss_cons (ps_if (pt_cmpR op_lt (pv 1) (pe_callB call_len_seq (by rfl) T.f_len (by decide +kernel) (pa_cons (pv 0) pa_nil)) (nomark _)) (pss_one (ps_set (i := 2) sc_L_well.nd rfl (Or.inl rfl) (pe_ix ix_list (pv 0) (pv 1) (fun _ _ => rfl)))) pss_nil)
      (pss_one (ps_ret (pe_lst (pa_cons (pe_op op_mul (pv 2) (pe_callTy call_int1 (by rfl) T.f_int (by decide +kernel) (pa_cons (pe_cmpR op_ge (pv 2) (pe_op op_pow pe_int pe_int) (nomark _)) pa_nil))) (pa_cons (pv 2) (pa_cons pe_int pa_nil)))))))), ?_⟩
    have hz : (ns.map V.int).length ≤ 1000 := by rw [List.length_map]; exact hl
    refine ⟨_, rfl, sz_of (by show 1 ≤ 100000; decide), fun z hz0 => ⟨a, z, _, _, rfl, rfl, sql_mono hS (Same.new hz0), SqL.of upd_same, sz_of (by rw [List.length_singleton]; omega), fun q hq => ?_⟩⟩
    have s1 := Same.new (o := .lst [.int 0]) hz0
    have s2 := Same.new (o := .lst (ns.map V.int ++ [.int 0])) hq
    have s12 := s1.trans s2
    obtain ⟨c0, hc0⟩ : ∃ c : Int, atI (ns.map V.int ++ [V.int 0]) 0 = some (.int c) := by
      cases ns with
      | nil => exact ⟨0, at0⟩
      | cons x xs => exact ⟨x, at0⟩
    refine ⟨q, _, _, _, rfl, rfl, SqL.of upd_same, hc0, _, rfl, _, _, rfl, rfl, .inl ⟨by decide, by decide⟩, _, _, rfl, rfl, ?_⟩
    have fin : ∀ (c : Int) (σ : L2.St), σ = σ → True := fun _ _ _ => trivial
    have hS2 := sql_mono hS s12
    refine ⟨_, rfl, _, rfl, _, _, rfl, .inl hS2, _, _, rfl, rfl, _, rfl, ?_⟩
    rw [List.length_map]
    by_cases ck : (kk : Int) < (ns.length : Int)
    · refine ifT (decide_eq_true ck) ?_
      have hkk : kk < ns.length := by omega
      refine ⟨_, rfl, _, rfl, a, _, _, _, rfl, rfl, hS2, atI_nat (by rw [List.getElem?_map, List.getElem?_eq_getElem hkk]; rfl), ?_⟩
      refine ⟨_, rfl, _, rfl, _, _, rfl, rfl, ⟨by decide, by decide, by decide⟩, _, _, rfl, rfl, .inr ⟨_, rfl, _, _, rfl, rfl, .inr (bb _), ?_⟩⟩
      exact ⟨_, rfl, sz_of (by show 3 ≤ 100000; decide), fun l hl => k l _ (s12.trans (Same.new hl)) (none_of s12 hl) ⟨_, _, _, upd_same⟩⟩
    · refine ifF (decide_eq_false ck) ?_
      refine ⟨_, rfl, _, rfl, _, _, rfl, rfl, ⟨by decide, by decide, by decide⟩, _, _, rfl, rfl, .inr ⟨_, rfl, _, _, rfl, rfl, .inr (bb _), ?_⟩⟩
      exact ⟨_, rfl, sz_of (by show 3 ≤ 100000; decide), fun l hl => k l _ (s12.trans (Same.new hl)) (none_of s12 hl) ⟨_, _, _, upd_same⟩⟩
theorem sc_L_draw : FnScope ["_law_well_here", "_law_many", "_law_drawn"] ["_law_well_here", "_law_many"] (defScope s_L_draw) := ⟨rfl, rfl, rfl, by decide +kernel, rfl, by decide +kernel, by decide +kernel⟩
theorem ok_L_draw (T : Ctx w K mg) (H_L_mix : Has P w K mg base 1 "_law_mix" ["_law_cell", "_law_lap"] spMix) : Has P w K mg base 2 "_law_draw" ["_law_well_here", "_law_many"] spDraw := by
  obtain ⟨fd, F⟩ := T.D_L_draw
  obtain ⟨fd_L_mix, G_L_mix, b_L_mix⟩ := H_L_mix.ex
  refine ⟨⟨fd, F.ok sc_L_draw (fun vs H Q E h => ?_) (fun cdv A outer s H vs Q E hr h => ?_), F.bindsN fun _ _ _ _ _ _ us hl => match us, hl with | [_, _], _ => rfl⟩, F.kp, T.g_L_draw⟩
  · obtain ⟨p, m, rfl, hw, hm, hm2, k⟩ := h; rfl
  · obtain ⟨p, m, rfl, hw, hm, hm2, k⟩ := h
    have hr_L_mix : Room 1 _ := hr.mono (by decide)
    have hu := hu_of hr
    refine ⟨_, PSs.nox (pss_cons (ps_if (pt_cmpR op_gt (pe_ix ix_list (pv 0) pe_int (fun _ _ => rfl)) pe_int (nomark _)) (pss_cons (ps_set (i := 2) sc_L_draw.nd rfl (Or.inl rfl) (pe_op op_modN (pe_callTy call_int1 (by rfl) T.f_int (by decide +kernel) (pa_cons (pe_ix ix_list (pv 0) pe_int (fun _ _ => rfl)) pa_nil)) (pv 1)))
      (pss_cons (ps_asg (pe_op op_fdivN (pe_ix ix_list (pv 0) pe_int (fun _ _ => rfl)) (pv 1)) (pg_sub (pv 0) pe_int set_list))
      (pss_one (ps_ret (pv 2))))) pss_nil)
      (pss_cons (ps_asg (pe_op op_add (pe_ix ix_list (pv 0) pe_int (fun _ _ => rfl)) pe_int) (pg_sub (pv 0) pe_int set_list))
      (pss_one (ps_ret (pe_op op_modN (pe_callTy call_int1 (by rfl) T.f_int (by decide +kernel) (pa_cons (pe_call G_L_mix hr_L_mix (by rfl) H_L_mix.gl H_L_mix.kp b_L_mix .nil pass0 (pa_cons (pe_ix ix_list (pv 0) pe_int (fun _ _ => rfl)) (pa_cons (pe_ix ix_list (pv 0) pe_int (fun _ _ => rfl)) pa_nil))) pa_nil)) (pv 1)))))), ?_⟩
    obtain ⟨a, b, c, hp⟩ := hw
    have hm0 : (m : Int) ≠ 0 := by omega
    refine ⟨_, rfl, _, _, _, _, rfl, rfl, SqL.of hp, at0, _, _, rfl, rfl, _, rfl, ?_⟩
    by_cases ca : (0 : Int) < a
    · refine ifT (decide_eq_true ca) ?_
      obtain ⟨kk, hk, ek⟩ := fm (a := a) hm
      refine ⟨_, rfl, _, _, _, _, rfl, rfl, SqL.of hp, at0, .inl ⟨_, rfl, _, rfl, _, _, rfl, rfl, hm0, ?_⟩⟩
      refine ⟨_, rfl, _, _, _, _, rfl, rfl, SqL.of hp, at0, _, rfl, _, _, rfl, rfl, ⟨hm0, by omega⟩, _, rfl, p, _, 0, 0, rfl, rfl, hp, rfl, ?_⟩
      refine ⟨_, rfl, ?_⟩
      show Q (.int (a.fmod (m : Int))) _
      rw [ek]
      exact k kk _ hk But.upd ⟨_, _, _, upd_same⟩
    · refine ifF (decide_eq_false ca) ?_
      refine ⟨_, rfl, _, _, _, _, rfl, rfl, SqL.of hp, at2, _, _, rfl, rfl, _, rfl, p, _, 2, 2, rfl, rfl, hp, rfl, ?_⟩
      have hp2 : upd H p (.lst [.int a, .int b, .int (c + 1)]) p = some (.lst [.int a, .int b, .int (c + 1)]) := upd_same
      refine ⟨_, rfl, _, _, _, _, rfl, rfl, SqL.of hp2, at1, _, rfl, _, _, _, _, rfl, rfl, SqL.of hp2, at2, b, c + 1, rfl, fun z => .inl ⟨_, rfl, _, rfl, _, _, rfl, rfl, hm0, ?_⟩⟩
      obtain ⟨kk, hk, ek⟩ := fm (a := z) hm
      show Q (.int (z.fmod (m : Int))) _
      rw [ek]
      exact k kk _ hk But.upd ⟨_, _, _, upd_same⟩
def spPick (K : PySem.W.Frag) : Sp := fun vs H Q _ => ∃ (p a : Addr) (xs : List V), vs = [.ref p, .ref a] ∧ WellAt H p ∧ a ≠ p ∧ H a = some (.lst xs) ∧ 0 < xs.length ∧ xs.length ≤ 1000 ∧ ∀ (v : V) (H' : Hp), v ∈ xs → But p H H' → WellAt H' p → Q v H' 
theorem sc_L_pick : FnScope ["_law_well_here", "_law_items"] ["_law_well_here", "_law_items"] (defScope s_L_pick) := ⟨rfl, rfl, rfl, by decide +kernel, rfl, by decide +kernel, by decide +kernel⟩
theorem ok_L_pick (T : Ctx w K mg) (H_L_draw : Has P w K mg base 2 "_law_draw" ["_law_well_here", "_law_many"] spDraw) : Has P w K mg base 3 "_law_pick" ["_law_well_here", "_law_items"] (spPick K) := by
  obtain ⟨fd, F⟩ := T.D_L_pick
  obtain ⟨fd_L_draw, G_L_draw, b_L_draw⟩ := H_L_draw.ex
  refine ⟨⟨fd, F.ok sc_L_pick (fun vs H Q E h => ?_) (fun cdv A outer s H vs Q E hr h => ?_), F.bindsN fun _ _ _ _ _ _ us hl => match us, hl with | [_, _], _ => rfl⟩, F.kp, T.g_L_pick⟩
  · obtain ⟨p, a, xs, rfl, hw, hn, ha, h0, h1, k⟩ := h; rfl
  · obtain ⟨p, a, xs, rfl, hw, hn, ha, h0, h1, k⟩ := h
    have hr_L_draw : Room 2 _ := hr.mono (by decide)
    have hu := hu_of hr
    refine ⟨_, PSs.nox (pss_one (ps_ret (pe_ix ix_list (pv 1) (pe_call G_L_draw hr_L_draw (by rfl) H_L_draw.gl H_L_draw.kp b_L_draw .nil pass0 (pa_cons (pv 0) (pa_cons (pe_callB call_len_seq (by rfl) T.f_len (by decide +kernel) (pa_cons (pv 1) pa_nil)) pa_nil))) (fun _ _ => rfl)))), ?_⟩
    refine ⟨_, rfl, _, rfl, _, rfl, _, _, rfl, .inl (SqL.of ha), p, xs.length, rfl, hw, h0, h1, fun j H' hj b w2 => ?_⟩
    have hj2 : xs[j]? = some xs[j] := List.getElem?_eq_getElem hj
    exact ⟨a, xs, (j : Int), _, rfl, rfl, SqL.of (b _ _ ha hn), atI_nat hj2, k _ H' (List.getElem_mem hj) b w2⟩

end
end W7
set_option Elab.async false
set_option linter.all false
set_option maxRecDepth 100000
set_option maxHeartbeats 4000000
namespace W7
open PySem PySem.Spec PyProof.Rows L2 RZ
section
variable {P : Program} {w : World} {K : PySem.W.Frag} {mg : Str → Option Value} {base : Heap}

theorem takesNo {X : Cx} : Takes X (fun _ _ _ _ => False) := fun _ _ ⟨_, _, _, _, _, _, _, _, _, _, _, _, _, _, _, _, h⟩ => h.elim
theorem Ctx.exmSS (T : Ctx w K mg) : PySem.W.exmOne K (.ref (He.ga K "InvalidSource")) (.ref (He.ga K "InvalidSource")) = some true := He.exm_ok (T.says.d.fact 84 rfl)
def spSaid (K : PySem.W.Frag) : Sp := fun vs H Q _ => ∃ v, vs = [v] ∧ ((∃ c, TyX K H v c ∧ PySem.W.kitOne K c (.ref (He.ga K "Source")) = some false ∧ ∀ (H' : Hp) (q : Addr), Same H H' → H' q = some (.tup [.str "source", .non]) → Q (.ref q) H') ∨
  ∃ (p : Addr) (cl : ClsT) (fds : List FdT), v = .ref p ∧ SrcX K H p cl fds ∧ TxtS cl fds ∧ ∀ H', Same H H' → Q (.str (textS cl fds)) H')
theorem sc_L_said : FnScope ["_law_thing", "_law_e"] ["_law_thing"] (defScope s_L_said) := ⟨rfl, rfl, rfl, by decide +kernel, rfl, by decide +kernel, by decide +kernel⟩
theorem ok_L_said (T : Ctx w K mg) (H_source_text : HasX P w K mg base 4 "source_text" ["source"] (spSrcText K)) : Has P w K mg base 5 "_law_said" ["_law_thing"] (spSaid K) := by
  obtain ⟨fd, F⟩ := T.D_L_said
  obtain ⟨fd_c, G_c, b_c⟩ := H_source_text.ex
  refine ⟨⟨fd, F.ok sc_L_said (fun vs H Q E h => ?_) (fun cdv A outer s H vs Q E hr h => ?_), F.bindsN fun _ _ _ _ _ _ us hl => match us, hl with | [_], _ => rfl⟩, F.kp, T.g_L_said⟩
  · obtain ⟨v, rfl, k⟩ := h; rfl
  · obtain ⟨v, rfl, k⟩ := h
    have hr_c : Room 4 _ := hr.mono (by decide)
    have OS := T.errS
    refine ⟨_, PSs.nox (pss_one (TR.ps_try (W := fun _ _ _ _ => False) rfl rfl sc_L_said.nd takesNo
      (fun W' pn xe tk hp => pss_one (ps_ret (by exact (pe_callS G_c hr_c rfl H_source_text.gl H_source_text.kp b_c (fun σ => passAt tk σ) (by exact (pa_cons (pv 0) pa_nil))))))
      (TR.Cls.as (q := ⟨.ref (He.ga K "InvalidSource"), some 1, _⟩) ⟨rfl, rfl, .inl T.g_InvalidSource⟩ rfl rfl rfl (fun a oe cls d pn hz hf => by exact (pss_one (ps_ret (pe_tup (pa_cons (pe_xf OS.xf (OS.no "part" (by simp)) hz hf (pv 1)) (pa_cons (pe_xf OS.xf (OS.no "at" (by simp)) hz hf (pv 1)) pa_nil))))))
          (TR.Cls.bare (q := ⟨.ref (He.ga K "CodeError"), none, _⟩) ⟨rfl, rfl, .inl T.g_CodeError⟩ rfl (fun a oe cls d pn hz hf => by exact (pss_one (ps_ret pe_str))) TR.Cls.nil)))), ?_⟩
    rcases k with ⟨c, tx, kt, k⟩ | ⟨p, cl, fds, rfl, X, TS, k⟩
    · refine ⟨_, rfl, v, rfl, .inl ⟨c, tx, kt, fun d hd => ⟨true, T.exmSS, fun _ a ha => ?_, fun z => by cases z⟩⟩⟩
      exact ⟨_, rfl, rfl, rfl, d, _, _, rfl, upd_same, rfl, _, rfl, rfl, rfl, d, _, _, rfl, upd_same, rfl, sz_of (by show 2 ≤ 100000; decide), fun q hq => k _ q ((Same.new hd).trans (Same.new hq)) upd_same⟩
    · exact ⟨_, rfl, _, rfl, .inr ⟨p, cl, fds, rfl, X, TS, fun H' s => k H' s⟩⟩

end
end W7
set_option Elab.async false
set_option linter.all false
set_option maxRecDepth 100000
set_option maxHeartbeats 4000000
namespace W7
open PySem PySem.Spec PyProof.Rows L2 RZ
section
variable {P : Program} {w : World} {K : PySem.W.Frag} {mg : Str → Option Value} {base : Heap}

/-- lines taken, or the first that is not -/
def runI (st : TSt) (i : Nat) : List (Bool × List Str) → Nat ⊕ TSt
  | [] => .inr st
  | l :: ls => match step st l with
    | none => .inl i
    | some s => runI s (i + 1) ls
theorem runI_ok : ∀ {ls : List (Bool × List Str)} {st s : TSt} {i : Nat}, runL st ls = some s → runI st i ls = .inr s
  | [], st, s, i, h => by rw [← Option.some.inj (show some st = some s from h)]; rfl
  | l :: ls, st, s, i, h => by
    obtain ⟨s1, h1, h2⟩ := Option.bind_eq_some_iff.mp (show (step st l).bind (fun s => runL s ls) = some s from h)
    unfold runI
    rw [h1]
    exact runI_ok h2
theorem runI_bad : ∀ {ls : List (Bool × List Str)} {st s : TSt} {k i : Nat} {l : Bool × List Str}, runL st (ls.take i) = some s → ls[i]? = some l → step s l = none → runI st k ls = .inl (k + i)
  | [], st, s, k, i, l, _, h, _ => by simp at h
  | x :: ls, st, s, k, 0, l, h1, h2, h3 => by
    have e1 : st = s := Option.some.inj (show some st = some s from h1)
    have e2 : x = l := Option.some.inj h2
    unfold runI
    rw [e1, e2, h3]
    rfl
  | x :: ls, st, s, k, i + 1, l, h1, h2, h3 => by
    obtain ⟨s1, q1, q2⟩ := Option.bind_eq_some_iff.mp (show (step st x).bind (fun s => runL s (ls.take i)) = some s from h1)
    unfold runI
    rw [q1]
    show runI s1 (k + 1) ls = _
    rw [runI_bad q2 (by simpa using h2) h3, Nat.add_right_comm, Nat.add_assoc]
def wordB (w : Str) : Bool := decide (w.cps.size ≤ 640) && ((!intOk w || (PySem.intText? w).isSome) && decide ((Txt.partition w ":").1.cps.size ≤ 640))
theorem wordB_ok {w : Str} (h : wordB w = true) : WordOk w := by
  obtain ⟨h1, h⟩ := He.ba h
  obtain ⟨h2, h3⟩ := He.ba h
  refine ⟨of_decide_eq_true h1, fun e => ?_, of_decide_eq_true h3⟩
  rw [e] at h2
  exact Option.isSome_iff_exists.mp h2
theorem namB_ok {x : Str} (h : namB x = true) : Nam x := by
  obtain ⟨h1, h⟩ := He.ba h
  obtain ⟨h2, h⟩ := He.ba h
  obtain ⟨h3, h4⟩ := He.ba h
  refine ⟨of_decide_eq_true h1, of_decide_eq_true h2, ?_, fun i c e => ?_⟩
  · cases e : x.cps[0]? with
    | none =>
      rw [e] at h3
      cases h3
    | some c =>
      rw [e] at h3
      exact ⟨c, rfl, of_decide_eq_true h3⟩
  · refine of_decide_eq_true (List.all_eq_true.mp h4 c ?_)
    rw [Array.mem_toList_iff]
    exact Array.mem_of_getElem? e
def fitB (cl : ClsT) : Bool := (List.range cl.length).all fun i => match cl[i]? with
  | some c => c.2.all fun q => decide (valV (ksM (cl.take i)) (Sum.inr q.1 : Key) = none) || decide (valV (ksM (cl.take i)) (Sum.inr q.1 : Key) = some (.str q.2))
  | none => true
theorem fitB_ok {cl : ClsT} (h : fitB cl = true) : ∀ (i : Nat) c, cl[i]? = some c → ∀ q ∈ c.2, valV (ksM (cl.take i)) (Sum.inr q.1 : Key) = none ∨ valV (ksM (cl.take i)) (Sum.inr q.1 : Key) = some (.str q.2) := fun i c e q m => by
  have hi := (List.getElem?_eq_some_iff.mp e).1
  have h2 := List.all_eq_true.mp h i (List.mem_range.mpr hi)
  rw [e] at h2
  have h3 := List.all_eq_true.mp h2 q m
  rcases Bool.or_eq_true_iff.mp h3 with z | z
  · exact .inl (of_decide_eq_true z)
  · exact .inr (of_decide_eq_true z)
/-! ### the two sources of this law -/
def clA : ClsT := [("cell", [("a", "number")])]
def rwA : List Rx := [.get "i" "o" "a", .put "o" "a" "i", .call "i" "f" ["i", "o"], .ret "i"]
def fdA : FdT := ⟨"f", "number", [("i", "number"), ("o", "object")], [], rwA⟩
def fdB : FdT := ⟨"f", "object", [], [], [.jump 0]⟩
theorem nam_i : Nam "i" := namB_ok (by decide +kernel)
theorem nam_o : Nam "o" := namB_ok (by decide +kernel)
theorem nam_f : Nam "f" := namB_ok (by decide +kernel)
theorem nam_a : Nam "a" := namB_ok (by decide +kernel)
theorem nam_cell : Nam "cell" := namB_ok (by decide +kernel)
theorem clsOkA : ClsOk clA := ⟨by decide +kernel, fun c m => by
  rw [List.mem_singleton.mp m]
  exact ⟨nam_cell, fun q mq => by rw [List.mem_singleton.mp mq]; exact ⟨nam_a, .inl rfl⟩, by decide +kernel, by show 1 ≤ 4; decide⟩, by decide +kernel, fitB_ok (by decide +kernel)⟩
theorem clsOkB : ClsOk [] := ⟨List.nodup_nil, fun c m => by (cases m), by decide, fun i c h => by simp at h⟩
theorem headA : HeadOk fdA := by
  refine ⟨nam_f, .inl rfl, fun q h => ?_, by show (["i", "o"] : List Str).Nodup; decide +kernel, by show 2 ≤ 4; decide, by show 0 ≤ 8; decide⟩
  simp only [fdA, List.append_nil, List.mem_cons, List.not_mem_nil, or_false] at h
  rcases h with rfl | rfl
  · exact ⟨nam_i, .inl rfl⟩
  · exact ⟨nam_o, .inr rfl⟩
theorem headB : HeadOk fdB := ⟨nam_f, .inr rfl, fun q h => by (cases h), List.nodup_nil, by show 0 ≤ 4; decide, by show 0 ≤ 8; decide⟩
theorem ko_i : KO fdA "i" "number" := List.mem_cons_self
theorem ko_o : KO fdA "o" "object" := List.mem_cons_of_mem _ List.mem_cons_self
theorem okA : FdOk clA [fdA] fdA := by
  have h := headA
  refine ⟨h.nf, h.kd, h.nam, h.nd, h.l1, h.l2, fun r mr => ?_, ⟨fun r mr g e => ?_, ⟨[.get "i" "o" "a", .put "o" "a" "i", .call "i" "f" ["i", "o"]], _, rfl, .inr rfl⟩, by show 4 ≤ 40; decide⟩⟩
  · have mr : r ∈ rwA := mr
    simp only [rwA, List.mem_cons, List.not_mem_nil, or_false] at mr
    rcases mr with rfl | rfl | rfl | rfl
    · exact ⟨"number", ko_o, ko_i, by decide +kernel⟩
    · exact ⟨"number", ko_o, ko_i, by decide +kernel⟩
    · refine ⟨0, fdA, rfl, rfl, rfl, fun i y q a b => ?_, ko_i⟩
      match i, a, b with
      | 0, a, b =>
        rw [← show ("i" : Str) = y from Option.some.inj a, ← show (("i", "number") : Str × Str) = q from Option.some.inj b]
        exact ko_i
      | 1, a, b =>
        rw [← show ("o" : Str) = y from Option.some.inj a, ← show (("o", "object") : Str × Str) = q from Option.some.inj b]
        exact ko_o
      | n + 2, a, b => simp at a
    · exact ko_i
  · have mr : r ∈ rwA := mr
    simp only [rwA, List.mem_cons, List.not_mem_nil, or_false] at mr
    rcases mr with rfl | rfl | rfl | rfl <;> cases e
theorem okB : FdOk [] [fdB] fdB := by
  have h := headB
  refine ⟨h.nf, h.kd, h.nam, h.nd, h.l1, h.l2, fun r mr => ?_, ⟨fun r mr g e => ?_, ⟨[], _, rfl, .inl rfl⟩, by show 1 ≤ 40; decide⟩⟩
  · rw [List.mem_singleton.mp mr]
    exact True.intro
  · rw [List.mem_singleton.mp mr] at e
    rw [← Option.some.inj e]
    show 0 < 1
    decide
theorem tellA : TellS clA [fdA] := ⟨by decide +kernel, by decide +kernel, by decide +kernel, by decide +kernel, fun f m => by rw [List.mem_singleton.mp m]; show 4 ≤ 40; decide⟩
theorem tellB : TellS [] [fdB] := ⟨by decide +kernel, by decide +kernel, by decide +kernel, by decide +kernel, fun f m => by rw [List.mem_singleton.mp m]; show 1 ≤ 40; decide⟩
theorem eqSA : EqS clA [fdA] := ⟨tellA, by decide +kernel, by decide +kernel⟩
theorem eqSB : EqS [] [fdB] := ⟨tellB, by decide +kernel, by decide +kernel⟩
theorem rowsOkA : ∀ r ∈ rwA, wokB r = true ∧ lineOkB (wordsR r) = true := by
  intro r m
  simp only [rwA, List.mem_cons, List.not_mem_nil, or_false] at m
  rcases m with rfl | rfl | rfl | rfl <;> decide +kernel
theorem txtA : TxtS clA [fdA] := ⟨tellA, fun c m => by
  rw [List.mem_singleton.mp m]
  exact ⟨by decide +kernel, by decide +kernel, by decide +kernel⟩, fun f m => by
  rw [List.mem_singleton.mp m]
  exact ⟨⟨by decide +kernel, by decide +kernel⟩, ⟨by decide +kernel, by decide +kernel⟩, by decide +kernel, rowsOkA⟩, by decide +kernel⟩
theorem txtB : TxtS [] [fdB] := ⟨tellB, fun c m => by (cases m), fun f m => by
  rw [List.mem_singleton.mp m]
  exact ⟨⟨by decide +kernel, by decide +kernel⟩, ⟨by decide +kernel, by decide +kernel⟩, by decide +kernel, fun r mr => by rw [List.mem_singleton.mp mr]; decide +kernel⟩, by decide +kernel⟩
def rvA : List RowV := [([.str "get", .str "i", .str "o", .str "a"], none), ([.str "put", .str "o", .str "a", .str "i"], none), ([.str "call", .str "i", .str "f"], some ["i", "o"]), ([.str "return", .str "i"], none)]
def stA : TSt := ⟨clA, [⟨"f", "number", [("i", "number"), ("o", "object")], [], rvA⟩]⟩
def stB : TSt := ⟨[], [⟨"f", "object", [], [], [([.str "jump", .int 0], none)]⟩]⟩
theorem runA : runL ⟨[], []⟩ (told (textS clA [fdA])) = some stA := by kernel_rfl
theorem runB : runL ⟨[], []⟩ (told (textS [] [fdB])) = some stB := by kernel_rfl
def textOkB (t : Str) : Bool := decide (t.length ≤ 50000) && (((Txt.split t "\n").all fun l => decide (l.length ≤ 50000)) && (decide (1 ≤ (Txt.split t "\n").length) && (decide ((Txt.split t "\n").length ≤ 50000) && ((told t).all fun l => l.2.all wordB && decide (l.2.length ≤ 50000)))))
theorem textOk_ok {t : Str} (h : textOkB t = true) : TextOk t := by
  obtain ⟨h1, h⟩ := He.ba h
  obtain ⟨h2, h⟩ := He.ba h
  obtain ⟨h3, h⟩ := He.ba h
  obtain ⟨h4, h5⟩ := He.ba h
  refine ⟨of_decide_eq_true h1, fun l m => of_decide_eq_true (List.all_eq_true.mp h2 l m), fun z => ?_, of_decide_eq_true h4, fun l m => ?_⟩
  · have := of_decide_eq_true h3
    rw [z] at this
    exact absurd this (by decide)
  · obtain ⟨q1, q2⟩ := He.ba (List.all_eq_true.mp h5 l m)
    exact ⟨fun w mw => wordB_ok (List.all_eq_true.mp q1 w mw), of_decide_eq_true q2⟩
theorem textA : TextOk (textS clA [fdA]) := textOk_ok (by kernel_rfl)
theorem textB : TextOk (textS [] [fdB]) := textOk_ok (by kernel_rfl)
theorem fnsA : FnsIs stA.fns [fdA] := ⟨rfl, fun i f g a b => by
  match i, a, b with
  | 0, a, b =>
    rw [← Option.some.inj a, ← Option.some.inj b]
    refine ⟨rfl, rfl, rfl, rfl, rfl, fun j v r c d => ?_⟩
    match j, c, d with
    | 0, c, d => rw [← Option.some.inj c, ← Option.some.inj d]; exact ⟨rfl, fun _ => rfl⟩
    | 1, c, d => rw [← Option.some.inj c, ← Option.some.inj d]; exact ⟨rfl, fun _ => rfl⟩
    | 2, c, d => rw [← Option.some.inj c, ← Option.some.inj d]; exact ⟨rfl, by show 2 ≤ 1000; decide, fun _ => rfl⟩
    | 3, c, d => rw [← Option.some.inj c, ← Option.some.inj d]; exact ⟨rfl, fun _ => rfl⟩⟩
theorem fnsB : FnsIs stB.fns [fdB] := ⟨rfl, fun i f g a b => by
  match i, a, b with
  | 0, a, b =>
    rw [← Option.some.inj a, ← Option.some.inj b]
    refine ⟨rfl, rfl, rfl, rfl, rfl, fun j v r c d => ?_⟩
    match j, c, d with
    | 0, c, d => rw [← Option.some.inj c, ← Option.some.inj d]; exact ⟨rfl, fun _ => rfl⟩⟩
theorem read_fine {t : Str} {s : TSt} {H : Hp} {Q : VK} {E : XK} (TO : TextOk t) (hr : runL ⟨[], []⟩ (told t) = some s) (k : ToldSrc K s H Q E) : spRead K [.str t] H Q E := by
  refine ⟨_, rfl, .inr ⟨t, rfl, TO, fun i st l h1 h2 h3 => ?_, fun st h => ?_⟩⟩
  · have e1 := runI_bad (k := 0) h1 h2 h3
    rw [runI_ok (i := 0) hr] at e1
    cases e1
  · rw [hr] at h
    rw [← Option.some.inj h]
    exact k
theorem readA {H : Hp} {Q : VK} {E : XK} (k : ∀ H' p, Same H H' → SrcX K H' p clA [fdA] → Q (.ref p) H') : spRead K [.str (textS clA [fdA])] H Q E :=
  read_fine textA runA ⟨clsOkA, .inl ⟨[fdA], fnsA, by decide +kernel, by decide, by decide, fun f m => by rw [List.mem_singleton.mp m]; exact okA, k⟩⟩
theorem readB {H : Hp} {Q : VK} {E : XK} (k : ∀ H' p, Same H H' → SrcX K H' p [] [fdB] → Q (.ref p) H') : spRead K [.str (textS [] [fdB])] H Q E :=
  read_fine textB runB ⟨clsOkB, .inl ⟨[fdB], fnsB, by decide +kernel, by decide, by decide, fun f m => by rw [List.mem_singleton.mp m]; exact okB, k⟩⟩
theorem sameAA : sameS clA clA [fdA] [fdA] = true := by kernel_rfl
theorem sameBB : sameS [] [] [fdB] [fdB] = true := by kernel_rfl
theorem sameBA : sameS [] clA [fdB] [fdA] = false := by kernel_rfl

end
end W7
set_option Elab.async false
set_option linter.all false
set_option maxRecDepth 100000
set_option maxHeartbeats 4000000
namespace W7
open PySem PySem.Spec PyProof.Rows L2 RZ
section
variable {P : Program} {w : World} {K : PySem.W.Frag} {mg : Str → Option Value} {base : Heap}

/-- a def that may raise, called by place and by its one name -/
structure HasXK (P : Program) (w : World) (K : PySem.W.Frag) (mg : Str → Option Value) (base : Heap) (k : Nat) (x : Str) (ps : List Str) (sp : Sp) : Prop where
  ex : ∃ fd, FnOk P w K mg base (L2.CX P w) k (He.ga K x) fd ps sp ∧ Binds K fd ps [] ∧ KBn K fd ps 0 ps (fun _ ws => ws.reverse) (fun _ zs => zs.reverse)
  kp : PySem.W.keepIn K (.ref (He.ga K x)) = true
  gl : mg x = some (.ref (He.ga K x))
/-- self, then all by name, in their order -/
theorem kself2 {K : PySem.W.Frag} {x qual : Str} {params : Arguments} {body : List Stmt} {scope : Scope} {kws : List (Str × V)} {f : Addr} {fd : FuncData} {ps : List Str} (F : FunD K x qual params body scope [] kws f fd) (ks : List Str)
    (h : ∀ (kV doc pm : Value) (an : Option Addr) (cdv ct : Value) (u : Value) (ws : List Value), ws.length = ks.length → bindArgs (PySem.W.fnOf x qual params body scope .none kV doc pm an cdv ct) ⟨[u], ks.zip ws⟩ = pure (ps.zip (u :: ws))) : KBn K fd ps 1 ks (fun us ws => us ++ ws) (fun vs zs => vs ++ zs) := by
  obtain ⟨oc, od, dV, kV, doc, pm, an, cdv, ct, osl, rfl, lk, hcd, hD, hK⟩ := F.ex
  rcases hD with ⟨_, rfl⟩ | ⟨e, _⟩
  · refine ⟨fun s us ws X l1 l2 => ?_, fun r rz => r.append rz⟩
    match us, l1 with
    | [u], _ => exact .of_eq (h kV doc pm an cdv ct u ws l2)
  · exact absurd rfl e
structure HasSrc (P : Program) (w : World) (K : PySem.W.Frag) (mg : Str → Option Value) (base : Heap) : Prop where
  ex : ∃ fd, FnOk P w K mg base CX0 8 (He.ma K (He.ga K "Source") "__init__") fd ["self", "classes", "functions"] (spSrcInitG K) ∧ Binds K fd ["self", "classes", "functions"] [] ∧
    KBn K fd ["self", "classes", "functions"] 1 ["functions", "classes"] (fun us ws => us ++ ws.reverse) (fun vs zs => vs ++ zs.reverse) ∧ KBn K fd ["self", "classes", "functions"] 1 ["classes", "functions"] (fun us ws => us ++ ws) (fun vs zs => vs ++ zs)
theorem ok_src (T : Ctx w K mg) (h1 : HasM P w K mg base 4 "Source" "_take_classes" ["self", "classes"] (spTakeCM K)) (h2 : HasM P w K mg base 6 "Source" "_take_heads" ["self", "functions"] (spTakeHG K)) (h3 : HasM P w K mg base 7 "Source" "_take_rows" ["self", "k", "function", "rows"] (spTakeRG K)) : HasSrc P w K mg base := by
  obtain ⟨fd, F⟩ := T.D_Source_init
  exact ⟨⟨fd, okS_Source_init T F h1 h2 h3, F.bindsN (fun _ _ _ _ _ _ us hl => match us, hl with | [_, _, _], _ => rfl), GD.kself F ["functions", "classes"] (fun _ _ _ _ _ _ _ ws hl => match ws, hl with | [_, _], _ => rfl), kself2 F ["classes", "functions"] (fun _ _ _ _ _ _ _ ws hl => match ws, hl with | [_, _], _ => rfl)⟩⟩
theorem passNo {X : Cx} : Passes (L2.CX X.prog X.w) X (fun _ _ _ => False) := passes_call takesNo (fun _ _ _ _ h => h)
theorem okK_read_source (T : Ctx w K mg) (H_errT : HasM P w K mg base 1 "InvalidText" "__init__" ["self", "line"] (spTextInit K)) (H_text_lines : HasX P w K mg base 3 "text_lines" ["text"] (spLines K)) (H_takes_line : Has P w K mg base 4 "_takes_line" ["inner", "words", "classes", "functions"] spTakesL) (H_Source_init : HasMX P w K mg base 8 "Source" "__init__" ["self", "classes", "functions"] (spSrcB K)) : HasXK P w K mg base 10 "read_source" ["text"] (spRead K) := by
  obtain ⟨fd, F⟩ := T.D_read_source
  obtain ⟨fd_text_lines, G_text_lines, b_text_lines⟩ := H_text_lines.ex
  obtain ⟨fd_takes_line, G_takes_line, b_takes_line⟩ := H_takes_line.ex
  obtain ⟨fd_Source_init, G_Source_init, b_Source_init⟩ := H_Source_init.ex
  refine ⟨⟨fd, F.ok sc_read_source (fun vs H Q E h => ?_) (fun cdv A outer s H vs Q E hr h => ?_), F.bindsN (fun _ _ _ _ _ _ us hl => match us, hl with | [_], _ => rfl), F.kbindsR ["text"] (fun _ _ _ _ _ _ ws hl => match ws, hl with | [_], _ => rfl)⟩, F.kp, T.g_read_source⟩
  · obtain ⟨v, rfl, k⟩ := h; rfl
  · obtain ⟨v, rfl, k⟩ := h
    have hr_text_lines : Room 3 _ := hr.mono (by decide)
    have hr_takes_line : Room 4 _ := hr.mono (by decide)
    have hr_Source_init : Room 9 _ := hr.mono (by decide)
    have hu := hu_of hr
    obtain ⟨fd_errT, G_errT, b_errT⟩ := H_errT.ex
    have hr_errT : Room 2 _ := hr.mono (by decide)
    refine ⟨_, (pss_cons (ps_set (i := 1) sc_read_source.nd rfl (Or.inl rfl) (pe_lst pa_nil))
      (pss_cons (ps_set (i := 2) sc_read_source.nd rfl (Or.inl rfl) (pe_lst pa_nil))
      (pss_cons (ps_for (passes_of rfl) rfl (pi_enum (by rfl) T.f_enumerate (pa_cons (pe_call G_text_lines hr_text_lines (by rfl) H_text_lines.gl H_text_lines.kp b_text_lines .nil (passes_call (takes_of rfl rfl rfl rfl) (fun _ _ _ _ h => h)) (pa_cons (pv 0) pa_nil)) pa_nil)) (pg_tup rfl (pgs_cons (pg_name (i := 3) sc_read_source.nd rfl (Or.inl rfl)) (pgs_cons (pg_tup rfl (pgs_cons (pg_name (i := 4) sc_read_source.nd rfl (Or.inl rfl)) (pgs_cons (pg_name (i := 5) sc_read_source.nd rfl (Or.inl rfl)) pgs_nil))) pgs_nil)))
      (pss_one (ps_if (pt_not (pt_val (pe_call G_takes_line hr_takes_line (by rfl) H_takes_line.gl H_takes_line.kp b_takes_line .nil pass0 (pa_cons (pv 4) (pa_cons (pv 5) (pa_cons (pv 1) (pa_cons (pv 2) pa_nil))))))) (pss_one (ps_raiseE (x := "InvalidText") rfl (takes_of rfl rfl rfl rfl) T.errT G_errT b_errT hr_errT rfl T.g_InvalidText (by exact (pa_cons (pv 3) pa_nil)))) pss_nil)))
      (pss_one (ps_ret (pe_make T.k_Source G_Source_init hr_Source_init rfl T.g_Source b_Source_init .nil (passes_call (takes_of rfl rfl rfl rfl) (fun _ _ _ _ h => h)) (pa_cons (pv 1) (pa_cons (pv 2) pa_nil)))))))), ?_⟩
    refine ⟨sz_of (by show 0 ≤ 100000; decide), fun cl hcl => ⟨sz_of (by show 0 ≤ 100000; decide), fun fl hfl => ?_⟩⟩
    have s1 := Same.new (o := .lst []) hcl
    have s2 := Same.new (o := .lst []) hfl
    have s12 := s1.trans s2
    have hcl2 : upd (upd H cl (.lst [])) fl (.lst []) cl = some (.lst []) := s2 _ _ upd_same
    have hfl2 : upd (upd H cl (.lst [])) fl (.lst []) fl = some (.lst []) := upd_same
    have ncf : cl ≠ fl := fun z => by rw [← z, upd_same] at hfl; cases hfl
    generalize upd (upd H cl (.lst [])) fl (.lst []) = H2 at *
    rcases k with ⟨⟨c, tx, kt⟩, kE⟩ | ⟨t, rfl, TO, kE, kS⟩
    · exact ⟨_, rfl, v, rfl, .inr ⟨⟨c, tx _ s12, kt⟩, kE _ s12⟩⟩
    refine ⟨_, rfl, _, rfl, .inl ⟨t, rfl, TO.len, TO.lines, TO.ne, TO.many, fun q ps H3 s3 hq hq3 lat => ?_⟩⟩
    have hlen : ps.length ≤ 50000 := by
      rw [lat.1]
      exact Nat.le_trans (told_len TO.ne) TO.many
    have hW := TO.words
    generalize told t = ls at *
    have hB1 := s3 _ _ hcl2
    have hB2 := s3 _ _ hfl2
    have hflH : H fl = none := none_of s1 hfl
    have sameH : ∀ {H1 : Hp}, (∀ b o, H3 b = some o → b ≠ cl → b ≠ fl → H1 b = some o) → Same H H1 := fun kp b o e => kp _ _ ((s12.trans s3) _ _ e) (fun z => by rw [z, hcl] at e; cases e) (fun z => by rw [z, hflH] at e; cases e)
    refine ⟨q, _, rfl, SqL.of hq3, ?_⟩
    refine for_it (walk_enum (K := K) (a := q) (xs := ps.map V.ref)) (fun i σ H1 => ∃ (v1 v2 v3 : Option V) (rs : List Addr) (st : TSt), σ = [some (.str t), some (.ref cl), some (.ref fl), v1, v2, v3] ∧ runL ⟨[], []⟩ (ls.take i) = some st ∧ StM H1 cl fl rs st ∧ SmallN i st ∧ (∀ b o, H3 b = some o → b ≠ cl → b ≠ fl → H1 b = some o) ∧ ∀ b ∈ rs, H3 b = none) ⟨none, none, none, [], ⟨[], []⟩, rfl, rfl, StM.init hB1 hB2 ncf, ⟨Nat.le_refl _, Nat.le_refl _, fun f m => by cases m⟩, fun b o e _ _ => e, fun b m => by cases m⟩ ?_ ?_ ?_
    · rintro i σ H1 _ ⟨_, _, _, rs, st, rfl, _, S, _, kp, _⟩
      refine SqL.of (kp _ _ hq3 (fun z => ?_) (fun z => ?_))
      · rw [z, hcl2] at hq
        cases hq
      · rw [z, hfl2] at hq
        cases hq
    · rintro i y σ H1 H4 hi ⟨v1, v2, v3, rs, st, rfl, hrun, S, sm, kp, hrs⟩ ⟨u, a, b, rfl, hu0, rfl, h1, h2⟩
      have h2 : (ps.map V.ref)[i]? = some b := h2
      obtain rfl : V.int (i : Nat) = a := Option.some.inj h1
      obtain ⟨p, hp, rfl⟩ := map_get h2
      have hil : i < ls.length := by
        rw [← lat.1]
        exact (List.getElem?_eq_some_iff.mp hp).1
      have hl : ls[i]? = some ls[i] := List.getElem?_eq_getElem hil
      generalize hLi : ls[i] = l at hl
      obtain ⟨wa, hwn, hp3, hw3⟩ := lat.2 i p l hp hl
      have pcl : p ≠ cl := fun z => by rw [z, hB1] at hp3; cases hp3
      have pfl : p ≠ fl := fun z => by rw [z, hB2] at hp3; cases hp3
      have wcl : wa ≠ cl := fun z => by rw [z, hcl2] at hwn; cases hwn
      have wfl : wa ≠ fl := fun z => by rw [z, hfl2] at hwn; cases hwn
      have hp1 := kp _ _ hp3 pcl pfl
      have hw1 := kp _ _ hw3 wcl wfl
      have sH := sameH kp
      have s4 : Same H1 (upd H1 u (.tup [.int (i : Nat), .ref p])) := Same.new hu0
      have S4 := S.same s4
      have ml := List.mem_of_getElem? hl
      have i5 : i ≤ 50000 := by
        have := lat.1
        omega
      refine ⟨u, _, rfl, SqT.of upd_same, rfl, _, _, rfl, _, _, rfl, p, _, rfl, SqT.of (s4 _ _ hp1), rfl, _, _, rfl, _, _, rfl, rfl, rfl, ?_⟩
      refine ⟨_, rfl, _, rfl, _, rfl, _, rfl, l.1, wa, cl, fl, rs, st, l.2, rfl, s4 _ _ hw1, (hW l ml).1, (hW l ml).2, S4, ⟨Nat.le_trans sm.c i5, Nat.le_trans sm.f i5, fun f m => Nat.le_trans (sm.r f m) i5⟩, fun e H5 s5 => ⟨_, rfl, ifT rfl ?_⟩, fun st' e H5 rs' k5 nrs S5 => ⟨_, rfl, ifF rfl ?_⟩⟩
      · exact ⟨_, rfl, by show 1 ≤ 1000; decide, fun a hn => text_made hn T.errT fun d n => kE i st l hrun hl e H5 ((sH.trans s4).trans s5) d n⟩
      · refine ⟨_, _, _, rs', st', rfl, ?_, S5, sm.step e, fun b o e n1 n2 => k5 _ _ (s4 _ _ (kp _ _ e n1 n2)) (fun m => ?_), fun b m => ?_⟩
        · rw [take_snoc hl, runL_snoc, hrun]
          exact e
        · rcases List.mem_cons.mp m with m | m
          · exact n1 m
          rcases List.mem_cons.mp m with m | m
          · exact n2 m
          · rw [hrs b m] at e
            cases e
        · rcases nrs b m with m | m
          · exact hrs b m
          · have n1 := none_of s4 m
            cases c : H3 b with
            | none => rfl
            | some o =>
              obtain ⟨es, c1, _⟩ := S.cs
              obtain ⟨gs, f1, _⟩ := S.fs
              by_cases e1 : b = cl
              · rw [e1, c1] at n1
                cases n1
              by_cases e2 : b = fl
              · rw [e2, f1] at n1
                cases n1
              rw [kp _ _ c e1 e2] at n1
              cases n1
    · rintro σ H1 ⟨v1, v2, v3, rs, st, rfl, hrun, S, _, kp, hrs⟩
      have sH := sameH kp
      rw [List.take_of_length_le (by rw [List.length_map, lat.1]; exact Nat.le_refl _)] at hrun
      refine ⟨_, rfl, _, rfl, fun x dy nx ny nxy => ?_⟩
      have s4 : Same H1 (upd (upd H1 dy (.own x)) x (.ins (He.ga K "Source") dy [])) := (Same.new ny).trans (Same.new (by rw [upd_ne nxy.symm]; exact nx))
      have hx : upd (upd H1 dy (.own x)) x (.ins (He.ga K "Source") dy []) x = some (.ins (He.ga K "Source") dy []) := upd_same
      generalize upd (upd H1 dy (.own x)) x (.ins (He.ga K "Source") dy []) = H4 at *
      have sx := S.same s4
      have fin : ∀ {H' : Hp}, But x H4 H' → Same H H' := fun b y o e => b _ _ (s4 _ _ (sH _ _ e)) (ne_of_none (sH _ _ e) nx)
      obtain ⟨oc, q⟩ := kS st hrun
      rcases q with ⟨fds, hf, nn, l1, l6, ok, kA⟩ | ⟨h0, kB⟩ | ⟨f0, f1, g0, g1, hfs, i0, k0, r1, r2, i1, k1, r3, bad, kC⟩
      · exact .inl ⟨x, dy, cl, fl, st.cls, fds, rfl, hx, sx.raw oc hf nn l1 l6 ok, fun H' b X => ⟨rfl, kA H' x (fin b) X⟩⟩
      · obtain ⟨cs, c1, c2, c3⟩ := sx.cs
        obtain ⟨es, f1, f2, _⟩ := sx.fs
        have e0 : es = [] := List.length_eq_zero_iff.mp (by rw [f2, h0]; rfl)
        subst e0
        exact .inr ⟨x, dy, cl, fl, st.cls, rfl, hx, ⟨cs, c1, c2, fun i e c a b => (c3 i e c a b).g⟩, oc, .inl ⟨f1, fun H' b => kB H' (fin b)⟩⟩
      · obtain ⟨cs, c1, c2, c3⟩ := sx.cs
        obtain ⟨es, h1, h2, h3, h4⟩ := sx.fs
        have hr := sx.rw_
        rw [hfs] at h2 h3 h4 hr
        match es, h1, h2, rs, h3, h4, hr with
        | [e0, e1], h1, _, [ra, rb], _, h4, hr =>
          have R0 := hr 0 ra f0 rfl rfl
          have R1 := hr 1 rb f1 rfl rfl
          have F0 := h4 0 e0 ra f0 rfl rfl rfl
          have F1 := h4 1 e1 rb f1 rfl rfl rfl
          refine .inr ⟨x, dy, cl, fl, st.cls, rfl, hx, ⟨cs, c1, c2, fun i e c a b => (c3 i e c a b).g⟩, oc, .inr ⟨e0, e1, g0, h1, (F0.entryR R0 i0 k0 r1 r2).entry, ?_, fun H' t b ht => kC H' t (fin b) ht⟩⟩
          by_cases z : g1.rws = []
          · exact .inl (F1.entryZ R1 i1 k1 (List.length_eq_zero_iff.mp (by rw [i1.len, z]; rfl)))
          · rcases bad with b | b
            · exact absurd b z
            · exact .inr ⟨g1, (F1.entryR R1 i1 k1 (List.length_pos_iff.mpr z) r3).entry, b⟩
theorem okK_source_text (T : Ctx w K mg) (H_errS : HasM P w K mg base 1 "InvalidSource" "__init__" ["self", "part", "at"] (spSrcErr K)) (H_Source_classes : HasM P w K mg base 1 "Source" "classes" ["self"] (spClasses K)) (H_Source_functions : HasM P w K mg base 3 "Source" "functions" ["self"] (spFunctions K)) (H_line_of : Has P w K mg base 1 "line_of" ["words"] (spLineOf K)) (H_pair_words : Has P w K mg base 1 "pair_words" ["pairs"] spPairWords) (H_row_line : Has P w K mg base 2 "row_line" ["words"] (spRowLine K)) (H_row_words : Has P w K mg base 1 "row_words" ["row"] spRowWords) : HasXK P w K mg base 4 "source_text" ["source"] (spSrcText K) := by
  obtain ⟨fd, F⟩ := T.D_source_text
  obtain ⟨fd_Source_classes, G_Source_classes, b_Source_classes⟩ := H_Source_classes.ex
  obtain ⟨fd_Source_functions, G_Source_functions, b_Source_functions⟩ := H_Source_functions.ex
  obtain ⟨fd_line_of, G_line_of, b_line_of⟩ := H_line_of.ex
  obtain ⟨fd_pair_words, G_pair_words, b_pair_words⟩ := H_pair_words.ex
  obtain ⟨fd_row_line, G_row_line, b_row_line⟩ := H_row_line.ex
  obtain ⟨fd_row_words, G_row_words, b_row_words⟩ := H_row_words.ex
  refine ⟨⟨fd, F.ok sc_source_text (fun vs H Q E h => ?_) (fun cdv A outer s H vs Q E hr h => ?_), F.bindsN (fun _ _ _ _ _ _ us hl => match us, hl with | [_], _ => rfl), F.kbindsR ["source"] (fun _ _ _ _ _ _ ws hl => match ws, hl with | [_], _ => rfl)⟩, F.kp, T.g_source_text⟩
  · obtain ⟨v, rfl, k⟩ := h; rfl
  · obtain ⟨v, rfl, k⟩ := h
    have hr_Source_classes : Room 1 _ := hr.mono (by decide)
    have hr_Source_functions : Room 3 _ := hr.mono (by decide)
    have hr_line_of : Room 1 _ := hr.mono (by decide)
    have hr_pair_words : Room 1 _ := hr.mono (by decide)
    have hr_row_line : Room 2 _ := hr.mono (by decide)
    have hr_row_words : Room 1 _ := hr.mono (by decide)
    have hu := hu_of hr
    obtain ⟨fd_errS, G_errS, b_errS⟩ := H_errS.ex
    have hr_errS : Room 2 _ := hr.mono (by decide)
    obtain ⟨ti, e_STROKE⟩ := T.s_STROKE
    refine ⟨_, (pss_cons (ps_if (pt_not (pt_val (pe_callB call_isi (by rfl) T.f_isinstance (by decide +kernel) (pa_cons (pv 0) (pa_cons (pe_glob (v := .ref (He.ga K "Source")) rfl T.g_Source rfl) pa_nil))))) (pss_one (ps_raiseE (x := "InvalidSource") rfl (takes_of rfl rfl rfl rfl) T.errS G_errS b_errS hr_errS rfl T.g_InvalidSource (by exact (pa_cons pe_str (pa_cons pe_non pa_nil))))) pss_nil)
      (pss_cons (ps_setLc (i := 1) (own := [("name", 2), ("fields", 7)]) (g := gTup K 2 (gCons (gName 2) (gCons (gName 7) (gNil)))) (tt := tYes) rfl sc_source_text.nd rfl rfl (sw_true rfl rfl rfl (by decide +kernel)) (pi_list ((pe_meth0 (pv 0) T.c_Source T.m_Source_classes G_Source_classes hr_Source_classes b_Source_classes .nil pass0))) (blkOk_by (N := ["source", "lines", "name", "params", "others", "result", "rows", "fields", "row"]) (sc := defScope s_source_text) (by decide +kernel)) (fun _ _ _ _ _ => (pg_tup rfl (pgs_cons (pg_name (i := 2) sc_source_text.nd rfl (Or.inl rfl)) (pgs_cons (pg_name (i := 7) sc_source_text.nd rfl (Or.inl rfl)) pgs_nil)))) (fun _ _ _ _ _ => pts_nil) (fun _ _ _ _ _ => (pe_call G_line_of hr_line_of (by rfl) H_line_of.gl H_line_of.kp b_line_of .nil pass0 (pa_cons (pe_lst (pa_cons pe_str (pa_cons (pv 2) (pa_starK (K := K) rfl (pe_call G_pair_words hr_pair_words (by rfl) H_pair_words.gl H_pair_words.kp b_pair_words .nil pass0 (pa_cons (pv 7) pa_nil)) pa_nil)))) pa_nil))))
      (pss_cons (ps_for (passes_of rfl) rfl (pi_list ((pe_meth0 (pv 0) T.c_Source T.m_Source_functions G_Source_functions hr_Source_functions b_Source_functions .nil pass0))) (pg_tup rfl (pgs_cons (pg_name (i := 2) sc_source_text.nd rfl (Or.inl rfl)) (pgs_cons (pg_name (i := 3) sc_source_text.nd rfl (Or.inl rfl)) (pgs_cons (pg_name (i := 4) sc_source_text.nd rfl (Or.inl rfl)) (pgs_cons (pg_name (i := 5) sc_source_text.nd rfl (Or.inl rfl)) (pgs_cons (pg_name (i := 6) sc_source_text.nd rfl (Or.inl rfl)) pgs_nil))))))
      (pss_cons (ps_expr (pe_bm PySem.F.plainAttrs_list PySem.F.slot_list_append PySem.F.type_list_append mt_append (pv 1) (pa_cons (pe_call G_line_of hr_line_of (by rfl) H_line_of.gl H_line_of.kp b_line_of .nil pass0 (pa_cons (pe_lst (pa_cons pe_str (pa_cons (pv 2) (pa_cons (pv 5) (pa_starK (K := K) rfl (pe_call G_pair_words hr_pair_words (by rfl) H_pair_words.gl H_pair_words.kp b_pair_words .nil pass0 (pa_cons (pv 3) pa_nil)) (pa_cons (pe_glob (v := .str "/") rfl e_STROKE ⟨_, rfl⟩) (pa_starK (K := K) rfl (pe_call G_pair_words hr_pair_words (by rfl) H_pair_words.gl H_pair_words.kp b_pair_words .nil pass0 (pa_cons (pv 4) pa_nil)) pa_nil))))))) pa_nil)) pa_nil)))
      (pss_one (ps_expr (pe_bm PySem.F.plainAttrs_list PySem.F.slot_list_extend PySem.F.type_list_extend mt_extend (pv 1) (pa_cons (pe_lc (own := [("row", 8)]) (g := gName 8) (tt := tYes) rfl sc_source_text.nd (pi_list (pv 6)) (blkOk_by (N := ["source", "lines", "name", "params", "others", "result", "rows", "fields", "row"]) (sc := defScope s_source_text) (by decide +kernel)) (fun _ _ _ _ _ => (pg_name (i := 8) sc_source_text.nd rfl (Or.inl rfl))) (fun _ _ _ _ _ => pts_nil) (fun _ _ _ _ _ => (pe_call G_row_line hr_row_line (by rfl) H_row_line.gl H_row_line.kp b_row_line .nil pass0 (pa_cons (pe_call G_row_words hr_row_words (by rfl) H_row_words.gl H_row_words.kp b_row_words .nil pass0 (pa_cons (pv 8) pa_nil)) pa_nil)))) pa_nil))))))
      (pss_one (ps_ret (pe_join pe_str (pv 1))))))), ?_⟩
    rcases k with ⟨c, tx, kt, kE⟩ | ⟨p, cl, fds, rfl, X, TS, k⟩
    · refine ⟨_, rfl, _, _, _, _, false, rfl, .own _, tx, kt, false, rfl, iteT ?_⟩
      exact ⟨by show 2 ≤ 1000; decide, fun a hn => src_made hn T.errS fun d n => kE d n⟩
    obtain ⟨dx, fs, ob, n1, n2⟩ := X.ins
    obtain ⟨t1, t2⟩ := T.isSource ob
    refine ⟨_, rfl, _, _, _, _, true, rfl, .own _, t1, t2, true, rfl, iteF ?_⟩
    refine ⟨_, rfl, p, dx, fs, rfl, ob, n1, p, cl, fds, rfl, X, TS.toTellS, fun ca H1 s1 C1 => ?_⟩
    obtain ⟨es, e1, e2, e3⟩ := C1
    refine ⟨ca, rfl, ⟨_, SqL.of e1⟩, fun D hD => ?_⟩
    have lc := TS.lc
    refine lc_pure (walk_list (K := K) (a := ca) (xs := es.map V.ref)) hD (fun i => .str (lineT (clsW (cl.getD i ("", []))))) (by rw [List.length_map, e2]; omega) (fun H2 s2 => SqL.of (s2 _ _ e1)) (fun i H2 y H3 hi s2 hy Qe qe => ?_) (fun H2 s2 h2 => ?_)
    · obtain ⟨rfl, hy⟩ := hy
      obtain ⟨e, he, rfl⟩ := map_get hy
      have hic : i < cl.length := by
        rw [← e2]
        exact (List.getElem?_eq_some_iff.mp he).1
      have hc : cl[i]? = some cl[i] := List.getElem?_eq_getElem hic
      have ex : cl.getD i ("", []) = cl[i] := by rw [List.getD_eq_getElem?_getD, hc]; rfl
      rw [ex] at qe
      obtain ⟨la, ps, q1, _, q2, q3⟩ := e3 i e _ he hc
      obtain ⟨c1, c2, c3⟩ := TS.c _ (List.mem_of_getElem? hc)
      generalize cl[i] = c at *
      refine ⟨e, _, rfl, SqT.of (s2 _ _ q1), rfl, _, _, rfl, _, _, rfl, rfl, rfl, ?_⟩
      refine ⟨_, rfl, _, rfl, la, ps, c.2, rfl, s2 _ _ q2, q3.mono s2, c1, c2, fun q H4 s4 _ h4 => ⟨q, _, rfl, .inr (SqL.of h4), sz_of ?_, fun l hl => ?_⟩⟩
      · simp
        omega
      have s5 := Same.new (o := .lst ((clsW c).map V.str)) hl
      have e5 : (V.str "class" :: V.str c.1 :: ((c.2.map pairW).map V.str ++ []) : List V) = (clsW c).map V.str := by
        rw [List.append_nil]
        rfl
      refine ⟨l, clsW c, rfl, SqL.of (by rw [upd_same]; exact congrArg (fun z => some (HO.lst z)) e5), c3, qe _ ?_⟩
      rw [e5]
      exact s4.trans s5
    have h2 : H2 D = some (.lst ((clsLines cl).map V.str)) := by
      rw [h2, List.length_map, e2]
      refine congrArg (fun z => some (HO.lst z)) ?_
      unfold clsLines
      apply List.ext_getElem
      · simp
      · intro i g1 g2
        simp at g1
        simp [g1]
    have s12 := s1.trans s2
    have X2 := X.mono s12
    refine ⟨_, rfl, p, dx, fs, rfl, s12 _ _ ob, n2, p, cl, fds, rfl, X2, TS.toTellS, fun fa H3 s3 nfa C3 => ?_⟩
    obtain ⟨gs, g1, g2, g3⟩ := C3
    have hD3 := s3 _ _ h2
    have zD : ∀ {b : Addr}, H2 b = none → b ≠ D := fun z w => by
      rw [w, h2] at z
      cases z
    have fne : fa ≠ D := zD nfa
    have lf := TS.lf
    refine ⟨fa, rfl, ⟨_, SqL.of g1⟩, ?_⟩
    have bound : ∀ i, ((clsLines cl ++ (fds.take i).flatMap fnLines)).length ≤ 1000 := fun i => by
      have h1 := fn_lines_len (fds := fds.take i) fun f m => TS.lr f (List.take_subset _ _ m)
      have h2 : (fds.take i).length ≤ 6 := by
        rw [List.length_take]
        omega
      have h3 : (clsLines cl).length = cl.length := by
        unfold clsLines
        rw [List.length_map]
      rw [List.length_append, h3]
      omega
    refine for_it (walk_list (K := K) (a := fa) (xs := gs.map V.ref)) (fun i σ H1 => ∃ v2 v3 v4 v5 v6 v7 v8 : Option V, σ = [some (.ref p), some (.ref D), v2, v3, v4, v5, v6, v7, v8] ∧ But D H3 H1 ∧ H1 D = some (.lst ((clsLines cl ++ (fds.take i).flatMap fnLines).map V.str))) ⟨_, _, _, _, _, _, _, rfl, But.refl _ _, by rw [hD3]; simp⟩ (fun i σ H1 _ ⟨_, _, _, _, _, _, _, _, b1, _⟩ => SqL.of (b1 _ _ g1 fne)) ?_ ?_
    · rintro i y σ H4 H5 hi ⟨v2, v3, v4, v5, v6, v7, v8, rfl, b4, hD4⟩ ⟨rfl, hy⟩
      obtain ⟨e, he, rfl⟩ := map_get hy
      have hic : i < fds.length := by
        rw [← g2]
        exact (List.getElem?_eq_some_iff.mp he).1
      have hc : fds[i]? = some fds[i] := List.getElem?_eq_getElem hic
      have bd := bound (i + 1)
      have bd0 := bound i
      have tk : fds.take (i + 1) = fds.take i ++ [fds[i]] := take_snoc hc
      rw [tk, List.flatMap_append] at bd
      obtain ⟨⟨p1, p2⟩, ⟨p3, p4⟩, p5, p6⟩ := TS.f _ (List.mem_of_getElem? hc)
      have lr := TS.lr _ (List.mem_of_getElem? hc)
      have E3 := (g3 i e _ he hc).to (Y := fun b => H2 b = none) (fun _ z => z) (.butZ hD3 (fun _ z => zD z) b4)
      have goal : ∀ (H6 : Hp), But D H3 H6 → H6 D = some (.lst ((clsLines cl ++ (fds.take i).flatMap fnLines).map V.str ++ (fnLines fds[i]).map V.str)) → H6 D = some (.lst ((clsLines cl ++ (fds.take (i + 1)).flatMap fnLines).map V.str)) := fun H6 _ h => by
        rw [h, tk, List.flatMap_append, List.flatMap_cons, List.flatMap_nil, List.append_nil]
        simp only [List.map_append, List.append_assoc]
      generalize fds[i] = f at *
      obtain ⟨pa, oa, ra, ps, qs, rs, q1, ⟨z1, z2, z3⟩, q2, q3, q4, q5, q6, q7⟩ := E3
      refine ⟨e, _, rfl, SqT.of q1, rfl, _, _, rfl, _, _, rfl, _, _, rfl, _, _, rfl, _, _, rfl, rfl, ?_⟩
      -- lines.append(..)
      refine ⟨_, rfl, .inl ⟨rfl, _, SqL.of hD4⟩, _, rfl, _, rfl, _, rfl, pa, ps, f.ns, rfl, q2, q3, p1, p2, fun w1 H6 s6 _ h6 => ⟨w1, _, rfl, .inr (SqL.of h6), _, rfl, oa, qs, f.ms, rfl, s6 _ _ q4, q5.mono s6, p3, p4, fun w2 H7 s7 _ h7 => ⟨w2, _, rfl, .inr (SqL.of h7), sz_of ?_, fun l hl => ?_⟩⟩⟩
      · simp
        omega
      have s8 := Same.new (o := .lst ((headW f).map V.str)) hl
      have e8 : (V.str "function" :: V.str f.nm :: V.str f.res :: ((f.ns.map pairW).map V.str ++ V.str "/" :: ((f.ms.map pairW).map V.str ++ [])) : List V) = (headW f).map V.str := by
        simp [headW]
      refine ⟨l, headW f, rfl, SqL.of (by rw [upd_same]; exact congrArg (fun z => some (HO.lst z)) e8), p5, ?_⟩
      have s48 : Same H5 (upd H7 l (.lst ((headW f).map V.str))) := (s6.trans s7).trans s8
      have hD8 := s48 _ _ hD4
      rw [e8]
      refine ⟨D, _, _, rfl, rfl, hD8, sz_lt (by rw [List.length_map]; omega), ?_⟩
      have b8 : But D H5 (upd (upd H7 l (.lst ((headW f).map V.str))) D (.lst ((clsLines cl ++ (fds.take i).flatMap fnLines).map V.str ++ [.str (lineT (headW f))]))) := (But.of s48).trans But.upd
      have hD9 : upd (upd H7 l (.lst ((headW f).map V.str))) D (.lst ((clsLines cl ++ (fds.take i).flatMap fnLines).map V.str ++ [.str (lineT (headW f))])) D = some (.lst ((clsLines cl ++ (fds.take i).flatMap fnLines).map V.str ++ [.str (lineT (headW f))])) := upd_same
      generalize upd (upd H7 l (.lst ((headW f).map V.str))) D (.lst ((clsLines cl ++ (fds.take i).flatMap fnLines).map V.str ++ [.str (lineT (headW f))])) = H9 at *
      have hra := b8 _ _ q6 (zD z3)
      have q9 := q7.to (Y := fun b => H2 b = none) (fun _ z => z) (.butZ hD4 (fun _ z => zD z) b8)
      -- lines.extend(..)
      refine ⟨_, rfl, .inl ⟨rfl, _, SqL.of hD9⟩, _, rfl, ra, rfl, ⟨_, SqL.of hra⟩, fun D2 hD2 => ?_⟩
      refine lc_pure (walk_list (K := K) (a := ra) (xs := rs.map V.ref)) hD2 (fun j => .str (rlineT (wordsR (f.rws.getD j (.jump 0))))) (by rw [List.length_map, q7.len]; omega) (fun Ha sa => SqL.of (sa _ _ hra)) (fun j Ha y Hb hj sa hy Qe qe => ?_) (fun Ha sa h10 => ?_)
      · obtain ⟨rfl, hy⟩ := hy
        obtain ⟨t, ht, rfl⟩ := map_get hy
        have hjr : j < f.rws.length := by
          rw [← q7.len]
          exact (List.getElem?_eq_some_iff.mp ht).1
        have hr2 : f.rws[j]? = some f.rws[j] := List.getElem?_eq_getElem hjr
        have er : f.rws.getD j (.jump 0) = f.rws[j] := by rw [List.getD_eq_getElem?_getD, hr2]; rfl
        rw [er] at qe
        obtain ⟨w1, w2⟩ := p6 _ (List.mem_of_getElem? hr2)
        refine ⟨rfl, _, rfl, t, _, rfl, (q9.at_ j t _ ht hr2).to (fun _ _ => trivial) (.of sa), w1, fun u Hc sc _ hu => ⟨u, _, rfl, SqL.of hu, w2, qe _ sc⟩⟩
      · have h10 : Ha D2 = some (.lst ((f.rws.map fun r => rlineT (wordsR r)).map V.str)) := by
          rw [h10, List.length_map, q7.len]
          refine congrArg (fun z => some (HO.lst z)) ?_
          apply List.ext_getElem
          · simp
          · intro i k1 k2
            simp at k1
            simp [k1]
        have hDa := sa _ _ hD9
        have bl : (fnLines f).length = f.rws.length + 1 := by
          unfold fnLines
          rw [List.length_cons, List.length_map]
        refine ⟨D, D2, _, _, rfl, rfl, hDa, h10, sz_of (by rw [List.length_append, List.length_map, List.length_map, List.length_map, List.length_singleton]; omega), ?_⟩
        have b11 : But D H3 (upd Ha D (.lst ((clsLines cl ++ (fds.take i).flatMap fnLines).map V.str ++ [.str (lineT (headW f))] ++ (f.rws.map fun r => rlineT (wordsR r)).map V.str))) := ((b4.trans b8).trans (But.of sa)).trans But.upd
        exact ⟨_, _, _, _, _, _, _, rfl, b11, goal _ b11 (by rw [upd_same]; simp [fnLines])⟩
    · rintro σ H4 ⟨v2, v3, v4, v5, v6, v7, v8, rfl, b4, hD4⟩
      rw [List.length_map, g2, List.take_length] at hD4
      exact ⟨⟨_, rfl⟩, _, rfl, "", D, linesS cl fds, rfl, rfl, .inl (SqL.of hD4), TS.j, k H4 fun b u e => b4 _ _ (s3 _ _ (s12 _ _ e)) fun w => by
        rw [w, none_of s1 hD] at e
        cases e⟩

end
end W7
set_option Elab.async false
set_option linter.all false
set_option maxRecDepth 100000
set_option maxHeartbeats 4000000
namespace W7
open PySem PySem.Spec PyProof.Rows L2 RZ
section
variable {P : Program} {w : World} {K : PySem.W.Frag} {mg : Str → Option Value} {base : Heap}

def spRight (K : PySem.W.Frag) : Sp := fun vs H Q _ => ∃ p, vs = [.ref p] ∧ WellAt H p ∧ ∀ H', But p H H' → Q (.bl true) H'
theorem Ctx.eqFn (T : Ctx w K mg) : PySem.W.findIn K (.ref (He.ga K "Source")) "__eq__" = some (some (.ref (He.ma K (He.ga K "Source") "__eq__"))) ∧ PySem.W.findIn K (.ref (He.ga K "Source")) "__ne__" = some (some (.builtin "object.__ne__")) ∧ PySem.W.subIn K (.ref (He.ga K "Source")) (.type "object") = some true ∧ PySem.W.isFn K (.ref (He.ma K (He.ga K "Source") "__eq__")) = true := by
  obtain ⟨h1, h⟩ := He.ba T.eqs
  obtain ⟨h2, h⟩ := He.ba h
  obtain ⟨h3, h4⟩ := He.ba h
  exact ⟨of_decide_eq_true h1, of_decide_eq_true h2, of_decide_eq_true h3, h4⟩
theorem rep_non : RepOk .non .none := ⟨by decide +kernel, by decide +kernel, by decide +kernel, by decide +kernel, fun i e => by first | (cases e; done) | (rw [← V.int.inj e]; decide +kernel), by decide +kernel⟩
theorem rep_m1 : RepOk (.int (-1)) (.int (-1)) := ⟨by decide +kernel, by decide +kernel, by decide +kernel, by decide +kernel, fun i e => by first | (cases e; done) | (rw [← V.int.inj e]; decide +kernel), by decide +kernel⟩
theorem rep_5 : RepOk (.int 5) (.int 5) := ⟨by decide +kernel, by decide +kernel, by decide +kernel, by decide +kernel, fun i e => by first | (cases e; done) | (rw [← V.int.inj e]; decide +kernel), by decide +kernel⟩
theorem rep_x : RepOk (.str "x") (.str "x") := ⟨by decide +kernel, by decide +kernel, by decide +kernel, by decide +kernel, fun i e => by first | (cases e; done) | (rw [← V.int.inj e]; decide +kernel), by decide +kernel⟩
theorem rep_big : RepOk (.int (10 ^ 40)) (.int (10 ^ 40)) := ⟨by decide +kernel, by decide +kernel, by decide +kernel, by decide +kernel, fun i e => by first | (cases e; done) | (rw [← V.int.inj e]; decide +kernel), by decide +kernel⟩
theorem rep_t1 {a : Addr} : RepOk (.ref a) (.tuple [.int 0]) := ⟨by decide +kernel, by decide +kernel, by decide +kernel, by decide +kernel, fun i e => by (cases e; done), by decide +kernel⟩
theorem rep_t2 {a : Addr} : RepOk (.ref a) (.list [.int 2]) := ⟨by decide +kernel, by decide +kernel, by decide +kernel, by decide +kernel, fun i e => by (cases e; done), by decide +kernel⟩
theorem rep_t3 {a : Addr} : RepOk (.ref a) (.list [.int 0]) := ⟨by decide +kernel, by decide +kernel, by decide +kernel, by decide +kernel, fun i e => by (cases e; done), by decide +kernel⟩
theorem rep_t4 {a : Addr} : RepOk (.ref a) (.tuple [.int 1, .int 2]) := ⟨by decide +kernel, by decide +kernel, by decide +kernel, by decide +kernel, fun i e => by (cases e; done), by decide +kernel⟩
theorem sc_L_right : FnScope ["_law_well_here", "_law_spot", "_law_rows", "_law_some_here", "_law_its", "_law_one", "_law_least", "_law_odd"] ["_law_well_here"] (defScope s_L_right) := ⟨rfl, rfl, rfl, by decide +kernel, rfl, by decide +kernel, by decide +kernel⟩
theorem ok_L_right (T : Ctx w K mg) (H_Src : HasSrc P w K mg base) (H_L_pick : Has P w K mg base 3 "_law_pick" ["_law_well_here", "_law_items"] (spPick K)) (H_L_errors_right : HasG P w K mg base 4 "_law_errors_right" ["_law_odd", "_law_spot"] (spErrs K)) (H_read_source : HasXK P w K mg base 10 "read_source" ["text"] (spRead K)) (H_source_text : HasXK P w K mg base 4 "source_text" ["source"] (spSrcText K)) (H_L_said : Has P w K mg base 5 "_law_said" ["_law_thing"] (spSaid K)) (H_eq : HasM P w K mg base 4 "Source" "__eq__" ["self", "other"] (spSrcEq K)) : HasG P w K mg base 11 "_law_right" ["_law_well_here"] (spRight K) := by
  obtain ⟨fd, F⟩ := T.D_L_right
  refine ⟨⟨fd, GD.okG F sc_L_right (fun vs H Q E h => ?_) (fun cdv A outer s H vs Q E gd hr h => ?_), F.bindsN fun _ _ _ _ _ _ us hl => match us, hl with | [_], _ => rfl⟩, F.kp, T.g_L_right⟩
  · obtain ⟨p, rfl, hw, k⟩ := h; rfl
  · obtain ⟨p, rfl, hw, k⟩ := h
    have hu := hu_of hr
    obtain ⟨fd_Src, G_Src, b_Src, kr_Src, ks_Src⟩ := H_Src.ex
    obtain ⟨fd_eq, G_eq, b_eq⟩ := H_eq.ex
    obtain ⟨fd_L_pick, G_L_pick, b_L_pick⟩ := H_L_pick.ex
    obtain ⟨fd_L_errors_right, G_L_errors_right, b_L_errors_right⟩ := H_L_errors_right.ex
    obtain ⟨fd_read_source, G_read_source, b_read_source, k_read_source⟩ := H_read_source.ex
    obtain ⟨fd_source_text, G_source_text, b_source_text, k_source_text⟩ := H_source_text.ex
    obtain ⟨fd_L_said, G_L_said, b_L_said⟩ := H_L_said.ex
    have hr_Src : Room 9 _ := hr.mono (by decide)
    have hr_L_pick : Room 3 _ := hr.mono (by decide)
    have hr_L_errors_right : Room 4 _ := hr.mono (by decide)
    have hr_read_source : Room 10 _ := hr.mono (by decide)
    have hr_source_text : Room 4 _ := hr.mono (by decide)
    have hr_L_said : Room 5 _ := hr.mono (by decide)
    have hr_eq : Room 4 _ := hr.mono (by decide)
    have hr_eq1 : Room 5 _ := hr.mono (by decide)
    refine ⟨_, PSs.nox (pss_cons (ps_set (i := 1) sc_L_right.nd rfl (Or.inl rfl) (pe_call G_L_pick hr_L_pick (by rfl) H_L_pick.gl H_L_pick.kp b_L_pick .nil pass0 (pa_cons (pv 0) (pa_cons (pe_lst (pa_cons pe_non (pa_cons (pe_tup (pa_cons pe_int pa_nil)) (pa_cons (pe_un un_neg pe_int) (pa_cons (pe_lst (pa_cons pe_int pa_nil)) pa_nil))))) pa_nil))))
      (pss_cons (ps_if (pt_not (pt_val (GD.pe_callG G_L_errors_right hr_L_errors_right gd (by rfl) H_L_errors_right.gl H_L_errors_right.kp b_L_errors_right pass0 (pa_cons (pe_call G_L_pick hr_L_pick (by rfl) H_L_pick.gl H_L_pick.kp b_L_pick .nil pass0 (pa_cons (pv 0) (pa_cons (pe_lst (pa_cons pe_non (pa_cons pe_int (pa_cons pe_str (pa_cons (pe_lst (pa_cons pe_int pa_nil)) (pa_cons (pe_tup (pa_cons pe_int (pa_cons pe_int pa_nil))) (pa_cons (pe_op op_pow pe_int pe_int) pa_nil))))))) pa_nil))) (pa_cons (pv 1) pa_nil))))) (pss_one (ps_ret pe_bl)) pss_nil)
      (pss_cons (ps_set (i := 2) sc_L_right.nd rfl (Or.inl rfl) (pe_lst (pa_cons (pe_tup (pa_cons pe_str (pa_cons pe_str (pa_cons pe_str (pa_cons pe_str pa_nil))))) (pa_cons (pe_tup (pa_cons pe_str (pa_cons pe_str (pa_cons pe_str (pa_cons pe_str pa_nil))))) (pa_cons (pe_tup (pa_cons pe_str (pa_cons pe_str (pa_cons pe_str (pa_cons (pe_lst (pa_cons pe_str (pa_cons pe_str pa_nil))) pa_nil))))) (pa_cons (pe_tup (pa_cons pe_str (pa_cons pe_str pa_nil))) pa_nil))))))
      (pss_cons (ps_par (i := 3) (j := 4) (by rfl) sc_L_right.nd rfl rfl (by decide) rfl rfl (pa_cons (pe_lst (pa_cons (pe_tup (pa_cons pe_str (pa_cons (pe_lst (pa_cons (pe_tup (pa_cons pe_str (pa_cons pe_str pa_nil))) pa_nil)) pa_nil))) pa_nil)) (pa_cons (pe_lst (pa_cons (pe_tup (pa_cons pe_str (pa_cons (pe_lst (pa_cons (pe_tup (pa_cons pe_str (pa_cons pe_str pa_nil))) (pa_cons (pe_tup (pa_cons pe_str (pa_cons pe_str pa_nil))) pa_nil))) (pa_cons (pe_lst pa_nil) (pa_cons pe_str (pa_cons (pv 2) pa_nil)))))) pa_nil)) pa_nil)) (by rfl))
      (pss_cons (ps_set (i := 5) sc_L_right.nd rfl (Or.inl rfl) (GD.pe_makeKO T.k_Source G_Src hr_Src (by rfl) T.g_Source kr_Src pass0 (pk_cons (pv 4) (pk_cons (pv 3) pk_nil))))
      (pss_cons (ps_if (PW.pt (pw_or (pt_cmpR (GD.op_neI G_eq T.eqFn.1 T.eqFn.2.1 T.eqFn.2.2.1 T.eqFn.2.2.2 b_eq pass0 hr_eq1) (pv 5) (pe_make T.k_Source G_Src hr_Src rfl T.g_Source b_Src .nil pass0 (pa_cons (pv 3) (pa_cons (pv 4) pa_nil))) (nomark _)) (pw_or1 (pt_cmpR (GD.op_neI G_eq T.eqFn.1 T.eqFn.2.1 T.eqFn.2.2.1 T.eqFn.2.2.2 b_eq pass0 hr_eq1) (pe_callKO G_read_source hr_read_source (by rfl) H_read_source.gl H_read_source.kp k_read_source passNo (pk_cons (pe_callKO G_source_text hr_source_text (by rfl) H_source_text.gl H_source_text.kp k_source_text passNo (pk_cons (pv 5) pk_nil)) pk_nil)) (pv 5) (nomark _))))) (pss_one (ps_ret pe_bl)) pss_nil)
      (pss_cons (ps_set (i := 6) sc_L_right.nd rfl (Or.inl rfl) (GD.pe_makeKO T.k_Source G_Src hr_Src (by rfl) T.g_Source ks_Src pass0 (pk_cons (pe_lst pa_nil) (pk_cons (pe_lst (pa_cons (pe_tup (pa_cons pe_str (pa_cons (pe_lst pa_nil) (pa_cons (pe_lst pa_nil) (pa_cons pe_str (pa_cons (pe_lst (pa_cons (pe_tup (pa_cons pe_str (pa_cons pe_int pa_nil))) pa_nil)) pa_nil)))))) pa_nil)) pk_nil))))
      (pss_cons (ps_if (PW.pt (pw_or (pt_cmpR (GD.op_eqI G_eq T.eqFn.1 T.eqFn.2.2.2 b_eq pass0 hr_eq) (pv 6) (pv 5) (nomark _)) (pw_or1 (pt_cmpR (GD.op_neI G_eq T.eqFn.1 T.eqFn.2.1 T.eqFn.2.2.1 T.eqFn.2.2.2 b_eq pass0 hr_eq1) (pe_callKO G_read_source hr_read_source (by rfl) H_read_source.gl H_read_source.kp k_read_source passNo (pk_cons (pe_callKO G_source_text hr_source_text (by rfl) H_source_text.gl H_source_text.kp k_source_text passNo (pk_cons (pv 6) pk_nil)) pk_nil)) (pv 6) (nomark _))))) (pss_one (ps_ret pe_bl)) pss_nil)
      (pss_cons (ps_for PassesOwn.never rfl (pi_list (pe_lst (pa_cons pe_non (pa_cons pe_int (pa_cons pe_str (pa_cons (pv 3) (pa_cons (pe_tup (pa_cons (pv 3) (pa_cons (pv 4) pa_nil))) (pa_cons pe_dnewK (pa_cons (pe_lst (pa_cons (pv 5) pa_nil)) (pa_cons (pe_call G_source_text hr_source_text (by rfl) H_source_text.gl H_source_text.kp b_source_text .nil passNo (pa_cons (pv 5) pa_nil)) (pa_cons pe_bl pa_nil))))))))))) (pg_name (i := 7) sc_L_right.nd rfl (Or.inl rfl))
      (pss_one (ps_if (pt_cmpR (op_neD hr.units) (pe_call G_L_said hr_L_said (by rfl) H_L_said.gl H_L_said.kp b_L_said .nil pass0 (pa_cons (pv 7) pa_nil)) (pe_tup (pa_cons pe_str (pa_cons pe_non pa_nil))) (nomark _)) (pss_one (ps_ret pe_bl)) pss_nil)))
      (pss_one (ps_ret (pe_cmpR op_eq (pe_call G_L_said hr_L_said (by rfl) H_L_said.gl H_L_said.kp b_L_said .nil pass0 (pa_cons (pv 5) pa_nil)) (pe_call G_source_text hr_source_text (by rfl) H_source_text.gl H_source_text.kp b_source_text .nil passNo (pa_cons (pv 5) pa_nil)) (nomark _))))))))))))), ?_⟩
    obtain ⟨wa, wb, wc, hp⟩ := hw
    refine ⟨_, rfl, sz_of (by show 1 ≤ 100000; decide), fun t1 ht1 => ?_⟩
    have st1 := Same.new (o := .tup [V.int 0]) ht1
    have qt1 : upd H t1 (.tup [V.int 0]) t1 = some (.tup [V.int 0]) := upd_same
    generalize upd H t1 (.tup [V.int 0]) = H1 at *
    refine ⟨_, rfl, sz_of (by show 1 ≤ 100000; decide), fun t2 ht2 => ?_⟩
    have st2 := Same.new (o := .lst [V.int 2]) ht2
    have qt2 : upd H1 t2 (.lst [V.int 2]) t2 = some (.lst [V.int 2]) := upd_same
    generalize upd H1 t2 (.lst [V.int 2]) = H2 at *
    refine ⟨sz_of (by show 4 ≤ 100000; decide), fun l1 hl1 => ?_⟩
    have sl1 := Same.new (o := .lst [V.non, V.ref t1, V.int (-1), V.ref t2]) hl1
    have ql1 : upd H2 l1 (.lst [V.non, V.ref t1, V.int (-1), V.ref t2]) l1 = some (.lst [V.non, V.ref t1, V.int (-1), V.ref t2]) := upd_same
    generalize upd H2 l1 (.lst [V.non, V.ref t1, V.int (-1), V.ref t2]) = H3 at *
    have hp1 := ((st1.trans st2).trans sl1) _ _ hp
    have nl1 : l1 ≠ p := fun z => by
      have y := (st1.trans st2) _ _ hp
      rw [← z, hl1] at y
      cases y
    have nt1 : t1 ≠ p := fun z => by
      have y := (Same.refl _) _ _ hp
      rw [← z, ht1] at y
      cases y
    have nt2 : t2 ≠ p := fun z => by
      have y := st1 _ _ hp
      rw [← z, ht2] at y
      cases y
    refine ⟨p, l1, _, rfl, ⟨wa, wb, wc, hp1⟩, nl1, ql1, by show 0 < 4; decide, by show 4 ≤ 1000; decide, fun v P1 mv bp1 w1 => ?_⟩
    have g1 := bp1 _ _ ((st2.trans sl1) _ _ qt1) nt1
    have g2 := bp1 _ _ (sl1 _ _ qt2) nt2
    have B1 : But p H P1 := (But.of ((st1.trans st2).trans sl1)).trans bp1
    obtain ⟨wa1, wb1, wc1, hw1⟩ := w1
    refine ⟨_, rfl, sz_of (by show 1 ≤ 100000; decide), fun t3 ht3 => ?_⟩
    have st3 := Same.new (o := .lst [V.int 0]) ht3
    have qt3 : upd P1 t3 (.lst [V.int 0]) t3 = some (.lst [V.int 0]) := upd_same
    generalize upd P1 t3 (.lst [V.int 0]) = H4 at *
    refine ⟨sz_of (by show 2 ≤ 100000; decide), fun t4 ht4 => ?_⟩
    have st4 := Same.new (o := .tup [V.int 1, V.int 2]) ht4
    have qt4 : upd H4 t4 (.tup [V.int 1, V.int 2]) t4 = some (.tup [V.int 1, V.int 2]) := upd_same
    generalize upd H4 t4 (.tup [V.int 1, V.int 2]) = H5 at *
    refine ⟨_, _, rfl, rfl, ⟨by decide, by decide, by decide⟩, ?_⟩
    refine ⟨sz_of (by show 6 ≤ 100000; decide), fun l2 hl2 => ?_⟩
    have sl2 := Same.new (o := .lst [V.non, V.int 5, V.str "x", V.ref t3, V.ref t4, ((fun i j : Int => V.int (i ^ j.toNat)) 10 40)]) hl2
    have ql2 : upd H5 l2 (.lst [V.non, V.int 5, V.str "x", V.ref t3, V.ref t4, ((fun i j : Int => V.int (i ^ j.toNat)) 10 40)]) l2 = some (.lst [V.non, V.int 5, V.str "x", V.ref t3, V.ref t4, ((fun i j : Int => V.int (i ^ j.toNat)) 10 40)]) := upd_same
    generalize upd H5 l2 (.lst [V.non, V.int 5, V.str "x", V.ref t3, V.ref t4, ((fun i j : Int => V.int (i ^ j.toNat)) 10 40)]) = H6 at *
    have hp2 := ((st3.trans st4).trans sl2) _ _ hw1
    have nt3 : t3 ≠ p := fun z => by
      have y := (Same.refl _) _ _ hw1
      rw [← z, ht3] at y
      cases y
    have nt4 : t4 ≠ p := fun z => by
      have y := st3 _ _ hw1
      rw [← z, ht4] at y
      cases y
    have nl2 : l2 ≠ p := fun z => by
      have y := (st3.trans st4) _ _ hw1
      rw [← z, hl2] at y
      cases y
    have ng1 : t1 ≠ p := nt1
    have ng2 : t2 ≠ p := nt2
    refine ⟨p, l2, _, rfl, ⟨wa1, wb1, wc1, hp2⟩, nl2, ql2, by show 0 < 6; decide, by show 6 ≤ 1000; decide, fun v2 P2 mv2 bp2 w2 => ?_⟩
    have g3 := bp2 _ _ ((st4.trans sl2) _ _ qt3) nt3
    have g4 := bp2 _ _ (sl2 _ _ qt4) nt4
    have g1 := bp2 _ _ (((st3.trans st4).trans sl2) _ _ g1) nt1
    have g2 := bp2 _ _ (((st3.trans st4).trans sl2) _ _ g2) nt2
    have B2 : But p H P2 := B1.trans ((But.of ((st3.trans st4).trans sl2)).trans bp2)
    obtain ⟨e, dy, ry⟩ : ∃ e, Dp K P2 v e ∧ RepOk v e := by
      simp only [List.mem_cons, List.not_mem_nil, or_false] at mv
      rcases mv with rfl | rfl | rfl | rfl
      · exact ⟨_, .non, rep_non⟩
      · exact ⟨_, .tup (SqT.of g1) (.cons (.int 0) .nil), rep_t1⟩
      · exact ⟨_, .int _, rep_m1⟩
      · exact ⟨_, .lst (SqL.of g2) (.cons (.int 2) .nil), rep_t2⟩
    obtain ⟨d, dx, rx⟩ : ∃ d, Dp K P2 v2 d ∧ RepOk v2 d := by
      rcases List.mem_cons.mp mv2 with rfl | mv2
      · exact ⟨_, .non, rep_non⟩
      rcases List.mem_cons.mp mv2 with rfl | mv2
      · exact ⟨_, .int _, rep_5⟩
      rcases List.mem_cons.mp mv2 with rfl | mv2
      · exact ⟨_, .str _, rep_x⟩
      rcases List.mem_cons.mp mv2 with rfl | mv2
      · exact ⟨_, .lst (SqL.of g3) (.cons (.int 0) .nil), rep_t3⟩
      rcases List.mem_cons.mp mv2 with rfl | mv2
      · exact ⟨_, .tup (SqT.of g4) (.cons (.int 1) (.cons (.int 2) .nil)), rep_t4⟩
      rw [List.mem_singleton.mp mv2]
      exact ⟨_, .int _, rep_big⟩
    clear mv mv2
    refine ⟨_, rfl, v2, v, d, e, rfl, dx, dy, rx, ry, fun C0 sC => ⟨_, rfl, iteF ?_⟩⟩
    have BC : But p H C0 := B2.trans (But.of sC)
    refine ⟨sz_of (by show 4 ≤ 100000; decide), fun r1 hr1 => ?_⟩
    have sr1 := Same.new (o := .tup [V.str "get", V.str "i", V.str "o", V.str "a"]) hr1
    have qr1 : upd C0 r1 (.tup [V.str "get", V.str "i", V.str "o", V.str "a"]) r1 = some (.tup [V.str "get", V.str "i", V.str "o", V.str "a"]) := upd_same
    generalize upd C0 r1 (.tup [V.str "get", V.str "i", V.str "o", V.str "a"]) = H7 at *
    refine ⟨sz_of (by show 4 ≤ 100000; decide), fun r2 hr2 => ?_⟩
    have sr2 := Same.new (o := .tup [V.str "put", V.str "o", V.str "a", V.str "i"]) hr2
    have qr2 : upd H7 r2 (.tup [V.str "put", V.str "o", V.str "a", V.str "i"]) r2 = some (.tup [V.str "put", V.str "o", V.str "a", V.str "i"]) := upd_same
    generalize upd H7 r2 (.tup [V.str "put", V.str "o", V.str "a", V.str "i"]) = H8 at *
    refine ⟨sz_of (by show 2 ≤ 100000; decide), fun ra hra => ?_⟩
    have sra := Same.new (o := .lst [V.str "i", V.str "o"]) hra
    have qra : upd H8 ra (.lst [V.str "i", V.str "o"]) ra = some (.lst [V.str "i", V.str "o"]) := upd_same
    generalize upd H8 ra (.lst [V.str "i", V.str "o"]) = H9 at *
    refine ⟨sz_of (by show 4 ≤ 100000; decide), fun r3 hr3 => ?_⟩
    have sr3 := Same.new (o := .tup [V.str "call", V.str "i", V.str "f", V.ref ra]) hr3
    have qr3 : upd H9 r3 (.tup [V.str "call", V.str "i", V.str "f", V.ref ra]) r3 = some (.tup [V.str "call", V.str "i", V.str "f", V.ref ra]) := upd_same
    generalize upd H9 r3 (.tup [V.str "call", V.str "i", V.str "f", V.ref ra]) = H10 at *
    refine ⟨sz_of (by show 2 ≤ 100000; decide), fun r4 hr4 => ?_⟩
    have sr4 := Same.new (o := .tup [V.str "return", V.str "i"]) hr4
    have qr4 : upd H10 r4 (.tup [V.str "return", V.str "i"]) r4 = some (.tup [V.str "return", V.str "i"]) := upd_same
    generalize upd H10 r4 (.tup [V.str "return", V.str "i"]) = H11 at *
    refine ⟨sz_of (by show 4 ≤ 100000; decide), fun rl hrl => ?_⟩
    have srl := Same.new (o := .lst [V.ref r1, V.ref r2, V.ref r3, V.ref r4]) hrl
    have qrl : upd H11 rl (.lst [V.ref r1, V.ref r2, V.ref r3, V.ref r4]) rl = some (.lst [V.ref r1, V.ref r2, V.ref r3, V.ref r4]) := upd_same
    generalize upd H11 rl (.lst [V.ref r1, V.ref r2, V.ref r3, V.ref r4]) = H12 at *
    refine ⟨sz_of (by show 2 ≤ 100000; decide), fun c1 hc1 => ?_⟩
    have sc1 := Same.new (o := .tup [V.str "a", V.str "number"]) hc1
    have qc1 : upd H12 c1 (.tup [V.str "a", V.str "number"]) c1 = some (.tup [V.str "a", V.str "number"]) := upd_same
    generalize upd H12 c1 (.tup [V.str "a", V.str "number"]) = H13 at *
    refine ⟨sz_of (by show 1 ≤ 100000; decide), fun c2 hc2 => ?_⟩
    have sc2 := Same.new (o := .lst [V.ref c1]) hc2
    have qc2 : upd H13 c2 (.lst [V.ref c1]) c2 = some (.lst [V.ref c1]) := upd_same
    generalize upd H13 c2 (.lst [V.ref c1]) = H14 at *
    refine ⟨sz_of (by show 2 ≤ 100000; decide), fun c3 hc3 => ?_⟩
    have sc3 := Same.new (o := .tup [V.str "cell", V.ref c2]) hc3
    have qc3 : upd H14 c3 (.tup [V.str "cell", V.ref c2]) c3 = some (.tup [V.str "cell", V.ref c2]) := upd_same
    generalize upd H14 c3 (.tup [V.str "cell", V.ref c2]) = H15 at *
    refine ⟨sz_of (by show 1 ≤ 100000; decide), fun ca hca => ?_⟩
    have sca := Same.new (o := .lst [V.ref c3]) hca
    have qca : upd H15 ca (.lst [V.ref c3]) ca = some (.lst [V.ref c3]) := upd_same
    generalize upd H15 ca (.lst [V.ref c3]) = H16 at *
    refine ⟨sz_of (by show 2 ≤ 100000; decide), fun n1 hn1 => ?_⟩
    have sn1 := Same.new (o := .tup [V.str "i", V.str "number"]) hn1
    have qn1 : upd H16 n1 (.tup [V.str "i", V.str "number"]) n1 = some (.tup [V.str "i", V.str "number"]) := upd_same
    generalize upd H16 n1 (.tup [V.str "i", V.str "number"]) = H17 at *
    refine ⟨sz_of (by show 2 ≤ 100000; decide), fun n2 hn2 => ?_⟩
    have sn2 := Same.new (o := .tup [V.str "o", V.str "object"]) hn2
    have qn2 : upd H17 n2 (.tup [V.str "o", V.str "object"]) n2 = some (.tup [V.str "o", V.str "object"]) := upd_same
    generalize upd H17 n2 (.tup [V.str "o", V.str "object"]) = H18 at *
    refine ⟨sz_of (by show 2 ≤ 100000; decide), fun nl hnl => ?_⟩
    have snl := Same.new (o := .lst [V.ref n1, V.ref n2]) hnl
    have qnl : upd H18 nl (.lst [V.ref n1, V.ref n2]) nl = some (.lst [V.ref n1, V.ref n2]) := upd_same
    generalize upd H18 nl (.lst [V.ref n1, V.ref n2]) = H19 at *
    refine ⟨sz_of (by show 0 ≤ 100000; decide), fun ol hol => ?_⟩
    have sol := Same.new (o := .lst ([] : List V)) hol
    have qol : upd H19 ol (.lst ([] : List V)) ol = some (.lst ([] : List V)) := upd_same
    generalize upd H19 ol (.lst ([] : List V)) = H20 at *
    refine ⟨_, rfl, sz_of (by show 5 ≤ 100000; decide), fun e1 he1 => ?_⟩
    have se1 := Same.new (o := .tup [V.str "f", V.ref nl, V.ref ol, V.str "number", V.ref rl]) he1
    have qe1 : upd H20 e1 (.tup [V.str "f", V.ref nl, V.ref ol, V.str "number", V.ref rl]) e1 = some (.tup [V.str "f", V.ref nl, V.ref ol, V.str "number", V.ref rl]) := upd_same
    generalize upd H20 e1 (.tup [V.str "f", V.ref nl, V.ref ol, V.str "number", V.ref rl]) = H21 at *
    refine ⟨sz_of (by show 1 ≤ 100000; decide), fun fa hfa => ?_⟩
    have sfa := Same.new (o := .lst [V.ref e1]) hfa
    have qfa : upd H21 fa (.lst [V.ref e1]) fa = some (.lst [V.ref e1]) := upd_same
    generalize upd H21 fa (.lst [V.ref e1]) = H22 at *
    refine ⟨_, _, rfl, ?_⟩
    have RA : RawSrc H22 ca fa clA [fdA] := by
      refine ⟨⟨[c3], ((((((sn1.trans sn2).trans snl).trans sol).trans se1).trans sfa) _ _ qca), rfl, fun i e c a b => ?_⟩, clsOkA, ⟨[e1], ((Same.refl _) _ _ qfa), rfl, fun i e f a b => ?_⟩, by decide +kernel, by decide, by decide, fun f m => by rw [List.mem_singleton.mp m]; exact okA⟩
      · match i, a, b with
        | 0, a, b =>
          rw [← Option.some.inj a, ← Option.some.inj b]
          exact ⟨c2, [c1], (((((((sca.trans sn1).trans sn2).trans snl).trans sol).trans se1).trans sfa) _ _ qc3), ((((((((sc3.trans sca).trans sn1).trans sn2).trans snl).trans sol).trans se1).trans sfa) _ _ qc2), rfl, fun j q z a b => by
            match j, a, b with
            | 0, a, b =>
              rw [← Option.some.inj a, ← Option.some.inj b]
              exact (((((((((sc2.trans sc3).trans sca).trans sn1).trans sn2).trans snl).trans sol).trans se1).trans sfa) _ _ qc1)⟩
      · match i, a, b with
        | 0, a, b =>
          rw [← Option.some.inj a, ← Option.some.inj b]
          refine ⟨nl, ol, rl, [n1, n2], [], [r1, r2, r3, r4], ⟨(sfa _ _ qe1), headA.nf, headA.kd, (((sol.trans se1).trans sfa) _ _ qnl), ⟨rfl, fun j q z a b => ?_⟩, ((se1.trans sfa) _ _ qol), ⟨rfl, fun j q z a b => by simp at a⟩, headA.nam, headA.nd, headA.l1, headA.l2, ((((((((((sc1.trans sc2).trans sc3).trans sca).trans sn1).trans sn2).trans snl).trans sol).trans se1).trans sfa) _ _ qrl), by show 1 ≤ 4; decide, by show 4 ≤ 40; decide⟩, ⟨rfl, fun j q z a b => ?_⟩⟩
          · match j, a, b with
            | 0, a, b =>
              rw [← Option.some.inj a, ← Option.some.inj b]
              exact (((((sn2.trans snl).trans sol).trans se1).trans sfa) _ _ qn1)
            | 1, a, b =>
              rw [← Option.some.inj a, ← Option.some.inj b]
              exact ((((snl.trans sol).trans se1).trans sfa) _ _ qn2)
            | n + 2, a, b => simp at a
          · match j, a, b with
            | 0, a, b =>
              rw [← Option.some.inj a, ← Option.some.inj b]
              exact ⟨ra, (((((((((((((((sr2.trans sra).trans sr3).trans sr4).trans srl).trans sc1).trans sc2).trans sc3).trans sca).trans sn1).trans sn2).trans snl).trans sol).trans se1).trans sfa) _ _ qr1), fun bs z => by cases z⟩
            | 1, a, b =>
              rw [← Option.some.inj a, ← Option.some.inj b]
              exact ⟨ra, ((((((((((((((sra.trans sr3).trans sr4).trans srl).trans sc1).trans sc2).trans sc3).trans sca).trans sn1).trans sn2).trans snl).trans sol).trans se1).trans sfa) _ _ qr2), fun bs z => by cases z⟩
            | 2, a, b =>
              rw [← Option.some.inj a, ← Option.some.inj b]
              exact ⟨ra, ((((((((((((sr4.trans srl).trans sc1).trans sc2).trans sc3).trans sca).trans sn1).trans sn2).trans snl).trans sol).trans se1).trans sfa) _ _ qr3), fun bs z => by
                rw [← show (["i", "o"] : List Str) = bs from Option.some.inj z]
                exact ⟨(((((((((((((sr3.trans sr4).trans srl).trans sc1).trans sc2).trans sc3).trans sca).trans sn1).trans sn2).trans snl).trans sol).trans se1).trans sfa) _ _ qra), by show 2 ≤ 1000; decide⟩⟩
            | 3, a, b =>
              rw [← Option.some.inj a, ← Option.some.inj b]
              exact ⟨ra, (((((((((((srl.trans sc1).trans sc2).trans sc3).trans sca).trans sn1).trans sn2).trans snl).trans sol).trans se1).trans sfa) _ _ qr4), fun bs z => by cases z⟩
            | n + 4, a, b => simp at a
    refine ⟨_, rfl, _, rfl, rfl, rfl, fun x1 dx1 nx1 mx1 yx1 => ?_⟩
    have ux1 : Same H22 (upd (upd H22 dx1 (.own x1)) x1 (.ins (He.ga K "Source") dx1 [])) := (Same.new mx1).trans (Same.new (by rw [upd_ne yx1.symm]; exact nx1))
    refine ⟨x1, dx1, ca, fa, clA, [fdA], rfl, upd_same, RA.keep (.of ux1), fun Mx1 bx1 X1 => ⟨rfl, ?_⟩⟩
    have sx1 : Same H22 Mx1 := fun b o q => bx1 _ _ (ux1 _ _ q) (ne_of_none q nx1)
    obtain ⟨i1, f1, o1, _⟩ := X1.ins
    refine ⟨_, rfl, _, rfl, _, rfl, fun x2 dx2 nx2 mx2 yx2 => ?_⟩
    have ux2 : Same Mx1 (upd (upd Mx1 dx2 (.own x2)) x2 (.ins (He.ga K "Source") dx2 [])) := (Same.new mx2).trans (Same.new (by rw [upd_ne yx2.symm]; exact nx2))
    refine ⟨x2, dx2, ca, fa, clA, [fdA], rfl, upd_same, (RA.keep (.of sx1)).keep (.of ux2), fun Mx2 bx2 X2 => ⟨rfl, ?_⟩⟩
    have sx2 : Same Mx1 Mx2 := fun b o q => bx2 _ _ (ux2 _ _ q) (ne_of_none q nx2)
    obtain ⟨i2, f2, o2, _⟩ := X2.ins
    refine ⟨x1, x2, _, _, _, _, rfl, rfl, (sx2 _ _ o1), ((Same.refl _) _ _ o2), x1, x2, clA, clA, [fdA], [fdA], rfl, (X1.mono sx2), (X2.mono (Same.refl _)), eqSA, eqSA, fun Hq1 sq1 => ⟨_, rfl, _, rfl, ifF (by rw [sameAA]; rfl) ?_⟩⟩
    refine ⟨_, rfl, rfl, rfl, _, rfl, .inr ⟨x1, clA, [fdA], rfl, (X1.mono (sx2.trans sq1)), txtA, fun Hat sat => ?_⟩⟩
    refine ⟨rfl, rfl, readA fun Har y1 sar Y1 => ?_⟩
    obtain ⟨iy1, fy1, oy1, _⟩ := Y1.ins
    refine ⟨_, rfl, y1, x1, _, _, _, _, rfl, rfl, ((Same.refl _) _ _ oy1), ((((sx2.trans sq1).trans sat).trans sar) _ _ o1), y1, x1, clA, clA, [fdA], [fdA], rfl, (Y1.mono (Same.refl _)), (X1.mono (((sx2.trans sq1).trans sat).trans sar)), eqSA, eqSA, fun Hq2 sq2 => ⟨_, rfl, _, rfl, ifF (by rw [sameAA]; rfl) ?_⟩⟩
    refine ⟨sz_of (by show 0 ≤ 100000; decide), fun cb hcb => ?_⟩
    have scb := Same.new (o := .lst ([] : List V)) hcb
    have qcb : upd Hq2 cb (.lst ([] : List V)) cb = some (.lst ([] : List V)) := upd_same
    generalize upd Hq2 cb (.lst ([] : List V)) = H23 at *
    refine ⟨sz_of (by show 0 ≤ 100000; decide), fun b1 hb1 => ?_⟩
    have sb1 := Same.new (o := .lst ([] : List V)) hb1
    have qb1 : upd H23 b1 (.lst ([] : List V)) b1 = some (.lst ([] : List V)) := upd_same
    generalize upd H23 b1 (.lst ([] : List V)) = H24 at *
    refine ⟨sz_of (by show 0 ≤ 100000; decide), fun b2 hb2 => ?_⟩
    have sb2 := Same.new (o := .lst ([] : List V)) hb2
    have qb2 : upd H24 b2 (.lst ([] : List V)) b2 = some (.lst ([] : List V)) := upd_same
    generalize upd H24 b2 (.lst ([] : List V)) = H25 at *
    refine ⟨sz_of (by show 2 ≤ 100000; decide), fun j1 hj1 => ?_⟩
    have sj1 := Same.new (o := .tup [V.str "jump", V.int 0]) hj1
    have qj1 : upd H25 j1 (.tup [V.str "jump", V.int 0]) j1 = some (.tup [V.str "jump", V.int 0]) := upd_same
    generalize upd H25 j1 (.tup [V.str "jump", V.int 0]) = H26 at *
    refine ⟨sz_of (by show 1 ≤ 100000; decide), fun j2 hj2 => ?_⟩
    have sj2 := Same.new (o := .lst [V.ref j1]) hj2
    have qj2 : upd H26 j2 (.lst [V.ref j1]) j2 = some (.lst [V.ref j1]) := upd_same
    generalize upd H26 j2 (.lst [V.ref j1]) = H27 at *
    refine ⟨sz_of (by show 5 ≤ 100000; decide), fun e2 he2 => ?_⟩
    have se2 := Same.new (o := .tup [V.str "f", V.ref b1, V.ref b2, V.str "object", V.ref j2]) he2
    have qe2 : upd H27 e2 (.tup [V.str "f", V.ref b1, V.ref b2, V.str "object", V.ref j2]) e2 = some (.tup [V.str "f", V.ref b1, V.ref b2, V.str "object", V.ref j2]) := upd_same
    generalize upd H27 e2 (.tup [V.str "f", V.ref b1, V.ref b2, V.str "object", V.ref j2]) = H28 at *
    refine ⟨sz_of (by show 1 ≤ 100000; decide), fun fb hfb => ?_⟩
    have sfb := Same.new (o := .lst [V.ref e2]) hfb
    have qfb : upd H28 fb (.lst [V.ref e2]) fb = some (.lst [V.ref e2]) := upd_same
    generalize upd H28 fb (.lst [V.ref e2]) = H29 at *
    have RB : RawSrc H29 cb fb [] [fdB] := by
      refine ⟨⟨[], ((((((sb1.trans sb2).trans sj1).trans sj2).trans se2).trans sfb) _ _ qcb), rfl, fun i e c a b => by simp at a⟩, clsOkB, ⟨[e2], ((Same.refl _) _ _ qfb), rfl, fun i e f a b => ?_⟩, by decide +kernel, by decide, by decide, fun f m => by rw [List.mem_singleton.mp m]; exact okB⟩
      match i, a, b with
      | 0, a, b =>
        rw [← Option.some.inj a, ← Option.some.inj b]
        refine ⟨b1, b2, j2, [], [], [j1], ⟨(sfb _ _ qe2), headB.nf, headB.kd, (((((sb2.trans sj1).trans sj2).trans se2).trans sfb) _ _ qb1), ⟨rfl, fun j q z a b => by simp at a⟩, ((((sj1.trans sj2).trans se2).trans sfb) _ _ qb2), ⟨rfl, fun j q z a b => by simp at a⟩, headB.nam, headB.nd, headB.l1, headB.l2, ((se2.trans sfb) _ _ qj2), by show 1 ≤ 1; decide, by show 1 ≤ 40; decide⟩, ⟨rfl, fun j q z a b => ?_⟩⟩
        match j, a, b with
        | 0, a, b =>
          rw [← Option.some.inj a, ← Option.some.inj b]
          exact ⟨j1, (((sj2.trans se2).trans sfb) _ _ qj1), fun bs z => by cases z⟩
    refine ⟨rfl, rfl, fun x3 dx3 nx3 mx3 yx3 => ?_⟩
    have ux3 : Same H29 (upd (upd H29 dx3 (.own x3)) x3 (.ins (He.ga K "Source") dx3 [])) := (Same.new mx3).trans (Same.new (by rw [upd_ne yx3.symm]; exact nx3))
    refine ⟨x3, dx3, cb, fb, [], [fdB], rfl, upd_same, RB.keep (.of ux3), fun Mx3 bx3 X3 => ⟨rfl, ?_⟩⟩
    have sx3 : Same H29 Mx3 := fun b o q => bx3 _ _ (ux3 _ _ q) (ne_of_none q nx3)
    obtain ⟨i3, f3, o3, _⟩ := X3.ins
    refine ⟨_, rfl, _, rfl, x3, x1, _, _, _, _, rfl, rfl, ((Same.refl _) _ _ o3), (((((((((((((sx2.trans sq1).trans sat).trans sar).trans sq2).trans scb).trans sb1).trans sb2).trans sj1).trans sj2).trans se2).trans sfb).trans sx3) _ _ o1), x3, x1, [], clA, [fdB], [fdA], rfl, (X3.mono (Same.refl _)), (X1.mono ((((((((((((sx2.trans sq1).trans sat).trans sar).trans sq2).trans scb).trans sb1).trans sb2).trans sj1).trans sj2).trans se2).trans sfb).trans sx3)), eqSB, eqSA, fun Hq3 sq3 => ⟨_, rfl, _, rfl, ifF (by rw [sameBA]; rfl) ?_⟩⟩
    refine ⟨_, rfl, rfl, rfl, _, rfl, .inr ⟨x3, [], [fdB], rfl, (X3.mono sq3), txtB, fun Hbt sbt => ?_⟩⟩
    refine ⟨rfl, rfl, readB fun Hbr y3 sbr Y3 => ?_⟩
    obtain ⟨iy3, fy3, oy3, _⟩ := Y3.ins
    refine ⟨_, rfl, y3, x3, _, _, _, _, rfl, rfl, ((Same.refl _) _ _ oy3), (((sq3.trans sbt).trans sbr) _ _ o3), y3, x3, [], [], [fdB], [fdB], rfl, (Y3.mono (Same.refl _)), (X3.mono ((sq3.trans sbt).trans sbr)), eqSB, eqSB, fun Hq4 sq4 => ⟨_, rfl, _, rfl, ifF (by rw [sameBB]; rfl) ?_⟩⟩
    refine ⟨_, rfl, _, rfl, _, rfl, sz_of (by show 2 ≤ 100000; decide), fun u1 hu1 => ?_⟩
    have su1 := Same.new (o := .tup [V.ref ca, V.ref fa]) hu1
    have qu1 : upd Hq4 u1 (.tup [V.ref ca, V.ref fa]) u1 = some (.tup [V.ref ca, V.ref fa]) := upd_same
    generalize upd Hq4 u1 (.tup [V.ref ca, V.ref fa]) = H30 at *
    refine fun ud hud => ?_
    have sud := Same.new (o := .dK []) hud
    have qud : upd H30 ud (.dK []) ud = some (.dK []) := upd_same
    generalize upd H30 ud (.dK []) = H31 at *
    refine ⟨_, rfl, sz_of (by show 1 ≤ 100000; decide), fun u2 hu2 => ?_⟩
    have su2 := Same.new (o := .lst [V.ref x1]) hu2
    have qu2 : upd H31 u2 (.lst [V.ref x1]) u2 = some (.lst [V.ref x1]) := upd_same
    generalize upd H31 u2 (.lst [V.ref x1]) = H32 at *
    refine ⟨_, rfl, _, rfl, .inr ⟨x1, clA, [fdA], rfl, (X1.mono (((((((((((((((((((sx2.trans sq1).trans sat).trans sar).trans sq2).trans scb).trans sb1).trans sb2).trans sj1).trans sj2).trans se2).trans sfb).trans sx3).trans sq3).trans sbt).trans sbr).trans sq4).trans su1).trans sud).trans su2)), txtA, fun Hst sst => ?_⟩⟩
    refine ⟨sz_of (by show 9 ≤ 100000; decide), fun L hL => ?_⟩
    have sL := Same.new (o := .lst [V.non, V.int 5, V.str "source", V.ref ca, V.ref u1, V.ref ud, V.ref u2, V.str (textS clA [fdA]), V.bl true]) hL
    have qL : upd Hst L (.lst [V.non, V.int 5, V.str "source", V.ref ca, V.ref u1, V.ref ud, V.ref u2, V.str (textS clA [fdA]), V.bl true]) L = some (.lst [V.non, V.int 5, V.str "source", V.ref ca, V.ref u1, V.ref ud, V.ref u2, V.str (textS clA [fdA]), V.bl true]) := upd_same
    generalize upd Hst L (.lst [V.non, V.int 5, V.str "source", V.ref ca, V.ref u1, V.ref ud, V.ref u2, V.str (textS clA [fdA]), V.bl true]) = H33 at *
    refine ⟨L, rfl, ⟨_, SqL.of qL⟩, ?_⟩
    have kind : ∀ y ∈ [V.non, V.int 5, V.str "source", V.ref ca, V.ref u1, V.ref ud, V.ref u2, V.str (textS clA [fdA]), V.bl true], ∃ c, (∀ H', Same H33 H' → TyX K H' y c) ∧ PySem.W.kitOne K c (.ref (He.ga K "Source")) = some false := fun y m => by
      have no : ∀ t, t ∈ (["NoneType", "int", "bool", "str", "list", "tuple", "dict"] : List String) → PySem.W.kitOne K (.type t) (.ref (He.ga K "Source")) = some false := fun t m => of_decide_eq_true (List.all_eq_true.mp T.nots t m)
      simp only [List.mem_cons, List.not_mem_nil, or_false] at m
      rcases m with rfl | rfl | rfl | rfl | rfl | rfl | rfl | rfl | rfl
      · exact ⟨_, fun _ _ => .base .non, no _ (by simp)⟩
      · exact ⟨_, fun _ _ => .base (.int 5), no _ (by simp)⟩
      · exact ⟨_, fun _ _ => .base (.str _), no _ (by simp)⟩
      · exact ⟨_, fun _ s => .base (.lst (s _ _ (((((((((((((((((((((((((((((sn1.trans sn2).trans snl).trans sol).trans se1).trans sfa).trans sx1).trans sx2).trans sq1).trans sat).trans sar).trans sq2).trans scb).trans sb1).trans sb2).trans sj1).trans sj2).trans se2).trans sfb).trans sx3).trans sq3).trans sbt).trans sbr).trans sq4).trans su1).trans sud).trans su2).trans sst).trans sL) _ _ qca))), no _ (by simp)⟩
      · exact ⟨_, fun _ s => .base (.tup (s _ _ ((((sud.trans su2).trans sst).trans sL) _ _ qu1))), no _ (by simp)⟩
      · exact ⟨_, fun _ s => .base (.dK (s _ _ (((su2.trans sst).trans sL) _ _ qud))), no _ (by simp)⟩
      · exact ⟨_, fun _ s => .base (.lst (s _ _ ((sst.trans sL) _ _ qu2))), no _ (by simp)⟩
      · exact ⟨_, fun _ _ => .base (.str _), no _ (by simp)⟩
      · exact ⟨_, fun _ _ => .base (.bl true), no _ (by simp)⟩
    have XL := (X1.mono (((((((((((((((((((((sx2.trans sq1).trans sat).trans sar).trans sq2).trans scb).trans sb1).trans sb2).trans sj1).trans sj2).trans se2).trans sfb).trans sx3).trans sq3).trans sbt).trans sbr).trans sq4).trans su1).trans sud).trans su2).trans sst).trans sL))
    have BL : But p H H33 := BC.trans (But.of ((((((((((((((((((((((((((((((((((((((sr1.trans sr2).trans sra).trans sr3).trans sr4).trans srl).trans sc1).trans sc2).trans sc3).trans sca).trans sn1).trans sn2).trans snl).trans sol).trans se1).trans sfa).trans sx1).trans sx2).trans sq1).trans sat).trans sar).trans sq2).trans scb).trans sb1).trans sb2).trans sj1).trans sj2).trans se2).trans sfb).trans sx3).trans sq3).trans sbt).trans sbr).trans sq4).trans su1).trans sud).trans su2).trans sst).trans sL))
    refine for_it (walk_list (K := K) (a := L) (xs := [V.non, V.int 5, V.str "source", V.ref ca, V.ref u1, V.ref ud, V.ref u2, V.str (textS clA [fdA]), V.bl true])) (fun i σ Hz => ∃ z1 z2 z3 z4 z6 z7 : Option V, σ = [some (.ref p), z1, z2, z3, z4, some (.ref x1), z6, z7] ∧ Same H33 Hz) ⟨_, _, _, _, _, _, rfl, Same.refl _⟩ (fun i σ Hz _ ⟨_, _, _, _, _, _, _, sz⟩ => SqL.of (sz _ _ qL)) ?_ ?_
    · rintro i y σ Hz Hz2 hi ⟨z1, z2, z3, z4, z6, z7, rfl, sz⟩ ⟨rfl, hy⟩
      obtain ⟨c, tx, kt⟩ := kind y (List.mem_of_getElem? hy)
      refine ⟨_, rfl, y, rfl, .inl ⟨c, tx _ sz, kt, fun Hq q sq hq => ⟨sz_of (by show 2 ≤ 100000; decide), fun q2 hq2 => ?_⟩⟩⟩
      have s2 := Same.new (o := .tup [.str "source", .non]) hq2
      refine ⟨.tuple [.str "source", .none], .tuple [.str "source", .none], .tup (SqT.of (s2 _ _ hq)) (.cons (.str _) (.cons .non .nil)), .tup (SqT.of upd_same) (.cons (.str _) (.cons .non .nil)), by decide +kernel, by decide +kernel, _, rfl, ifF (by decide +kernel) ?_⟩
      exact ⟨_, _, _, _, _, _, rfl, sz.trans (sq.trans s2)⟩
    · rintro σ Hz ⟨z1, z2, z3, z4, z6, z7, rfl, sz⟩
      refine ⟨_, rfl, _, rfl, .inr ⟨x1, clA, [fdA], rfl, XL.mono sz, txtA, fun Ha sa => ?_⟩⟩
      refine ⟨_, rfl, _, rfl, .inr ⟨x1, clA, [fdA], rfl, (XL.mono sz).mono sa, txtA, fun Hb sb => ?_⟩⟩
      refine ⟨rfl, qT (decide_eq_true rfl) (k Hb (BL.trans (But.of (sz.trans (sa.trans sb)))))⟩

end
end W7
set_option Elab.async false
set_option linter.all false
set_option maxRecDepth 100000
set_option maxHeartbeats 4000000
namespace W7
open PySem PySem.Spec PyProof.Rows L2 RZ CA
section
variable {P : Program} {w : World} {K : PySem.W.Frag} {mg : Str → Option Value} {base : Heap}

def spLaw (K : PySem.W.Frag) : Sp := fun vs H Q _ => ∃ (a : Addr) (ns : List Int), vs = [.ref a] ∧ SqL K H a (ns.map V.int) ∧ ns.length ≤ 63 ∧ ∀ H', Q (.bl true) H'
theorem sql_but {H H8 H9 : Hp} {a q : Addr} {xs : List V} (h : SqL K H a xs) (n : H q = none) (e : Same H H8) (b : But q H8 H9) : SqL K H9 a xs := by
  have ne : ∀ {o : HO}, H a = some o → a ≠ q := fun {o} r z => by rw [z, n] at r; cases r
  exact Or.imp (fun r => Or.imp (fun r => b _ _ (e _ _ r) (ne r)) (fun ⟨o, r⟩ => ⟨o, b _ _ (e _ _ r) (ne r)⟩) r) id h
theorem sc_law : FnScope ["_law_script", "_law_k"] ["_law_script"] (defScope s_law) := ⟨rfl, rfl, rfl, by decide +kernel, rfl, by decide +kernel, by decide +kernel⟩
theorem ok_law {fd : FuncData} (T : Ctx w K mg) (F : FunD K "law" "law" (defArgs s_law) (defBody s_law) (defScope s_law) [] [] (He.ga K "law") fd) (H_L_well : Has P w K mg base 1 "_law_well" ["_law_script", "_law_k"] (spWell K)) (H_L_right : HasG P w K mg base 11 "_law_right" ["_law_well_here"] (spRight K)) : GD.OkG P w K mg base 12 (He.ga K "law") fd ["_law_script"] (spLaw K) := by
  obtain ⟨fd_L_well, G_L_well, b_L_well⟩ := H_L_well.ex
  obtain ⟨fd_L_right, G_L_right, b_L_right⟩ := H_L_right.ex
  refine GD.okG F sc_law (fun vs H Q E h => ?_) (fun cdv A outer s H vs Q E gd hr h => ?_)
  · obtain ⟨a, ns, rfl, hS, hl, k⟩ := h; rfl
  · obtain ⟨a, ns, rfl, hS, hl, k⟩ := h
    have hr_L_well : Room 1 _ := hr.mono (by decide)
    have hr_L_right : Room 11 _ := hr.mono (by decide)
    have hu := hu_of hr
    refine ⟨_, PSs.nox (pss_cons (ps_for PassesOwn.never rfl (pi_range1 (by rfl) T.f_range (pa_cons (pe_callB (call_max2 rfl) (by rfl) T.f_max (by decide +kernel) (pa_cons pe_int (pa_cons (pe_callB (call_min2 rfl) (by rfl) T.f_min (by decide +kernel) (pa_cons pe_int (pa_cons (pe_callB call_len_seq (by rfl) T.f_len (by decide +kernel) (pa_cons (pv 0) pa_nil)) pa_nil))) pa_nil))) pa_nil)) (pg_name (i := 1) sc_law.nd rfl (Or.inl rfl))
      (pss_one (ps_if (pt_not (pt_val (GD.pe_callG G_L_right hr_L_right gd (by rfl) H_L_right.gl H_L_right.kp b_L_right pass0 (pa_cons (pe_call G_L_well hr_L_well (by rfl) H_L_well.gl H_L_well.kp b_L_well .nil pass0 (pa_cons (pv 0) (pa_cons (pv 1) pa_nil))) pa_nil)))) (pss_one (ps_ret pe_bl)) pss_nil)))
      (pss_one (ps_ret pe_bl))), ?_⟩
    refine ⟨_, rfl, _, _, rfl, .inl hS, _, _, rfl, _, _, rfl, ?_⟩
    have hz : (ns.map V.int).length ≤ 63 := by rw [List.length_map]; exact hl
    refine ⟨_, rfl, by split <;> split <;> omega, by split <;> split <;> omega, ?_⟩
    generalize (Int.toNat _) = N
    refine for_it (walk_range (lo := 0) (n := N)) (fun i σ Hz => ∃ v, σ = [some (.ref a), v] ∧ SqL K Hz a (ns.map V.int)) ⟨none, rfl, hS⟩ (fun _ _ _ _ _ => trivial) ?_ ?_
    · rintro i y σ Hz Hx hi ⟨v, rfl, hS3⟩ ⟨rfl, rfl⟩
      refine ⟨_, rfl, _, rfl, a, ns, i, (by show ([V.ref a, V.int (0 + (i : Int))] : List V) = _; rw [Int.zero_add]), hS3, by omega, fun q H8 s8 hq w8 => ⟨q, rfl, w8, fun H9 b9 => ⟨_, rfl, ifF rfl ⟨_, rfl, sql_but hS3 hq s8 b9⟩⟩⟩⟩
    · rintro σ Hz ⟨v, rfl, _⟩
      exact k _

end
end W7
set_option Elab.async false
set_option linter.all false
set_option maxRecDepth 100000
set_option maxHeartbeats 4000000
namespace W7
open PySem PySem.Spec PyProof.Rows L2 RZ
theorem law_has {P : Program} {w : World} {K : PySem.W.Frag} {mg : Str → Option Value} {base : Heap} {fd : FuncData} (T : Ctx w K mg) (F : FunD K "law" "law" (defArgs s_law) (defBody s_law) (defScope s_law) [] [] (He.ga K "law") fd) : GD.OkG P w K mg base 12 (He.ga K "law") fd ["_law_script"] (spLaw K) := by
  have h_is_integer := ok_is_integer (P := P) (base := base) T
  have h_is_integer_in := ok_is_integer_in (P := P) (base := base) T (H_is_integer := h_is_integer)
  have h_is_written_number := ok_is_written_number (P := P) (base := base) T (H_is_integer_in := h_is_integer_in)
  have h_is_name := ok_is_name (P := P) (base := base) T
  have h_is_kind := ok_is_kind (P := P) (base := base) T
  have h_is_tuple_of := ok_is_tuple_of (P := P) (base := base) T
  have h_is_list_of := ok_is_list_of (P := P) (base := base) T
  have h_is_word_tuple := ok_is_word_tuple (P := P) (base := base) T
  have h_frozen0 := ok_frozen0 (P := P) (base := base) T
  have h_frozen1 := ok_frozen1 (P := P) (base := base) T (H_frozen := h_frozen0)
  have h_frozen2 := ok_frozen2 (P := P) (base := base) T (H_frozen := h_frozen1)
  have h_are_named_kinds := ok_are_named_kinds (P := P) (base := base) T (H_is_list_of := h_is_list_of) (H_is_tuple_of := h_is_tuple_of) (H_is_name := h_is_name) (H_is_kind := h_is_kind)
  have h_B_is_name := okB_is_name (P := P) (base := base) T
  have h_B_is_kind := okB_is_kind (P := P) (base := base) T
  have h_B_is_list_of_names := okB_is_list_of_names (P := P) (base := base) T (H_is_name := h_B_is_name)
  have h_Source_fields_of := ok_Source_fields_of (P := P) (base := base) T
  have h_Source_field_kind := ok_Source_field_kind (P := P) (base := base) T
  have h_Source_function_at := ok_Source_function_at (P := P) (base := base) T
  have h_is_list_of_names := ok_is_list_of_names (P := P) (base := base) T (H_is_name := h_is_name)
  have h_fills := ok_fills (P := P) (base := base) T (H_is_name := h_is_name) (H_is_written_number := h_is_written_number) (H_is_integer := h_is_integer) (H_Source_fields_of := h_Source_fields_of) (H_Source_field_kind := h_Source_field_kind) (H_Source_function_at := h_Source_function_at) (H_is_list_of_names := h_is_list_of_names)
  have h_is_row := ok_is_row (P := P) (base := base) T (H_is_word_tuple := h_is_word_tuple) (H_fills := h_fills)
  have h_row_sets := ok_row_sets (P := P) (base := base) T
  have h_row_reads := ok_row_reads (P := P) (base := base) T
  have h_names_in := ok_names_in (P := P) (base := base) T (H_row_reads := h_row_reads) (H_row_sets := h_row_sets)
  have h_call_fits := ok_call_fits (P := P) (base := base) T
  have h_row_kinds_fit := ok_row_kinds_fit (P := P) (base := base) T (H_names_in := h_names_in) (H_call_fits := h_call_fits) (H_Source_field_kind := h_Source_field_kind) (H_Source_function_at := h_Source_function_at)
  have h_frozenM := ok_frozenM (P := P) (base := base) T (H_frozen := h_frozen0)
  have h_frozenR := ok_frozenR (P := P) (base := base) T (H_frozen := h_frozenM)
  have h_frozenW := ok_frozenW (P := P) (base := base) T (H_frozen := h_frozenR)
  have h_row_readsK := ok_row_readsK (P := P) (base := base) T
  have h_Source_is_row_of := ok_Source_is_row_of (P := P) (base := base) T (H_is_row := h_is_row) (H_row_sets := h_row_sets) (H_row_reads := h_row_reads) (H_row_kinds_fit := h_row_kinds_fit)
  have h_Source_take_rows := ok_Source_take_rows (P := P) (base := base) T (H_Source_is_row_of := h_Source_is_row_of) (H_frozen := h_frozenW)
  have h_text_init := ok_text_init (P := P) (base := base) T
  have h_src_err := ok_src_err (P := P) (base := base) T
  have h_words_of := ok_words_of (P := P) (base := base) T
  have h_text_lines := ok_text_lines (P := P) (base := base) T (H_errT := h_text_init) (H_words_of := h_words_of)
  have h_is_kindG := ok_is_kindG (P := P) (base := base) T
  have h_are_named_kindsG := ok_are_named_kindsG (P := P) (base := base) T (H_is_list_of := h_is_list_of) (H_is_tuple_of := h_is_tuple_of) (H_is_name := h_is_name) (H_is_kind := h_is_kindG)
  have h_is_head := ok_is_head (P := P) (base := base) T (H_is_tuple_of := h_is_tuple_of) (H_is_name := h_is_name) (H_is_kind := h_is_kindG) (H_are_named_kinds := h_are_named_kindsG) (H_is_list_of := h_is_list_of)
  have h_is_class := ok_is_class (P := P) (base := base) T (H_is_tuple_of := h_is_tuple_of) (H_is_name := h_is_name) (H_are_named_kinds := h_are_named_kindsG)
  have h_read_integer := ok_read_integer (P := P) (base := base) T
  have h_read_part := ok_read_part (P := P) (base := base) T (H_read_integer := h_read_integer) (H_is_name := h_B_is_name)
  have h_read_pairs := ok_read_pairs (P := P) (base := base) T (H_is_name := h_B_is_name) (H_is_kind := h_B_is_kind)
  have h_read_row := ok_read_row (P := P) (base := base) T (H_read_part := h_read_part) (H_is_list_of_names := h_B_is_list_of_names)
  have h_takes_class := ok_takes_class (P := P) (base := base) T (H_read_pairs := h_read_pairs)
  have h_takes_function := ok_takes_function (P := P) (base := base) T (H_read_pairs := h_read_pairs) (H_is_kind := h_B_is_kind)
  have h_takes_line := ok_takes_line (P := P) (base := base) T (H_read_row := h_read_row) (H_is_name := h_B_is_name) (H_takes_class := h_takes_class) (H_takes_function := h_takes_function)
  have h_Source_kinds_differ := ok_Source_kinds_differ (P := P) (base := base) T
  have h_Source_take_classes := ok_Source_take_classes (P := P) (base := base) T (H_is_list_of := h_is_list_of) (H_is_class := h_is_class) (H_Source_kinds_differ := h_Source_kinds_differ) (H_frozen := h_frozen2)
  have h_Function_init := ok_Function_init (P := P) (base := base) T (H_frozen := h_frozen2)
  have h_Source_take_heads := ok_Source_take_heads (P := P) (base := base) T (H_is_list_of := h_is_list_of) (H_is_head := h_is_head) (H_Function_init := h_Function_init)
  have h_Source_init := ok_Source_init (P := P) (base := base) T (H_Source_take_classes := h_Source_take_classes) (H_Source_take_heads := h_Source_take_heads) (H_Source_take_rows := h_Source_take_rows)
  have h_B_is_list_of := okB_is_list_of (P := P) (base := base) T
  have h_B_is_head := okB_is_head (P := P) (base := base) T (H_is_tuple_of := h_is_tuple_of) (H_is_name := h_is_name) (H_is_kind := h_is_kindG) (H_are_named_kinds := h_are_named_kindsG) (H_is_list_of := h_B_is_list_of)
  have h_E_Source_take_heads := okE_Source_take_heads (P := P) (base := base) T (H_errS := h_src_err) (H_is_list_of := h_B_is_list_of) (H_is_head := h_B_is_head) (H_Function_init := h_Function_init)
  have h_B_Source_init := okB_Source_init (P := P) (base := base) T h_Source_take_classes h_Source_take_heads h_Source_take_rows h_E_Source_take_heads
  have h_read_source := ok_read_source (P := P) (base := base) T (H_errT := h_text_init) (H_text_lines := h_text_lines) (H_takes_line := h_takes_line) (H_Source_init := h_B_Source_init)
  have h_told_row := ok_told_row (P := P) (base := base) T
  have h_told_function := ok_told_function (P := P) (base := base) T (H_told_row := h_told_row)
  have h_Source_classes := ok_Source_classes (P := P) (base := base) T
  have h_Source_functions := ok_Source_functions (P := P) (base := base) T (H_told_function := h_told_function)
  have h_Source_eq := ok_Source_eq (P := P) (base := base) T (H_Source_classes := h_Source_classes) (H_Source_functions := h_Source_functions)
  have h_line_of := ok_line_of (P := P) (base := base) T
  have h_row_line := ok_row_line (P := P) (base := base) T (H_line_of := h_line_of)
  have h_pair_words := ok_pair_words (P := P) (base := base) T
  have h_row_words := ok_row_words (P := P) (base := base) T
  have h_source_text := ok_source_text (P := P) (base := base) T (H_errS := h_src_err) (H_Source_classes := h_Source_classes) (H_Source_functions := h_Source_functions) (H_line_of := h_line_of) (H_pair_words := h_pair_words) (H_row_line := h_row_line) (H_row_words := h_row_words)
  have h_L_marks := ok_L_marks (P := P) (base := base) T
  have h_K_InvalidSource := okK_InvalidSource (P := P) (base := base) T
  have h_K_InvalidCode := okK_InvalidCode (P := P) (base := base) T
  have h_K_InvalidText := okK_InvalidText (P := P) (base := base) T
  have h_K_InvalidState := okK_InvalidState (P := P) (base := base) T
  have h_K_InvalidArgument := okK_InvalidArgument (P := P) (base := base) T
  have h_K_InvalidNumber := okK_InvalidNumber (P := P) (base := base) T
  have h_K_LimitExceeded := okK_LimitExceeded (P := P) (base := base) T
  have h_L_errors_right := ok_L_errors_right (P := P) (base := base) T (H_InvalidSource := h_K_InvalidSource) (H_InvalidCode := h_K_InvalidCode) (H_InvalidText := h_K_InvalidText) (H_InvalidState := h_K_InvalidState) (H_InvalidArgument := h_K_InvalidArgument) (H_InvalidNumber := h_K_InvalidNumber) (H_LimitExceeded := h_K_LimitExceeded) (H_L_marks := h_L_marks)
  have h_L_mix := ok_L_mix (P := P) (base := base) T
  have h_L_well := ok_L_well (P := P) (base := base) T
  have h_L_draw := ok_L_draw (P := P) (base := base) T (H_L_mix := h_L_mix)
  have h_L_pick := ok_L_pick (P := P) (base := base) T (H_L_draw := h_L_draw)
  have h_L_said := ok_L_said (P := P) (base := base) T (H_source_text := h_source_text)
  have h_Src := ok_src (P := P) (base := base) T h_Source_take_classes h_Source_take_heads h_Source_take_rows
  have h_K_read_source := okK_read_source (P := P) (base := base) T (H_errT := h_text_init) (H_text_lines := h_text_lines) (H_takes_line := h_takes_line) (H_Source_init := h_B_Source_init)
  have h_K_source_text := okK_source_text (P := P) (base := base) T (H_errS := h_src_err) (H_Source_classes := h_Source_classes) (H_Source_functions := h_Source_functions) (H_line_of := h_line_of) (H_pair_words := h_pair_words) (H_row_line := h_row_line) (H_row_words := h_row_words)
  have h_L_right := ok_L_right (P := P) (base := base) T (H_Src := h_Src) (H_L_pick := h_L_pick) (H_L_errors_right := h_L_errors_right) (H_read_source := h_K_read_source) (H_source_text := h_K_source_text) (H_L_said := h_L_said) (H_eq := h_Source_eq)
  have h_law := ok_law (P := P) (base := base) (fd := fd) T F (H_L_well := h_L_well) (H_L_right := h_L_right)
  exact h_law
theorem facts {P : Program} {w : World} {K : PySem.W.Frag} {h : Heap} {mg : Str → Option Value} {f : Addr} (X : K.In h) (G : h.Ns mainGlobals mg) (hfa : mg ("law" : Str) = some (.ref f)) (c : He.SaysX fa fn ts [] ex w h K) :
    ∃ fd : FuncData, (∀ (s : Shared) (v : Value), BindsTo s fd ⟨[v], []⟩ [("_law_script", v)]) ∧ ∀ base : Heap, K.In base → base.Ns mainGlobals mg → GD.OkG P w K mg base 12 f fd ["_law_script"] (spLaw K) := by
  have T : Ctx w K mg := ⟨⟨h, X, G⟩, c.t, c.more⟩
  obtain ⟨fd, F⟩ := T.D_law
  have e := hfa.symm.trans T.g_law
  cases e
  have b := FunD.bindsA (ps := ["_law_script"]) F fun _ _ _ _ _ _ us hl => match us, hl with | [_], _ => rfl
  exact ⟨fd, fun s v => b s [v] rfl, fun base _ _ => law_has T F⟩
end W7
set_option Elab.async false
set_option linter.all false
set_option maxRecDepth 100000
set_option maxHeartbeats 0
open PySem PySem.W PySem.Calls PyProof.Rows
theorem PySem.Challenge.cw_backframes_k07_names_of_sources_holds : PySem.Challenge.rw_backframes_k07_names_of_sources.Holds := by
  w_on; o_law
  refine HandSHeadRun.head_any (r := OpenLaw.row PySem.Challenge.rw_backframes_k07_names_of_sources) (q := view (OpenLaw.row PySem.Challenge.rw_backframes_k07_names_of_sources).prog [82]) (H := W7.hk) (ob := W7.ob) (M := 8000) (loose := W7.nms) (d := HandSHeadRun.topDef (OpenLaw.row PySem.Challenge.rw_backframes_k07_names_of_sources).prog 82) (kwd := []) W7.ob_eq
    (by kernel_rfl) (fun s => by kernel_rfl) W7.run (by kernel_rfl) (by kernel_rfl) (by kernel_rfl) (by rfl) (by first | assumption | decide +kernel) (by decide +kernel) ⟨rfl, rfl, rfl, rfl, rfl, by decide +kernel⟩ ?hw ?hc
  case hw => w_witness2
  case hc =>
    refine GD.walkG (l := PySem.Challenge.rw_backframes_k07_names_of_sources) (n := 63) (k := 12) (x := "_law_script") rfl (by decide) (by kernel_rfl) ⟨rfl, by decide, by decide⟩ ?F
    intro w mg fa h Y G hmg0
    obtain ⟨K, KX, c⟩ := Y
    have hmg : mg ("law" : PySem.Str) = some (.ref fa) := by
      have e : (HandSHeadRun.topDef (OpenLaw.row PySem.Challenge.rw_backframes_k07_names_of_sources).prog 82).name = ("law" : PySem.Str) := by kernel_rfl
      rw [← e]
      exact hmg0
    obtain ⟨fd, hb, hF⟩ := W7.facts (P := (PySem.Challenge.rw_backframes_k07_names_of_sources).prog) (w := w) KX G hmg c
    exact ⟨K, fd, W7.spLaw K, KX, hb, fun H a ns hl _ hS => ⟨a, ns, rfl, hS, hl, fun _ => rfl⟩, hF⟩
