import PyProof.Rows.All
import Wide.All
import OpenK.AllK
import Wide.FinOn
import HandS.ExcInit
import HandS.ExcField
import KE.KExcInit
import HandS.TryMany
import KE.KStateDown
import HandS.ForMost
import HandS.More
import HandS.Words
import HandS.Defaults
import HandS.IsInst
import HandS.Head0
import HandS.Head1
import HandS.Head2
import HandS.HeadEnd
import HandS.HeadHook1
import HandS.HeadHook2
import HandS.HeadHook3
import HandS.HeadHook4
import HandS.Zip
import HandS.Conv
import HandS.Evl
import HandS.Wide
import HandS.WrittenGet
import HandS.Walk
import KE.KDictPairs
import HandS.Star
import HandS.List
import HandS.Sort
import KE.SortData
import KE.DataMinMax
import HandS.Iter
import PyProof.EnumMake
import PyProof.Draws
import KE.GoesMore
import HandS.MakeKwOnly
import HandS.TupAny
import KE.LtData
import HandS.NoneIn
import PySem.Challenge.RW_backframes_k16_wanted_at_calls
set_option Elab.async false
set_option linter.all false
set_option maxRecDepth 100000
set_option maxHeartbeats 4000000
namespace AE
open PySem PySem.Spec PyProof.Rows PySem.W PySem.Calls PySem.HandSPX
open Builtin Builtin.ObjectAttr
/-- the built-in classes below an error of the program -/
def low : List Value := [.type "ArithmeticError", .type "Exception", .type "BaseException", .type "object"]
/-- what is asked of an error's class whose __init__ is its own -/
structure AeC (K : Frag) (C : Addr) : Prop where
  cls : excInitIn K C low "ArithmeticError.__new__" = true
  ov : excOver K C low = true
  sa : findIn K (.ref C) "__setattr__" = some (some (.builtin "object.__setattr__"))
  exC : subIn K (.ref C) (.type "BaseException") = some true
  tyC : typeIn K (.ref C) = some (.type "type")
  kC : keepIn K (.ref C) = true
  hd : hasDictIn K C = true
def aeB (K : Frag) (C : Addr) : Bool := excInitIn K C low "ArithmeticError.__new__" && (excOver K C low && (decide (findIn K (.ref C) "__setattr__" = some (some (.builtin "object.__setattr__"))) && (decide (subIn K (.ref C) (.type "BaseException") = some true) && (decide (typeIn K (.ref C) = some (.type "type")) && (keepIn K (.ref C) && hasDictIn K C)))))
theorem aeB_ok {K : Frag} {C : Addr} (h : aeB K C = true) : AeC K C := by
  unfold aeB at h
  simp only [Bool.and_eq_true, decide_eq_true_eq] at h
  exact ⟨h.1, h.2.1, h.2.2.1, h.2.2.2.1, h.2.2.2.2.1, h.2.2.2.2.2.1, h.2.2.2.2.2.2⟩
section
variable {prog : Program} {w : World} {A : Around} {E : Value → Shared → Prop} {R : Result → Shared → Prop} {hp : Heap} {g : Array GenState} {d : Drawn} {t : Nat} {os : OsState}
/-- the first field of such an error: its dict is made -/
theorem ae_osa {K : Frag} {name : Str} {tk : Tok} {v : Value} {x C : Addr} {fv : Array Value} (T : AeC K C) (X : K.In hp)
    (hx : hp.get? x = some { cls := .ref C, data := .fields fv }) (ha : findIn K (.ref C) name = some none)
    (k : ∀ (G : Heap) (tk' : Nat) (y : Addr), (∀ b o, b ≠ x → hp.get? b = some o → G.get? b = some o) → hp.objs.size ≤ y → y ≠ x →
      G.get? x = some { cls := .ref C, dict := some y, data := .fields fv } → G.Ns1 y (fun z => if z = name then some v else none) → R (.ok (.ret .none)) ⟨G, g, d, tk', os⟩) :
    codeAny (model prog w) A (.call (.builtin "object.__setattr__") ⟨[.ref x, .str name tk, v], []⟩) R ⟨hp, g, d, t, os⟩ := by
  have I : InstAt hp x { cls := .ref C, data := .fields fv } C none := ⟨hx, rfl, rfl, trivial⟩
  obtain ⟨cd, hcd, hh⟩ := any_some T.hd
  have Lc : Looks (model prog w) hp (classData C) cd := looks_clsIn X hcd
  have nx : x ≠ hp.objs.size := Nat.ne_of_lt (Heap.lt_size hx)
  refine osa_openX F.store_ArithmeticError X I T.ov (r := none) (by unfold takerIn; rw [ha]; rfl) fun b => ?_
  show wpAny _ _ (storeInOwnDict (.ref x) (.ref C) (.str name tk) name v b) _ _ _
  obtain ⟨nm, bs, mro, ns, qn, hd, sn, sb, ab, col, del⟩ := cd
  have hh : hd = true := hh
  subst hh
  unfold storeInOwnDict ownDictForStores
  repeat first
    | with_reducible refine store_in_new ?_ ?_
    | with_reducible refine wpAny_loadPart_at hx ?_
    | with_reducible refine Lc.at ?_
    | wp_step
  · have made : ∀ o : Obj → Obj, ((hp.push { cls := .type "dict", data := .dict #[] }).update x o).get? hp.objs.size = some { cls := .type "dict", data := .dict #[] } := fun o => by
      rw [Heap.get?_update_ne _ _ _ _ nx.symm]
      exact Heap.get?_push_at rfl rfl
    exact ⟨_, #[], _, made _, rfl, fun e m => by simp at m, fun _ => rfl⟩
  · intro G t2 hG hs
    have hx2 : (hp.push { cls := .type "dict", data := .dict #[] }).get? x = some { cls := .ref C, data := .fields fv } := Heap.get?_push_of_some _ hx
    have keep : ∀ b o, b ≠ x → hp.get? b = some o → G.get? b = some o := fun b o nb q =>
      (hs.2 b (Nat.ne_of_lt (Heap.lt_size q))).trans ((Heap.get?_update_ne _ _ _ _ nb).trans (Heap.get?_push_of_some _ q))
    exact k G t2 hp.objs.size keep (Nat.le_refl _) nx.symm ((hs.2 x nx).trans (Heap.get?_update_self _ hx2 rfl)) hG
end
end AE
set_option Elab.async false
set_option linter.all false
set_option maxRecDepth 100000
set_option maxHeartbeats 4000000
namespace AE
open PySem PySem.Spec PyProof.Rows L2
section
variable {X : Cx} {pins : List (Addr × Obj)} {σ : L2.St} {H : Hp} {s : Shared} {a C dx : Addr} {f : Str} {y : V} {u : Value} {Q : Unit → Shared → Prop} {E : Value → Shared → Prop} {A : Around}
/-- two places of a heap with unlike things are two -/
theorem apart {b c : Addr} {o v : HO} (h1 : H b = some o) (h2 : H c = some v) (n : o ≠ v) : c ≠ b := at_ne h1 h2 n
theorem ae_new (T : AeC X.K C) (I : Inv X pins σ H s) (e : H a = some (exo a C none)) (hno : PySem.W.findIn X.K (.ref C) f = some none) (ry : RelV y u)
    (k : ∀ dx s', H dx = none → dx ≠ a → Inv X pins σ (upd (upd H dx (exd dx [(f, y)])) a (exo a C (some dx))) s' → Q () s') : wpAny (model X.prog X.w) A (setAttr (.ref a) f u) Q E s := by
  obtain ⟨t1, ho⟩ := exo_at I.hok e
  obtain ⟨hp, g, d, t, os⟩ := s
  refine PySem.W.set_plain I.kIn (od := none) ⟨ho, rfl, rfl, trivial⟩ T.sa (ae_osa T I.kIn ho hno fun G t2 dx keep new ne hx hns => ?_)
  have hd : H dx = none := I.hok.fresh new
  have nd : ∀ {b o}, hp.get? b = some o → b ≠ dx := fun q => Nat.ne_of_lt (Nat.lt_of_lt_of_le (Heap.lt_size q) new)
  have na : ∀ {b}, H b = none → b ≠ a := fun n z => by
    rw [z, e] at n
    cases n
  have same : ∀ {b o}, b ≠ a → b ≠ dx → (upd (upd H dx (exd dx [(f, y)])) a (exo a C (some dx))) b = o → H b = o := fun n1 n2 q => by
    rw [upd_ne n1, upd_ne n2] at q
    exact q
  have put : ∀ {b o}, b ≠ a → H b = some o → (upd (upd H dx (exd dx [(f, y)])) a (exo a C (some dx))) b = some o := fun {b o} n q => by
    rw [upd_ne n, upd_ne (ne_of_none q hd)]
    exact q
  have U : Un X.fs [] H (upd (upd H dx (exd dx [(f, y)])) a (exo a C (some dx))) hp G := by
    refine ⟨?_, ?_, ?_, ?_, ?_, ?_, ?_⟩
    · intro b o q n _ _
      exact keep b o (na n) q
    · intro b o q n _ _
      exact ⟨o.slots, keep b o (na n) q⟩
    · intro b o q n _
      rw [upd_ne (na n), upd_ne (nd q)]
      exact n
    · intro b o q _
      by_cases z : b = a
      · exact ⟨_, by rw [z]; exact hx⟩
      · exact ⟨o, keep b o z q⟩
    · intro b xs q
      exact put (apart e q exo_tup) q
    · intro b o v q
      exact put (apart e q exo_frz) q
    · intro b ps q
      exact ⟨#[], by rw [put (apart e q exo_tbl) q]; simp⟩
  refine k dx _ hd ne (I.un (t' := t2) U fun b o q => ?_)
  by_cases z : b = a
  · subst z
    rw [upd_same] at q
    cases q
    exact exo_ok hx
  · by_cases w : b = dx
    · subst w
      rw [upd_ne z, upd_same] at q
      cases q
      exact exd_ok hns (relO_put (fs := []) ry fun _ => True.intro)
    · refine (I.hok b o (same z w q)).stay (fun c v hc m => keep c v ?_ m) (fun c hc => put (apart e hc exo_own) hc) (fun c xs hc => put (apart e hc exo_tup) hc)
      rcases hc with rfl | hc
      · exact z
      · exact apart e hc exo_own
end
/-- self.f = e, the first field of an error that is made -/
def tAst (K : PySem.W.Frag) (f : Str) (to te : TE) : TS := fun D σ H => te σ H fun y H1 => to σ H1 fun x H2 => ∃ a C : Addr, x = .ref a ∧ AeC K C ∧ PySem.W.findIn K (.ref C) f = some none ∧ H2 a = some (exo a C none) ∧
  ∀ dx, H2 dx = none → dx ≠ a → D.nx σ (upd (upd H2 dx (exd dx [(f, y)])) a (exo a C (some dx)))
theorem ps_ast {X : Cx} {o e : Expr} {to te : TE} {f : Str} {p pos : Pos} (ho : PE X o to) (he : PE X e te) (hs : swapsWith e (some (.Attribute o f p)) pos.line X.env = pure false := by rfl) : PS X (.Assign [.Attribute o f p] e pos) (tAst X.K f to te) := by
  refine ⟨fun pins s σ H D I h => plainObj_wpAny_Assign_Attribute (thn (he.run pins s σ H _ I h) fun v s1 ⟨y, H1, I1, r1, q1⟩ => thn (ho.run pins s1 σ H1 _ I1 q1) fun u s2 q2 => ?_) hs⟩
  obtain ⟨x, H2, I2, r2, a, C, rfl, T, hno, ea, q⟩ := q2
  obtain rfl : u = Value.ref a := r2
  exact ae_new T I2 ea hno r1 fun dx s' n ne J => ⟨σ, _, J, q dx n ne⟩
end AE
set_option Elab.async false
set_option linter.all false
set_option maxRecDepth 100000
set_option maxHeartbeats 4000000
namespace AE
open PySem PySem.Spec PyProof.Rows L2
/-- an error of such a class is made by its own __init__ -/
theorem pmk_ae {X : Cx} {CX : CXT} {e : Expr} {es : List Expr} {ta : TA} {p pos : Pos} {x : Str} {C fI : Addr} {k : Nat} {fd : FuncData} {ps : List Str} {sp : Sp} (T : AeC X.K C)
    (iC : PySem.W.findIn X.K (.ref C) "__init__" = some (some (.ref fI))) (tI : PySem.W.typeIn X.K (.ref fI) = some (.type "function")) (F1 : FnOk X.prog X.w X.K X.mg X.base CX k fI fd ps sp)
    (hr : Room (k + 1) X.A) (hb : Binds X.K fd ps []) (hx : Passes CX X (fun _ _ _ => False)) (hg : Gl X x) (hm : X.mg x = some (.ref C)) (ha : PA X (e :: es) ta)
    (hdb : (x == ("__debug__" : Str)) = false := by decide) (he : starEach (e :: es) X.env = (false, eval e X.env) :: starEach es X.env := by rfl) (hpl : (backTo pos (starEach es X.env)).any (·.1) = false := by rfl) :
    PMk X (.Call (.Name x p) (e :: es) [] pos) (tMkO C sp [] ta) := by
  intro pins s σ H Q I h
  refine wpAny_Call_Name_kw (ld_glob I hg hm ?_ hdb)
  refine PySem.W.callWith_K (h₀ := X.base) I.ok.mod.kin T.kC (thn (ha.run pos pins s σ H _ I h) fun us s1 q1 => ?_) he hpl
  obtain ⟨vs, H1, I1, r1, hz, q1⟩ := q1
  refine ⟨I1.kIn, ?_⟩
  show wpAny _ _ (call (.ref C) us) _ _ _
  obtain ⟨hp, g, dr, tk, os⟩ := s1
  obtain ⟨nm, N, qn, bs, bm, hd, sn, sub, ab, col, dd, k0, k1, k2, k3, k5, hC, hbm⟩ := PySem.W.excInit_of I1.kIn T.cls
  generalize hG : (hp.push (PySem.W.kdv_tup us)).push (PySem.HandSPX.excO C hp.objs.size) = G
  have new : hp.objs.size ≤ hp.objs.size + 1 := Nat.le_succ _
  have hn : H1 (hp.objs.size + 1) = none := I1.hok.fresh new
  have keep : ∀ b o, hp.get? b = some o → G.get? b = some o := fun b o q => by
    rw [← hG]
    exact Heap.get?_push_of_some _ (Heap.get?_push_of_some _ q)
  have there : G.get? (hp.objs.size + 1) = some (PySem.HandSPX.excO C hp.objs.size) := by
    rw [← hG]
    heap_get
  have I2 : Inv X pins σ (upd H1 (hp.objs.size + 1) (exo (hp.objs.size + 1) C none)) ⟨G, g, dr, tk, os⟩ := I1.laid (t' := tk) (a := hp.objs.size + 1) keep new (exo_ok there)
  have hq := q1 (hp.objs.size + 1) hn
  rw [List.append_nil] at hq
  have r2 : Vals (V.ref (hp.objs.size + 1) :: vs) (Value.ref (hp.objs.size + 1) :: us) := .cons rfl r1
  have len : (Value.ref (hp.objs.size + 1) :: us ++ []).length = ps.length := by
    rw [List.append_nil, ← r2.length, F1.len _ _ _ _ hq]
  have few : us.length ≤ sizeLine := by
    rw [← Paired.length r1, sizeLine_eq]
    omega
  have run := F1.run _ X.stack _ _ ⟨Value.ref (hp.objs.size + 1) :: us, []⟩ (Value.ref (hp.objs.size + 1) :: us) _ _ (fun _ _ _ => False) (hr.make C us []) (I2.env0.make C us []) (by
    have z := hb _ (Value.ref (hp.objs.size + 1) :: us) I2.kIn len
    rw [List.append_nil] at z
    exact z) r2 hq
  refine wpAny_call (PySem.HandSPX.call_own F.excBase_ArithmeticError hbm hC (PySem.W.looks_findIn I1.kIn iC) (fun self => PySem.W.bind_fn I1.kIn self tI) few ?_)
  rw [hG]
  refine codeAny_mono run fun r s' z => ?_
  match r, z with
  | .error er, z => exact hx pins σ _ _ er s' I2 z
  | .ok (.ret v), z =>
    obtain ⟨y, H2, os2, bare2, un2, hok2, rv, ev, d, fs, ea, ed, hd1, q2⟩ := z
    subst ev
    obtain ⟨h2, g2, d2, t2, os'⟩ := s'
    exact ⟨rv, mk_end (raises_own T.exC T.tyC) I1 new keep un2 hok2 os2 bare2 ea ed hd1 q2⟩
  | .ok .next, z => exact z.elim
  | .ok .brk, z => exact z.elim
  | .ok .cont, z => exact z.elim
end AE
set_option Elab.async false
set_option linter.all false
set_option maxRecDepth 100000
set_option maxHeartbeats 4000000
namespace TR
open PySem PySem.Spec PyProof.Rows L2
/-- an error that a frame has in hand, noted and on the ground; sI is the state without it -/
structure Hand (X : Cx) (pins : List (Addr × Obj)) (B : Heap) (sI : Shared) (a : Addr) (cls : Value) (d : Option Addr) (σ : L2.St) (H : Hp) (s : Shared) : Prop where
  inv : Inv X pins σ H sI
  gr : ∀ b o, sI.heap.get? b = some o → b ∉ frs X.stack → B.get? b = some o
  up : sI.heap.UpToSlots s.heap
  fl : HandSPX.FlyingZ B X.stack a (Zc cls d) s.heap
  na : H a = none
  os : s.os = sI.os
  ag : AllBare s.gens
section
variable {X : Cx} {pins : List (Addr × Obj)} {B : Heap} {sI s : Shared} {a : Addr} {cls c : Value} {d : Option Addr} {σ : L2.St} {H : Hp} {x n : Str} {np : Pos}
theorem Hand.here (h : Hand X pins B sI a cls d σ H s) : Inv X pins σ H s := Inv.landed h.inv h.gr h.fl.1 h.up h.os h.ag
theorem Hand.off (h : Hand X pins B sI a cls d σ H s) : a ∉ frs X.stack := fun m => by
  obtain ⟨oe, vs, e1, _, e2⟩ := HandSPX.FlyingZ.there h.fl
  obtain ⟨_, o, e3, nf⟩ := Heap.FunFrames.mem h.fl.2.2.1 m
  exact nf vs (by rw [Option.some.inj (e3.symm.trans e1)]; exact e2)
theorem Hand.suite (h : Hand X pins B sI a cls d σ H s) (hs : X.stack = X.env :: X.outer) (hf : X.env.frame = some X.env.locals) :
    ∃ oe : Obj, Zc cls d oe ∧ (∃ vs, oe.data = .fields vs) ∧ s.heap.get? a = some oe ∧ Inv (X.suite a ((a, oe) :: (X.pn ++ pins))) [] σ H s := by
  obtain ⟨oe, vs, e1, z, e2⟩ := HandSPX.FlyingZ.there h.fl
  have off := h.off
  rw [hs] at off
  refine ⟨oe, z, ⟨vs, e2⟩, e1, Inv.suite h.here e1 e2 h.na (fun w => off ?_) (fun m => off ?_)⟩
  · rw [w]
    exact List.mem_filterMap.mpr ⟨X.env, List.mem_cons_self, hf⟩
  · obtain ⟨e, m1, m2⟩ := List.mem_filterMap.mp m
    exact List.mem_filterMap.mpr ⟨e, List.mem_cons_of_mem _ m1, m2⟩
/-- the test of a clause -/
theorem Hand.test (h : Hand X pins B sI a cls d σ H s) (hs : X.stack = X.env :: X.outer) (hf : X.env.frame = some X.env.locals) (hc : Names X x c) {b : Bool} (hb : PySem.W.exmOne X.K cls c = some b) {pos : Pos} {R : Result → Shared → Prop}
    (q : R (.ok (if b then .brk else .next)) s) : codeAny (model X.prog X.w) (X.A.mark (some (.ref a))) (.handlers (.ref a) [.ExceptHandler (some (.Name x np)) none [] pos] X.env) R s := by
  obtain ⟨oe, z, _, e1, S⟩ := h.suite hs hf
  have ty : PySem.W.Looks (model X.prog X.w) s.heap (typeOf (.ref a)) cls := fun _ _ _ _ k r => wpAny_typeOf_ref (k _ _ e1) (by rw [z.1]; exact r)
  have hit := PySem.W.exm_one (M := model X.prog X.w) S.kIn ty hb
  refine codeAny_handlers_test ?_
  obtain ⟨g, nd, m | ⟨m, v, nn⟩⟩ := hc
  · exact ld_glob S g m (hit.here q) nd
  · exact ld_blt S g m v (hit.here q) nn nd
theorem Hand.again (h : Hand X pins B sI a cls d σ H s) {A : Around} {E : Value → Shared → Prop} {Q : Unit → Shared → Prop} (k : ∀ s', Hand X pins B sI a cls d σ H s' → Q () s') : wpAny (model X.prog X.w) A (setFlight (.ref a) none) Q E s :=
  HandSPX.lands_againZ h.fl fun h' f u => k _ ⟨h.inv, h.gr, h.up.trans u, f, h.na, h.os, h.ag⟩
/-- no clause takes it -/
theorem Hand.pass (h : Hand X pins B sI a cls d σ H s) (hs : X.stack = X.env :: X.outer) (hf : X.env.frame = some X.env.locals) {W : WX} (tk : Takes X W) (w : W cls d σ H) {Q : Flow → Shared → Prop} : wpAny (model X.prog X.w) X.A (handleBy (.ref a) X.env []) Q X.xe s := by
  have last : wpAny (model X.prog X.w) X.A (setFlight (.ref a) X.env.frame) (fun _ s4 => wpAny (model X.prog X.w) X.A (throw (.ref a) : Sem Flow) Q X.xe s4) X.xe s := by
    rw [hf]
    refine HandSPX.setFlight_upZ h.fl fun h' hh u => wpAny_throw (tk _ _ ⟨a, B, sI, pins, σ, H, cls, d, rfl, h.inv, h.gr, h.up.trans u, .inr (.inr hh), h.na, h.os, h.ag, w⟩)
  obtain ⟨_, _, _, oe, vs, t, ot, ts, e1, _, e2, e3, _⟩ := h.fl
  refine wpAny_handleBy_nil ?_
  unfold PySem.passOn
  refine wpAny_bind (wpAny_field e1 e2 e3 ?_)
  have ne : ¬ ((Value.ref t == Value.none) = true) := by simp
  rw [if_neg ne]
  first
    | exact wpAny_bind (wpAny_pure (wpAny_bind last))
    | exact wpAny_bind last
end
/-- a clause: the class, the slot of its name (if it has one), and what its suite says -/
structure Clause where
  cls : Value
  slot : Option Nat
  ts : Addr → Value → Option Addr → TS
def Clause.ends (q : Clause) (D : Ends) : Ends := match q.slot with
  | none => D
  | some i => { nx := fun σ H => D.nx (σ.set i none) H, rt := D.rt, bk := fun σ H => D.bk (σ.set i none) H, ct := fun σ H => D.ct (σ.set i none) H }
def Clause.at_ (q : Clause) (a : Addr) (σ : L2.St) : L2.St := match q.slot with
  | none => σ
  | some i => σ.set i (some (.ref a))
/-- what the clauses wish of an error of the body -/
def wish (K : PySem.W.Frag) (W : WX) (D : Ends) : List Clause → WX
  | [] => W
  | q :: r => fun cls d σ H => ∃ b, PySem.W.exmOne K cls q.cls = some b ∧ (b = true → ∀ a, H a = none → q.ts a cls d (q.ends D) (q.at_ a σ) H) ∧ (b = false → wish K W D r cls d σ H)
/-- the clauses of a try, one by one -/
inductive Cls (X : Cx) : List ExceptHandler → List Clause → Prop
  | nil : Cls X [] []
  | bare {x : Str} {q : Clause} {b₀ : Stmt} {suite : List Stmt} {np p : Pos} {hds : List ExceptHandler} {l : List Clause} (hn : Names X x q.cls) (e : q.slot = none)
      (hsu : ∀ (a : Addr) (oe : Obj) (cls : Value) (d : Option Addr) (pn : List (Addr × Obj)), Zc cls d oe → (∃ vs, oe.data = .fields vs) → PSs (X.suite a ((a, oe) :: pn)) (b₀ :: suite) (q.ts a cls d))
      (r : Cls X hds l) : Cls X (.ExceptHandler (some (.Name x np)) none (b₀ :: suite) p :: hds) (q :: l)
  | as {x n : Str} {i : Nat} {q : Clause} {b₀ : Stmt} {suite : List Stmt} {np p : Pos} {hds : List ExceptHandler} {l : List Clause} (hn : Names X x q.cls) (e : q.slot = some i) (hi : X.N[i]? = some n) (hk : X.env.kindOf n = some .local)
      (hsu : ∀ (a : Addr) (oe : Obj) (cls : Value) (d : Option Addr) (pn : List (Addr × Obj)), Zc cls d oe → (∃ vs, oe.data = .fields vs) → PSs (X.suite a ((a, oe) :: pn)) (b₀ :: suite) (q.ts a cls d))
      (r : Cls X hds l) : Cls X (.ExceptHandler (some (.Name x np)) (some n) (b₀ :: suite) p :: hds) (q :: l)
section
variable {X : Cx} {pins : List (Addr × Obj)} {B : Heap} {sI s : Shared} {a : Addr} {cls : Value} {d : Option Addr} {σ : L2.St} {H : Hp} {D : Ends} {W : WX}
/-- what ran in a suite with a name: the name goes -/
theorem ended_as {oe : Obj} {i : Nat} {n : Str} {pos : Pos} {f : Flow} {E : Value → Shared → Prop} {e : Ends} (ok : X.Ok) (hN : X.N.Nodup) (hi : X.N[i]? = some n) (hk : X.env.kindOf n = some .local)
    (he : e = { nx := fun σ H => D.nx (σ.set i none) H, rt := D.rt, bk := fun σ H => D.bk (σ.set i none) H, ct := fun σ H => D.ct (σ.set i none) H })
    (h : SP (X.suite a ((a, oe) :: (X.pn ++ pins))) [] e f s) : wpAny (model X.prog X.w) X.A (do bindName X.env n .none; unbindBehindTheSuite X.env n pos) (fun _ s' => SP X pins D f s') E s := by
  subst he
  cases f with
  | ret u =>
    obtain ⟨v, σ1, H1, I1, r, q⟩ := h
    exact gone_ok (Inv.unsuite I1 ok) hN hi hk fun _ J => ⟨v, _, H1, J, r, q⟩
  | next =>
    obtain ⟨σ1, H1, I1, q⟩ := h
    exact gone_ok (Inv.unsuite I1 ok) hN hi hk fun _ J => ⟨_, H1, J, q⟩
  | brk =>
    obtain ⟨σ1, H1, I1, q⟩ := h
    exact gone_ok (Inv.unsuite I1 ok) hN hi hk fun _ J => ⟨_, H1, J, q⟩
  | cont =>
    obtain ⟨σ1, H1, I1, q⟩ := h
    exact gone_ok (Inv.unsuite I1 ok) hN hi hk fun _ J => ⟨_, H1, J, q⟩
theorem ended_bare {oe : Obj} {f : Flow} (ok : X.Ok) (h : SP (X.suite a ((a, oe) :: (X.pn ++ pins))) [] D f s) : SP X pins D f s := by
  cases f with
  | ret u =>
    obtain ⟨v, σ1, H1, I1, q⟩ := h
    exact ⟨v, σ1, H1, Inv.unsuite I1 ok, q⟩
  | next =>
    obtain ⟨σ1, H1, I1, q⟩ := h
    exact ⟨σ1, H1, Inv.unsuite I1 ok, q⟩
  | brk =>
    obtain ⟨σ1, H1, I1, q⟩ := h
    exact ⟨σ1, H1, Inv.unsuite I1 ok, q⟩
  | cont =>
    obtain ⟨σ1, H1, I1, q⟩ := h
    exact ⟨σ1, H1, Inv.unsuite I1 ok, q⟩
/-- an error in hand goes through the clauses -/
theorem Hand.through {hds : List ExceptHandler} {l : List Clause} (k : Cls X hds l) (hs : X.stack = X.env :: X.outer) (hf : X.env.frame = some X.env.locals) (hN : X.N.Nodup) (tk : Takes X W) (h : Hand X pins B sI a cls d σ H s) (w : wish X.K W D l cls d σ H) :
    wpAny (model X.prog X.w) X.A (handleBy (.ref a) X.env hds) (SP X pins D) X.xe s := by
  have ok := h.inv.ok
  induction k generalizing s with
  | nil => exact h.pass hs hf tk w
  | @bare x q b₀ suite np p hds l hn e hsu r ih =>
    obtain ⟨b, hb, yes, no⟩ := w
    refine wpAny_handleBy_cons (h.test hs hf hn hb ?_) (fun z => by cases z)
    cases b with
    | false => exact ih h (no rfl)
    | true =>
      refine codeAny_handlers_suite (h.again fun s1 h1 => ?_)
      obtain ⟨oe, z, vs, _, S⟩ := h1.suite hs hf
      have go := yes rfl a h.na
      unfold Clause.ends Clause.at_ at go
      rw [e] at go
      exact wpAny_mono ((hsu a oe cls d _ z vs).run [] _ _ _ _ S go) (fun f s2 q2 => ended_bare ok q2) (fun _ _ z => z.elim)
  | @as x n i q b₀ suite np p hds l hn e hi hk hsu r ih =>
    obtain ⟨b, hb, yes, no⟩ := w
    refine wpAny_handleBy_cons (h.test hs hf hn hb ?_) (fun z => by cases z)
    cases b with
    | false => exact ih h (no rfl)
    | true =>
      refine codeAny_handlers_suite_as (h.again fun s1 h1 => ?_)
      obtain ⟨oe, z, vs, _, S⟩ := h1.suite hs hf
      have go := yes rfl a h.na
      unfold Clause.ends Clause.at_ at go
      rw [e] at go
      refine store_ok (X := X.suite a (((a, oe) : Addr × Obj) :: (X.pn ++ pins))) (v := V.ref a) S hN hi (.inl hk) rfl (fun s2 S2 => ?_) (.inr hk)
      exact wpAny_mono ((hsu a oe cls d _ z vs).run [] _ _ _ _ S2 go) (fun f s3 q3 => ended_as ok hN hi hk rfl q3) (fun _ _ z => z.elim)
/-- an error of the body comes into the frame's hand -/
theorem caught {xe : Value → Shared → Prop} {u : Value} {W' : WX} {E : Value → Shared → Prop} {Q : Unit → Shared → Prop} (ok : X.Ok) (hs : X.stack = X.env :: X.outer) (hf : X.env.frame = some X.env.locals) (x : XE (X.tr (X.pn ++ pins) xe) W' u s)
    (k : ∀ a B sI cls d σ H s', u = .ref a → Hand X pins B sI a cls d σ H s' → W' cls d σ H → Q () s') :
    wpAny (model X.prog X.w) X.A (noteFrame u X.env) (fun _ s2 => wpAny (model X.prog X.w) X.A (setFlight u none) Q E s2) E s := by
  obtain ⟨a, B, sI, ps, σ, H, cls, d, rfl, I, gr, up, sky, na, os, ag, w⟩ := x
  have J : Inv X pins σ H sI := Inv.ofTry I ok
  have fr : X.A.frames = some (X.env :: X.outer) := by rw [ok.frames, hs]
  have sk : Sky B (X.env :: X.outer) a (Zc cls d) X.env.locals s.heap := by rw [← hs]; exact sky
  refine Sky.land Zc.steady fr hf sk fun h' f u => k a B sI cls d σ H _ rfl ⟨J, gr, up.trans u, ?_, na, os, ag⟩ w
  rw [hs]
  exact f
end
/-- try with any clauses -/
theorem ps_try {X : Cx} {body : List Stmt} {h₀ : ExceptHandler} {hds : List ExceptHandler} {l : List Clause} {pos : Pos} {tb : WX → TS} {W : WX} (hs : X.stack = X.env :: X.outer) (hf : X.env.frame = some X.env.locals) (hN : X.N.Nodup) (tk : Takes X W)
    (hb : ∀ (W' : WX) (pn : List (Addr × Obj)) (xe : Value → Shared → Prop), Takes (X.tr pn xe) W' → PassesOwn (model X.prog X.w) X.A X.env xe → PSs (X.tr pn xe) body (tb W'))
    (k : Cls X (h₀ :: hds) l) : PS X (.Try body (h₀ :: hds) [] [] pos) (fun D σ H => tb (wish X.K W D l) D σ H) := by
  refine ⟨fun pins s σ H D I h => wpAny_Try_except ?_⟩
  have ok := I.ok
  have run := hb (wish X.K W D l) (X.pn ++ pins) _ (fun u s1 x => caught (E := X.xe) (Q := fun _ s3 => wpAny (model X.prog X.w) X.A (handleBy u X.env (h₀ :: hds)) (SP X pins D) X.xe s3) ok hs hf x fun a B sI cls d σ H s' e g w => by rw [e]; exact Hand.through k hs hf hN tk g w) PassesOwn.looking
  refine wpAny_mono (run.run [] s σ H D (I.toTry _) h) (fun f s1 q => ?_) (fun _ _ z => z)
  cases f with
  | ret u =>
    obtain ⟨v, σ1, H1, J, q⟩ := q
    exact ⟨v, σ1, H1, Inv.ofTry J ok, q⟩
  | next =>
    obtain ⟨σ1, H1, J, q⟩ := q
    exact wpAny_execs_nil ⟨σ1, H1, Inv.ofTry J ok, q⟩
  | brk =>
    obtain ⟨σ1, H1, J, q⟩ := q
    exact ⟨σ1, H1, Inv.ofTry J ok, q⟩
  | cont =>
    obtain ⟨σ1, H1, J, q⟩ := q
    exact ⟨σ1, H1, Inv.ofTry J ok, q⟩
end TR
set_option Elab.async false
set_option linter.all false
set_option maxRecDepth 100000
set_option maxHeartbeats 0
namespace W16
open PySem PySem.Spec PyProof.Rows L2
def top (i : Nat) : Stmt := PySem.Challenge.pw_backframes_k16_wanted_at_calls.main.body.getD i (.Pass ⟨0, 0, 0, 0⟩)
abbrev s_is_integer : Stmt := top 10
def d_is_integer : He.DefD := ⟨("is_integer", none), "is_integer", "is_integer", defArgs s_is_integer, defBody s_is_integer, defScope s_is_integer, [], []⟩
abbrev s_is_integer_in : Stmt := top 11
def d_is_integer_in : He.DefD := ⟨("is_integer_in", none), "is_integer_in", "is_integer_in", defArgs s_is_integer_in, defBody s_is_integer_in, defScope s_is_integer_in, [], []⟩
abbrev s_is_written_number : Stmt := top 12
def d_is_written_number : He.DefD := ⟨("is_written_number", none), "is_written_number", "is_written_number", defArgs s_is_written_number, defBody s_is_written_number, defScope s_is_written_number, [], []⟩
abbrev s_is_name : Stmt := top 13
def d_is_name : He.DefD := ⟨("is_name", none), "is_name", "is_name", defArgs s_is_name, defBody s_is_name, defScope s_is_name, [], []⟩
abbrev s_is_kind : Stmt := top 14
def d_is_kind : He.DefD := ⟨("is_kind", none), "is_kind", "is_kind", defArgs s_is_kind, defBody s_is_kind, defScope s_is_kind, [], []⟩
abbrev s_is_tuple_of : Stmt := top 15
def d_is_tuple_of : He.DefD := ⟨("is_tuple_of", none), "is_tuple_of", "is_tuple_of", defArgs s_is_tuple_of, defBody s_is_tuple_of, defScope s_is_tuple_of, [], []⟩
abbrev s_is_list_of : Stmt := top 16
def d_is_list_of : He.DefD := ⟨("is_list_of", none), "is_list_of", "is_list_of", defArgs s_is_list_of, defBody s_is_list_of, defScope s_is_list_of, [], []⟩
abbrev s_is_list_of_names : Stmt := top 17
def d_is_list_of_names : He.DefD := ⟨("is_list_of_names", none), "is_list_of_names", "is_list_of_names", defArgs s_is_list_of_names, defBody s_is_list_of_names, defScope s_is_list_of_names, [], []⟩
abbrev s_is_word_tuple : Stmt := top 18
def d_is_word_tuple : He.DefD := ⟨("is_word_tuple", none), "is_word_tuple", "is_word_tuple", defArgs s_is_word_tuple, defBody s_is_word_tuple, defScope s_is_word_tuple, [], []⟩
abbrev s_frozen : Stmt := top 19
def d_frozen : He.DefD := ⟨("frozen", none), "frozen", "frozen", defArgs s_frozen, defBody s_frozen, defScope s_frozen, [], []⟩
abbrev s_are_named_kinds : Stmt := top 20
def d_are_named_kinds : He.DefD := ⟨("are_named_kinds", none), "are_named_kinds", "are_named_kinds", defArgs s_are_named_kinds, defBody s_are_named_kinds, defScope s_are_named_kinds, [], []⟩
abbrev s_is_row : Stmt := top 25
def d_is_row : He.DefD := ⟨("is_row", none), "is_row", "is_row", defArgs s_is_row, defBody s_is_row, defScope s_is_row, [], []⟩
abbrev s_fills : Stmt := top 26
def d_fills : He.DefD := ⟨("_fills", none), "_fills", "_fills", defArgs s_fills, defBody s_fills, defScope s_fills, [], []⟩
abbrev s_row_sets : Stmt := top 27
def d_row_sets : He.DefD := ⟨("row_sets", none), "row_sets", "row_sets", defArgs s_row_sets, defBody s_row_sets, defScope s_row_sets, [], []⟩
abbrev s_row_reads : Stmt := top 28
def d_row_reads : He.DefD := ⟨("row_reads", none), "row_reads", "row_reads", defArgs s_row_reads, defBody s_row_reads, defScope s_row_reads, [], []⟩
abbrev s_row_kinds_fit : Stmt := top 29
def d_row_kinds_fit : He.DefD := ⟨("row_kinds_fit", none), "row_kinds_fit", "row_kinds_fit", defArgs s_row_kinds_fit, defBody s_row_kinds_fit, defScope s_row_kinds_fit, [], []⟩
abbrev s_names_in : Stmt := top 30
def d_names_in : He.DefD := ⟨("_names_in", none), "_names_in", "_names_in", defArgs s_names_in, defBody s_names_in, defScope s_names_in, [], []⟩
abbrev s_call_fits : Stmt := top 31
def d_call_fits : He.DefD := ⟨("_call_fits", none), "_call_fits", "_call_fits", defArgs s_call_fits, defBody s_call_fits, defScope s_call_fits, [], []⟩
abbrev s_is_class : Stmt := top 43
def d_is_class : He.DefD := ⟨("_is_class", none), "_is_class", "_is_class", defArgs s_is_class, defBody s_is_class, defScope s_is_class, [], []⟩
abbrev s_is_head : Stmt := top 44
def d_is_head : He.DefD := ⟨("_is_head", none), "_is_head", "_is_head", defArgs s_is_head, defBody s_is_head, defScope s_is_head, [], []⟩
abbrev s_function_with : Stmt := top 48
def d_function_with : He.DefD := ⟨("_function_with", none), "_function_with", "_function_with", defArgs s_function_with, defBody s_function_with, defScope s_function_with, [], []⟩
abbrev s_wanted_in : Stmt := top 49
def d_wanted_in : He.DefD := ⟨("_wanted_in", none), "_wanted_in", "_wanted_in", defArgs s_wanted_in, defBody s_wanted_in, defScope s_wanted_in, [], []⟩
abbrev s_way_to_reader : Stmt := top 50
def d_way_to_reader : He.DefD := ⟨("_way_to_reader", none), "_way_to_reader", "_way_to_reader", defArgs s_way_to_reader, defBody s_way_to_reader, defScope s_way_to_reader, [], []⟩
abbrev s_rows_behind : Stmt := top 51
def d_rows_behind : He.DefD := ⟨("_rows_behind", none), "_rows_behind", "_rows_behind", defArgs s_rows_behind, defBody s_rows_behind, defScope s_rows_behind, [], []⟩
abbrev s_L_well : Stmt := top 53
def d_L_well : He.DefD := ⟨("_law_well", none), "_law_well", "_law_well", defArgs s_L_well, defBody s_L_well, defScope s_L_well, [], []⟩
abbrev s_L_draw : Stmt := top 54
def d_L_draw : He.DefD := ⟨("_law_draw", none), "_law_draw", "_law_draw", defArgs s_L_draw, defBody s_L_draw, defScope s_L_draw, [], []⟩
abbrev s_L_one : Stmt := top 55
def d_L_one : He.DefD := ⟨("_law_one", none), "_law_one", "_law_one", defArgs s_L_one, defBody s_L_one, defScope s_L_one, [], []⟩
abbrev s_L_names : Stmt := top 56
def d_L_names : He.DefD := ⟨("_law_names", none), "_law_names", "_law_names", defArgs s_L_names, defBody s_L_names, defScope s_L_names, [], []⟩
abbrev s_L_heads : Stmt := top 57
def d_L_heads : He.DefD := ⟨("_law_heads", none), "_law_heads", "_law_heads", defArgs s_L_heads, defBody s_L_heads, defScope s_L_heads, [], []⟩
abbrev s_L_last : Stmt := top 58
def d_L_last : He.DefD := ⟨("_law_last", none), "_law_last", "_law_last", defArgs s_L_last, defBody s_L_last, defScope s_L_last, [], []⟩
abbrev s_L_plain : Stmt := top 59
def d_L_plain : He.DefD := ⟨("_law_plain", none), "_law_plain", "_law_plain", defArgs s_L_plain, defBody s_L_plain, defScope s_L_plain, [], []⟩
abbrev s_L_functions : Stmt := top 60
def d_L_functions : He.DefD := ⟨("_law_functions", none), "_law_functions", "_law_functions", defArgs s_L_functions, defBody s_L_functions, defScope s_L_functions, [], []⟩
abbrev s_L_classes : Stmt := top 61
def d_L_classes : He.DefD := ⟨("_law_classes", none), "_law_classes", "_law_classes", defArgs s_L_classes, defBody s_L_classes, defScope s_L_classes, [], []⟩
abbrev s_L_sets : Stmt := top 62
def d_L_sets : He.DefD := ⟨("_law_sets", none), "_law_sets", "_law_sets", defArgs s_L_sets, defBody s_L_sets, defScope s_L_sets, [], []⟩
abbrev s_L_reads : Stmt := top 63
def d_L_reads : He.DefD := ⟨("_law_reads", none), "_law_reads", "_law_reads", defArgs s_L_reads, defBody s_L_reads, defScope s_L_reads, [], []⟩
abbrev s_L_next : Stmt := top 64
def d_L_next : He.DefD := ⟨("_law_next", none), "_law_next", "_law_next", defArgs s_L_next, defBody s_L_next, defScope s_L_next, [], []⟩
abbrev s_L_path : Stmt := top 65
def d_L_path : He.DefD := ⟨("_law_path", none), "_law_path", "_law_path", defArgs s_L_path, defBody s_L_path, defScope s_L_path, [], []⟩
abbrev s_wanted_at_call : Stmt := top 47
def d_wanted_at_call : He.DefD := ⟨("wanted_at_call", none), "wanted_at_call", "wanted_at_call", defArgs s_wanted_at_call, defBody s_wanted_at_call, defScope s_wanted_at_call, [], []⟩
abbrev s_L_said : Stmt := top 66
def d_L_said : He.DefD := ⟨("_law_said", none), "_law_said", "_law_said", defArgs s_L_said, defBody s_L_said, defScope s_L_said, [], []⟩
abbrev s_L_right : Stmt := top 67
def d_L_right : He.DefD := ⟨("_law_right", none), "_law_right", "_law_right", defArgs s_L_right, defBody s_L_right, defScope s_L_right, [], []⟩
abbrev s_law : Stmt := top 68
def d_law : He.DefD := ⟨("law", none), "law", "law", defArgs s_law, defBody s_law, defScope s_law, [], []⟩
abbrev s_Function_init : Stmt := inClass (top 41) 0
def d_Function_init : He.DefD := ⟨("Function", some "__init__"), "__init__", "Function.__init__", defArgs s_Function_init, defBody s_Function_init, defScope s_Function_init, [], []⟩
abbrev s_Function_called_at : Stmt := inClass (top 41) 2
def d_Function_called_at : He.DefD := ⟨("Function", some "called_at"), "called_at", "Function.called_at", defArgs s_Function_called_at, defBody s_Function_called_at, defScope s_Function_called_at, [], []⟩
abbrev s_InvalidNumber_init : Stmt := inClass (top 4) 0
def d_InvalidNumber_init : He.DefD := ⟨("InvalidNumber", some "__init__"), "__init__", "InvalidNumber.__init__", defArgs s_InvalidNumber_init, defBody s_InvalidNumber_init, defScope s_InvalidNumber_init, [], []⟩
abbrev s_Function_has_row : Stmt := inClass (top 41) 1
def d_Function_has_row : He.DefD := ⟨("Function", some "has_row"), "has_row", "Function.has_row", defArgs s_Function_has_row, defBody s_Function_has_row, defScope s_Function_has_row, [], []⟩
abbrev s_Source_init : Stmt := inClass (top 42) 0
def d_Source_init : He.DefD := ⟨("Source", some "__init__"), "__init__", "Source.__init__", defArgs s_Source_init, defBody s_Source_init, defScope s_Source_init, [], []⟩
abbrev s_Source_take_classes : Stmt := inClass (top 42) 1
def d_Source_take_classes : He.DefD := ⟨("Source", some "_take_classes"), "_take_classes", "Source._take_classes", defArgs s_Source_take_classes, defBody s_Source_take_classes, defScope s_Source_take_classes, [], []⟩
abbrev s_Source_kinds_differ : Stmt := inClass (top 42) 2
def d_Source_kinds_differ : He.DefD := ⟨("Source", some "_kinds_differ"), "_kinds_differ", "Source._kinds_differ", defArgs s_Source_kinds_differ, defBody s_Source_kinds_differ, defScope s_Source_kinds_differ, [], []⟩
abbrev s_Source_take_heads : Stmt := inClass (top 42) 3
def d_Source_take_heads : He.DefD := ⟨("Source", some "_take_heads"), "_take_heads", "Source._take_heads", defArgs s_Source_take_heads, defBody s_Source_take_heads, defScope s_Source_take_heads, [], []⟩
abbrev s_Source_take_rows : Stmt := inClass (top 42) 4
def d_Source_take_rows : He.DefD := ⟨("Source", some "_take_rows"), "_take_rows", "Source._take_rows", defArgs s_Source_take_rows, defBody s_Source_take_rows, defScope s_Source_take_rows, [], []⟩
abbrev s_Source_is_row_of : Stmt := inClass (top 42) 5
def d_Source_is_row_of : He.DefD := ⟨("Source", some "_is_row_of"), "_is_row_of", "Source._is_row_of", defArgs s_Source_is_row_of, defBody s_Source_is_row_of, defScope s_Source_is_row_of, [], []⟩
abbrev s_Source_function_at : Stmt := inClass (top 42) 9
def d_Source_function_at : He.DefD := ⟨("Source", some "function_at"), "function_at", "Source.function_at", defArgs s_Source_function_at, defBody s_Source_function_at, defScope s_Source_function_at, [], []⟩
abbrev s_Source_fields_of : Stmt := inClass (top 42) 10
def d_Source_fields_of : He.DefD := ⟨("Source", some "fields_of"), "fields_of", "Source.fields_of", defArgs s_Source_fields_of, defBody s_Source_fields_of, defScope s_Source_fields_of, [], []⟩
abbrev s_Source_field_kind : Stmt := inClass (top 42) 11
def d_Source_field_kind : He.DefD := ⟨("Source", some "field_kind"), "field_kind", "Source.field_kind", defArgs s_Source_field_kind, defBody s_Source_field_kind, defScope s_Source_field_kind, [], []⟩
def fn : List He.DefD := [d_is_integer, d_is_integer_in, d_is_written_number, d_is_name, d_is_kind, d_is_tuple_of, d_is_list_of, d_is_list_of_names, d_is_word_tuple, d_frozen, d_are_named_kinds, d_is_row, d_fills, d_row_sets, d_row_reads, d_row_kinds_fit, d_names_in, d_call_fits, d_is_class, d_is_head, d_function_with, d_wanted_in, d_way_to_reader, d_rows_behind, d_L_well, d_L_draw, d_L_one, d_L_names, d_L_heads, d_L_last, d_L_plain, d_L_functions, d_L_classes, d_L_sets, d_L_reads, d_L_next, d_L_path, d_wanted_at_call, d_L_said, d_L_right, d_law, d_Function_init, d_Function_called_at, d_InvalidNumber_init, d_Function_has_row, d_Source_init, d_Source_take_classes, d_Source_kinds_differ, d_Source_take_heads, d_Source_take_rows, d_Source_is_row_of, d_Source_function_at, d_Source_fields_of, d_Source_field_kind]
def fa : List He.Fa := [.glo "is_integer", .glo "is_integer_in", .glo "is_written_number", .glo "is_name", .glo "is_kind", .glo "is_tuple_of", .glo "is_list_of", .glo "is_list_of_names", .glo "is_word_tuple", .glo "frozen", .glo "are_named_kinds", .glo "is_row", .glo "_fills", .glo "row_sets", .glo "row_reads", .glo "row_kinds_fit", .glo "_names_in", .glo "_call_fits", .glo "_is_class", .glo "_is_head", .glo "_function_with", .glo "_wanted_in", .glo "_way_to_reader", .glo "_rows_behind", .glo "_law_well", .glo "_law_draw", .glo "_law_one", .glo "_law_names", .glo "_law_heads", .glo "_law_last", .glo "_law_plain", .glo "_law_functions", .glo "_law_classes", .glo "_law_sets", .glo "_law_reads", .glo "_law_next", .glo "_law_path", .glo "wanted_at_call", .glo "_law_said", .glo "_law_right", .glo "law", .free "isinstance", .free "int", .free "bool", .free "str", .free "list", .free "tuple", .free "len", .free "all", .free "any", .free "zip", .free "enumerate", .free "dict", .free "sorted", .free "range", .free "min", .int "GREATEST_WRITTEN" 1000000000, .int "MOST_CLASSES" 6, .int "MOST_FIELDS" 4, .int "MOST_FUNCTIONS" 6, .int "MOST_PARAMETERS" 4, .int "MOST_OTHERS" 8, .int "MOST_ROWS" 40, .str "LETTERS" "abcdefghijklmnopqrstuvwxyz", .str "MARKS" "abcdefghijklmnopqrstuvwxyz0123456789", .glo "InvalidNumber", .glo "CodeError", .exm "InvalidNumber" "InvalidNumber" true, .glo "Function", .glo "Source", .glo "KINDS", .glo "NUMBER_WORDS", .glo "ROW_WORDS", .glo "ROLES", .cls "Function", .mkr "Function", .noat "Function" "name", .noat "Function" "params", .noat "Function" "others", .noat "Function" "result", .noat "Function" "variables", .noat "Function" "body", .cls "Source", .mkr "Source", .noat "Source" "_field_kinds", .noat "Source" "_fields", .noat "Source" "_functions", .meth "Function" "called_at", .meth "Function" "has_row", .meth "Source" "_take_classes", .meth "Source" "_kinds_differ", .meth "Source" "_take_heads", .meth "Source" "_take_rows", .meth "Source" "_is_row_of", .meth "Source" "function_at", .meth "Source" "fields_of", .meth "Source" "field_kind"]
def v_KINDS : List He.Dv := [.str "number", .str "object"]
def v_NUMBER_WORDS : List He.Dv := [.str "number", .str "add", .str "sub", .str "times", .str "less", .str "if", .str "guard"]
def v_ROW_WORDS : List He.Dv := [.str "number", .str "add", .str "sub", .str "times", .str "less", .str "nil", .str "new", .str "copy", .str "same", .str "get", .str "put", .str "call", .str "see", .str "if", .str "jump", .str "return"]
def roles : List (Str × List Str) := [("number", ["sets", "number"]), ("nil", ["sets"]), ("copy", ["sets", "reads"]), ("add", ["sets", "reads", "reads"]), ("sub", ["sets", "reads", "reads"]), ("times", ["sets", "reads", "reads"]), ("less", ["sets", "reads", "reads"]), ("same", ["sets", "reads", "reads"]), ("new", ["sets", "class"]), ("get", ["sets", "reads", "field"]), ("put", ["reads", "field", "reads"]), ("call", ["sets", "function", "many"]), ("see", ["reads"]), ("if", ["reads", "row"]), ("jump", ["row"]), ("return", ["reads"]), ("guard", ["reads", "point"]), ("look", ["point"])]
/-- the tuple that the table ROLES has at a word -/
def rolA (K : PySem.W.Frag) (x : Str) : Addr := match PySem.W.nsIn K (He.ga K "ROLES") x with
  | some (some (.ref a)) => a
  | _ => 0
def tupAt (K : PySem.W.Frag) (a : Addr) (vs : List V) : Bool := match K.lookup a with
  | some ⟨.type c, _, .seq its _, _⟩ => decide (c = "tuple") && (decide (its.size ≤ sizeLine) && He.relAll vs its.toList)
  | _ => false
def rolB (K : PySem.W.Frag) (q : Str × List Str) : Bool := He.eqO (PySem.W.nsIn K (He.ga K "ROLES") q.1) (some (some (.ref (rolA K q.1)))) && tupAt K (rolA K q.1) (q.2.map V.str)
def isaB (K : PySem.W.Frag) (C : Addr) : Bool := He.eqO (PySem.W.findIn K (.ref C) "__class__") (some (some (.builtin "object.__class__"))) && (He.eqO (PySem.W.specialIn K (.builtin "object.__class__") "__get__") (some (some (.builtin "getset_descriptor.__get__"))) && (decide (PySem.W.takesIn K (.builtin "object.__class__") = some true) && (decide (PySem.W.mroIn K C (.type "object") = some true) && decide (PySem.W.kitOne K (.ref C) (.ref C) = some true))))
/-- what is asked of the error InvalidNumber at C -/
def errB (K : PySem.W.Frag) (C : Addr) : Bool := AE.aeB K C && (L2.xfB K C && (decide (PySem.W.findIn K (.ref C) "number" = some none) && (decide (PySem.W.findIn K (.ref C) "__init__" = some (some (.ref (He.ma K C "__init__")))) && decide (PySem.W.typeIn K (.ref (He.ma K C "__init__")) = some (.type "function")))))
def ex (K : PySem.W.Frag) : Bool := He.tupB K "KINDS" v_KINDS && (He.tupB K "NUMBER_WORDS" v_NUMBER_WORDS && (He.tupB K "ROW_WORDS" v_ROW_WORDS && (roles.all (rolB K) && (isaB K (He.ga K "Source") && errB K (He.ga K "InvalidNumber")))))
def ts : List He.Tab := [(fun K => He.ga K "ROLES", roles.map (·.1))]
def nms : List Str := (["CodeError", "InvalidSource", "InvalidArgument", "InvalidNumber", "GREATEST_WRITTEN", "LETTERS", "MARKS", "KINDS", "is_integer", "is_integer_in", "is_written_number", "is_name", "is_kind", "is_tuple_of", "is_list_of", "is_list_of_names", "is_word_tuple", "frozen", "are_named_kinds", "ROLES", "NUMBER_WORDS", "GREATEST_POINT", "is_row", "_fills", "row_sets", "row_reads", "row_kinds_fit", "_names_in", "_call_fits", "told_row"] : List Str) ++ (["MOST_CLASSES", "MOST_FIELDS", "MOST_FUNCTIONS", "MOST_PARAMETERS", "MOST_OTHERS", "MOST_ROWS", "ROW_WORDS", "Function", "Source", "_is_class", "_is_head", "_told_function", "wanted_at_call", "_function_with", "_wanted_in", "_way_to_reader", "_rows_behind", "_law_well", "_law_draw", "_law_one", "_law_names", "_law_heads", "_law_last", "_law_plain", "_law_functions", "_law_classes", "_law_sets", "_law_reads", "_law_next", "_law_path"] : List Str) ++ (["_law_said", "_law_right"] : List Str)
abbrev R : PySem.W.OpenRow := PySem.W.OpenLaw.row PySem.Challenge.rw_backframes_k16_wanted_at_calls
abbrev hk : PySem.W.Hook := He.hookX 4 fa fn ts [] ex
def ob (s : PySem.W.SharedT) : He.AlX := He.obsX 4 fa fn ts [] ex (HandSHeadRun.getT s)
theorem ob_eq (s : PySem.W.SharedT) : ob s = hk.obs s.abs := He.obsX_eq (HandSHeadRun.getT_eq s)
theorem runF (w : World) : HandSHeadRun.RunEq R (PySem.W.view R.prog [68]) hk ob 4200 nms (w.withFollow "special-get-raises" false) := by
  intro os
  kernel_rfl
theorem runT (w : World) : HandSHeadRun.RunEq R (PySem.W.view R.prog [68]) hk ob 4200 nms (w.withFollow "special-get-raises" true) := by
  intro os
  kernel_rfl
theorem run (w : World) : HandSHeadRun.RunEq R (PySem.W.view R.prog [68]) hk ob 4200 nms w := PySem.W.byRow2 "special-get-raises" runF runT w
end W16
set_option Elab.async false
set_option linter.all false
set_option maxRecDepth 100000
set_option maxHeartbeats 4000000
namespace W16
open PySem PySem.Spec PyProof.Rows L2
/-- what stands behind the top -/
structure Ctx (w : World) (K : PySem.W.Frag) (mg : Str → Option Value) : Prop where
  ex_ : ∃ h : Heap, K.In h ∧ h.Ns mainGlobals mg
  says : He.SaysT fa fn ts w K
  more : ex K = true
section
variable {w : World} {K : PySem.W.Frag} {mg : Str → Option Value}
theorem Ctx.glo (T : Ctx w K mg) {x : Str} (i : Nat) (h : fa[i]? = some (.glo x) := by rfl) : mg x = some (.ref (He.ga K x)) := by
  obtain ⟨_, X, G⟩ := T.ex_
  exact He.glo_ok X G (T.says.d.fact i h)
theorem Ctx.free (T : Ctx w K mg) {x : Str} (i : Nat) (h : fa[i]? = some (.free x) := by rfl) : mg x = none := by
  obtain ⟨_, X, G⟩ := T.ex_
  exact He.free_ok X G (T.says.d.fact i h)
theorem Ctx.int (T : Ctx w K mg) {x : Str} {z : Int} (i : Nat) (h : fa[i]? = some (.int x z) := by rfl) : ∃ t, mg x = some (.int z t) := by
  obtain ⟨_, X, G⟩ := T.ex_
  exact He.int_ok X G (T.says.d.fact i h)
theorem Ctx.str (T : Ctx w K mg) {x z : Str} (i : Nat) (h : fa[i]? = some (.str x z) := by rfl) : ∃ t, mg x = some (.str z t) := by
  obtain ⟨_, X, G⟩ := T.ex_
  exact He.str_ok X G (T.says.d.fact i h)
/-- a def that keeps its promise, with all that a caller needs -/
structure Has (P : Program) (w : World) (K : PySem.W.Frag) (mg : Str → Option Value) (base : Heap) (k : Nat) (x : Str) (ps : List Str) (sp : Sp) : Prop where
  ex : ∃ fd, FnOk P w K mg base CX0 k (He.ga K x) fd ps sp ∧ Binds K fd ps []
  kp : PySem.W.keepIn K (.ref (He.ga K x)) = true
  gl : mg x = some (.ref (He.ga K x))
/-- the same of a method -/
structure HasM (P : Program) (w : World) (K : PySem.W.Frag) (mg : Str → Option Value) (base : Heap) (k : Nat) (C m : Str) (ps : List Str) (sp : Sp) : Prop where
  ex : ∃ fd, FnOk P w K mg base CX0 k (He.ma K (He.ga K C) m) fd ps sp ∧ Binds K fd ps []
theorem Ctx.g_is_integer (T : Ctx w K mg) : mg "is_integer" = some (.ref (He.ga K "is_integer")) := T.glo 0
theorem Ctx.g_is_integer_in (T : Ctx w K mg) : mg "is_integer_in" = some (.ref (He.ga K "is_integer_in")) := T.glo 1
theorem Ctx.g_is_written_number (T : Ctx w K mg) : mg "is_written_number" = some (.ref (He.ga K "is_written_number")) := T.glo 2
theorem Ctx.g_is_name (T : Ctx w K mg) : mg "is_name" = some (.ref (He.ga K "is_name")) := T.glo 3
theorem Ctx.g_is_kind (T : Ctx w K mg) : mg "is_kind" = some (.ref (He.ga K "is_kind")) := T.glo 4
theorem Ctx.g_is_tuple_of (T : Ctx w K mg) : mg "is_tuple_of" = some (.ref (He.ga K "is_tuple_of")) := T.glo 5
theorem Ctx.g_is_list_of (T : Ctx w K mg) : mg "is_list_of" = some (.ref (He.ga K "is_list_of")) := T.glo 6
theorem Ctx.g_is_list_of_names (T : Ctx w K mg) : mg "is_list_of_names" = some (.ref (He.ga K "is_list_of_names")) := T.glo 7
theorem Ctx.g_is_word_tuple (T : Ctx w K mg) : mg "is_word_tuple" = some (.ref (He.ga K "is_word_tuple")) := T.glo 8
theorem Ctx.g_frozen (T : Ctx w K mg) : mg "frozen" = some (.ref (He.ga K "frozen")) := T.glo 9
theorem Ctx.g_are_named_kinds (T : Ctx w K mg) : mg "are_named_kinds" = some (.ref (He.ga K "are_named_kinds")) := T.glo 10
theorem Ctx.g_is_row (T : Ctx w K mg) : mg "is_row" = some (.ref (He.ga K "is_row")) := T.glo 11
theorem Ctx.g_fills (T : Ctx w K mg) : mg "_fills" = some (.ref (He.ga K "_fills")) := T.glo 12
theorem Ctx.g_row_sets (T : Ctx w K mg) : mg "row_sets" = some (.ref (He.ga K "row_sets")) := T.glo 13
theorem Ctx.g_row_reads (T : Ctx w K mg) : mg "row_reads" = some (.ref (He.ga K "row_reads")) := T.glo 14
theorem Ctx.g_row_kinds_fit (T : Ctx w K mg) : mg "row_kinds_fit" = some (.ref (He.ga K "row_kinds_fit")) := T.glo 15
theorem Ctx.g_names_in (T : Ctx w K mg) : mg "_names_in" = some (.ref (He.ga K "_names_in")) := T.glo 16
theorem Ctx.g_call_fits (T : Ctx w K mg) : mg "_call_fits" = some (.ref (He.ga K "_call_fits")) := T.glo 17
theorem Ctx.g_is_class (T : Ctx w K mg) : mg "_is_class" = some (.ref (He.ga K "_is_class")) := T.glo 18
theorem Ctx.g_is_head (T : Ctx w K mg) : mg "_is_head" = some (.ref (He.ga K "_is_head")) := T.glo 19
theorem Ctx.g_function_with (T : Ctx w K mg) : mg "_function_with" = some (.ref (He.ga K "_function_with")) := T.glo 20
theorem Ctx.g_wanted_in (T : Ctx w K mg) : mg "_wanted_in" = some (.ref (He.ga K "_wanted_in")) := T.glo 21
theorem Ctx.g_way_to_reader (T : Ctx w K mg) : mg "_way_to_reader" = some (.ref (He.ga K "_way_to_reader")) := T.glo 22
theorem Ctx.g_rows_behind (T : Ctx w K mg) : mg "_rows_behind" = some (.ref (He.ga K "_rows_behind")) := T.glo 23
theorem Ctx.g_L_well (T : Ctx w K mg) : mg "_law_well" = some (.ref (He.ga K "_law_well")) := T.glo 24
theorem Ctx.g_L_draw (T : Ctx w K mg) : mg "_law_draw" = some (.ref (He.ga K "_law_draw")) := T.glo 25
theorem Ctx.g_L_one (T : Ctx w K mg) : mg "_law_one" = some (.ref (He.ga K "_law_one")) := T.glo 26
theorem Ctx.g_L_names (T : Ctx w K mg) : mg "_law_names" = some (.ref (He.ga K "_law_names")) := T.glo 27
theorem Ctx.g_L_heads (T : Ctx w K mg) : mg "_law_heads" = some (.ref (He.ga K "_law_heads")) := T.glo 28
theorem Ctx.g_L_last (T : Ctx w K mg) : mg "_law_last" = some (.ref (He.ga K "_law_last")) := T.glo 29
theorem Ctx.g_L_plain (T : Ctx w K mg) : mg "_law_plain" = some (.ref (He.ga K "_law_plain")) := T.glo 30
theorem Ctx.g_L_functions (T : Ctx w K mg) : mg "_law_functions" = some (.ref (He.ga K "_law_functions")) := T.glo 31
theorem Ctx.g_L_classes (T : Ctx w K mg) : mg "_law_classes" = some (.ref (He.ga K "_law_classes")) := T.glo 32
theorem Ctx.g_L_sets (T : Ctx w K mg) : mg "_law_sets" = some (.ref (He.ga K "_law_sets")) := T.glo 33
theorem Ctx.g_L_reads (T : Ctx w K mg) : mg "_law_reads" = some (.ref (He.ga K "_law_reads")) := T.glo 34
theorem Ctx.g_L_next (T : Ctx w K mg) : mg "_law_next" = some (.ref (He.ga K "_law_next")) := T.glo 35
theorem Ctx.g_L_path (T : Ctx w K mg) : mg "_law_path" = some (.ref (He.ga K "_law_path")) := T.glo 36
theorem Ctx.g_wanted_at_call (T : Ctx w K mg) : mg "wanted_at_call" = some (.ref (He.ga K "wanted_at_call")) := T.glo 37
theorem Ctx.g_L_said (T : Ctx w K mg) : mg "_law_said" = some (.ref (He.ga K "_law_said")) := T.glo 38
theorem Ctx.g_L_right (T : Ctx w K mg) : mg "_law_right" = some (.ref (He.ga K "_law_right")) := T.glo 39
theorem Ctx.g_law (T : Ctx w K mg) : mg "law" = some (.ref (He.ga K "law")) := T.glo 40
theorem Ctx.f_isinstance (T : Ctx w K mg) : mg "isinstance" = none := T.free 41
theorem Ctx.f_int (T : Ctx w K mg) : mg "int" = none := T.free 42
theorem Ctx.f_bool (T : Ctx w K mg) : mg "bool" = none := T.free 43
theorem Ctx.f_str (T : Ctx w K mg) : mg "str" = none := T.free 44
theorem Ctx.f_list (T : Ctx w K mg) : mg "list" = none := T.free 45
theorem Ctx.f_tuple (T : Ctx w K mg) : mg "tuple" = none := T.free 46
theorem Ctx.f_len (T : Ctx w K mg) : mg "len" = none := T.free 47
theorem Ctx.f_all (T : Ctx w K mg) : mg "all" = none := T.free 48
theorem Ctx.f_any (T : Ctx w K mg) : mg "any" = none := T.free 49
theorem Ctx.f_zip (T : Ctx w K mg) : mg "zip" = none := T.free 50
theorem Ctx.f_enumerate (T : Ctx w K mg) : mg "enumerate" = none := T.free 51
theorem Ctx.f_dict (T : Ctx w K mg) : mg "dict" = none := T.free 52
theorem Ctx.f_sorted (T : Ctx w K mg) : mg "sorted" = none := T.free 53
theorem Ctx.f_range (T : Ctx w K mg) : mg "range" = none := T.free 54
theorem Ctx.f_min (T : Ctx w K mg) : mg "min" = none := T.free 55
theorem Ctx.i_GREATEST_WRITTEN (T : Ctx w K mg) : ∃ t, mg "GREATEST_WRITTEN" = some (.int 1000000000 t) := T.int 56
theorem Ctx.i_MOST_CLASSES (T : Ctx w K mg) : ∃ t, mg "MOST_CLASSES" = some (.int 6 t) := T.int 57
theorem Ctx.i_MOST_FIELDS (T : Ctx w K mg) : ∃ t, mg "MOST_FIELDS" = some (.int 4 t) := T.int 58
theorem Ctx.i_MOST_FUNCTIONS (T : Ctx w K mg) : ∃ t, mg "MOST_FUNCTIONS" = some (.int 6 t) := T.int 59
theorem Ctx.i_MOST_PARAMETERS (T : Ctx w K mg) : ∃ t, mg "MOST_PARAMETERS" = some (.int 4 t) := T.int 60
theorem Ctx.i_MOST_OTHERS (T : Ctx w K mg) : ∃ t, mg "MOST_OTHERS" = some (.int 8 t) := T.int 61
theorem Ctx.i_MOST_ROWS (T : Ctx w K mg) : ∃ t, mg "MOST_ROWS" = some (.int 40 t) := T.int 62
theorem Ctx.s_LETTERS (T : Ctx w K mg) : ∃ t, mg "LETTERS" = some (.str "abcdefghijklmnopqrstuvwxyz" t) := T.str 63
theorem Ctx.s_MARKS (T : Ctx w K mg) : ∃ t, mg "MARKS" = some (.str "abcdefghijklmnopqrstuvwxyz0123456789" t) := T.str 64
theorem Ctx.g_InvalidNumber (T : Ctx w K mg) : mg "InvalidNumber" = some (.ref (He.ga K "InvalidNumber")) := T.glo 65
theorem Ctx.g_CodeError (T : Ctx w K mg) : mg "CodeError" = some (.ref (He.ga K "CodeError")) := T.glo 66
theorem Ctx.g_Function (T : Ctx w K mg) : mg "Function" = some (.ref (He.ga K "Function")) := T.glo 68
theorem Ctx.g_Source (T : Ctx w K mg) : mg "Source" = some (.ref (He.ga K "Source")) := T.glo 69
theorem Ctx.g_KINDS (T : Ctx w K mg) : mg "KINDS" = some (.ref (He.ga K "KINDS")) := T.glo 70
theorem Ctx.g_NUMBER_WORDS (T : Ctx w K mg) : mg "NUMBER_WORDS" = some (.ref (He.ga K "NUMBER_WORDS")) := T.glo 71
theorem Ctx.g_ROW_WORDS (T : Ctx w K mg) : mg "ROW_WORDS" = some (.ref (He.ga K "ROW_WORDS")) := T.glo 72
theorem Ctx.g_ROLES (T : Ctx w K mg) : mg "ROLES" = some (.ref (He.ga K "ROLES")) := T.glo 73
theorem Ctx.c_Function (T : Ctx w K mg) : Cls K (He.ga K "Function") := He.cls_ok (T.says.d.fact 74 rfl)
theorem Ctx.k_Function (T : Ctx w K mg) : Mk K (He.ga K "Function") (He.ma K (He.ga K "Function") "__init__") := He.mkr_ok (T.says.d.fact 75 rfl)
theorem Ctx.n_Function_name (T : Ctx w K mg) : NoAttr K (He.ga K "Function") "name" := He.noat_ok (T.says.d.fact 76 rfl)
theorem Ctx.n_Function_params (T : Ctx w K mg) : NoAttr K (He.ga K "Function") "params" := He.noat_ok (T.says.d.fact 77 rfl)
theorem Ctx.n_Function_others (T : Ctx w K mg) : NoAttr K (He.ga K "Function") "others" := He.noat_ok (T.says.d.fact 78 rfl)
theorem Ctx.n_Function_result (T : Ctx w K mg) : NoAttr K (He.ga K "Function") "result" := He.noat_ok (T.says.d.fact 79 rfl)
theorem Ctx.n_Function_variables (T : Ctx w K mg) : NoAttr K (He.ga K "Function") "variables" := He.noat_ok (T.says.d.fact 80 rfl)
theorem Ctx.n_Function_body (T : Ctx w K mg) : NoAttr K (He.ga K "Function") "body" := He.noat_ok (T.says.d.fact 81 rfl)
theorem Ctx.c_Source (T : Ctx w K mg) : Cls K (He.ga K "Source") := He.cls_ok (T.says.d.fact 82 rfl)
theorem Ctx.k_Source (T : Ctx w K mg) : Mk K (He.ga K "Source") (He.ma K (He.ga K "Source") "__init__") := He.mkr_ok (T.says.d.fact 83 rfl)
theorem Ctx.n_Source_field_kinds (T : Ctx w K mg) : NoAttr K (He.ga K "Source") "_field_kinds" := He.noat_ok (T.says.d.fact 84 rfl)
theorem Ctx.n_Source_fields (T : Ctx w K mg) : NoAttr K (He.ga K "Source") "_fields" := He.noat_ok (T.says.d.fact 85 rfl)
theorem Ctx.n_Source_functions (T : Ctx w K mg) : NoAttr K (He.ga K "Source") "_functions" := He.noat_ok (T.says.d.fact 86 rfl)
theorem Ctx.m_Function_called_at (T : Ctx w K mg) : Meth K (He.ga K "Function") "called_at" (He.ma K (He.ga K "Function") "called_at") := He.meth_ok (T.says.d.fact 87 rfl)
theorem Ctx.m_Function_has_row (T : Ctx w K mg) : Meth K (He.ga K "Function") "has_row" (He.ma K (He.ga K "Function") "has_row") := He.meth_ok (T.says.d.fact 88 rfl)
theorem Ctx.m_Source_take_classes (T : Ctx w K mg) : Meth K (He.ga K "Source") "_take_classes" (He.ma K (He.ga K "Source") "_take_classes") := He.meth_ok (T.says.d.fact 89 rfl)
theorem Ctx.m_Source_kinds_differ (T : Ctx w K mg) : Meth K (He.ga K "Source") "_kinds_differ" (He.ma K (He.ga K "Source") "_kinds_differ") := He.meth_ok (T.says.d.fact 90 rfl)
theorem Ctx.m_Source_take_heads (T : Ctx w K mg) : Meth K (He.ga K "Source") "_take_heads" (He.ma K (He.ga K "Source") "_take_heads") := He.meth_ok (T.says.d.fact 91 rfl)
theorem Ctx.m_Source_take_rows (T : Ctx w K mg) : Meth K (He.ga K "Source") "_take_rows" (He.ma K (He.ga K "Source") "_take_rows") := He.meth_ok (T.says.d.fact 92 rfl)
theorem Ctx.m_Source_is_row_of (T : Ctx w K mg) : Meth K (He.ga K "Source") "_is_row_of" (He.ma K (He.ga K "Source") "_is_row_of") := He.meth_ok (T.says.d.fact 93 rfl)
theorem Ctx.m_Source_function_at (T : Ctx w K mg) : Meth K (He.ga K "Source") "function_at" (He.ma K (He.ga K "Source") "function_at") := He.meth_ok (T.says.d.fact 94 rfl)
theorem Ctx.m_Source_fields_of (T : Ctx w K mg) : Meth K (He.ga K "Source") "fields_of" (He.ma K (He.ga K "Source") "fields_of") := He.meth_ok (T.says.d.fact 95 rfl)
theorem Ctx.m_Source_field_kind (T : Ctx w K mg) : Meth K (He.ga K "Source") "field_kind" (He.ma K (He.ga K "Source") "field_kind") := He.meth_ok (T.says.d.fact 96 rfl)
theorem Ctx.D_is_integer (T : Ctx w K mg) : ∃ fd, FunD K "is_integer" "is_integer" (defArgs s_is_integer) (defBody s_is_integer) (defScope s_is_integer) [] [] (He.ga K "is_integer") fd := T.says.d.def_ 0 (d := d_is_integer) rfl
theorem Ctx.D_is_integer_in (T : Ctx w K mg) : ∃ fd, FunD K "is_integer_in" "is_integer_in" (defArgs s_is_integer_in) (defBody s_is_integer_in) (defScope s_is_integer_in) [] [] (He.ga K "is_integer_in") fd := T.says.d.def_ 1 (d := d_is_integer_in) rfl
theorem Ctx.D_is_written_number (T : Ctx w K mg) : ∃ fd, FunD K "is_written_number" "is_written_number" (defArgs s_is_written_number) (defBody s_is_written_number) (defScope s_is_written_number) [] [] (He.ga K "is_written_number") fd := T.says.d.def_ 2 (d := d_is_written_number) rfl
theorem Ctx.D_is_name (T : Ctx w K mg) : ∃ fd, FunD K "is_name" "is_name" (defArgs s_is_name) (defBody s_is_name) (defScope s_is_name) [] [] (He.ga K "is_name") fd := T.says.d.def_ 3 (d := d_is_name) rfl
theorem Ctx.D_is_kind (T : Ctx w K mg) : ∃ fd, FunD K "is_kind" "is_kind" (defArgs s_is_kind) (defBody s_is_kind) (defScope s_is_kind) [] [] (He.ga K "is_kind") fd := T.says.d.def_ 4 (d := d_is_kind) rfl
theorem Ctx.D_is_tuple_of (T : Ctx w K mg) : ∃ fd, FunD K "is_tuple_of" "is_tuple_of" (defArgs s_is_tuple_of) (defBody s_is_tuple_of) (defScope s_is_tuple_of) [] [] (He.ga K "is_tuple_of") fd := T.says.d.def_ 5 (d := d_is_tuple_of) rfl
theorem Ctx.D_is_list_of (T : Ctx w K mg) : ∃ fd, FunD K "is_list_of" "is_list_of" (defArgs s_is_list_of) (defBody s_is_list_of) (defScope s_is_list_of) [] [] (He.ga K "is_list_of") fd := T.says.d.def_ 6 (d := d_is_list_of) rfl
theorem Ctx.D_is_list_of_names (T : Ctx w K mg) : ∃ fd, FunD K "is_list_of_names" "is_list_of_names" (defArgs s_is_list_of_names) (defBody s_is_list_of_names) (defScope s_is_list_of_names) [] [] (He.ga K "is_list_of_names") fd := T.says.d.def_ 7 (d := d_is_list_of_names) rfl
theorem Ctx.D_is_word_tuple (T : Ctx w K mg) : ∃ fd, FunD K "is_word_tuple" "is_word_tuple" (defArgs s_is_word_tuple) (defBody s_is_word_tuple) (defScope s_is_word_tuple) [] [] (He.ga K "is_word_tuple") fd := T.says.d.def_ 8 (d := d_is_word_tuple) rfl
theorem Ctx.D_frozen (T : Ctx w K mg) : ∃ fd, FunD K "frozen" "frozen" (defArgs s_frozen) (defBody s_frozen) (defScope s_frozen) [] [] (He.ga K "frozen") fd := T.says.d.def_ 9 (d := d_frozen) rfl
theorem Ctx.D_are_named_kinds (T : Ctx w K mg) : ∃ fd, FunD K "are_named_kinds" "are_named_kinds" (defArgs s_are_named_kinds) (defBody s_are_named_kinds) (defScope s_are_named_kinds) [] [] (He.ga K "are_named_kinds") fd := T.says.d.def_ 10 (d := d_are_named_kinds) rfl
theorem Ctx.D_is_row (T : Ctx w K mg) : ∃ fd, FunD K "is_row" "is_row" (defArgs s_is_row) (defBody s_is_row) (defScope s_is_row) [] [] (He.ga K "is_row") fd := T.says.d.def_ 11 (d := d_is_row) rfl
theorem Ctx.D_fills (T : Ctx w K mg) : ∃ fd, FunD K "_fills" "_fills" (defArgs s_fills) (defBody s_fills) (defScope s_fills) [] [] (He.ga K "_fills") fd := T.says.d.def_ 12 (d := d_fills) rfl
theorem Ctx.D_row_sets (T : Ctx w K mg) : ∃ fd, FunD K "row_sets" "row_sets" (defArgs s_row_sets) (defBody s_row_sets) (defScope s_row_sets) [] [] (He.ga K "row_sets") fd := T.says.d.def_ 13 (d := d_row_sets) rfl
theorem Ctx.D_row_reads (T : Ctx w K mg) : ∃ fd, FunD K "row_reads" "row_reads" (defArgs s_row_reads) (defBody s_row_reads) (defScope s_row_reads) [] [] (He.ga K "row_reads") fd := T.says.d.def_ 14 (d := d_row_reads) rfl
theorem Ctx.D_row_kinds_fit (T : Ctx w K mg) : ∃ fd, FunD K "row_kinds_fit" "row_kinds_fit" (defArgs s_row_kinds_fit) (defBody s_row_kinds_fit) (defScope s_row_kinds_fit) [] [] (He.ga K "row_kinds_fit") fd := T.says.d.def_ 15 (d := d_row_kinds_fit) rfl
theorem Ctx.D_names_in (T : Ctx w K mg) : ∃ fd, FunD K "_names_in" "_names_in" (defArgs s_names_in) (defBody s_names_in) (defScope s_names_in) [] [] (He.ga K "_names_in") fd := T.says.d.def_ 16 (d := d_names_in) rfl
theorem Ctx.D_call_fits (T : Ctx w K mg) : ∃ fd, FunD K "_call_fits" "_call_fits" (defArgs s_call_fits) (defBody s_call_fits) (defScope s_call_fits) [] [] (He.ga K "_call_fits") fd := T.says.d.def_ 17 (d := d_call_fits) rfl
theorem Ctx.D_is_class (T : Ctx w K mg) : ∃ fd, FunD K "_is_class" "_is_class" (defArgs s_is_class) (defBody s_is_class) (defScope s_is_class) [] [] (He.ga K "_is_class") fd := T.says.d.def_ 18 (d := d_is_class) rfl
theorem Ctx.D_is_head (T : Ctx w K mg) : ∃ fd, FunD K "_is_head" "_is_head" (defArgs s_is_head) (defBody s_is_head) (defScope s_is_head) [] [] (He.ga K "_is_head") fd := T.says.d.def_ 19 (d := d_is_head) rfl
theorem Ctx.D_function_with (T : Ctx w K mg) : ∃ fd, FunD K "_function_with" "_function_with" (defArgs s_function_with) (defBody s_function_with) (defScope s_function_with) [] [] (He.ga K "_function_with") fd := T.says.d.def_ 20 (d := d_function_with) rfl
theorem Ctx.D_wanted_in (T : Ctx w K mg) : ∃ fd, FunD K "_wanted_in" "_wanted_in" (defArgs s_wanted_in) (defBody s_wanted_in) (defScope s_wanted_in) [] [] (He.ga K "_wanted_in") fd := T.says.d.def_ 21 (d := d_wanted_in) rfl
theorem Ctx.D_way_to_reader (T : Ctx w K mg) : ∃ fd, FunD K "_way_to_reader" "_way_to_reader" (defArgs s_way_to_reader) (defBody s_way_to_reader) (defScope s_way_to_reader) [] [] (He.ga K "_way_to_reader") fd := T.says.d.def_ 22 (d := d_way_to_reader) rfl
theorem Ctx.D_rows_behind (T : Ctx w K mg) : ∃ fd, FunD K "_rows_behind" "_rows_behind" (defArgs s_rows_behind) (defBody s_rows_behind) (defScope s_rows_behind) [] [] (He.ga K "_rows_behind") fd := T.says.d.def_ 23 (d := d_rows_behind) rfl
theorem Ctx.D_L_well (T : Ctx w K mg) : ∃ fd, FunD K "_law_well" "_law_well" (defArgs s_L_well) (defBody s_L_well) (defScope s_L_well) [] [] (He.ga K "_law_well") fd := T.says.d.def_ 24 (d := d_L_well) rfl
theorem Ctx.D_L_draw (T : Ctx w K mg) : ∃ fd, FunD K "_law_draw" "_law_draw" (defArgs s_L_draw) (defBody s_L_draw) (defScope s_L_draw) [] [] (He.ga K "_law_draw") fd := T.says.d.def_ 25 (d := d_L_draw) rfl
theorem Ctx.D_L_one (T : Ctx w K mg) : ∃ fd, FunD K "_law_one" "_law_one" (defArgs s_L_one) (defBody s_L_one) (defScope s_L_one) [] [] (He.ga K "_law_one") fd := T.says.d.def_ 26 (d := d_L_one) rfl
theorem Ctx.D_L_names (T : Ctx w K mg) : ∃ fd, FunD K "_law_names" "_law_names" (defArgs s_L_names) (defBody s_L_names) (defScope s_L_names) [] [] (He.ga K "_law_names") fd := T.says.d.def_ 27 (d := d_L_names) rfl
theorem Ctx.D_L_heads (T : Ctx w K mg) : ∃ fd, FunD K "_law_heads" "_law_heads" (defArgs s_L_heads) (defBody s_L_heads) (defScope s_L_heads) [] [] (He.ga K "_law_heads") fd := T.says.d.def_ 28 (d := d_L_heads) rfl
theorem Ctx.D_L_last (T : Ctx w K mg) : ∃ fd, FunD K "_law_last" "_law_last" (defArgs s_L_last) (defBody s_L_last) (defScope s_L_last) [] [] (He.ga K "_law_last") fd := T.says.d.def_ 29 (d := d_L_last) rfl
theorem Ctx.D_L_plain (T : Ctx w K mg) : ∃ fd, FunD K "_law_plain" "_law_plain" (defArgs s_L_plain) (defBody s_L_plain) (defScope s_L_plain) [] [] (He.ga K "_law_plain") fd := T.says.d.def_ 30 (d := d_L_plain) rfl
theorem Ctx.D_L_functions (T : Ctx w K mg) : ∃ fd, FunD K "_law_functions" "_law_functions" (defArgs s_L_functions) (defBody s_L_functions) (defScope s_L_functions) [] [] (He.ga K "_law_functions") fd := T.says.d.def_ 31 (d := d_L_functions) rfl
theorem Ctx.D_L_classes (T : Ctx w K mg) : ∃ fd, FunD K "_law_classes" "_law_classes" (defArgs s_L_classes) (defBody s_L_classes) (defScope s_L_classes) [] [] (He.ga K "_law_classes") fd := T.says.d.def_ 32 (d := d_L_classes) rfl
theorem Ctx.D_L_sets (T : Ctx w K mg) : ∃ fd, FunD K "_law_sets" "_law_sets" (defArgs s_L_sets) (defBody s_L_sets) (defScope s_L_sets) [] [] (He.ga K "_law_sets") fd := T.says.d.def_ 33 (d := d_L_sets) rfl
theorem Ctx.D_L_reads (T : Ctx w K mg) : ∃ fd, FunD K "_law_reads" "_law_reads" (defArgs s_L_reads) (defBody s_L_reads) (defScope s_L_reads) [] [] (He.ga K "_law_reads") fd := T.says.d.def_ 34 (d := d_L_reads) rfl
theorem Ctx.D_L_next (T : Ctx w K mg) : ∃ fd, FunD K "_law_next" "_law_next" (defArgs s_L_next) (defBody s_L_next) (defScope s_L_next) [] [] (He.ga K "_law_next") fd := T.says.d.def_ 35 (d := d_L_next) rfl
theorem Ctx.D_L_path (T : Ctx w K mg) : ∃ fd, FunD K "_law_path" "_law_path" (defArgs s_L_path) (defBody s_L_path) (defScope s_L_path) [] [] (He.ga K "_law_path") fd := T.says.d.def_ 36 (d := d_L_path) rfl
theorem Ctx.D_wanted_at_call (T : Ctx w K mg) : ∃ fd, FunD K "wanted_at_call" "wanted_at_call" (defArgs s_wanted_at_call) (defBody s_wanted_at_call) (defScope s_wanted_at_call) [] [] (He.ga K "wanted_at_call") fd := T.says.d.def_ 37 (d := d_wanted_at_call) rfl
theorem Ctx.D_L_said (T : Ctx w K mg) : ∃ fd, FunD K "_law_said" "_law_said" (defArgs s_L_said) (defBody s_L_said) (defScope s_L_said) [] [] (He.ga K "_law_said") fd := T.says.d.def_ 38 (d := d_L_said) rfl
theorem Ctx.D_L_right (T : Ctx w K mg) : ∃ fd, FunD K "_law_right" "_law_right" (defArgs s_L_right) (defBody s_L_right) (defScope s_L_right) [] [] (He.ga K "_law_right") fd := T.says.d.def_ 39 (d := d_L_right) rfl
theorem Ctx.D_law (T : Ctx w K mg) : ∃ fd, FunD K "law" "law" (defArgs s_law) (defBody s_law) (defScope s_law) [] [] (He.ga K "law") fd := T.says.d.def_ 40 (d := d_law) rfl
theorem Ctx.D_Function_init (T : Ctx w K mg) : ∃ fd, FunD K "__init__" "Function.__init__" (defArgs s_Function_init) (defBody s_Function_init) (defScope s_Function_init) [] [] (He.ma K (He.ga K "Function") "__init__") fd := T.says.d.def_ 41 (d := d_Function_init) rfl
theorem Ctx.D_Function_called_at (T : Ctx w K mg) : ∃ fd, FunD K "called_at" "Function.called_at" (defArgs s_Function_called_at) (defBody s_Function_called_at) (defScope s_Function_called_at) [] [] (He.ma K (He.ga K "Function") "called_at") fd := T.says.d.def_ 42 (d := d_Function_called_at) rfl
theorem Ctx.D_InvalidNumber_init (T : Ctx w K mg) : ∃ fd, FunD K "__init__" "InvalidNumber.__init__" (defArgs s_InvalidNumber_init) (defBody s_InvalidNumber_init) (defScope s_InvalidNumber_init) [] [] (He.ma K (He.ga K "InvalidNumber") "__init__") fd := T.says.d.def_ 43 (d := d_InvalidNumber_init) rfl
theorem Ctx.D_Function_has_row (T : Ctx w K mg) : ∃ fd, FunD K "has_row" "Function.has_row" (defArgs s_Function_has_row) (defBody s_Function_has_row) (defScope s_Function_has_row) [] [] (He.ma K (He.ga K "Function") "has_row") fd := T.says.d.def_ 44 (d := d_Function_has_row) rfl
theorem Ctx.D_Source_init (T : Ctx w K mg) : ∃ fd, FunD K "__init__" "Source.__init__" (defArgs s_Source_init) (defBody s_Source_init) (defScope s_Source_init) [] [] (He.ma K (He.ga K "Source") "__init__") fd := T.says.d.def_ 45 (d := d_Source_init) rfl
theorem Ctx.D_Source_take_classes (T : Ctx w K mg) : ∃ fd, FunD K "_take_classes" "Source._take_classes" (defArgs s_Source_take_classes) (defBody s_Source_take_classes) (defScope s_Source_take_classes) [] [] (He.ma K (He.ga K "Source") "_take_classes") fd := T.says.d.def_ 46 (d := d_Source_take_classes) rfl
theorem Ctx.D_Source_kinds_differ (T : Ctx w K mg) : ∃ fd, FunD K "_kinds_differ" "Source._kinds_differ" (defArgs s_Source_kinds_differ) (defBody s_Source_kinds_differ) (defScope s_Source_kinds_differ) [] [] (He.ma K (He.ga K "Source") "_kinds_differ") fd := T.says.d.def_ 47 (d := d_Source_kinds_differ) rfl
theorem Ctx.D_Source_take_heads (T : Ctx w K mg) : ∃ fd, FunD K "_take_heads" "Source._take_heads" (defArgs s_Source_take_heads) (defBody s_Source_take_heads) (defScope s_Source_take_heads) [] [] (He.ma K (He.ga K "Source") "_take_heads") fd := T.says.d.def_ 48 (d := d_Source_take_heads) rfl
theorem Ctx.D_Source_take_rows (T : Ctx w K mg) : ∃ fd, FunD K "_take_rows" "Source._take_rows" (defArgs s_Source_take_rows) (defBody s_Source_take_rows) (defScope s_Source_take_rows) [] [] (He.ma K (He.ga K "Source") "_take_rows") fd := T.says.d.def_ 49 (d := d_Source_take_rows) rfl
theorem Ctx.D_Source_is_row_of (T : Ctx w K mg) : ∃ fd, FunD K "_is_row_of" "Source._is_row_of" (defArgs s_Source_is_row_of) (defBody s_Source_is_row_of) (defScope s_Source_is_row_of) [] [] (He.ma K (He.ga K "Source") "_is_row_of") fd := T.says.d.def_ 50 (d := d_Source_is_row_of) rfl
theorem Ctx.D_Source_function_at (T : Ctx w K mg) : ∃ fd, FunD K "function_at" "Source.function_at" (defArgs s_Source_function_at) (defBody s_Source_function_at) (defScope s_Source_function_at) [] [] (He.ma K (He.ga K "Source") "function_at") fd := T.says.d.def_ 51 (d := d_Source_function_at) rfl
theorem Ctx.D_Source_fields_of (T : Ctx w K mg) : ∃ fd, FunD K "fields_of" "Source.fields_of" (defArgs s_Source_fields_of) (defBody s_Source_fields_of) (defScope s_Source_fields_of) [] [] (He.ma K (He.ga K "Source") "fields_of") fd := T.says.d.def_ 52 (d := d_Source_fields_of) rfl
theorem Ctx.D_Source_field_kind (T : Ctx w K mg) : ∃ fd, FunD K "field_kind" "Source.field_kind" (defArgs s_Source_field_kind) (defBody s_Source_field_kind) (defScope s_Source_field_kind) [] [] (He.ma K (He.ga K "Source") "field_kind") fd := T.says.d.def_ 53 (d := d_Source_field_kind) rfl
theorem Ctx.kinds (T : Ctx w K mg) (H : Hp) : SqT K H (He.ga K "KINDS") (v_KINDS.map (He.Dv.v K)) := He.tupB_ok (He.ba T.more).1 H
theorem Ctx.numwords (T : Ctx w K mg) (H : Hp) : SqT K H (He.ga K "NUMBER_WORDS") (v_NUMBER_WORDS.map (He.Dv.v K)) := He.tupB_ok (He.ba (He.ba T.more).2).1 H
theorem Ctx.rowwords (T : Ctx w K mg) (H : Hp) : SqT K H (He.ga K "ROW_WORDS") (v_ROW_WORDS.map (He.Dv.v K)) := He.tupB_ok (He.ba (He.ba (He.ba T.more).2).2).1 H
theorem tupAt_ok {K : PySem.W.Frag} {a : Addr} {vs : List V} (h : tupAt K a vs = true) (H : Hp) : SqT K H a vs := by
  unfold tupAt at h
  cases q : K.lookup a with
  | none =>
    rw [q] at h
    cases h
  | some o =>
    obtain ⟨oc, od, dt, osl⟩ := o
    rw [q] at h
    cases oc with
    | type c =>
      cases dt with
      | seq its n =>
        obtain ⟨h1, h2⟩ := He.ba (show (decide (c = "tuple") && (decide (its.size ≤ sizeLine) && He.relAll vs its.toList)) = true from h)
        obtain ⟨h3, h4⟩ := He.ba h2
        exact .inr ⟨_, its, n, q, congrArg Value.type (of_decide_eq_true h1), rfl, of_decide_eq_true h3, He.relAll_ok h4⟩
      | _ => cases h
    | _ => cases dt <;> cases h
theorem Ctx.rolesD (T : Ctx w K mg) : ∃ es n, KDict K w (He.ga K "ROLES") es n := T.says.tab 0 (t := (fun K => He.ga K "ROLES", roles.map (·.1))) rfl
theorem Ctx.role (T : Ctx w K mg) {x : Str} {rs : List Str} (m : (x, rs) ∈ roles) (H : Hp) : PySem.W.nsIn K (He.ga K "ROLES") x = some (some (.ref (rolA K x))) ∧ SqT K H (rolA K x) (rs.map V.str) := by
  have e := List.all_eq_true.mp (He.ba (He.ba (He.ba (He.ba T.more).2).2).2).1 (x, rs) m
  obtain ⟨e1, e2⟩ := He.ba (show (He.eqO (PySem.W.nsIn K (He.ga K "ROLES") x) (some (some (.ref (rolA K x)))) && tupAt K (rolA K x) (rs.map V.str)) = true from e)
  exact ⟨He.eqO_ok e1, tupAt_ok e2 H⟩
theorem Ctx.isSource (T : Ctx w K mg) {H : Hp} {p dx : Addr} {fs : List (Str × V)} (h : H p = some (.ins (He.ga K "Source") dx fs)) : TyX K H (.ref p) (.ref (He.ga K "Source")) ∧ PySem.W.kitOne K (.ref (He.ga K "Source")) (.ref (He.ga K "Source")) = some true := by
  have e := (He.ba (He.ba (He.ba (He.ba (He.ba T.more).2).2).2).2).1
  obtain ⟨e1, e⟩ := He.ba (show (He.eqO (PySem.W.findIn K (.ref (He.ga K "Source")) "__class__") (some (some (.builtin "object.__class__"))) && (He.eqO (PySem.W.specialIn K (.builtin "object.__class__") "__get__") (some (some (.builtin "getset_descriptor.__get__"))) && (decide (PySem.W.takesIn K (.builtin "object.__class__") = some true) && (decide (PySem.W.mroIn K (He.ga K "Source") (.type "object") = some true) && decide (PySem.W.kitOne K (.ref (He.ga K "Source")) (.ref (He.ga K "Source")) = some true))))) = true from e)
  obtain ⟨e2, e⟩ := He.ba e
  obtain ⟨e3, e⟩ := He.ba e
  obtain ⟨e4, e5⟩ := He.ba e
  exact ⟨.base (.ins h T.c_Source (He.eqO_ok e1) (He.eqO_ok e2) (of_decide_eq_true e3) (of_decide_eq_true e4)), of_decide_eq_true e5⟩
end
end W16
set_option Elab.async false
set_option linter.all false
set_option maxRecDepth 100000
set_option maxHeartbeats 4000000
namespace W16
open PySem PySem.Spec PyProof.Rows L2
/-! ### heaps that grow -/
theorem Same.new {H : Hp} {p : Addr} {o : HO} (h : H p = none) : Same H (upd H p o) := fun a u e => by
  rw [upd_ne (ne_of_none e h)]
  exact e
theorem Same.mut {H H' : Hp} {p : Addr} {o : HO} (e : Same H H') (h : H p = none) : Same H (upd H' p o) := fun a u ha => by
  rw [upd_ne (ne_of_none ha h)]
  exact e a u ha
theorem Same.tup {K : PySem.W.Frag} {H H' : Hp} {a : Addr} {xs : List V} (e : Same H H') (h : SqT K H a xs) : SqT K H' a xs := by
  rcases h with (h | ⟨o, h⟩) | h
  · exact .inl (.inl (e _ _ h))
  · exact .inl (.inr ⟨o, e _ _ h⟩)
  · exact .inr h
theorem sz_of {n : Nat} (h : n ≤ 100000) : n ≤ sizeLine := Nat.le_trans h (by decide)
theorem sz_lt {n : Nat} (h : n < 100000) : n < sizeLine := Nat.lt_of_lt_of_le h (by decide)
/-- a comprehension whose elements leave what stood as it was: the list of what they give -/
theorem lc_pure {J : It} {n : Nat} {G : Hp → Prop} {Y : Nat → Hp → V → Hp → Prop} (w : Walk J n G Y) {g : TG} {te : TE} {vs : List Nat} {σ : L2.St} {H0 : Hp} {D : Addr} {Qd : Hp → Prop} (hD : H0 D = none) (f : Nat → V) (hn : n < 100000)
    (hG : ∀ H, Same H0 H → G H)
    (hs : ∀ i H x H', i < n → Same H0 H → Y i H x H' → ∀ Qe : VK, (∀ H4, Same H H4 → Qe (f i) H4) → g x (wipe σ vs) H' fun σ2 H2 => wipe σ2 vs = wipe σ vs ∧ te σ2 H2 Qe)
    (hd : ∀ H, Same H0 H → H D = some (.lst ((List.range n).map f)) → Qd H) :
    ∃ W : Nat → Nat → Hp → Prop, (∃ m, W 0 m (upd H0 D (.lst []))) ∧ ∀ i m H, W i m H →
      (J.stop i H ∧ Qd H) ∨ (J.go i H ∧ ∃ Nx : Hp → Prop, (∀ H', Nx H' → ∃ m', m' < m ∧ W (i + 1) m' H') ∧ ∀ x H', J.yld i H x H' → g x (wipe σ vs) H' fun σ2 H2 => wipe σ2 vs = wipe σ vs ∧ tYes σ2 H2 fun b H3 =>
        if b = true then te σ2 H3 fun y H4 => ∃ acc, H4 D = some (.lst acc) ∧ acc.length < sizeLine ∧ Nx (upd H4 D (.lst (acc ++ [y]))) else Nx H3) := by
  refine lc_it w (fun i H => Same H0 H ∧ H D = some (.lst ((List.range i).map f))) ⟨Same.new hD, upd_same⟩ (fun i H _ p => hG H p.1) (fun i x H H' hi p y => ?_) (fun H p => hd H p.1 p.2)
  have q := hs i H x H' hi p.1 y (fun y H4 => ∃ acc, H4 D = some (.lst acc) ∧ acc.length < sizeLine ∧ (Same H0 (upd H4 D (.lst (acc ++ [y]))) ∧ upd H4 D (.lst (acc ++ [y])) D = some (.lst ((List.range (i + 1)).map f)))) (fun H4 s4 => ?_)
  · exact q
  · refine ⟨_, s4 _ _ p.2, sz_lt ?_, Same.mut (p.1.trans s4) hD, ?_⟩
    · rw [List.length_map, List.length_range]
      exact Nat.lt_trans hi hn
    · rw [upd_same, List.range_succ, List.map_append]
      rfl
theorem qT {Q : VK} {H : Hp} {b : Bool} (e : b = true) (k : Q (.bl true) H) : Q (.bl b) H := by
  rw [e]
  exact k
theorem qF {Q : VK} {H : Hp} {b : Bool} (e : b = false) (k : Q (.bl false) H) : Q (.bl b) H := by
  rw [e]
  exact k
theorem ifT {b : Bool} {A B : Prop} (e : b = true) (h : A) : if b = true then A else B := by
  rw [e]
  exact iteT h
theorem ifF {b : Bool} {A B : Prop} (e : b = false) (h : B) : if b = true then A else B := by
  rw [e]
  exact iteF h
theorem at0 {v : V} {xs : List V} : atI (v :: xs) 0 = some v := atI_nat (j := 0) rfl
theorem at1 {a v : V} {xs : List V} : atI (a :: v :: xs) 1 = some v := atI_nat (j := 1) rfl
theorem at2 {a b v : V} {xs : List V} : atI (a :: b :: v :: xs) 2 = some v := atI_nat (j := 2) rfl
theorem at3 {a b c v : V} {xs : List V} : atI (a :: b :: c :: v :: xs) 3 = some v := atI_nat (j := 3) rfl
theorem at4 {a b c d v : V} {xs : List V} : atI (a :: b :: c :: d :: v :: xs) 4 = some v := atI_nat (j := 4) rfl
/-- .. whose elements are new tuples -/
theorem lc_tups {J : It} {n : Nat} {G : Hp → Prop} {Y : Nat → Hp → V → Hp → Prop} (w : Walk J n G Y) {g : TG} {te : TE} {vs : List Nat} {σ : L2.St} {H0 : Hp} {D : Addr} {Qd : Hp → Prop} (hD : H0 D = none) (f : Nat → List V) (hn : n < 100000)
    (hG : ∀ H, Same H0 H → G H)
    (hs : ∀ i H x H', i < n → Same H0 H → Y i H x H' → ∀ Qe : VK, (∀ q H4, Same H H4 → H4 q = some (.tup (f i)) → Qe (.ref q) H4) → g x (wipe σ vs) H' fun σ2 H2 => wipe σ2 vs = wipe σ vs ∧ te σ2 H2 Qe)
    (hd : ∀ (H : Hp) (qs : List Addr), Same H0 H → qs.length = n → (∀ (i : Nat) (q : Addr), qs[i]? = some q → H q = some (.tup (f i))) → H D = some (.lst (qs.map V.ref)) → Qd H) :
    ∃ W : Nat → Nat → Hp → Prop, (∃ m, W 0 m (upd H0 D (.lst []))) ∧ ∀ i m H, W i m H →
      (J.stop i H ∧ Qd H) ∨ (J.go i H ∧ ∃ Nx : Hp → Prop, (∀ H', Nx H' → ∃ m', m' < m ∧ W (i + 1) m' H') ∧ ∀ x H', J.yld i H x H' → g x (wipe σ vs) H' fun σ2 H2 => wipe σ2 vs = wipe σ vs ∧ tYes σ2 H2 fun b H3 =>
        if b = true then te σ2 H3 fun y H4 => ∃ acc, H4 D = some (.lst acc) ∧ acc.length < sizeLine ∧ Nx (upd H4 D (.lst (acc ++ [y]))) else Nx H3) := by
  refine lc_it w (fun i H => Same H0 H ∧ ∃ qs : List Addr, qs.length = i ∧ (∀ (j : Nat) (q : Addr), qs[j]? = some q → H q = some (.tup (f j))) ∧ H D = some (.lst (qs.map V.ref))) ⟨Same.new hD, [], rfl, fun j q e => by simp at e, upd_same⟩ (fun i H _ p => hG H p.1) (fun i x H H' hi p y => ?_) (fun H p => ?_)
  · obtain ⟨s1, qs, hl, hq, hDD⟩ := p
    have q := hs i H x H' hi s1 y (fun y H4 => ∃ acc, H4 D = some (.lst acc) ∧ acc.length < sizeLine ∧ (Same H0 (upd H4 D (.lst (acc ++ [y]))) ∧ ∃ qs : List Addr, qs.length = i + 1 ∧ (∀ (j : Nat) (q : Addr), qs[j]? = some q → upd H4 D (.lst (acc ++ [y])) q = some (.tup (f j))) ∧ upd H4 D (.lst (acc ++ [y])) D = some (.lst (qs.map V.ref)))) (fun q H4 s4 hq4 => ?_)
    · exact q
    · have h4 := s4 _ _ hDD
      refine ⟨_, h4, sz_lt ?_, Same.mut (s1.trans s4) hD, qs ++ [q], by rw [List.length_append, hl]; rfl, fun j r e => ?_, by rw [upd_same, List.map_append]; rfl⟩
      · rw [List.length_map, hl]
        exact Nat.lt_trans hi hn
      · have z : H4 r = some (.tup (f j)) := by
          by_cases hj : j < qs.length
          · rw [List.getElem?_append_left hj] at e
            exact s4 _ _ (hq j r e)
          · rw [List.getElem?_append_right (by omega)] at e
            have hj2 : j - qs.length = 0 := by
              have := (List.getElem?_eq_some_iff.mp e).1
              simp at this
              omega
            rw [hj2] at e
            have er : q = r := Option.some.inj e
            have ej : j = i := by omega
            rw [← er, ej]
            exact hq4
        rw [upd_ne]
        · exact z
        · intro c
          rw [c, h4] at z
          cases z
  · obtain ⟨s1, qs, hl, hq, hDD⟩ := p
    exact hd H qs s1 hl hq hDD
theorem map_range_getD {xs : List V} : (List.range xs.length).map (fun i => xs.getD i .non) = xs := by
  apply List.ext_getElem
  · simp
  · intro i h1 h2
    simp at h1
    simp [h1]
theorem getD_of {xs : List V} {i : Nat} {x : V} (h : xs[i]? = some x) : xs.getD i .non = x := by
  rw [List.getD_eq_getElem?_getD, h]
  rfl
/-- pairs of a name and "number" -/
structure Pairs (H : Hp) (ps : List Addr) (ns : List Str) : Prop where
  len : ps.length = ns.length
  at_ : ∀ (i : Nat) p x, ps[i]? = some p → ns[i]? = some x → H p = some (.tup [.str x, .str "number"])
theorem Pairs.mono {H H' : Hp} {ps : List Addr} {ns : List Str} (h : Pairs H ps ns) (e : Same H H') : Pairs H' ps ns := ⟨h.len, fun i p x a b => e _ _ (h.at_ i p x a b)⟩
theorem Pairs.append {H : Hp} {ps qs : List Addr} {ns ms : List Str} (h : Pairs H ps ns) (h2 : Pairs H qs ms) : Pairs H (ps ++ qs) (ns ++ ms) := by
  refine ⟨by rw [List.length_append, List.length_append, h.len, h2.len], fun i p x a b => ?_⟩
  by_cases hi : i < ps.length
  · rw [List.getElem?_append_left hi] at a
    rw [List.getElem?_append_left (by rw [← h.len]; exact hi)] at b
    exact h.at_ i p x a b
  · rw [List.getElem?_append_right (by omega)] at a
    rw [List.getElem?_append_right (by rw [← h.len]; omega), ← h.len] at b
    exact h2.at_ _ p x a b
theorem Pairs.get {H : Hp} {ps : List Addr} {ns : List Str} (h : Pairs H ps ns) {i : Nat} {y : V} (e : (ps.map V.ref)[i]? = some y) : ∃ p x, y = .ref p ∧ ps[i]? = some p ∧ ns[i]? = some x ∧ H p = some (.tup [.str x, .str "number"]) := by
  rw [List.getElem?_map] at e
  cases q : ps[i]? with
  | none =>
    rw [q] at e
    cases e
  | some p =>
    rw [q] at e
    have hi : i < ps.length := (List.getElem?_eq_some_iff.mp q).1
    have hx : ns[i]? = some (ns[i]'(by rw [← h.len]; exact hi)) := by
      rw [List.getElem?_eq_getElem]
    exact ⟨p, _, (Option.some.inj e).symm, rfl, hx, h.at_ i p _ q hx⟩
theorem take_snoc {α : Type} : ∀ {l : List α} {i : Nat} {x : α}, l[i]? = some x → l.take (i + 1) = l.take i ++ [x]
  | [], i, x, h => by simp at h
  | a :: l, 0, x, h => by
    have e : a = x := Option.some.inj h
    subst e
    rfl
  | a :: l, i + 1, x, h => by
    have ih := take_snoc (l := l) (i := i) (x := x) h
    show a :: l.take (i + 1) = a :: l.take i ++ [x]
    rw [ih]
    rfl
theorem not_in_take {α : Type} {l : List α} (hN : l.Nodup) {i : Nat} {x : α} (h : l[i]? = some x) : x ∉ l.take i := fun m => by
  obtain ⟨j, hj, e⟩ := List.mem_iff_getElem.mp m
  rw [List.getElem_take] at e
  have hj2 : j < i := by
    rw [List.length_take] at hj
    omega
  have hi := (List.getElem?_eq_some_iff.mp h)
  obtain ⟨hi1, hi2⟩ := hi
  have q := (List.getElem_inj hN).mp (e.trans hi2.symm)
  omega
/-- a dict whose keys are these names -/
def kvT (l : List Str) (f : Str → V) : List (Key × V) := l.map fun x => (Sum.inr x, f x)
theorem valV_kvT {l : List Str} {f : Str → V} {x : Str} (h : x ∉ l) : valV (kvT l f) (Sum.inr x : Key) = none := by
  cases e : valV (kvT l f) (Sum.inr x : Key) with
  | none => rfl
  | some v =>
    have m := valV_in e
    obtain ⟨q, hq, e2⟩ := List.mem_map.mp m
    obtain ⟨y, hy, e3⟩ := List.mem_map.mp hq
    rw [← e3] at e2
    have e4 : y = x := Sum.inr.inj e2
    rw [← e4] at h
    exact absurd hy h
theorem putK_kvT {l : List Str} {f : Str → V} {x : Str} (h : x ∉ l) : putK (kvT l f) (Sum.inr x : Key) (f x) = kvT (l ++ [x]) f := by
  rw [putK_new _ (valV_kvT h)]
  unfold kvT
  rw [List.map_append]
  rfl
/-! ### truth of a list of true things -/
theorem all_true {n : Nat} : (((List.range n).map fun _ => true).all id) = true := by
  simp
/-! ### names -/
def LETS : Str := "abcdefghijklmnopqrstuvwxyz"
def MRKS : Str := "abcdefghijklmnopqrstuvwxyz0123456789"
structure Nam (x : Str) : Prop where
  pos : 0 < x.cps.size
  le : x.cps.size ≤ 8
  one : ∃ c : Nat, x.cps[0]? = some c ∧ c ∈ LETS.cps.toList
  all : ∀ (i c : Nat), x.cps[i]? = some c → c ∈ MRKS.cps.toList
theorem pe_fldK {X : Cx} {K : PySem.W.Frag} {e : Expr} {ta : TE} {f : Str} {pos : Pos} (hk : X.K = K) (he : PE X e ta) (hb : attributeBase e f X.env (eval e X.env) = eval e X.env) : PE X (.Attribute e f pos) (tFld K ta f) := by
  subst hk
  exact pe_fld he hb
end W16
set_option Elab.async false
set_option linter.all false
set_option maxRecDepth 100000
set_option maxHeartbeats 4000000
namespace W16
open PySem PySem.Spec PyProof.Rows L2
/-! ### tuples whose objects are known to have no dict -/
def PlT (o : Obj) : Prop := o.cls = .type "tuple" ∧ o.dict = none
/-- a plain tuple -/
def TupP (H : Hp) (a : Addr) (xs : List V) : Prop := ∃ o, H a = some (.frz o (.tup xs)) ∧ PlT o
theorem TupP.sq {K : PySem.W.Frag} {H : Hp} {a : Addr} {xs : List V} (h : TupP H a xs) : SqT K H a xs := by
  obtain ⟨o, e, _⟩ := h
  exact .inl (.inr ⟨o, e⟩)
theorem TupP.mono {H H' : Hp} {a : Addr} {xs : List V} (h : TupP H a xs) (e : Same H H') : TupP H' a xs := by
  obtain ⟨o, q, p⟩ := h
  exact ⟨o, e _ _ q, p⟩
section
variable {X : Cx}
/-- tuple(list) -/
theorem call_tupleP : CallR X (.type "tuple") (fun xs H Q => ∃ p ys, xs = [.ref p] ∧ SqL X.K H p ys ∧ ∀ l o, H l = none → PlT o → Q (.ref l) (upd H l (.frz o (.tup ys)))) := by
  intro pins s σ H xs us Q I r h
  obtain ⟨p, ys, rfl, hq, q⟩ := h
  obtain ⟨u, rfl, rx⟩ := vals1 r
  cases rx
  obtain ⟨its, r', pl, hz⟩ := I.list hq
  have hlen := r'.length
  refine call_tuple_list pl.isList (fun h' kp => ?_) (by simp only [List.size_toArray] <;> omega)
  have I1 : Inv X pins σ H { s with heap := h' } := I.kept (t' := s.toks) kp
  have I2 : Inv X pins σ (upd H h'.objs.size (.frz { cls := .type "tuple", data := .seq its.toArray } (.tup ys))) { s with heap := h'.push { cls := .type "tuple", data := .seq its.toArray } } :=
    I1.laid (t' := s.toks) (fun b o e => Heap.get?_push_of_some _ e) (Nat.le_refl _) (show ObjOk X.prog X.w _ _ _ (.frz _ (.tup ys)) from ⟨Heap.get?_push_size _ rfl, hz, its, r', IsTup.new _ _⟩)
  exact ⟨.ref h'.objs.size, _, I2, rfl, q _ _ (I1.hok.fresh (Nat.le_refl _)) ⟨rfl, rfl⟩⟩
/-- t + u of plain tuples -/
theorem op_catP : OpR X (binaryOp .Add) (fun x y H Q => ∃ a b xs ys, x = .ref a ∧ y = .ref b ∧ SqT X.K H a xs ∧ SqT X.K H b ys ∧ xs ≠ [] ∧ xs.length + ys.length ≤ sizeLine ∧ (ys = [] → Q (.ref a) H) ∧ (ys ≠ [] → ∀ p o, H p = none → PlT o → Q (.ref p) (upd H p (.frz o (.tup (xs ++ ys)))))) := by
  intro pins s σ H x y v u Q I rx ry h
  obtain ⟨a, b, xs, ys, rfl, rfl, ha, hb, hx, hz, q1, q2⟩ := h
  cases rx
  cases ry
  obtain ⟨its, r1, p1, _⟩ := I.tuple ha
  obtain ⟨its2, r2, p2, _⟩ := I.tuple hb
  refine HT.cat_tup p1 p2 (fun z => hx (r1.nil_iff.mp z)) (fun z => ⟨.ref a, H, I, rfl, q1 (r2.nil_iff.mp z)⟩) (fun z => ?_) (by rw [← r1.length, ← r2.length]; exact hz)
  refine ⟨.ref s.heap.objs.size, _, I.laid (t' := s.toks) (o := .frz { cls := .type "tuple", data := .seq (its ++ its2).toArray } (.tup (xs ++ ys))) (fun b ob q => Heap.get?_push_of_some _ q) (Nat.le_refl _) ?_, rfl, q2 (fun w => z (r2.nil_iff.mpr w)) _ _ (I.hok.fresh (Nat.le_refl _)) ⟨rfl, rfl⟩⟩
  exact ⟨Heap.get?_push_size _ rfl, by rw [List.length_append]; exact hz, _, r1.append r2, IsTup.new _ _⟩
/-- dict(t) of a plain tuple of pairs (key, value) -/
theorem call_dictT (hcalm : X.calm = true) : CallR X (.type "dict") (fun xs H Q => ∃ (a : Addr) (ps : List Addr) (kvs : List (Key × V)), xs = [.ref a] ∧ TupP H a (ps.map V.ref) ∧ Paired (fun p kv => SqT X.K H p [kV kv.1, kv.2]) ps kvs ∧
    ∀ p, H p = none → Q (.ref p) (upd H p (.dK (mergeK [] kvs)))) := by
  intro pins s σ H xs us Q I r q
  obtain ⟨a, ps, kvs, ex, ⟨o, ho, hc, hd⟩, hp, q⟩ := q
  subst ex
  obtain ⟨u, eu, rx⟩ := vals1 r
  subst eu
  cases rx
  obtain ⟨e0, hz, its, rv, ⟨o', e1, _, n, hdat⟩⟩ := (show ObjOk X.prog X.w H s.heap a (.frz o (.tup (ps.map V.ref))) from I.hok a _ ho)
  have eo : o' = o := Option.some.inj (e1.symm.trans e0)
  subst eo
  have ei := refs_at rv
  subst ei
  rw [List.length_map] at hz
  obtain ⟨prs, rel, hl, hpr⟩ := pairs_of I hp
  -- the keys as they stand
  have keyed : ∃ qs : List (Value × Value), qs.length = prs.length ∧ ∀ (j : Nat) (q : Key × Value), prs[j]? = some q → ∃ (b : Addr) (u : Value), ps[j]? = some b ∧ IsTup s.heap b #[u, q.2] ∧ keyIs q.1 u = true ∧ qs[j]? = some (u, q.2) := by
    have go : ∀ (prs : List (Key × Value)) (f : Nat → Key × Value → Value → Prop), (∀ j q, prs[j]? = some q → ∃ u, f j q u) → ∃ qs : List (Value × Value), qs.length = prs.length ∧ ∀ j q, prs[j]? = some q → ∃ u, f j q u ∧ qs[j]? = some (u, q.2) := by
      intro prs
      induction prs with
      | nil => exact fun f _ => ⟨[], rfl, fun j q e => by simp at e⟩
      | cons p r ih =>
        intro f hf
        obtain ⟨u0, h0⟩ := hf 0 p rfl
        obtain ⟨qs, h1, h2⟩ := ih (fun j q u => f (j + 1) q u) fun j q e => hf (j + 1) q (by simpa using e)
        refine ⟨(u0, p.2) :: qs, by simp [h1], fun j q e => ?_⟩
        cases j with
        | zero =>
          have e' : p = q := Option.some.inj e
          subst e'
          exact ⟨u0, h0, rfl⟩
        | succ j =>
          obtain ⟨u, h3, h4⟩ := h2 j q (by simpa using e)
          exact ⟨u, h3, by simpa using h4⟩
    obtain ⟨qs, h1, h2⟩ := go prs (fun j q u => ∃ b, ps[j]? = some b ∧ IsTup s.heap b #[u, q.2] ∧ keyIs q.1 u = true) fun j q e => by
      obtain ⟨b, u, x1, x2, x3⟩ := hpr j q e
      exact ⟨u, b, x1, x2, x3⟩
    refine ⟨qs, h1, fun j q e => ?_⟩
    obtain ⟨u, ⟨b, x1, x2, x3⟩, x4⟩ := h2 j q e
    exact ⟨b, u, x1, x2, x3, x4⟩
  obtain ⟨qs, hql, hqs⟩ := keyed
  have hz' : prs.length ≤ sizeLine := by
    rw [hl]
    exact hz
  have items : PairItems s.heap (ps.map Value.ref).toArray (fun j => ps.getD j 0) qs := by
    refine ⟨by simp [hql, hl], fun j k v e => ?_⟩
    have hj : j < prs.length := by
      rw [← hql]
      exact (List.getElem?_eq_some_iff.mp e).1
    obtain ⟨b, u, x1, x2, x3, x4⟩ := hqs j prs[j] (List.getElem?_eq_getElem hj)
    have e2 : (u, prs[j].2) = (k, v) := Option.some.inj (x4.symm.trans e)
    have eb : ps.getD j 0 = b := by
      rw [List.getD_eq_getElem?_getD, x1]
      rfl
    refine ⟨by simp [x1, eb], .inl ?_⟩
    obtain ⟨e3, e4⟩ := Prod.mk.inj e2
    show s.heap.IsTuple (ps.getD j 0) #[k, v]
    rw [eb, ← e3, ← e4]
    exact x2
  have have_ : PairsHave (mixKind X.prog X.w) qs.length (PairRel qs) prs := by
    refine ⟨hql.symm, fun i key v e => ?_⟩
    have hj : i < prs.length := by
      rw [← hql]
      exact (List.getElem?_eq_some_iff.mp e).1
    obtain ⟨b, u, x1, x2, x3, x4⟩ := hqs i prs[i] (List.getElem?_eq_getElem hj)
    have e2 : (u, prs[i].2) = (key, v) := Option.some.inj (x4.symm.trans e)
    obtain ⟨e3, e4⟩ := Prod.mk.inj e2
    refine ⟨prs[i].1, ?_, ?_⟩
    · rw [List.getElem?_eq_getElem hj, ← e4]
    · rw [← e3]
      exact x3
  refine PySem.call_dict_pairs (knd := mixKind X.prog X.w) (kvs := prs) (PairArg.tuple a (ps.map Value.ref).toArray (fun j => ps.getD j 0) qs) (I.ok.hd hcalm) ⟨⟨o', n, e0, hc, hd, hdat⟩, items⟩ have_ (by rw [hql]; exact hz') fun h' tk hd' k => ?_
  have hm : (s.heap.objs.size == sysModules) = false := beq_eq_false_iff_ne.mpr (Nat.ne_of_gt I.big)
  have hlen : (mergeK [] kvs).length ≤ sizeLine := by
    refine Nat.le_trans (length_mergeK kvs []) ?_
    rw [List.length_nil, Nat.zero_add, rel.length, hl]
    exact hz
  exact ⟨.ref s.heap.objs.size, upd H s.heap.objs.size (.dK (mergeK [] kvs)), I.laid (t' := tk) (fun b o e => k b o (by simp) e) (Nat.le_refl _) (show ObjOk X.prog X.w _ _ _ (.dK (mergeK [] kvs)) from ⟨hlen, hm, merged [] prs, KV.merge rel .nil, hd'⟩), rfl, q _ (I.hok.fresh (Nat.le_refl _))⟩
end
end W16
set_option Elab.async false
set_option linter.all false
set_option maxRecDepth 100000
set_option maxHeartbeats 4000000
namespace W16
open PySem PySem.Spec PyProof.Rows L2
section
variable {P : Program} {w : World} {K : PySem.W.Frag} {mg : Str → Option Value} {base : Heap}

def spIsInt : Sp := fun vs H Q _ => ∃ i, vs = [.int i] ∧ Q (.bl true) H
def spIntIn : Sp := fun vs H Q _ => ∃ i lo hi, vs = [.int i, .int lo, .int hi] ∧ lo ≤ i ∧ i ≤ hi ∧ Q (.bl true) H
def spWritten : Sp := fun vs H Q _ => ∃ i : Int, vs = [.int i] ∧ -1000000000 ≤ i ∧ i ≤ 1000000000 ∧ Q (.bl true) H
def spName : Sp := fun vs H Q _ => ∃ x, vs = [.str x] ∧ Nam x ∧ ∀ H', Same H H' → Q (.bl true) H'
def spKind : Sp := fun vs H Q _ => vs = [.str "number"] ∧ Q (.bl true) H
def spTupOf : Sp := fun vs H Q _ => ∃ a xs n, vs = [.ref a, .int n] ∧ H a = some (.tup xs) ∧ n = (xs.length : Int) ∧ Q (.bl true) H
def spListOf : Sp := fun vs H Q _ => ∃ a xs lo hi, vs = [.ref a, .int lo, .int hi] ∧ H a = some (.lst xs) ∧ lo ≤ (xs.length : Int) ∧ (xs.length : Int) ≤ hi ∧ Q (.bl true) H
def spWord : Sp := fun vs H Q _ => ∃ a x xs, vs = [.ref a] ∧ H a = some (.tup (.str x :: xs)) ∧ Q (.bl true) H
theorem sc_is_integer : FnScope ["thing"] ["thing"] (defScope s_is_integer) := ⟨rfl, rfl, rfl, by decide +kernel, rfl, by decide +kernel, by decide +kernel⟩
theorem ok_is_integer (T : Ctx w K mg) : Has P w K mg base 1 "is_integer" ["thing"] spIsInt := by
  obtain ⟨fd, F⟩ := T.D_is_integer
  refine ⟨⟨fd, F.ok sc_is_integer (fun vs H Q E h => ?_) (fun cdv A outer s H vs Q E hr h => ?_), F.bindsN fun _ _ _ _ _ _ us hl => match us, hl with | [_], _ => rfl⟩, F.kp, T.g_is_integer⟩
  · obtain ⟨i, rfl, k⟩ := h; rfl
  · obtain ⟨i, rfl, k⟩ := h
    have hu := hu_of hr
    refine ⟨_, PSs.nox (pss_one (ps_ret (pe_and (pe_callB call_isi (by rfl) T.f_isinstance (by decide +kernel) (pa_cons (pv 0) (pa_cons (pe_bltn (v := .ty "int") (u := .type "int") rfl T.f_int (by decide +kernel) rfl) pa_nil))) (pe_one (pe_not (pe_callB call_isi (by rfl) T.f_isinstance (by decide +kernel) (pa_cons (pv 0) (pa_cons (pe_bltn (v := .ty "bool") (u := .type "bool") rfl T.f_bool (by decide +kernel) rfl) pa_nil)))))))), ?_⟩
    refine ⟨_, rfl, _, _, _, _, true, rfl, .ty _, .base (.int i), kit_ty (by decide +kernel), true, rfl, iteT ?_⟩
    exact ⟨_, rfl, _, _, _, _, false, rfl, .ty _, .base (.int i), kit_ty (by decide +kernel), false, rfl, k⟩
theorem sc_is_integer_in : FnScope ["thing", "least", "most"] ["thing", "least", "most"] (defScope s_is_integer_in) := ⟨rfl, rfl, rfl, by decide +kernel, rfl, by decide +kernel, by decide +kernel⟩
theorem ok_is_integer_in (T : Ctx w K mg) (H_is_integer : Has P w K mg base 1 "is_integer" ["thing"] spIsInt) : Has P w K mg base 2 "is_integer_in" ["thing", "least", "most"] spIntIn := by
  obtain ⟨fd, F⟩ := T.D_is_integer_in
  obtain ⟨fd_is_integer, G_is_integer, b_is_integer⟩ := H_is_integer.ex
  refine ⟨⟨fd, F.ok sc_is_integer_in (fun vs H Q E h => ?_) (fun cdv A outer s H vs Q E hr h => ?_), F.bindsN fun _ _ _ _ _ _ us hl => match us, hl with | [_, _, _], _ => rfl⟩, F.kp, T.g_is_integer_in⟩
  · obtain ⟨i, lo, hi, rfl, h1, h2, k⟩ := h; rfl
  · obtain ⟨i, lo, hi, rfl, h1, h2, k⟩ := h
    have hr_is_integer : Room 1 _ := hr.mono (by decide)
    have hu := hu_of hr
    refine ⟨_, PSs.nox (pss_one (ps_ret (pe_and (pe_call G_is_integer hr_is_integer (by rfl) H_is_integer.gl H_is_integer.kp b_is_integer .nil pass0 (pa_cons (pv 0) pa_nil)) (pe_one (pe_chain op_le op_le (pv 1) (pv 0) (pv 2)))))), ?_⟩
    refine ⟨_, rfl, i, rfl, true, rfl, iteT ?_⟩
    exact ⟨_, rfl, _, rfl, _, _, rfl, rfl, _, rfl, ifT (decide_eq_true h1) ⟨_, rfl, _, _, rfl, rfl, qT (decide_eq_true h2) k⟩⟩
theorem sc_is_written_number : FnScope ["thing"] ["thing"] (defScope s_is_written_number) := ⟨rfl, rfl, rfl, by decide +kernel, rfl, by decide +kernel, by decide +kernel⟩
theorem ok_is_written_number (T : Ctx w K mg) (H_is_integer_in : Has P w K mg base 2 "is_integer_in" ["thing", "least", "most"] spIntIn) : Has P w K mg base 3 "is_written_number" ["thing"] spWritten := by
  obtain ⟨fd, F⟩ := T.D_is_written_number
  obtain ⟨fd_is_integer_in, G_is_integer_in, b_is_integer_in⟩ := H_is_integer_in.ex
  refine ⟨⟨fd, F.ok sc_is_written_number (fun vs H Q E h => ?_) (fun cdv A outer s H vs Q E hr h => ?_), F.bindsN fun _ _ _ _ _ _ us hl => match us, hl with | [_], _ => rfl⟩, F.kp, T.g_is_written_number⟩
  · obtain ⟨i, rfl, h1, h2, k⟩ := h; rfl
  · obtain ⟨i, rfl, h1, h2, k⟩ := h
    have hr_is_integer_in : Room 2 _ := hr.mono (by decide)
    have hu := hu_of hr
    obtain ⟨tk, e_GREATEST_WRITTEN⟩ := T.i_GREATEST_WRITTEN
    refine ⟨_, PSs.nox (pss_one (ps_ret (pe_call G_is_integer_in hr_is_integer_in (by rfl) H_is_integer_in.gl H_is_integer_in.kp b_is_integer_in .nil pass0 (pa_cons (pv 0) (pa_cons (pe_un un_neg (pe_glob (v := .int 1000000000) rfl e_GREATEST_WRITTEN ⟨_, rfl⟩)) (pa_cons (pe_glob (v := .int 1000000000) rfl e_GREATEST_WRITTEN ⟨_, rfl⟩) pa_nil)))))), ?_⟩
    exact ⟨_, rfl, _, rfl, i, _, _, rfl, h1, h2, k⟩
theorem sc_is_name : FnScope ["thing", "mark"] ["thing"] (defScope s_is_name) := ⟨rfl, rfl, rfl, by decide +kernel, rfl, by decide +kernel, by decide +kernel⟩
theorem ok_is_name (T : Ctx w K mg) : Has P w K mg base 1 "is_name" ["thing"] spName := by
  obtain ⟨fd, F⟩ := T.D_is_name
  refine ⟨⟨fd, F.ok sc_is_name (fun vs H Q E h => ?_) (fun cdv A outer s H vs Q E hr h => ?_), F.bindsN fun _ _ _ _ _ _ us hl => match us, hl with | [_], _ => rfl⟩, F.kp, T.g_is_name⟩
  · obtain ⟨x, rfl, N, k⟩ := h; rfl
  · obtain ⟨x, rfl, N, k⟩ := h
    have hu := hu_of hr
    obtain ⟨tl, e_LETTERS⟩ := T.s_LETTERS
    obtain ⟨tm, e_MARKS⟩ := T.s_MARKS
    refine ⟨_, PSs.nox (pss_cons (ps_if (PW.pt (pw_or (pt_not (pt_val (pe_callB call_isi (by rfl) T.f_isinstance (by decide +kernel) (pa_cons (pv 0) (pa_cons (pe_bltn (v := .ty "str") (u := .type "str") rfl T.f_str (by decide +kernel) rfl) pa_nil))))) (pw_or1 (pt_not (pt_chain op_le op_le pe_int (pe_callB call_len_str (by rfl) T.f_len (by decide +kernel) (pa_cons (pv 0) pa_nil)) pe_int))))) (pss_one (ps_ret pe_bl)) pss_nil)
      (pss_one (ps_ret (pe_and (pe_cmpR op_in_sign (pe_item_str (pv 0) pe_int (fun _ _ => rfl)) (pe_glob (v := .str "abcdefghijklmnopqrstuvwxyz") rfl e_LETTERS ⟨_, rfl⟩) rfl) (pe_one (pe_callB (cr_all rfl) (by rfl) T.f_all (by decide +kernel) (pa_cons (pe_lc (own := [("mark", 1)]) (g := gName 1) (tt := tYes) rfl sc_is_name.nd (pi_str (pv 0)) (blkOk_by (N := ["thing", "mark"]) (sc := defScope s_is_name) (by decide +kernel)) (fun _ _ _ _ _ => (pg_name (i := 1) sc_is_name.nd rfl (Or.inl rfl))) (fun _ _ _ _ _ => pts_nil) (fun _ _ _ _ _ => (pe_cmpR op_in_sign (pv 1) (pe_glob (v := .str "abcdefghijklmnopqrstuvwxyz0123456789") rfl e_MARKS ⟨_, rfl⟩) rfl))) pa_nil))))))), ?_⟩
    obtain ⟨c0, hc0, mc0⟩ := N.one
    have hsz : x.length ≤ sizeLine := sz_of (Nat.le_trans (show x.cps.size ≤ 8 from N.le) (by decide))
    refine ⟨_, rfl, _, _, _, _, true, rfl, .ty _, .base (.str x), kit_ty (by decide +kernel), true, rfl, iteF ?_⟩
    refine ⟨_, rfl, _, rfl, hsz, _, _, rfl, rfl, _, rfl, ?_⟩
    refine ifT (decide_eq_true (show (1 : Int) ≤ ((x.cps.size : Nat) : Int) by have := N.pos; omega)) ⟨_, _, rfl, rfl, _, rfl, ?_⟩
    refine ifF (show (!decide (((x.cps.size : Nat) : Int) ≤ 8)) = false by rw [decide_eq_true (show ((x.cps.size : Nat) : Int) ≤ 8 by have := N.le; omega)]; rfl) ?_
    refine ⟨_, rfl, _, _, c0, rfl, rfl, by decide, by decide, by have := N.pos; exact Int.ofNat_lt.mpr this, hc0, _, _, rfl, rfl, _, rfl, ?_⟩
    refine ifT (decide_eq_true mc0) ?_
    refine ⟨_, rfl, _, rfl, fun D hD => ?_⟩
    refine lc_pure walk_str hD (fun _ => .bl true) (by have := N.le; omega) (fun _ _ => trivial) (fun i H1 y H2 hi s1 hy Qe qe => ?_) (fun H1 s1 h1 => ?_)
    · obtain ⟨rfl, c, hc, rfl⟩ := hy
      exact ⟨rfl, _, rfl, _, _, rfl, rfl, qT (decide_eq_true (N.all i c hc)) (qe _ (Same.refl _))⟩
    · refine ⟨_, (List.range x.cps.size).map (fun _ => true), rfl, SqL.of (by rw [h1, List.map_map]; rfl), qT all_true (k _ s1)⟩
theorem sc_is_kind : FnScope ["thing"] ["thing"] (defScope s_is_kind) := ⟨rfl, rfl, rfl, by decide +kernel, rfl, by decide +kernel, by decide +kernel⟩
theorem ok_is_kind (T : Ctx w K mg) : Has P w K mg base 1 "is_kind" ["thing"] spKind := by
  obtain ⟨fd, F⟩ := T.D_is_kind
  refine ⟨⟨fd, F.ok sc_is_kind (fun vs H Q E h => ?_) (fun cdv A outer s H vs Q E hr h => ?_), F.bindsN fun _ _ _ _ _ _ us hl => match us, hl with | [_], _ => rfl⟩, F.kp, T.g_is_kind⟩
  · obtain ⟨rfl, k⟩ := h; rfl
  · obtain ⟨rfl, k⟩ := h
    have hu := hu_of hr
    refine ⟨_, PSs.nox (pss_one (ps_ret (pe_and (pe_callB call_isi (by rfl) T.f_isinstance (by decide +kernel) (pa_cons (pv 0) (pa_cons (pe_bltn (v := .ty "str") (u := .type "str") rfl T.f_str (by decide +kernel) rfl) pa_nil))) (pe_one (pe_cmpR op_in_seq (pv 0) (pe_glob (v := .ref (He.ga K "KINDS")) rfl T.g_KINDS rfl) rfl))))), ?_⟩
    refine ⟨_, rfl, _, _, _, _, true, rfl, .ty _, .base (.str _), kit_ty (by decide +kernel), true, rfl, iteT ?_⟩
    exact ⟨_, rfl, _, _, rfl, .inr (T.kinds H), rfl, rfl, qT rfl k⟩
theorem sc_is_tuple_of : FnScope ["thing", "many"] ["thing", "many"] (defScope s_is_tuple_of) := ⟨rfl, rfl, rfl, by decide +kernel, rfl, by decide +kernel, by decide +kernel⟩
theorem ok_is_tuple_of (T : Ctx w K mg) : Has P w K mg base 1 "is_tuple_of" ["thing", "many"] spTupOf := by
  obtain ⟨fd, F⟩ := T.D_is_tuple_of
  refine ⟨⟨fd, F.ok sc_is_tuple_of (fun vs H Q E h => ?_) (fun cdv A outer s H vs Q E hr h => ?_), F.bindsN fun _ _ _ _ _ _ us hl => match us, hl with | [_, _], _ => rfl⟩, F.kp, T.g_is_tuple_of⟩
  · obtain ⟨a, xs, n, rfl, ha, hn, k⟩ := h; rfl
  · obtain ⟨a, xs, n, rfl, ha, hn, k⟩ := h
    have hu := hu_of hr
    refine ⟨_, PSs.nox (pss_one (ps_ret (pe_and (pe_callB call_isi (by rfl) T.f_isinstance (by decide +kernel) (pa_cons (pv 0) (pa_cons (pe_bltn (v := .ty "tuple") (u := .type "tuple") rfl T.f_tuple (by decide +kernel) rfl) pa_nil))) (pe_one (pe_cmpR op_eq (pe_callB call_len_seq (by rfl) T.f_len (by decide +kernel) (pa_cons (pv 0) pa_nil)) (pv 1) (nomark _)))))), ?_⟩
    refine ⟨_, rfl, _, _, _, _, true, rfl, .ty _, .base (.tup ha), kit_ty (by decide +kernel), true, rfl, iteT ?_⟩
    exact ⟨_, rfl, _, _, rfl, .inr (SqT.of ha), _, rfl, rfl, qT (decide_eq_true (by rw [hn])) k⟩
theorem sc_is_list_of : FnScope ["thing", "least", "most"] ["thing", "least", "most"] (defScope s_is_list_of) := ⟨rfl, rfl, rfl, by decide +kernel, rfl, by decide +kernel, by decide +kernel⟩
theorem ok_is_list_of (T : Ctx w K mg) : Has P w K mg base 1 "is_list_of" ["thing", "least", "most"] spListOf := by
  obtain ⟨fd, F⟩ := T.D_is_list_of
  refine ⟨⟨fd, F.ok sc_is_list_of (fun vs H Q E h => ?_) (fun cdv A outer s H vs Q E hr h => ?_), F.bindsN fun _ _ _ _ _ _ us hl => match us, hl with | [_, _, _], _ => rfl⟩, F.kp, T.g_is_list_of⟩
  · obtain ⟨a, xs, lo, hi, rfl, ha, h1, h2, k⟩ := h; rfl
  · obtain ⟨a, xs, lo, hi, rfl, ha, h1, h2, k⟩ := h
    have hu := hu_of hr
    refine ⟨_, PSs.nox (pss_one (ps_ret (pe_and (pe_callB call_isi (by rfl) T.f_isinstance (by decide +kernel) (pa_cons (pv 0) (pa_cons (pe_bltn (v := .ty "list") (u := .type "list") rfl T.f_list (by decide +kernel) rfl) pa_nil))) (pe_one (pe_chain op_le op_le (pv 1) (pe_callB call_len_seq (by rfl) T.f_len (by decide +kernel) (pa_cons (pv 0) pa_nil)) (pv 2)))))), ?_⟩
    refine ⟨_, rfl, _, _, _, _, true, rfl, .ty _, .base (.lst ha), kit_ty (by decide +kernel), true, rfl, iteT ?_⟩
    exact ⟨_, rfl, _, rfl, _, _, rfl, .inl (SqL.of ha), _, _, rfl, rfl, _, rfl, ifT (decide_eq_true h1) ⟨_, rfl, _, _, rfl, rfl, qT (decide_eq_true h2) k⟩⟩
theorem sc_is_word_tuple : FnScope ["thing"] ["thing"] (defScope s_is_word_tuple) := ⟨rfl, rfl, rfl, by decide +kernel, rfl, by decide +kernel, by decide +kernel⟩
theorem ok_is_word_tuple (T : Ctx w K mg) : Has P w K mg base 1 "is_word_tuple" ["thing"] spWord := by
  obtain ⟨fd, F⟩ := T.D_is_word_tuple
  refine ⟨⟨fd, F.ok sc_is_word_tuple (fun vs H Q E h => ?_) (fun cdv A outer s H vs Q E hr h => ?_), F.bindsN fun _ _ _ _ _ _ us hl => match us, hl with | [_], _ => rfl⟩, F.kp, T.g_is_word_tuple⟩
  · obtain ⟨a, x, xs, rfl, ha, k⟩ := h; rfl
  · obtain ⟨a, x, xs, rfl, ha, k⟩ := h
    have hu := hu_of hr
    refine ⟨_, PSs.nox (pss_one (ps_ret (pe_and (pe_callB call_isi (by rfl) T.f_isinstance (by decide +kernel) (pa_cons (pv 0) (pa_cons (pe_bltn (v := .ty "tuple") (u := .type "tuple") rfl T.f_tuple (by decide +kernel) rfl) pa_nil))) (pe_and (pe_cmpR op_gt (pe_callB call_len_seq (by rfl) T.f_len (by decide +kernel) (pa_cons (pv 0) pa_nil)) pe_int (nomark _)) (pe_one (pe_callB call_isi (by rfl) T.f_isinstance (by decide +kernel) (pa_cons (pe_ix ix_tup (pv 0) pe_int (fun _ _ => rfl)) (pa_cons (pe_bltn (v := .ty "str") (u := .type "str") rfl T.f_str (by decide +kernel) rfl) pa_nil)))))))), ?_⟩
    refine ⟨_, rfl, _, _, _, _, true, rfl, .ty _, .base (.tup ha), kit_ty (by decide +kernel), true, rfl, iteT ?_⟩
    refine ⟨_, rfl, _, _, rfl, .inr (SqT.of ha), _, _, rfl, rfl, _, rfl, ifT (decide_eq_true (by rw [List.length_cons]; omega)) ?_⟩
    exact ⟨_, rfl, _, _, _, _, rfl, rfl, SqT.of ha, at0, _, _, _, _, true, rfl, .ty _, .base (.str x), kit_ty (by decide +kernel), k⟩

end
end W16
set_option Elab.async false
set_option linter.all false
set_option maxRecDepth 100000
set_option maxHeartbeats 4000000
namespace W16
open PySem PySem.Spec PyProof.Rows L2
section
variable {P : Program} {w : World} {K : PySem.W.Frag} {mg : Str → Option Value} {base : Heap}

/-- a text or an int -/
inductive Fl : V → Prop where
  | str (x : Str) : Fl (.str x)
  | int (i : Int) : Fl (.int i)
def spFz0 : Sp := fun vs H Q _ => ∃ v, vs = [v] ∧ Fl v ∧ ∀ H', Same H H' → Q v H'
def spFz1 : Sp := fun vs H Q _ => ∃ a xs, vs = [.ref a] ∧ H a = some (.tup xs) ∧ (∀ x ∈ xs, Fl x) ∧ xs.length ≤ 100 ∧ ∀ p H', Same H H' → H' p = some (.tup xs) → Q (.ref p) H'
def spFz2 : Sp := fun vs H Q _ => ∃ (a : Addr) (ps : List Addr) (f : Nat → List V), vs = [.ref a] ∧ H a = some (.lst (ps.map V.ref)) ∧ (∀ (i : Nat) (p : Addr), ps[i]? = some p → H p = some (.tup (f i)) ∧ (f i).length ≤ 100 ∧ ∀ x ∈ f i, Fl x) ∧ ps.length ≤ 100 ∧
  ∀ (q : Addr) (qs : List Addr) (H' : Hp), Same H H' → TupP H' q (qs.map V.ref) → qs.length = ps.length → (∀ (i : Nat) (p : Addr), qs[i]? = some p → H' p = some (.tup (f i))) → Q (.ref q) H'
theorem kit2 {K : PySem.W.Frag} {t a b : String} {p q r : Bool} (h1 : kitB t a = some p) (h2 : kitB t b = some q) (e : r = (p || q)) : PySem.W.kitAny K (.type t) [.type a, .type b] = some r := by
  subst e
  refine kitAny_cons (kit_ty h1) (fun e => ?_) (fun e => by rw [e] <;> rfl)
  rw [e]
  exact kitAny_cons (kit_ty h2) (fun e2 => by rw [e2]; exact kitAny_nil) (fun e2 => by rw [e2] <;> rfl)
theorem sc_frozen : FnScope ["thing", "part"] ["thing"] (defScope s_frozen) := ⟨rfl, rfl, rfl, by decide +kernel, rfl, by decide +kernel, by decide +kernel⟩
theorem ok_frozen0 (T : Ctx w K mg) : Has P w K mg base 1 "frozen" ["thing"] spFz0 := by
  obtain ⟨fd, F⟩ := T.D_frozen
  refine ⟨⟨fd, F.ok sc_frozen (fun vs H Q E h => ?_) (fun cdv A outer s H vs Q E hr h => ?_), F.bindsN fun _ _ _ _ _ _ us hl => match us, hl with | [_], _ => rfl⟩, F.kp, T.g_frozen⟩
  · obtain ⟨v, rfl, F0, k⟩ := h; rfl
  · obtain ⟨v, rfl, F0, k⟩ := h
    have hu := hu_of hr
    refine ⟨_, PSs.nox (pss_cons (ps_if (pt_val (pe_callB call_isiT (by rfl) T.f_isinstance (by decide +kernel) (pa_cons (pv 0) (pa_cons (pe_tup (pa_cons (pe_bltn (v := .ty "list") (u := .type "list") rfl T.f_list (by decide +kernel) rfl) (pa_cons (pe_bltn (v := .ty "tuple") (u := .type "tuple") rfl T.f_tuple (by decide +kernel) rfl) pa_nil))) pa_nil)))) (pss_one ps_never) pss_nil)
      (pss_one (ps_ret (pv 0)))), ?_⟩
    refine ⟨_, rfl, sz_of (by decide), fun tp htp => ?_⟩
    cases F0 with
    | str x =>
      exact ⟨_, _, _, _, _, false, rfl, upd_same, .cons (.ty _) (.cons (.ty _) .nil), .base (.str x), kit2 (p := false) (q := false) (by decide +kernel) (by decide +kernel) rfl, _, rfl, iteF ⟨_, rfl, k _ (Same.new htp)⟩⟩
    | int x =>
      exact ⟨_, _, _, _, _, false, rfl, upd_same, .cons (.ty _) (.cons (.ty _) .nil), .base (.int x), kit2 (p := false) (q := false) (by decide +kernel) (by decide +kernel) rfl, _, rfl, iteF ⟨_, rfl, k _ (Same.new htp)⟩⟩
theorem ok_frozen1 (T : Ctx w K mg) (H_frozen : Has P w K mg base 1 "frozen" ["thing"] spFz0) : Has P w K mg base 2 "frozen" ["thing"] spFz1 := by
  obtain ⟨fd, F⟩ := T.D_frozen
  obtain ⟨fd_frozen, G_frozen, b_frozen⟩ := H_frozen.ex
  refine ⟨⟨fd, F.ok sc_frozen (fun vs H Q E h => ?_) (fun cdv A outer s H vs Q E hr h => ?_), F.bindsN fun _ _ _ _ _ _ us hl => match us, hl with | [_], _ => rfl⟩, F.kp, T.g_frozen⟩
  · obtain ⟨a, xs, rfl, ha, hf, hl, k⟩ := h; rfl
  · obtain ⟨a, xs, rfl, ha, hf, hl, k⟩ := h
    have hr_frozen : Room 1 _ := hr.mono (by decide)
    have hu := hu_of hr
    refine ⟨_, PSs.nox (pss_cons (ps_if (pt_val (pe_callB call_isiT (by rfl) T.f_isinstance (by decide +kernel) (pa_cons (pv 0) (pa_cons (pe_tup (pa_cons (pe_bltn (v := .ty "list") (u := .type "list") rfl T.f_list (by decide +kernel) rfl) (pa_cons (pe_bltn (v := .ty "tuple") (u := .type "tuple") rfl T.f_tuple (by decide +kernel) rfl) pa_nil))) pa_nil)))) (pss_one (ps_ret (pe_callTy call_tuple_of (by rfl) T.f_tuple (by decide +kernel) (pa_cons (pe_lc (own := [("part", 1)]) (g := gName 1) (tt := tYes) rfl sc_frozen.nd (pi_tup (pv 0)) (blkOk_by (N := ["thing", "part"]) (sc := defScope s_frozen) (by decide +kernel)) (fun _ _ _ _ _ => (pg_name (i := 1) sc_frozen.nd rfl (Or.inl rfl))) (fun _ _ _ _ _ => pts_nil) (fun _ _ _ _ _ => (pe_call G_frozen hr_frozen (by rfl) H_frozen.gl H_frozen.kp b_frozen .nil pass0 (pa_cons (pv 1) pa_nil)))) pa_nil)))) pss_nil)
      (pss_one (ps_ret (pv 0)))), ?_⟩
    refine ⟨_, rfl, sz_of (by decide), fun tp htp => ?_⟩
    have s1 : Same H (upd H tp (.tup [.ty "list", .ty "tuple"])) := Same.new htp
    refine ⟨_, _, _, _, _, true, rfl, upd_same, .cons (.ty _) (.cons (.ty _) .nil), .base (.tup (s1 _ _ ha)), kit2 (p := false) (q := true) (by decide +kernel) (by decide +kernel) rfl, _, rfl, iteT ?_⟩
    refine ⟨_, rfl, a, rfl, ⟨_, SqT.of (s1 _ _ ha)⟩, fun D hD => ?_⟩
    refine lc_pure (walk_tup (K := K) (a := a) (xs := xs)) hD (fun i => xs.getD i .non) (Nat.lt_of_le_of_lt hl (by decide)) (fun H2 s2 => SqT.of (s2 _ _ (s1 _ _ ha))) (fun i H2 y H3 hi s2 hy Qe qe => ?_) (fun H2 s2 h2 => ?_)
    · obtain ⟨rfl, hx⟩ := hy
      rw [getD_of hx] at qe
      exact ⟨rfl, _, rfl, y, rfl, hf y (List.mem_of_getElem? hx), fun H4 s4 => qe _ s4⟩
    · rw [map_range_getD] at h2
      exact ⟨D, xs, rfl, .inl ⟨SqL.of h2, fun l hl2 => k l _ ((s1.trans s2).trans (Same.new hl2)) upd_same⟩⟩
theorem ok_frozen2 (T : Ctx w K mg) (H_frozen : Has P w K mg base 2 "frozen" ["thing"] spFz1) : Has P w K mg base 3 "frozen" ["thing"] spFz2 := by
  obtain ⟨fd, F⟩ := T.D_frozen
  obtain ⟨fd_frozen, G_frozen, b_frozen⟩ := H_frozen.ex
  refine ⟨⟨fd, F.ok sc_frozen (fun vs H Q E h => ?_) (fun cdv A outer s H vs Q E hr h => ?_), F.bindsN fun _ _ _ _ _ _ us hl => match us, hl with | [_], _ => rfl⟩, F.kp, T.g_frozen⟩
  · obtain ⟨a, ps, f, rfl, ha, hf, hl, k⟩ := h; rfl
  · obtain ⟨a, ps, f, rfl, ha, hf, hl, k⟩ := h
    have hr_frozen : Room 2 _ := hr.mono (by decide)
    have hu := hu_of hr
    refine ⟨_, PSs.nox (pss_cons (ps_if (pt_val (pe_callB call_isiT (by rfl) T.f_isinstance (by decide +kernel) (pa_cons (pv 0) (pa_cons (pe_tup (pa_cons (pe_bltn (v := .ty "list") (u := .type "list") rfl T.f_list (by decide +kernel) rfl) (pa_cons (pe_bltn (v := .ty "tuple") (u := .type "tuple") rfl T.f_tuple (by decide +kernel) rfl) pa_nil))) pa_nil)))) (pss_one (ps_ret (pe_callTy call_tupleP (by rfl) T.f_tuple (by decide +kernel) (pa_cons (pe_lc (own := [("part", 1)]) (g := gName 1) (tt := tYes) rfl sc_frozen.nd (pi_list (pv 0)) (blkOk_by (N := ["thing", "part"]) (sc := defScope s_frozen) (by decide +kernel)) (fun _ _ _ _ _ => (pg_name (i := 1) sc_frozen.nd rfl (Or.inl rfl))) (fun _ _ _ _ _ => pts_nil) (fun _ _ _ _ _ => (pe_call G_frozen hr_frozen (by rfl) H_frozen.gl H_frozen.kp b_frozen .nil pass0 (pa_cons (pv 1) pa_nil)))) pa_nil)))) pss_nil)
      (pss_one (ps_ret (pv 0)))), ?_⟩
    refine ⟨_, rfl, sz_of (by decide), fun tp htp => ?_⟩
    have s1 : Same H (upd H tp (.tup [.ty "list", .ty "tuple"])) := Same.new htp
    refine ⟨_, _, _, _, _, true, rfl, upd_same, .cons (.ty _) (.cons (.ty _) .nil), .base (.lst (s1 _ _ ha)), kit2 (p := true) (q := false) (by decide +kernel) (by decide +kernel) rfl, _, rfl, iteT ?_⟩
    refine ⟨_, rfl, a, rfl, ⟨_, SqL.of (s1 _ _ ha)⟩, fun D hD => ?_⟩
    refine lc_tups (walk_list (K := K) (a := a) (xs := ps.map V.ref)) hD f (by rw [List.length_map]; exact Nat.lt_of_le_of_lt hl (by decide)) (fun H2 s2 => SqL.of (s2 _ _ (s1 _ _ ha))) (fun i H2 y H3 hi s2 hy Qe qe => ?_) (fun H2 qs s2 hq hqs h2 => ?_)
    · obtain ⟨rfl, hx⟩ := hy
      rw [List.getElem?_map] at hx
      cases e : ps[i]? with
      | none =>
        rw [e] at hx
        cases hx
      | some p =>
        rw [e] at hx
        have hy2 : y = V.ref p := (Option.some.inj hx).symm
        subst hy2
        obtain ⟨h3, h4, h5⟩ := hf i p e
        exact ⟨rfl, _, rfl, p, f i, rfl, s2 _ _ (s1 _ _ h3), h5, h4, fun q H4 s4 h6 => qe q _ s4 h6⟩
    · rw [List.length_map] at hq
      refine ⟨D, _, rfl, SqL.of h2, fun l o hl2 po => k l qs _ ((s1.trans s2).trans (Same.new hl2)) ⟨o, upd_same, po⟩ hq fun i p e => Same.new hl2 _ _ (hqs i p e)⟩
def spNamed : Sp := fun vs H Q _ => ∃ (a : Addr) (ps : List Addr) (ns : List Str) (m : Int), vs = [.ref a, .int m] ∧ H a = some (.lst (ps.map V.ref)) ∧ Pairs H ps ns ∧ (∀ x ∈ ns, Nam x) ∧ ns.Nodup ∧ (ns.length : Int) ≤ m ∧ ns.length ≤ 100 ∧ ∀ H', Same H H' → Q (.bl true) H' 
theorem sc_are_named_kinds : FnScope ["thing", "most", "names", "pair"] ["thing", "most"] (defScope s_are_named_kinds) := ⟨rfl, rfl, rfl, by decide +kernel, rfl, by decide +kernel, by decide +kernel⟩
theorem ok_are_named_kinds (T : Ctx w K mg) (H_is_list_of : Has P w K mg base 1 "is_list_of" ["thing", "least", "most"] spListOf) (H_is_tuple_of : Has P w K mg base 1 "is_tuple_of" ["thing", "many"] spTupOf) (H_is_name : Has P w K mg base 1 "is_name" ["thing"] spName) (H_is_kind : Has P w K mg base 1 "is_kind" ["thing"] spKind) : Has P w K mg base 2 "are_named_kinds" ["thing", "most"] spNamed := by
  obtain ⟨fd, F⟩ := T.D_are_named_kinds
  obtain ⟨fd_is_list_of, G_is_list_of, b_is_list_of⟩ := H_is_list_of.ex
  obtain ⟨fd_is_tuple_of, G_is_tuple_of, b_is_tuple_of⟩ := H_is_tuple_of.ex
  obtain ⟨fd_is_name, G_is_name, b_is_name⟩ := H_is_name.ex
  obtain ⟨fd_is_kind, G_is_kind, b_is_kind⟩ := H_is_kind.ex
  refine ⟨⟨fd, F.ok sc_are_named_kinds (fun vs H Q E h => ?_) (fun cdv A outer s H vs Q E hr h => ?_), F.bindsN fun _ _ _ _ _ _ us hl => match us, hl with | [_, _], _ => rfl⟩, F.kp, T.g_are_named_kinds⟩
  · obtain ⟨a, ps, ns, m, rfl, ha, hp, hN, hnd, hm, h100, k⟩ := h; rfl
  · obtain ⟨a, ps, ns, m, rfl, ha, hp, hN, hnd, hm, h100, k⟩ := h
    have hr_is_list_of : Room 1 _ := hr.mono (by decide)
    have hr_is_tuple_of : Room 1 _ := hr.mono (by decide)
    have hr_is_name : Room 1 _ := hr.mono (by decide)
    have hr_is_kind : Room 1 _ := hr.mono (by decide)
    have hu := hu_of hr
    refine ⟨_, PSs.nox (pss_cons (ps_if (pt_not (pt_val (pe_call G_is_list_of hr_is_list_of (by rfl) H_is_list_of.gl H_is_list_of.kp b_is_list_of .nil pass0 (pa_cons (pv 0) (pa_cons pe_int (pa_cons (pv 1) pa_nil)))))) (pss_one (ps_ret pe_bl)) pss_nil)
      (pss_cons (ps_set (i := 2) sc_are_named_kinds.nd rfl (Or.inl rfl) pe_dnewK)
      (pss_cons (ps_for PassesOwn.never rfl (pi_list (pv 0)) (pg_name (i := 3) sc_are_named_kinds.nd rfl (Or.inl rfl))
      (pss_cons (ps_if (PW.pt (pw_or (pt_not (pt_val (pe_call G_is_tuple_of hr_is_tuple_of (by rfl) H_is_tuple_of.gl H_is_tuple_of.kp b_is_tuple_of .nil pass0 (pa_cons (pv 3) (pa_cons pe_int pa_nil))))) (pw_or (pt_not (pt_val (pe_call G_is_name hr_is_name (by rfl) H_is_name.gl H_is_name.kp b_is_name .nil pass0 (pa_cons (pe_ix ix_tup (pv 3) pe_int (fun _ _ => rfl)) pa_nil)))) (pw_or1 (pt_not (pt_val (pe_call G_is_kind hr_is_kind (by rfl) H_is_kind.gl H_is_kind.kp b_is_kind .nil pass0 (pa_cons (pe_ix ix_tup (pv 3) pe_int (fun _ _ => rfl)) pa_nil)))))))) (pss_one (ps_ret pe_bl)) pss_nil)
      (pss_cons (ps_if (pt_cmp (pc_din hu (pe_ix ix_tup (pv 3) pe_int (fun _ _ => rfl)) (pv 2))) (pss_one (ps_ret pe_bl)) pss_nil)
      (pss_one (ps_dput hu (pv 2) (pe_ix ix_tup (pv 3) pe_int (fun _ _ => rfl)) pe_bl rfl)))))
      (pss_one (ps_ret pe_bl))))), ?_⟩
    have hlp : (ps.map V.ref).length = ns.length := by rw [List.length_map, hp.len]
    refine ⟨_, rfl, _, rfl, a, ps.map V.ref, 0, m, rfl, ha, by omega, by rw [hlp]; exact hm, _, rfl, iteF ?_⟩
    intro d hd
    have s1 : Same H (upd H d (.dK [])) := Same.new hd
    refine ⟨_, rfl, a, rfl, ⟨_, SqL.of (s1 _ _ ha)⟩, ?_⟩
    refine for_it (walk_list (K := K) (a := a) (xs := ps.map V.ref)) (fun i σ H1 => ∃ v : Option V, σ = [some (.ref a), some (.int m), some (.ref d), v] ∧ Same H H1 ∧ H1 d = some (.dK (kvT (ns.take i) fun _ => .bl true))) ⟨none, rfl, s1, upd_same⟩ (fun i σ H1 _ ⟨v, _, s2, _⟩ => SqL.of (s2 _ _ ha)) ?_ ?_
    · rintro i y σ H1 H2 hi ⟨v, rfl, s2, h2⟩ ⟨rfl, hy⟩
      obtain ⟨p, x, rfl, hpi, hni, hpt⟩ := hp.get hy
      have hx := s2 _ _ hpt
      have hnot := not_in_take hnd hni
      refine ⟨_, rfl, p, _, 2, rfl, hx, rfl, _, rfl, ?_⟩
      refine iteF ⟨_, rfl, _, _, _, _, rfl, rfl, SqT.of hx, at0, x, rfl, hN x (List.mem_of_getElem? hni), fun H3 s3 => ⟨_, rfl, iteF ?_⟩⟩
      have hx3 := s3 _ _ hx
      refine ⟨_, rfl, _, _, _, _, rfl, rfl, SqT.of hx3, at1, rfl, _, rfl, iteF ?_⟩
      have h3 := s3 _ _ h2
      refine ⟨_, rfl, _, _, _, _, rfl, rfl, SqT.of hx3, at0, _, rfl, d, _, rfl, DGet.k (k := Sum.inr x) h3, _, rfl, ?_⟩
      refine ifF (by rw [valV_kvT hnot]; rfl) ?_
      refine ⟨_, rfl, _, rfl, _, _, _, _, rfl, rfl, SqT.of hx3, at0, d, _, rfl, DPut.k (k := Sum.inr x) h3 (small1000 ?_), ?_⟩
      · unfold kvT
        rw [List.length_map, List.length_take]
        omega
      · refine ⟨_, rfl, Same.mut (s2.trans s3) hd, ?_⟩
        rw [upd_same, take_snoc hni]
        exact congrArg (fun l => some (HO.dK l)) (putK_kvT hnot)
    · rintro σ H1 ⟨v, rfl, s2, h2⟩
      exact k _ s2

end
end W16
set_option Elab.async false
set_option linter.all false
set_option maxRecDepth 100000
set_option maxHeartbeats 4000000
namespace W16
open PySem PySem.Spec PyProof.Rows L2 RZ
theorem walk_zipT {K : PySem.W.Frag} {a b : Addr} {xs ys : List V} {n : Nat} (hn : n = min xs.length ys.length) : Walk (ItzT K a b) n (fun H => SqT K H a xs ∧ SqT K H b ys) (YPair (fun i => xs[i]?) (fun i => ys[i]?)) := by
  subst hn
  refine ⟨fun i _ hi q => ?_, fun _ q => ⟨xs, ys, q.1, q.2, by omega⟩, fun i H v H' _ q y => ?_⟩
  · have h1 : i < xs.length := by omega
    have h2 : i < ys.length := by omega
    exact ⟨xs, ys, xs[i], ys[i], q.1, q.2, by simp [h1], by simp [h2]⟩
  · obtain ⟨T, x, z, h1, h2, h3, h4, h5⟩ := y
    exact ⟨T, x, z, h1, h2, h3, h4 xs q.1, h5 ys q.2⟩
/-! ### rows of a source, all words -/
inductive Rx where
  | num (x : Str) (n : Int) | nil (x : Str) | copy (x y : Str) | bin (k : Fin 4) (x y z : Str) | same (x y z : Str) | new (x c : Str) | get (x y f : Str) | put (x f y : Str) | call (x F : Str) (as : List Str) | see (x : Str) | ifz (x : Str) (r : Nat) | jump (r : Nat) | ret (x : Str)
def binW : Fin 4 → Str
  | 0 => "add" | 1 => "sub" | 2 => "times" | 3 => "less"
def Rx.word : Rx → Str
  | .num _ _ => "number" | .nil _ => "nil" | .copy _ _ => "copy" | .bin k _ _ _ => binW k | .same _ _ _ => "same" | .new _ _ => "new" | .get _ _ _ => "get" | .put _ _ _ => "put" | .call _ _ _ => "call" | .see _ => "see" | .ifz _ _ => "if" | .jump _ => "jump" | .ret _ => "return"
def Rx.roles : Rx → List Str
  | .num _ _ => ["sets", "number"] | .nil _ => ["sets"] | .copy _ _ => ["sets", "reads"] | .bin _ _ _ _ => ["sets", "reads", "reads"] | .same _ _ _ => ["sets", "reads", "reads"] | .new _ _ => ["sets", "class"] | .get _ _ _ => ["sets", "reads", "field"] | .put _ _ _ => ["reads", "field", "reads"]
  | .call _ _ _ => ["sets", "function", "many"] | .see _ => ["reads"] | .ifz _ _ => ["reads", "row"] | .jump _ => ["row"] | .ret _ => ["reads"]
/-- its parts; l stands for the list of a call -/
def Rx.parts (l : V) : Rx → List V
  | .num x n => [.str x, .int n] | .nil x => [.str x] | .copy x y => [.str x, .str y] | .bin _ x y z => [.str x, .str y, .str z] | .same x y z => [.str x, .str y, .str z] | .new x c => [.str x, .str c] | .get x y f => [.str x, .str y, .str f] | .put x f y => [.str x, .str f, .str y]
  | .call x F _ => [.str x, .str F, l] | .see x => [.str x] | .ifz x r => [.str x, .int r] | .jump r => [.int r] | .ret x => [.str x]
def Rx.sets : Rx → Option Str
  | .num x _ => some x | .nil x => some x | .copy x _ => some x | .bin _ x _ _ => some x | .same x _ _ => some x | .new x _ => some x | .get x _ _ => some x | .call x _ _ => some x | _ => none
def Rx.reads : Rx → List Str
  | .copy _ y => [y] | .bin _ _ y z => [y, z] | .same _ y z => [y, z] | .get _ y _ => [y] | .put x _ y => [x, y] | .call _ _ as => as | .see x => [x] | .ifz x _ => [x] | .ret x => [x] | _ => []
def Rx.goal : Rx → Option Nat
  | .ifz _ r => some r | .jump r => some r | _ => none
def Rx.args : Rx → Option (List Str)
  | .call _ _ as => some as | _ => none
theorem rx_roles_mem (r : Rx) : (r.word, r.roles) ∈ roles := by
  cases r with
  | bin k x y z =>
    have key : ∀ k : Fin 4, (binW k, (["sets", "reads", "reads"] : List Str)) ∈ roles := by decide +kernel
    exact key k
  | _ => unfold roles; simp [Rx.word, Rx.roles]
theorem Rx.lens (r : Rx) (l : V) : r.roles.length = (r.parts l).length := by cases r <;> rfl
/-- a row as it is handed in (a call with a list), or as it is kept (with a tuple) -/
def RowAt (kept : Bool) (H : Hp) (a : Addr) (r : Rx) : Prop := ∃ l : Addr, H a = some (.tup (.str r.word :: r.parts (.ref l))) ∧ ∀ as, r.args = some as → H l = some (if kept = true then .tup (as.map V.str) else .lst (as.map V.str))
theorem RowAt.mono {kept : Bool} {H H' : Hp} {a : Addr} {r : Rx} (h : RowAt kept H a r) (e : Same H H') : RowAt kept H' a r := by
  obtain ⟨l, h1, h2⟩ := h
  exact ⟨l, e _ _ h1, fun as q => e _ _ (h2 as q)⟩
/-- what a source tells of names: the kinds of fields, the classes, functions (kinds of parameters, kind of the result) -/
structure Sig where
  classes : List Str
  fields : List (Str × Str)
  funs : List (Str × List Str × Str)
/-- a row that is right by itself -/
def Rx.form (S : Sig) : Rx → Prop
  | .num x n => Nam x ∧ -1000000000 ≤ n ∧ n ≤ 1000000000 | .nil x => Nam x | .copy x y => Nam x ∧ Nam y | .bin _ x y z => Nam x ∧ Nam y ∧ Nam z | .same x y z => Nam x ∧ Nam y ∧ Nam z | .new x c => Nam x ∧ c ∈ S.classes
  | .get x y f => Nam x ∧ Nam y ∧ (S.fields.lookup f).isSome = true | .put x f y => Nam x ∧ (S.fields.lookup f).isSome = true ∧ Nam y | .call x F as => Nam x ∧ (S.funs.lookup F).isSome = true ∧ ∀ y ∈ as, Nam y
  | .see x => Nam x | .ifz x _ => Nam x | .jump _ => True | .ret x => Nam x
/-- .. and of the right kinds -/
def Rx.kinds (S : Sig) (kd : Str → Option Str) (res : Str) : Rx → Prop
  | .num x _ => kd x = some "number" | .nil x => kd x = some "object" | .copy x y => (kd x).isSome = true ∧ kd x = kd y | .bin _ x y z => kd x = some "number" ∧ kd y = some "number" ∧ kd z = some "number" | .same x y z => kd x = some "number" ∧ (kd y).isSome = true ∧ kd y = kd z | .new x _ => kd x = some "object"
  | .get x y f => kd y = some "object" ∧ (kd x).isSome = true ∧ kd x = S.fields.lookup f | .put x f y => kd x = some "object" ∧ (kd y).isSome = true ∧ kd y = S.fields.lookup f
  | .call x F as => ∃ ps q, S.funs.lookup F = some (ps, q) ∧ as.map kd = ps.map some ∧ kd x = some q
  | .see x => (kd x).isSome = true | .ifz x _ => kd x = some "number" | .jump _ => True | .ret x => kd x = some res
end W16
set_option Elab.async false
set_option linter.all false
set_option maxRecDepth 100000
set_option maxHeartbeats 4000000
namespace W16
open PySem PySem.Spec PyProof.Rows L2 RZ
section
variable {P : Program} {w : World} {K : PySem.W.Frag} {mg : Str → Option Value} {base : Heap}

/-- a Source while it is made, or made: its dicts -/
structure SrcG (K : PySem.W.Frag) (H : Hp) (p dx df dk du : Addr) (fs : List (Str × V)) (cs ks us : List (Key × V)) : Prop where
  ob : H p = some (.ins (He.ga K "Source") dx fs)
  f1 : fs.lookup ("_fields" : Str) = some (.ref df)
  f2 : fs.lookup ("_field_kinds" : Str) = some (.ref dk)
  f3 : fs.lookup ("_functions" : Str) = some (.ref du)
  nm : ∀ m ∈ (["function_at", "fields_of", "field_kind", "_take_rows", "_is_row_of", "_kinds_differ", "_take_classes", "_take_heads"] : List Str), fs.lookup m = none
  d1 : H df = some (.dK cs)
  d2 : H dk = some (.dK ks)
  d3 : H du = some (.dK us)
theorem SrcG.mono {H H' : Hp} {p dx df dk du : Addr} {fs : List (Str × V)} {cs ks us : List (Key × V)} (h : SrcG K H p dx df dk du fs cs ks us) (e : Same H H') : SrcG K H' p dx df dk du fs cs ks us := ⟨e _ _ h.ob, h.f1, h.f2, h.f3, h.nm, e _ _ h.d1, e _ _ h.d2, e _ _ h.d3⟩
def SrcH (K : PySem.W.Frag) (H : Hp) (p : Addr) (cs ks us : List (Key × V)) : Prop := ∃ dx df dk du fs, SrcG K H p dx df dk du fs cs ks us
theorem SrcH.mono {H H' : Hp} {p : Addr} {cs ks us : List (Key × V)} (h : SrcH K H p cs ks us) (e : Same H H') : SrcH K H' p cs ks us := by
  obtain ⟨dx, df, dk, du, fs, q⟩ := h
  exact ⟨dx, df, dk, du, fs, q.mono e⟩
def spFieldsOf (K : PySem.W.Frag) : Sp := fun vs H Q _ => ∃ p cs ks us x v, vs = [.ref p, .str x] ∧ SrcH K H p cs ks us ∧ valV cs (Sum.inr x : Key) = some v ∧ Q v H
def spFieldKind (K : PySem.W.Frag) : Sp := fun vs H Q _ => ∃ p cs ks us x v, vs = [.ref p, .str x] ∧ SrcH K H p cs ks us ∧ valV ks (Sum.inr x : Key) = some v ∧ Q v H
def spFunAt (K : PySem.W.Frag) : Sp := fun vs H Q _ => ∃ p cs ks us x v, vs = [.ref p, .str x] ∧ SrcH K H p cs ks us ∧ valV us (Sum.inr x : Key) = some v ∧ Q v H
def spNames : Sp := fun vs H Q _ => ∃ (a : Addr) (ns : List Str), vs = [.ref a] ∧ H a = some (.lst (ns.map V.str)) ∧ (∀ x ∈ ns, Nam x) ∧ ns.length ≤ 1000 ∧ ∀ H', Same H H' → Q (.bl true) H' 
theorem sc_Source_fields_of : FnScope ["self", "name"] ["self", "name"] (defScope s_Source_fields_of) := ⟨rfl, rfl, rfl, by decide +kernel, rfl, by decide +kernel, by decide +kernel⟩
theorem ok_Source_fields_of (T : Ctx w K mg) : HasM P w K mg base 1 "Source" "fields_of" ["self", "name"] (spFieldsOf K) := by
  obtain ⟨fd, F⟩ := T.D_Source_fields_of
  refine ⟨⟨fd, F.ok sc_Source_fields_of (fun vs H Q E h => ?_) (fun cdv A outer s H vs Q E hr h => ?_), F.bindsN fun _ _ _ _ _ _ us hl => match us, hl with | [_, _], _ => rfl⟩⟩
  · obtain ⟨p, cs, ks, us, x, v, rfl, S0, hv, k⟩ := h; rfl
  · obtain ⟨p, cs, ks, us, x, v, rfl, S0, hv, k⟩ := h
    have hu := hu_of hr
    refine ⟨_, PSs.nox (pss_one (ps_ret (pe_ifExp (pt_val (pe_callB call_isi (by rfl) T.f_isinstance (by decide +kernel) (pa_cons (pv 1) (pa_cons (pe_bltn (v := .ty "str") (u := .type "str") rfl T.f_str (by decide +kernel) rfl) pa_nil)))) (pe_dget1 hu (pe_fldK (K := K) rfl (pv 0) (by rfl)) (pv 1) ⟨rfl, rfl, rfl, rfl⟩) pe_non))), ?_⟩
    obtain ⟨dx, df, dk, du, fs, S⟩ := S0
    refine ⟨_, rfl, _, _, _, _, true, rfl, .ty _, .base (.str _), kit_ty (by decide +kernel), true, rfl, iteT ?_⟩
    refine ⟨_, rfl, p, _, dx, fs, _, rfl, S.ob, T.c_Source, T.n_Source_fields, S.f1, df, rfl, .inl ⟨_, .inl S.d1⟩, _, rfl, _, DGet.k (k := Sum.inr x) S.d1, ?_⟩
    rw [hv]
    exact k
theorem sc_Source_field_kind : FnScope ["self", "name"] ["self", "name"] (defScope s_Source_field_kind) := ⟨rfl, rfl, rfl, by decide +kernel, rfl, by decide +kernel, by decide +kernel⟩
theorem ok_Source_field_kind (T : Ctx w K mg) : HasM P w K mg base 1 "Source" "field_kind" ["self", "name"] (spFieldKind K) := by
  obtain ⟨fd, F⟩ := T.D_Source_field_kind
  refine ⟨⟨fd, F.ok sc_Source_field_kind (fun vs H Q E h => ?_) (fun cdv A outer s H vs Q E hr h => ?_), F.bindsN fun _ _ _ _ _ _ us hl => match us, hl with | [_, _], _ => rfl⟩⟩
  · obtain ⟨p, cs, ks, us, x, v, rfl, S0, hv, k⟩ := h; rfl
  · obtain ⟨p, cs, ks, us, x, v, rfl, S0, hv, k⟩ := h
    have hu := hu_of hr
    refine ⟨_, PSs.nox (pss_one (ps_ret (pe_ifExp (pt_val (pe_callB call_isi (by rfl) T.f_isinstance (by decide +kernel) (pa_cons (pv 1) (pa_cons (pe_bltn (v := .ty "str") (u := .type "str") rfl T.f_str (by decide +kernel) rfl) pa_nil)))) (pe_dget1 hu (pe_fldK (K := K) rfl (pv 0) (by rfl)) (pv 1) ⟨rfl, rfl, rfl, rfl⟩) pe_non))), ?_⟩
    obtain ⟨dx, df, dk, du, fs, S⟩ := S0
    refine ⟨_, rfl, _, _, _, _, true, rfl, .ty _, .base (.str _), kit_ty (by decide +kernel), true, rfl, iteT ?_⟩
    refine ⟨_, rfl, p, _, dx, fs, _, rfl, S.ob, T.c_Source, T.n_Source_field_kinds, S.f2, dk, rfl, .inl ⟨_, .inl S.d2⟩, _, rfl, _, DGet.k (k := Sum.inr x) S.d2, ?_⟩
    rw [hv]
    exact k
theorem sc_Source_function_at : FnScope ["self", "name"] ["self", "name"] (defScope s_Source_function_at) := ⟨rfl, rfl, rfl, by decide +kernel, rfl, by decide +kernel, by decide +kernel⟩
theorem ok_Source_function_at (T : Ctx w K mg) : HasM P w K mg base 1 "Source" "function_at" ["self", "name"] (spFunAt K) := by
  obtain ⟨fd, F⟩ := T.D_Source_function_at
  refine ⟨⟨fd, F.ok sc_Source_function_at (fun vs H Q E h => ?_) (fun cdv A outer s H vs Q E hr h => ?_), F.bindsN fun _ _ _ _ _ _ us hl => match us, hl with | [_, _], _ => rfl⟩⟩
  · obtain ⟨p, cs, ks, us, x, v, rfl, S0, hv, k⟩ := h; rfl
  · obtain ⟨p, cs, ks, us, x, v, rfl, S0, hv, k⟩ := h
    have hu := hu_of hr
    refine ⟨_, PSs.nox (pss_one (ps_ret (pe_ifExp (pt_val (pe_callB call_isi (by rfl) T.f_isinstance (by decide +kernel) (pa_cons (pv 1) (pa_cons (pe_bltn (v := .ty "str") (u := .type "str") rfl T.f_str (by decide +kernel) rfl) pa_nil)))) (pe_dget1 hu (pe_fldK (K := K) rfl (pv 0) (by rfl)) (pv 1) ⟨rfl, rfl, rfl, rfl⟩) pe_non))), ?_⟩
    obtain ⟨dx, df, dk, du, fs, S⟩ := S0
    refine ⟨_, rfl, _, _, _, _, true, rfl, .ty _, .base (.str _), kit_ty (by decide +kernel), true, rfl, iteT ?_⟩
    refine ⟨_, rfl, p, _, dx, fs, _, rfl, S.ob, T.c_Source, T.n_Source_functions, S.f3, du, rfl, .inl ⟨_, .inl S.d3⟩, _, rfl, _, DGet.k (k := Sum.inr x) S.d3, ?_⟩
    rw [hv]
    exact k
theorem sc_is_list_of_names : FnScope ["thing", "part"] ["thing"] (defScope s_is_list_of_names) := ⟨rfl, rfl, rfl, by decide +kernel, rfl, by decide +kernel, by decide +kernel⟩
theorem ok_is_list_of_names (T : Ctx w K mg) (H_is_name : Has P w K mg base 1 "is_name" ["thing"] spName) : Has P w K mg base 2 "is_list_of_names" ["thing"] spNames := by
  obtain ⟨fd, F⟩ := T.D_is_list_of_names
  obtain ⟨fd_is_name, G_is_name, b_is_name⟩ := H_is_name.ex
  refine ⟨⟨fd, F.ok sc_is_list_of_names (fun vs H Q E h => ?_) (fun cdv A outer s H vs Q E hr h => ?_), F.bindsN fun _ _ _ _ _ _ us hl => match us, hl with | [_], _ => rfl⟩, F.kp, T.g_is_list_of_names⟩
  · obtain ⟨a, ns, rfl, ha, hN, hl, k⟩ := h; rfl
  · obtain ⟨a, ns, rfl, ha, hN, hl, k⟩ := h
    have hr_is_name : Room 1 _ := hr.mono (by decide)
    have hu := hu_of hr
    refine ⟨_, PSs.nox (pss_one (ps_ret (pe_and (pe_callB call_isi (by rfl) T.f_isinstance (by decide +kernel) (pa_cons (pv 0) (pa_cons (pe_bltn (v := .ty "list") (u := .type "list") rfl T.f_list (by decide +kernel) rfl) pa_nil))) (pe_one (pe_callB (cr_all rfl) (by rfl) T.f_all (by decide +kernel) (pa_cons (pe_lc (own := [("part", 1)]) (g := gName 1) (tt := tYes) rfl sc_is_list_of_names.nd (pi_list (pv 0)) (blkOk_by (N := ["thing", "part"]) (sc := defScope s_is_list_of_names) (by decide +kernel)) (fun _ _ _ _ _ => (pg_name (i := 1) sc_is_list_of_names.nd rfl (Or.inl rfl))) (fun _ _ _ _ _ => pts_nil) (fun _ _ _ _ _ => (pe_call G_is_name hr_is_name (by rfl) H_is_name.gl H_is_name.kp b_is_name .nil pass0 (pa_cons (pv 1) pa_nil)))) pa_nil)))))), ?_⟩
    refine ⟨_, rfl, _, _, _, _, true, rfl, .ty _, .base (.lst ha), kit_ty (by decide +kernel), true, rfl, iteT ?_⟩
    refine ⟨_, rfl, a, rfl, ⟨_, SqL.of ha⟩, fun D hD => ?_⟩
    refine lc_pure (walk_list (K := K) (a := a) (xs := ns.map V.str)) hD (fun _ => .bl true) (by rw [List.length_map]; omega) (fun H1 s1 => SqL.of (s1 _ _ ha)) (fun i H1 y H2 hi s1 hy Qe qe => ?_) (fun H1 s1 h1 => ?_)
    · obtain ⟨rfl, hy⟩ := hy
      rw [List.getElem?_map] at hy
      cases e : ns[i]? with
      | none => rw [e] at hy; cases hy
      | some x =>
        rw [e] at hy
        obtain rfl := Option.some.inj hy
        exact ⟨rfl, _, rfl, x, rfl, hN x (List.mem_of_getElem? e), fun H' s' => qe H' s'⟩
    · exact ⟨D, (List.range (ns.map V.str).length).map (fun _ => true), rfl, SqL.of (by rw [h1, List.map_map]; rfl), qT all_true (k _ s1)⟩

end
end W16
set_option Elab.async false
set_option linter.all false
set_option maxRecDepth 100000
set_option maxHeartbeats 4000000
namespace W16
open PySem PySem.Spec PyProof.Rows L2 RZ
section
variable {P : Program} {w : World} {K : PySem.W.Frag} {mg : Str → Option Value} {base : Heap}

theorem slice1 {x : V} {xs : List V} : cutV (x :: xs) (some 1) none = xs ∧ ¬ (HT.sIx (x :: xs).length 0 (some 1) = 0 ∧ HT.sIx (x :: xs).length (x :: xs).length none = (x :: xs).length) := by
  have e1 : HT.sIx (x :: xs).length 0 (some 1) = 1 := by
    unfold HT.sIx
    simp
    try omega
  have e2 : HT.sIx (x :: xs).length (x :: xs).length none = (x :: xs).length := by
    unfold HT.sIx
    rfl
  refine ⟨?_, fun h => by rw [e1] at h; omega⟩
  unfold cutV
  rw [e1, e2]
  simp
theorem map_get {α : Type} {f : α → V} {l : List α} {i : Nat} {y : V} (h : (l.map f)[i]? = some y) : ∃ x, l[i]? = some x ∧ f x = y := by
  rw [List.getElem?_map] at h
  cases e : l[i]? with
  | none =>
    rw [e] at h
    cases h
  | some x =>
    rw [e] at h
    exact ⟨x, rfl, Option.some.inj h⟩
theorem Ctx.roleK (T : Ctx w K mg) {x : Str} {rs : List Str} (m : (x, rs) ∈ roles) : KDct K w (He.ga K "ROLES") x (.ref (rolA K x)) := by
  obtain ⟨es, n, D⟩ := T.rolesD
  exact ⟨es, n, _, D.at_, D.lit, (T.role m (fun _ => none)).1, rfl⟩
/-- what fills a role, in a source with these dicts -/
inductive FitsG (H : Hp) (cs ks us : List (Key × V)) : Str → V → Prop where
  | sets {x : Str} (h : Nam x) : FitsG H cs ks us "sets" (.str x)
  | reads {x : Str} (h : Nam x) : FitsG H cs ks us "reads" (.str x)
  | num {i : Int} (h1 : -1000000000 ≤ i) (h2 : i ≤ 1000000000) : FitsG H cs ks us "number" (.int i)
  | cls {x : Str} {v : V} (h : valV cs (Sum.inr x : Key) = some v) (n : v ≠ .non) : FitsG H cs ks us "class" (.str x)
  | fld {x : Str} {v : V} (h : valV ks (Sum.inr x : Key) = some v) (n : v ≠ .non) : FitsG H cs ks us "field" (.str x)
  | fn {x : Str} {v : V} (h : valV us (Sum.inr x : Key) = some v) (n : v ≠ .non) : FitsG H cs ks us "function" (.str x)
  | many {a : Addr} {ns : List Str} (h : H a = some (.lst (ns.map V.str))) (hN : ∀ x ∈ ns, Nam x) (hl : ns.length ≤ 1000) : FitsG H cs ks us "many" (.ref a)
  | row (i : Int) : FitsG H cs ks us "row" (.int i)
theorem FitsG.mono {H H' : Hp} {cs ks us : List (Key × V)} {x : Str} {v : V} (h : FitsG H cs ks us x v) (e : Same H H') : FitsG H' cs ks us x v := by
  cases h with
  | sets h => exact .sets h
  | reads h => exact .reads h
  | num h1 h2 => exact .num h1 h2
  | cls h n => exact .cls h n
  | fld h n => exact .fld h n
  | fn h n => exact .fn h n
  | many h a b => exact .many (e _ _ h) a b
  | row i => exact .row i
theorem notnone {v : V} (n : v ≠ .non) : (!decide (v = V.non)) = true := by
  rw [decide_eq_false n]
  rfl
def spFillsG (K : PySem.W.Frag) : Sp := fun vs H Q _ => ∃ p cs ks us role part, vs = [.ref p, .str role, part] ∧ SrcH K H p cs ks us ∧ FitsG H cs ks us role part ∧ ∀ H', Same H H' → Q (.bl true) H'
/-- a row that is handed in, right by itself in a source with these dicts -/
def FormG (H : Hp) (cs ks us : List (Key × V)) (l : V) (r : Rx) : Prop := ∀ (i : Nat) x v, r.roles[i]? = some x → (r.parts l)[i]? = some v → FitsG H cs ks us x v
def spIsRowG (K : PySem.W.Frag) : Sp := fun vs H Q _ => ∃ (p : Addr) (cs ks us : List (Key × V)) (a : Addr) (l : V) (r : Rx), vs = [.ref p, .ref a, .ref (He.ga K "ROW_WORDS")] ∧ SrcH K H p cs ks us ∧ H a = some (.tup (.str r.word :: r.parts l)) ∧ FormG H cs ks us l r ∧ ∀ H', Same H H' → Q (.bl true) H'
def oS : Option Str → V
  | some k => .str k
  | none => .non
def spSetsG : Sp := fun vs H Q _ => ∃ (a : Addr) (l : V) (r : Rx), vs = [.ref a] ∧ H a = some (.tup (.str r.word :: r.parts l)) ∧ Q (oS r.sets) H
theorem sc_fills : FnScope ["source", "role", "part"] ["source", "role", "part"] (defScope s_fills) := ⟨rfl, rfl, rfl, by decide +kernel, rfl, by decide +kernel, by decide +kernel⟩
theorem ok_fills (T : Ctx w K mg) (H_is_name : Has P w K mg base 1 "is_name" ["thing"] spName) (H_is_written_number : Has P w K mg base 3 "is_written_number" ["thing"] spWritten) (H_is_integer : Has P w K mg base 1 "is_integer" ["thing"] spIsInt) (H_Source_fields_of : HasM P w K mg base 1 "Source" "fields_of" ["self", "name"] (spFieldsOf K)) (H_Source_field_kind : HasM P w K mg base 1 "Source" "field_kind" ["self", "name"] (spFieldKind K)) (H_Source_function_at : HasM P w K mg base 1 "Source" "function_at" ["self", "name"] (spFunAt K)) (H_is_list_of_names : Has P w K mg base 2 "is_list_of_names" ["thing"] spNames) : Has P w K mg base 4 "_fills" ["source", "role", "part"] (spFillsG K) := by
  obtain ⟨fd, F⟩ := T.D_fills
  obtain ⟨fd_is_name, G_is_name, b_is_name⟩ := H_is_name.ex
  obtain ⟨fd_is_written_number, G_is_written_number, b_is_written_number⟩ := H_is_written_number.ex
  obtain ⟨fd_is_integer, G_is_integer, b_is_integer⟩ := H_is_integer.ex
  obtain ⟨fd_Source_fields_of, G_Source_fields_of, b_Source_fields_of⟩ := H_Source_fields_of.ex
  obtain ⟨fd_Source_field_kind, G_Source_field_kind, b_Source_field_kind⟩ := H_Source_field_kind.ex
  obtain ⟨fd_Source_function_at, G_Source_function_at, b_Source_function_at⟩ := H_Source_function_at.ex
  obtain ⟨fd_is_list_of_names, G_is_list_of_names, b_is_list_of_names⟩ := H_is_list_of_names.ex
  refine ⟨⟨fd, F.ok sc_fills (fun vs H Q E h => ?_) (fun cdv A outer s H vs Q E hr h => ?_), F.bindsN fun _ _ _ _ _ _ us hl => match us, hl with | [_, _, _], _ => rfl⟩, F.kp, T.g_fills⟩
  · obtain ⟨p, cs, ks, us, role, part, rfl, S0, F0, k⟩ := h; rfl
  · obtain ⟨p, cs, ks, us, role, part, rfl, S0, F0, k⟩ := h
    have hr_is_name : Room 1 _ := hr.mono (by decide)
    have hr_is_written_number : Room 3 _ := hr.mono (by decide)
    have hr_is_integer : Room 1 _ := hr.mono (by decide)
    have hr_Source_fields_of : Room 1 _ := hr.mono (by decide)
    have hr_Source_field_kind : Room 1 _ := hr.mono (by decide)
    have hr_Source_function_at : Room 1 _ := hr.mono (by decide)
    have hr_is_list_of_names : Room 2 _ := hr.mono (by decide)
    have hu := hu_of hr
    refine ⟨_, PSs.nox (pss_cons (ps_if (pt_cmpR op_in_seq (pv 1) (pe_tup (pa_cons pe_str (pa_cons pe_str pa_nil))) rfl) (pss_one (ps_ret (pe_call G_is_name hr_is_name (by rfl) H_is_name.gl H_is_name.kp b_is_name .nil pass0 (pa_cons (pv 2) pa_nil)))) pss_nil)
      (pss_cons (ps_if (pt_cmpR op_eq (pv 1) pe_str (nomark _)) (pss_one (ps_ret (pe_call G_is_written_number hr_is_written_number (by rfl) H_is_written_number.gl H_is_written_number.kp b_is_written_number .nil pass0 (pa_cons (pv 2) pa_nil)))) pss_nil)
      (pss_cons (ps_if (pt_cmpR op_eq (pv 1) pe_str (nomark _)) (pss_one (ps_ret (pe_cmpR op_notN (pe_meth (pv 0) T.c_Source T.m_Source_fields_of G_Source_fields_of hr_Source_fields_of b_Source_fields_of .nil pass0 (pa_cons (pv 2) pa_nil)) pe_non (nomark _)))) pss_nil)
      (pss_cons (ps_if (pt_cmpR op_eq (pv 1) pe_str (nomark _)) (pss_one (ps_ret (pe_cmpR op_notN (pe_meth (pv 0) T.c_Source T.m_Source_field_kind G_Source_field_kind hr_Source_field_kind b_Source_field_kind .nil pass0 (pa_cons (pv 2) pa_nil)) pe_non (nomark _)))) pss_nil)
      (pss_cons (ps_if (pt_cmpR op_eq (pv 1) pe_str (nomark _)) (pss_one (ps_ret (pe_cmpR op_notN (pe_meth (pv 0) T.c_Source T.m_Source_function_at G_Source_function_at hr_Source_function_at b_Source_function_at .nil pass0 (pa_cons (pv 2) pa_nil)) pe_non (nomark _)))) pss_nil)
      (pss_cons (ps_if (pt_cmpR op_eq (pv 1) pe_str (nomark _)) (pss_one (ps_ret (pe_call G_is_list_of_names hr_is_list_of_names (by rfl) H_is_list_of_names.gl H_is_list_of_names.kp b_is_list_of_names .nil pass0 (pa_cons (pv 2) pa_nil)))) pss_nil)
      (pss_cons (ps_if (pt_cmpR op_eq (pv 1) pe_str (nomark _)) (pss_one (ps_ret (pe_call G_is_integer hr_is_integer (by rfl) H_is_integer.gl H_is_integer.kp b_is_integer .nil pass0 (pa_cons (pv 2) pa_nil)))) pss_nil)
      (pss_one ps_never)))))))), ?_⟩
    obtain ⟨dx, df, dk, du, fs, S⟩ := id S0
    refine ⟨_, rfl, sz_of (by decide), fun t ht => ⟨t, _, rfl, .inr (SqT.of upd_same), rfl, rfl, ?_⟩⟩
    have s1 : Same H (upd H t (.tup [.str "sets", .str "reads"])) := Same.new ht
    cases F0 with
    | sets h => exact ⟨_, rfl, ifT rfl ⟨_, rfl, _, rfl, h, fun H' s' => k H' (s1.trans s')⟩⟩
    | reads h => exact ⟨_, rfl, ifT rfl ⟨_, rfl, _, rfl, h, fun H' s' => k H' (s1.trans s')⟩⟩
    | num h1 h2 => exact ⟨_, rfl, ifF rfl ⟨_, rfl, rfl, _, rfl, ifT rfl ⟨_, rfl, _, rfl, h1, h2, k _ s1⟩⟩⟩
    | cls h n => exact ⟨_, rfl, ifF rfl ⟨_, rfl, rfl, _, rfl, ifF rfl ⟨_, rfl, rfl, _, rfl, ifT rfl ⟨_, rfl, p, dx, fs, rfl, s1 _ _ S.ob, S.nm _ (by decide +kernel), _, rfl, p, cs, ks, us, _, _, rfl, S0.mono s1, h, rfl, qT (notnone n) (k _ s1)⟩⟩⟩⟩
    | fld h n => exact ⟨_, rfl, ifF rfl ⟨_, rfl, rfl, _, rfl, ifF rfl ⟨_, rfl, rfl, _, rfl, ifF rfl ⟨_, rfl, rfl, _, rfl, ifT rfl ⟨_, rfl, p, dx, fs, rfl, s1 _ _ S.ob, S.nm _ (by decide +kernel), _, rfl, p, cs, ks, us, _, _, rfl, S0.mono s1, h, rfl, qT (notnone n) (k _ s1)⟩⟩⟩⟩⟩
    | fn h n => exact ⟨_, rfl, ifF rfl ⟨_, rfl, rfl, _, rfl, ifF rfl ⟨_, rfl, rfl, _, rfl, ifF rfl ⟨_, rfl, rfl, _, rfl, ifF rfl ⟨_, rfl, rfl, _, rfl, ifT rfl ⟨_, rfl, p, dx, fs, rfl, s1 _ _ S.ob, S.nm _ (by decide +kernel), _, rfl, p, cs, ks, us, _, _, rfl, S0.mono s1, h, rfl, qT (notnone n) (k _ s1)⟩⟩⟩⟩⟩⟩
    | many h hN hl => exact ⟨_, rfl, ifF rfl ⟨_, rfl, rfl, _, rfl, ifF rfl ⟨_, rfl, rfl, _, rfl, ifF rfl ⟨_, rfl, rfl, _, rfl, ifF rfl ⟨_, rfl, rfl, _, rfl, ifF rfl ⟨_, rfl, rfl, _, rfl, ifT rfl ⟨_, rfl, _, _, rfl, s1 _ _ h, hN, hl, fun H' s' => k H' (s1.trans s')⟩⟩⟩⟩⟩⟩⟩
    | row i => exact ⟨_, rfl, ifF rfl ⟨_, rfl, rfl, _, rfl, ifF rfl ⟨_, rfl, rfl, _, rfl, ifF rfl ⟨_, rfl, rfl, _, rfl, ifF rfl ⟨_, rfl, rfl, _, rfl, ifF rfl ⟨_, rfl, rfl, _, rfl, ifF rfl ⟨_, rfl, rfl, _, rfl, ifT rfl ⟨_, rfl, i, rfl, k _ s1⟩⟩⟩⟩⟩⟩⟩⟩
theorem sc_is_row : FnScope ["source", "thing", "words", "roles", "role", "part"] ["source", "thing", "words"] (defScope s_is_row) := ⟨rfl, rfl, rfl, by decide +kernel, rfl, by decide +kernel, by decide +kernel⟩
theorem ok_is_row (T : Ctx w K mg) (H_is_word_tuple : Has P w K mg base 1 "is_word_tuple" ["thing"] spWord) (H_fills : Has P w K mg base 4 "_fills" ["source", "role", "part"] (spFillsG K)) : Has P w K mg base 5 "is_row" ["source", "thing", "words"] (spIsRowG K) := by
  obtain ⟨fd, F⟩ := T.D_is_row
  obtain ⟨fd_is_word_tuple, G_is_word_tuple, b_is_word_tuple⟩ := H_is_word_tuple.ex
  obtain ⟨fd_fills, G_fills, b_fills⟩ := H_fills.ex
  refine ⟨⟨fd, F.ok sc_is_row (fun vs H Q E h => ?_) (fun cdv A outer s H vs Q E hr h => ?_), F.bindsN fun _ _ _ _ _ _ us hl => match us, hl with | [_, _, _], _ => rfl⟩, F.kp, T.g_is_row⟩
  · obtain ⟨p, cs, ks, us, a, l, r, rfl, S0, ha, hb, k⟩ := h; rfl
  · obtain ⟨p, cs, ks, us, a, l, r, rfl, S0, ha, hb, k⟩ := h
    have hr_is_word_tuple : Room 1 _ := hr.mono (by decide)
    have hr_fills : Room 4 _ := hr.mono (by decide)
    have hu := hu_of hr
    refine ⟨_, PSs.nox (pss_cons (ps_if (PW.pt (pw_or (pt_not (pt_val (pe_call G_is_word_tuple hr_is_word_tuple (by rfl) H_is_word_tuple.gl H_is_word_tuple.kp b_is_word_tuple .nil pass0 (pa_cons (pv 1) pa_nil)))) (pw_or1 (pt_cmpR op_notIn_seq (pe_ix ix_tup (pv 1) pe_int (fun _ _ => rfl)) (pv 2) rfl)))) (pss_one (ps_ret pe_bl)) pss_nil)
      (pss_cons (ps_set (i := 3) sc_is_row.nd rfl (Or.inl rfl) (pe_ix ix_kdict (pe_glob (v := .ref (He.ga K "ROLES")) rfl T.g_ROLES rfl) (pe_ix ix_tup (pv 1) pe_int (fun _ _ => rfl)) (fun _ _ => rfl)))
      (pss_cons (ps_if (pt_cmpR op_ne (pe_callB call_len_seq (by rfl) T.f_len (by decide +kernel) (pa_cons (pv 1) pa_nil)) (pe_op op_add (pe_callB call_len_seq (by rfl) T.f_len (by decide +kernel) (pa_cons (pv 3) pa_nil)) pe_int) (nomark _)) (pss_one (ps_ret pe_bl)) pss_nil)
      (pss_one (ps_ret (pe_callB (cr_all rfl) (by rfl) T.f_all (by decide +kernel) (pa_cons (pe_lc (own := [("role", 4), ("part", 5)]) (g := gTup K 2 (gCons (gName 4) (gCons (gName 5) (gNil)))) (tt := tYes) rfl sc_is_row.nd (pi_zipA (by rfl) T.f_zip (pa_cons (pv 3) (pa_cons (pe_slice sl_tup (pv 1) (po_some pe_int) po_none) pa_nil))) (blkOk_by (N := ["source", "thing", "words", "roles", "role", "part"]) (sc := defScope s_is_row) (by decide +kernel)) (fun _ _ _ _ _ => (pg_tup rfl (pgs_cons (pg_name (i := 4) sc_is_row.nd rfl (Or.inl rfl)) (pgs_cons (pg_name (i := 5) sc_is_row.nd rfl (Or.inl rfl)) pgs_nil)))) (fun _ _ _ _ _ => pts_nil) (fun _ _ _ _ _ => (pe_call G_fills hr_fills (by rfl) H_fills.gl H_fills.kp b_fills .nil pass0 (pa_cons (pv 0) (pa_cons (pv 4) (pa_cons (pv 5) pa_nil)))))) pa_nil))))))), ?_⟩
    have hw : inV (V.str r.word) (v_ROW_WORDS.map (He.Dv.v K)) = true := by
      cases r with
      | bin kk x y z =>
        have key : ∀ kk : Fin 4, inV (V.str (binW kk)) (v_ROW_WORDS.map fun d => match d with | .str x => V.str x | _ => V.non) = true := by decide +kernel
        exact key kk
      | _ => rfl
    have hflat : (v_ROW_WORDS.map (He.Dv.v K)).all flatV = true := rfl
    have hlp : (r.parts l).length ≤ 3 := by cases r <;> simp [Rx.parts]
    refine ⟨_, rfl, a, r.word, r.parts l, rfl, ha, _, rfl, iteF ?_⟩
    refine ⟨_, rfl, _, _, _, _, rfl, rfl, SqT.of ha, at0, _, rfl, _, _, rfl, .inr (T.rowwords H), rfl, hflat, _, rfl, ifF ?_ ?_⟩
    · show (if true = true then !inV (V.str r.word) (v_ROW_WORDS.map (He.Dv.v K)) else inV (V.str r.word) (v_ROW_WORDS.map (He.Dv.v K))) = false
      rw [hw]
      rfl
    refine ⟨_, rfl, _, _, _, _, rfl, rfl, SqT.of ha, at0, _, _, _, rfl, rfl, T.roleK (rx_roles_mem r), ?_⟩
    have hro : ∀ H, SqT K H (rolA K r.word) (r.roles.map V.str) := fun H => (T.role (rx_roles_mem r) H).2
    refine ⟨_, rfl, _, _, rfl, .inr (SqT.of ha), _, rfl, _, _, rfl, .inr (hro H), _, _, rfl, rfl, rfl, _, rfl, ifF ?_ ?_⟩
    · show (!decide (V.int (((V.str r.word :: r.parts l).length : Nat) : Int) = V.int (((r.roles.map V.str).length : Nat) + 1 : Int))) = false
      rw [decide_eq_true]
      · rfl
      · rw [List.length_map, r.lens l]
        rfl
    refine ⟨_, rfl, _, rfl, 1, rfl, a, _, rfl, SqT.of ha, slice1.2, fun t ht => ?_⟩
    have s1 : Same H (upd H t (.tup (cutV (V.str r.word :: r.parts l) (some 1) none))) := Same.new ht
    have ht1 : (upd H t (.tup (cutV (V.str r.word :: r.parts l) (some 1) none))) t = some (.tup (r.parts l)) := by
      rw [upd_same]
      exact congrArg (fun l => some (HO.tup l)) slice1.1
    refine ⟨_, t, _, r.parts l, rfl, .inr ⟨hro _, SqT.of ht1, fun D hD => ?_⟩⟩
    refine lc_pure (walk_zipT (K := K) (xs := r.roles.map V.str) (ys := r.parts l) (n := (r.parts l).length) (by rw [List.length_map, r.lens l, Nat.min_self])) hD (fun _ => .bl true) (by omega) (fun H2 s2 => ⟨hro _, SqT.of (s2 _ _ ht1)⟩) (fun i H2 y H3 hi s2 hy Qe qe => ?_) (fun H2 s2 h2 => ?_)
    · obtain ⟨u, x, v, rfl, hu0, rfl, hx, hv⟩ := hy
      obtain ⟨role, e, rfl⟩ := map_get (show (r.roles.map V.str)[i]? = some x from hx)
      have s3 := s1.trans (s2.trans (Same.new (o := .tup [V.str role, v]) hu0))
      refine ⟨u, _, rfl, SqT.of upd_same, rfl, _, _, rfl, _, _, rfl, rfl, rfl, ?_⟩
      exact ⟨_, rfl, _, rfl, _, rfl, p, cs, ks, us, role, v, rfl, S0.mono s3, (hb i role v e hv).mono s3, fun H' s' => qe H' ((Same.new hu0).trans s')⟩
    · exact ⟨D, (List.range (r.parts l).length).map (fun _ => true), rfl, SqL.of (by rw [h2, List.map_map]; rfl), qT all_true (k _ (s1.trans s2))⟩
theorem sc_row_sets : FnScope ["row"] ["row"] (defScope s_row_sets) := ⟨rfl, rfl, rfl, by decide +kernel, rfl, by decide +kernel, by decide +kernel⟩
theorem ok_row_sets (T : Ctx w K mg) : Has P w K mg base 1 "row_sets" ["row"] spSetsG := by
  obtain ⟨fd, F⟩ := T.D_row_sets
  refine ⟨⟨fd, F.ok sc_row_sets (fun vs H Q E h => ?_) (fun cdv A outer s H vs Q E hr h => ?_), F.bindsN fun _ _ _ _ _ _ us hl => match us, hl with | [_], _ => rfl⟩, F.kp, T.g_row_sets⟩
  · obtain ⟨a, l, r, rfl, ha, k⟩ := h; rfl
  · obtain ⟨a, l, r, rfl, ha, k⟩ := h
    have hu := hu_of hr
    refine ⟨_, PSs.nox (pss_one (ps_ret (pe_ifExp (pt_cmpR op_eq (pe_ix ix_tup (pe_ix ix_kdict (pe_glob (v := .ref (He.ga K "ROLES")) rfl T.g_ROLES rfl) (pe_ix ix_tup (pv 0) pe_int (fun _ _ => rfl)) (fun _ _ => rfl)) pe_int (fun _ _ => rfl)) pe_str (nomark _)) (pe_ix ix_tup (pv 0) pe_int (fun _ _ => rfl)) pe_non))), ?_⟩
    have hro : ∀ H, SqT K H (rolA K r.word) (r.roles.map V.str) := fun H => (T.role (rx_roles_mem r) H).2
    refine ⟨_, rfl, _, _, _, _, rfl, rfl, SqT.of ha, at0, _, _, _, rfl, rfl, T.roleK (rx_roles_mem r), ?_⟩
    cases r <;> first
      | exact ⟨_, _, _, _, rfl, rfl, hro H, at0, rfl, _, rfl, ifT rfl ⟨_, rfl, _, _, _, _, rfl, rfl, SqT.of ha, at1, k⟩⟩
      | exact ⟨_, _, _, _, rfl, rfl, hro H, at0, rfl, _, rfl, ifF rfl k⟩

end
end W16
set_option Elab.async false
set_option linter.all false
set_option maxRecDepth 100000
set_option maxHeartbeats 4000000
namespace W16
open PySem PySem.Spec PyProof.Rows L2 RZ
section
variable {P : Program} {w : World} {K : PySem.W.Frag} {mg : Str → Option Value} {base : Heap}

/-- the parts that are read; as stands for the names of a call -/
def rdG (as : List V) : List Str → List V → List V
  | x :: rs, v :: vs => (if x = "reads" then [v] else if x = "many" then as else []) ++ rdG as rs vs
  | _, _ => []
theorem rdG_snoc {as : List V} : ∀ {rs : List Str} {vs : List V} {i : Nat} {x : Str} {v : V}, rs[i]? = some x → vs[i]? = some v → rdG as (rs.take (i + 1)) (vs.take (i + 1)) = rdG as (rs.take i) (vs.take i) ++ (if x = "reads" then [v] else if x = "many" then as else [])
  | [], vs, i, x, v, h, _ => by simp at h
  | a :: rs, [], i, x, v, _, h => by simp at h
  | a :: rs, b :: vs, 0, x, v, h1, h2 => by
    have e1 : a = x := Option.some.inj h1
    have e2 : b = v := Option.some.inj h2
    subst e1 e2
    show (if a = "reads" then [b] else if a = "many" then as else []) ++ rdG as [] [] = [] ++ _
    simp [rdG]
  | a :: rs, b :: vs, i + 1, x, v, h1, h2 => by
    have ih := rdG_snoc (as := as) (rs := rs) (vs := vs) (i := i) (x := x) (v := v) h1 h2
    show _ ++ rdG as (rs.take (i + 1)) (vs.take (i + 1)) = (_ ++ rdG as (rs.take i) (vs.take i)) ++ _
    rw [ih, List.append_assoc]
theorem rdG_len {as : List V} : ∀ (rs : List Str) (vs : List V), (rdG as rs vs).length ≤ rs.length * (as.length + 1)
  | [], vs => by simp [rdG]
  | a :: rs, [] => by simp [rdG]
  | a :: rs, b :: vs => by
    have ih := rdG_len (as := as) rs vs
    have h1 : (if a = "reads" then [b] else if a = "many" then as else []).length ≤ as.length + 1 := by
      split
      · simp
      · split <;> simp
    show (_ ++ rdG as rs vs).length ≤ (rs.length + 1) * (as.length + 1)
    rw [List.length_append, Nat.add_mul]
    omega
theorem Rx.rd (r : Rx) (l : V) (as : List V) (h : ∀ bs, r.args = some bs → as = bs.map V.str) : rdG as r.roles (r.parts l) = r.reads.map V.str := by
  have n1 : ¬ (("sets" : Str) = "reads") := by decide +kernel
  have n2 : ¬ (("row" : Str) = "reads") := by decide +kernel
  have n3 : ¬ (("number" : Str) = "reads") := by decide +kernel
  have n4 : ¬ (("class" : Str) = "reads") := by decide +kernel
  have n5 : ¬ (("field" : Str) = "reads") := by decide +kernel
  have n6 : ¬ (("function" : Str) = "reads") := by decide +kernel
  have n7 : ¬ (("many" : Str) = "reads") := by decide +kernel
  have m1 : ¬ (("sets" : Str) = "many") := by decide +kernel
  have m2 : ¬ (("row" : Str) = "many") := by decide +kernel
  have m3 : ¬ (("number" : Str) = "many") := by decide +kernel
  have m4 : ¬ (("class" : Str) = "many") := by decide +kernel
  have m5 : ¬ (("field" : Str) = "many") := by decide +kernel
  have m6 : ¬ (("function" : Str) = "many") := by decide +kernel
  cases r with
  | call x F bs => simp [Rx.roles, Rx.parts, Rx.reads, rdG, n1, n6, n7, m1, m6, h bs rfl]
  | _ => simp [Rx.roles, Rx.parts, Rx.reads, rdG, n1, n2, n3, n4, n5, m1, m2, m3, m4, m5]
/-- the names of a call, where its list stands -/
def Rx.namesOf (r : Rx) : List Str := r.args.getD []
theorem Rx.many_at {r : Rx} {l : V} {i : Nat} {v : V} (h1 : r.roles[i]? = some "many") (h2 : (r.parts l)[i]? = some v) : ∃ bs, r.args = some bs ∧ v = l := by
  have key : ∀ {xs : List Str}, ¬ (("many" : Str) ∈ xs) → xs[i]? = some "many" → False := fun hn h => hn (List.mem_of_getElem? h)
  cases r with
  | call x F bs =>
    refine ⟨bs, rfl, ?_⟩
    match i, h1, h2 with
    | 0, h1, _ => exact absurd (Option.some.inj h1) (by decide +kernel)
    | 1, h1, _ => exact absurd (Option.some.inj h1) (by decide +kernel)
    | 2, _, h2 => exact (Option.some.inj h2).symm
  | _ => exact (key (by simp [Rx.roles]; decide +kernel) h1).elim
def spReadsG : Sp := fun vs H Q _ => ∃ (a l : Addr) (r : Rx), vs = [.ref a] ∧ H a = some (.tup (.str r.word :: r.parts (.ref l))) ∧ (∀ bs, r.args = some bs → H l = some (.lst (bs.map V.str)) ∧ bs.length ≤ 1000) ∧ ∀ p H', Same H H' → H p = none → H' p = some (.lst (r.reads.map V.str)) → Q (.ref p) H' 
theorem sc_row_reads : FnScope ["row", "names", "role", "part"] ["row"] (defScope s_row_reads) := ⟨rfl, rfl, rfl, by decide +kernel, rfl, by decide +kernel, by decide +kernel⟩
theorem ok_row_reads (T : Ctx w K mg) : Has P w K mg base 1 "row_reads" ["row"] spReadsG := by
  obtain ⟨fd, F⟩ := T.D_row_reads
  refine ⟨⟨fd, F.ok sc_row_reads (fun vs H Q E h => ?_) (fun cdv A outer s H vs Q E hr h => ?_), F.bindsN fun _ _ _ _ _ _ us hl => match us, hl with | [_], _ => rfl⟩, F.kp, T.g_row_reads⟩
  · obtain ⟨a, m, r, rfl, ha, hm, k⟩ := h; rfl
  · obtain ⟨a, m, r, rfl, ha, hm, k⟩ := h
    have hu := hu_of hr
    refine ⟨_, PSs.nox (pss_cons (ps_set (i := 1) sc_row_reads.nd rfl (Or.inl rfl) (pe_lst pa_nil))
      (pss_cons (ps_for PassesOwn.never rfl (pi_zipA (by rfl) T.f_zip (pa_cons (pe_ix ix_kdict (pe_glob (v := .ref (He.ga K "ROLES")) rfl T.g_ROLES rfl) (pe_ix ix_tup (pv 0) pe_int (fun _ _ => rfl)) (fun _ _ => rfl)) (pa_cons (pe_slice sl_tup (pv 0) (po_some pe_int) po_none) pa_nil))) (pg_tup rfl (pgs_cons (pg_name (i := 2) sc_row_reads.nd rfl (Or.inl rfl)) (pgs_cons (pg_name (i := 3) sc_row_reads.nd rfl (Or.inl rfl)) pgs_nil)))
      (pss_one (ps_if (pt_cmpR op_eq (pv 2) pe_str (nomark _)) (pss_one (ps_expr (pe_bm PySem.F.plainAttrs_list PySem.F.slot_list_append PySem.F.type_list_append mt_append (pv 1) (pa_cons (pv 3) pa_nil)))) (pss_one (ps_if (pt_cmpR op_eq (pv 2) pe_str (nomark _)) (pss_one (ps_expr (pe_bm PySem.F.plainAttrs_list PySem.F.slot_list_extend PySem.F.type_list_extend mt_extend (pv 1) (pa_cons (pv 3) pa_nil)))) pss_nil)))))
      (pss_one (ps_ret (pv 1))))), ?_⟩
    have hro : ∀ H, SqT K H (rolA K r.word) (r.roles.map V.str) := fun H => (T.role (rx_roles_mem r) H).2
    have hlp : (r.parts (.ref m)).length ≤ 3 := by cases r <;> simp [Rx.parts]
    have hlr := r.lens (.ref m)
    refine ⟨sz_of (by decide), fun l hl => ?_⟩
    have s0 : Same H (upd H l (.lst [])) := Same.new hl
    refine ⟨_, rfl, _, _, _, _, rfl, rfl, SqT.of (s0 _ _ ha), at0, _, _, _, rfl, rfl, T.roleK (rx_roles_mem r), ?_⟩
    refine ⟨_, rfl, 1, rfl, a, _, rfl, SqT.of (s0 _ _ ha), slice1.2, fun t ht => ?_⟩
    have s1 : Same (upd H l (.lst [])) (upd (upd H l (.lst [])) t (.tup (cutV (V.str r.word :: r.parts (.ref m)) (some 1) none))) := Same.new ht
    have ht1 : (upd (upd H l (.lst [])) t (.tup (cutV (V.str r.word :: r.parts (.ref m)) (some 1) none))) t = some (.tup (r.parts (.ref m))) := by
      rw [upd_same]
      exact congrArg (fun l => some (HO.tup l)) slice1.1
    have hnl : r.namesOf.length ≤ 1000 := by
      unfold Rx.namesOf
      cases e : r.args with
      | none => simp
      | some bs => exact (hm bs e).2
    refine ⟨_, t, _, r.parts (.ref m), rfl, .inr ⟨hro _, SqT.of ht1, ?_⟩⟩
    refine for_it (walk_zipT (K := K) (xs := r.roles.map V.str) (ys := r.parts (.ref m)) (n := (r.parts (.ref m)).length) (by rw [List.length_map, hlr, Nat.min_self])) (fun i σ H1 => ∃ v1 v2 : Option V, σ = [some (.ref a), some (.ref l), v1, v2] ∧ Same H H1 ∧ H1 t = some (.tup (r.parts (.ref m))) ∧ H1 l = some (.lst (rdG (r.namesOf.map V.str) (r.roles.take i) ((r.parts (.ref m)).take i)))) ⟨none, none, rfl, s0.trans s1, ht1, s1 _ _ upd_same⟩ (fun i σ H1 _ ⟨_, _, _, _, h3, _⟩ => ⟨hro _, SqT.of h3⟩) ?_ ?_
    · rintro i y σ H1 H2 hi ⟨v1, v2, rfl, s2, h3, h4⟩ ⟨u, x, v, rfl, hu0, rfl, hx, hv⟩
      obtain ⟨role, e, rfl⟩ := map_get (show (r.roles.map V.str)[i]? = some x from hx)
      have hv : (r.parts (.ref m))[i]? = some v := hv
      have s3 : Same H1 (upd H1 u (.tup [V.str role, v])) := Same.new hu0
      have hsn := rdG_snoc (as := r.namesOf.map V.str) e hv
      have hsz : (rdG (r.namesOf.map V.str) (r.roles.take i) ((r.parts (.ref m)).take i)).length ≤ 3003 := by
        refine Nat.le_trans (rdG_len _ _) ?_
        rw [List.length_take, List.length_map]
        have h6 : min i r.roles.length ≤ 3 := by omega
        exact Nat.le_trans (Nat.mul_le_mul h6 (Nat.succ_le_succ hnl)) (by decide)
      have keep : ∀ {o : List V}, (upd (upd H1 u (.tup [V.str role, v])) l (.lst o)) t = some (.tup (r.parts (.ref m))) := fun {o} => by
        rw [upd_ne]
        · exact s3 _ _ h3
        · intro z
          rw [z, h4] at h3
          cases h3
      refine ⟨u, _, rfl, SqT.of upd_same, rfl, _, _, rfl, _, _, rfl, rfl, ?_⟩
      refine ⟨_, rfl, rfl, _, rfl, ?_⟩
      by_cases c : role = "reads"
      · rw [if_pos c] at hsn
        refine ifT (decide_eq_true (by rw [c])) ?_
        refine ⟨_, rfl, .inl ⟨rfl, _, SqL.of (s3 _ _ h4)⟩, _, rfl, l, _, _, rfl, rfl, s3 _ _ h4, sz_lt (by omega), ?_⟩
        exact ⟨_, _, rfl, Same.mut (s2.trans s3) hl, keep, by rw [upd_same, hsn]⟩
      · rw [if_neg c] at hsn
        refine ifF (decide_eq_false (fun z => c (V.str.inj z))) ?_
        refine ⟨_, rfl, rfl, _, rfl, ?_⟩
        by_cases c2 : role = "many"
        · subst c2
          obtain ⟨bs, hbs, rfl⟩ := Rx.many_at e hv
          rw [if_pos rfl] at hsn
          have hn : r.namesOf = bs := by
            unfold Rx.namesOf
            rw [hbs]
            rfl
          rw [hn] at hsn hsz h4
          refine ifT (decide_eq_true rfl) ?_
          have hml := s3 _ _ (s2 _ _ (hm bs hbs).1)
          refine ⟨_, rfl, .inl ⟨rfl, _, SqL.of (s3 _ _ h4)⟩, _, rfl, l, m, _, _, rfl, rfl, s3 _ _ h4, hml, sz_of (by have := (hm bs hbs).2; rw [List.length_map]; omega), ?_⟩
          refine ⟨_, _, rfl, Same.mut (s2.trans s3) hl, ?_, by rw [upd_same, hn, hsn]⟩
          rw [upd_ne]
          · exact s3 _ _ h3
          · intro z
            rw [z, h4] at h3
            cases h3
        · rw [if_neg c2, List.append_nil] at hsn
          refine ifF (decide_eq_false (fun z => c2 (V.str.inj z))) ?_
          refine ⟨_, _, rfl, s2.trans s3, s3 _ _ h3, ?_⟩
          rw [hsn]
          exact s3 _ _ h4
    · rintro σ H1 ⟨v1, v2, rfl, s2, h3, h4⟩
      refine ⟨_, rfl, k l _ s2 hl ?_⟩
      rw [h4, List.take_of_length_le (by rw [hlr]; exact Nat.le_refl _), List.take_length, r.rd _ _ (fun bs hb => by unfold Rx.namesOf; rw [hb]; rfl)]

end
end W16
set_option Elab.async false
set_option linter.all false
set_option maxRecDepth 100000
set_option maxHeartbeats 4000000
namespace W16
open PySem PySem.Spec PyProof.Rows L2 RZ
section
variable {P : Program} {w : World} {K : PySem.W.Frag} {mg : Str → Option Value} {base : Heap}

def Rx.names (r : Rx) : List Str := match r.sets with
  | some k => k :: r.reads
  | none => r.reads
def ArgsAt (H : Hp) (l : Addr) (r : Rx) : Prop := ∀ bs, r.args = some bs → H l = some (.lst (bs.map V.str)) ∧ bs.length ≤ 1000
theorem ArgsAt.mono {H H' : Hp} {l : Addr} {r : Rx} (h : ArgsAt H l r) (e : Same H H') : ArgsAt H' l r := fun bs q => ⟨e _ _ (h bs q).1, (h bs q).2⟩
def spNamesInG : Sp := fun vs H Q _ => ∃ (a l : Addr) (r : Rx), vs = [.ref a] ∧ H a = some (.tup (.str r.word :: r.parts (.ref l))) ∧ ArgsAt H l r ∧ ∀ p H', Same H H' → H' p = some (.lst (r.names.map V.str)) → Q (.ref p) H' 
theorem sc_names_in : FnScope ["row", "names", "name"] ["row"] (defScope s_names_in) := ⟨rfl, rfl, rfl, by decide +kernel, rfl, by decide +kernel, by decide +kernel⟩
theorem ok_names_in (T : Ctx w K mg) (H_row_reads : Has P w K mg base 1 "row_reads" ["row"] spReadsG) (H_row_sets : Has P w K mg base 1 "row_sets" ["row"] spSetsG) : Has P w K mg base 2 "_names_in" ["row"] spNamesInG := by
  obtain ⟨fd, F⟩ := T.D_names_in
  obtain ⟨fd_row_reads, G_row_reads, b_row_reads⟩ := H_row_reads.ex
  obtain ⟨fd_row_sets, G_row_sets, b_row_sets⟩ := H_row_sets.ex
  refine ⟨⟨fd, F.ok sc_names_in (fun vs H Q E h => ?_) (fun cdv A outer s H vs Q E hr h => ?_), F.bindsN fun _ _ _ _ _ _ us hl => match us, hl with | [_], _ => rfl⟩, F.kp, T.g_names_in⟩
  · obtain ⟨a, l, r, rfl, ha, hm, k⟩ := h; rfl
  · obtain ⟨a, l, r, rfl, ha, hm, k⟩ := h
    have hr_row_reads : Room 1 _ := hr.mono (by decide)
    have hr_row_sets : Room 1 _ := hr.mono (by decide)
    have hu := hu_of hr
    refine ⟨_, PSs.nox (pss_cons (ps_set (i := 1) sc_names_in.nd rfl (Or.inl rfl) (pe_call G_row_reads hr_row_reads (by rfl) H_row_reads.gl H_row_reads.kp b_row_reads .nil pass0 (pa_cons (pv 0) pa_nil)))
      (pss_cons (ps_set (i := 2) sc_names_in.nd rfl (Or.inl rfl) (pe_call G_row_sets hr_row_sets (by rfl) H_row_sets.gl H_row_sets.kp b_row_sets .nil pass0 (pa_cons (pv 0) pa_nil)))
      (pss_one (ps_ret (pe_ifExp (pt_cmpR op_isN (pv 2) pe_non (nomark _)) (pv 1) (pe_lst (pa_cons (pv 2) (StX.pa_star (pv 1) pa_nil)))))))), ?_⟩
    refine ⟨_, rfl, a, l, r, rfl, ha, hm, fun p H1 s1 _ hp => ?_⟩
    refine ⟨_, rfl, a, .ref l, r, rfl, s1 _ _ ha, ?_⟩
    refine ⟨_, rfl, rfl, _, rfl, ?_⟩
    have hrl : r.reads.length ≤ 1003 := by
      cases r with
      | call x F bs =>
        have := (hm bs rfl).2
        simp only [Rx.reads]
        omega
      | _ => simp [Rx.reads]
    cases e : r.sets with
    | none =>
      refine ifT rfl ⟨_, rfl, k p _ s1 ?_⟩
      rw [hp]
      unfold Rx.names
      rw [e]
    | some x =>
      refine ifF rfl ⟨_, rfl, _, rfl, _, _, rfl, .inr (SqL.of hp), ?_⟩
      refine ⟨sz_of ?_, fun q hq => k q _ (s1.trans (Same.new hq)) ?_⟩
      · simp only [List.length_append, List.length_cons, List.length_nil, List.length_map]
        omega
      · rw [upd_same]
        unfold Rx.names
        rw [e]
        simp [oS]
/-- a Function's head, where it stands -/
structure HeadG (K : PySem.W.Frag) (H : Hp) (fp dx pa : Addr) (fs : List (Str × V)) (ps : List Addr) (qs : List (Str × Str)) (res : Str) : Prop where
  ob : H fp = some (.ins (He.ga K "Function") dx fs)
  f1 : fs.lookup ("params" : Str) = some (.ref pa)
  f2 : fs.lookup ("result" : Str) = some (.str res)
  d1 : SqT K H pa (ps.map V.ref)
  len : ps.length = qs.length
  le : qs.length ≤ 100
  at_ : ∀ (i : Nat) p q, ps[i]? = some p → qs[i]? = some q → SqT K H p [.str q.1, .str q.2]
theorem HeadG.mono {H H' : Hp} {fp dx pa : Addr} {fs : List (Str × V)} {ps : List Addr} {qs : List (Str × Str)} {res : Str} (h : HeadG K H fp dx pa fs ps qs res) (e : Same H H') : HeadG K H' fp dx pa fs ps qs res :=
  ⟨e _ _ h.ob, h.f1, h.f2, Same.tup e h.d1, h.len, h.le, fun i p q a b => Same.tup e (h.at_ i p q a b)⟩
/-- the kinds of variables, as a dict tells them -/
def KindOf (kv : List (Key × V)) (x q : Str) : Prop := valV kv (Sum.inr x : Key) = some (.str q)
def spCallFits (K : PySem.W.Frag) : Sp := fun vs H Q _ => ∃ (fp dx pa a l d : Addr) (fs : List (Str × V)) (ps : List Addr) (qs : List (Str × Str)) (res x F : Str) (bs : List Str) (kv : List (Key × V)), vs = [.ref fp, .ref a, .ref d] ∧ HeadG K H fp dx pa fs ps qs res ∧ H a = some (.tup [.str "call", .str x, .str F, .ref l]) ∧ H l = some (.lst (bs.map V.str)) ∧ H d = some (.dK kv) ∧
  bs.length = qs.length ∧ (∀ (i : Nat) y q, bs[i]? = some y → qs[i]? = some q → KindOf kv y q.2) ∧ (∀ q ∈ qs, PyData.strOk q.2 = true) ∧ KindOf kv x res ∧ ∀ H', Same H H' → Q (.bl true) H'
theorem dpStr {H : Hp} {a : Addr} {ns : List Str} (h : H a = some (.lst (ns.map V.str))) : Dp K H (.ref a) (.list (ns.map PyData.str)) := by
  refine .lst (SqL.of h) ?_
  clear h
  induction ns with
  | nil => exact .nil
  | cons x l ih => exact .cons (.str _) ih
theorem strs_ok : ∀ {ns : List Str}, (∀ x ∈ ns, PyData.strOk x = true) → SeqAt.shaped (.list (ns.map PyData.str)) = true := by
  intro ns h
  have key : ∀ {ns : List Str}, (∀ x ∈ ns, PyData.strOk x = true) → PyData.canLayAll0 (ns.map PyData.str) = true ∧ PyData.depthAll (ns.map PyData.str) = 0 := by
    intro ns
    induction ns with
    | nil => exact fun _ => ⟨rfl, rfl⟩
    | cons a l ih =>
      intro h
      obtain ⟨h1, h2⟩ := ih fun k m => h k (List.mem_cons_of_mem _ m)
      rw [List.map_cons, PyData.canLayAll0, PyData.depthAll, h1, h2, PyData.canLay0, PyData.depth, h a List.mem_cons_self]
      exact ⟨rfl, rfl⟩
  unfold SeqAt.shaped
  rw [PyData.canLay0, PyData.depth, (key h).1, (key h).2]
  rfl
theorem sc_call_fits : FnScope ["function", "row", "kinds", "given", "name", "_", "kind"] ["function", "row", "kinds"] (defScope s_call_fits) := ⟨rfl, rfl, rfl, by decide +kernel, rfl, by decide +kernel, by decide +kernel⟩
theorem ok_call_fits (T : Ctx w K mg) : Has P w K mg base 1 "_call_fits" ["function", "row", "kinds"] (spCallFits K) := by
  obtain ⟨fd, F⟩ := T.D_call_fits
  refine ⟨⟨fd, F.ok sc_call_fits (fun vs H Q E h => ?_) (fun cdv A outer s H vs Q E hr h => ?_), F.bindsN fun _ _ _ _ _ _ us hl => match us, hl with | [_, _, _], _ => rfl⟩, F.kp, T.g_call_fits⟩
  · obtain ⟨fp, dx, pa, a, l, d, fs, ps, qs, res, x, F, bs, kv, rfl, hh, ha, hlst, hd, hbl, hk, hok, hx, k⟩ := h; rfl
  · obtain ⟨fp, dx, pa, a, l, d, fs, ps, qs, res, x, F, bs, kv, rfl, hh, ha, hlst, hd, hbl, hk, hok, hx, k⟩ := h
    have hu := hu_of hr
    refine ⟨_, PSs.nox (pss_cons (ps_setLc (i := 3) (own := [("name", 4)]) (g := gName 4) (tt := tYes) rfl sc_call_fits.nd rfl rfl (sw_true rfl rfl rfl (by decide +kernel)) (pi_list (pe_ix ix_tup (pv 1) pe_int (fun _ _ => rfl))) (blkOk_by (N := ["function", "row", "kinds", "given", "name", "_", "kind"]) (sc := defScope s_call_fits) (by decide +kernel)) (fun _ _ _ _ _ => (pg_name (i := 4) sc_call_fits.nd rfl (Or.inl rfl))) (fun _ _ _ _ _ => pts_nil) (fun _ _ _ _ _ => (pe_dget hu (pv 2) (pv 4) (fun _ _ => rfl))))
      (pss_one (ps_ret (pe_and (pe_cmpR (op_eqD hr.units) (pv 3) (pe_lc (own := [("_", 5), ("kind", 6)]) (g := gTup K 2 (gCons (gName 5) (gCons (gName 6) (gNil)))) (tt := tYes) rfl sc_call_fits.nd (pi_tup (pe_fldK (K := K) rfl (pv 0) (by rfl))) (blkOk_by (N := ["function", "row", "kinds", "given", "name", "_", "kind"]) (sc := defScope s_call_fits) (by decide +kernel)) (fun _ _ _ _ _ => (pg_tup rfl (pgs_cons (pg_name (i := 5) sc_call_fits.nd rfl (Or.inl rfl)) (pgs_cons (pg_name (i := 6) sc_call_fits.nd rfl (Or.inl rfl)) pgs_nil)))) (fun _ _ _ _ _ => pts_nil) (fun _ _ _ _ _ => (pv 6))) (nomark _)) (pe_one (pe_cmpR op_eq (pe_dget hu (pv 2) (pe_ix ix_tup (pv 1) pe_int (fun _ _ => rfl)) (fun _ _ => rfl)) (pe_fldK (K := K) rfl (pv 0) (by rfl)) (nomark _))))))), ?_⟩
    have dg : ∀ {y q : Str}, KindOf kv y q → ∀ H', Same H H' → DGet H' d (.str y) (some (.str q)) := fun hx H' s' => by
      rw [← hx]
      exact DGet.k (k := Sum.inr _) (s' _ _ hd)
    refine ⟨_, rfl, _, _, _, _, rfl, rfl, SqT.of ha, at3, l, rfl, ⟨_, SqL.of hlst⟩, fun D hD => ?_⟩
    refine lc_pure (walk_list (K := K) (a := l) (xs := bs.map V.str)) hD (fun i => .str (qs.getD i ("", "")).2) (by rw [List.length_map]; have := hh.le; omega) (fun H1 s1 => SqL.of (s1 _ _ hlst)) (fun i H1 y H2 hi s1 hy Qe qe => ?_) (fun H1 s1 h1 => ?_)
    · obtain ⟨rfl, hy⟩ := hy
      obtain ⟨x1, hx1, rfl⟩ := map_get hy
      have hiq : i < qs.length := by
        rw [List.length_map] at hi
        omega
      have hq : qs[i]? = some qs[i] := List.getElem?_eq_getElem hiq
      have eq1 : (qs.getD i ("", "")).2 = qs[i].2 := by
        rw [List.getD_eq_getElem?_getD, hq]
        rfl
      rw [eq1] at qe
      exact ⟨rfl, _, rfl, _, rfl, d, .str qs[i].2, rfl, dg (hk i x1 qs[i] hx1 hq) _ s1, qe _ (Same.refl _)⟩
    rw [List.length_map, hbl] at h1
    have hh1 := hh.mono s1
    refine ⟨_, rfl, _, rfl, fp, _, dx, fs, _, rfl, hh1.ob, T.c_Function, T.n_Function_params, hh1.f1, pa, rfl, ⟨_, hh1.d1⟩, fun E2 hE => ?_⟩
    refine lc_pure (walk_tup (K := K) (a := pa) (xs := ps.map V.ref)) hE (fun i => .str (qs.getD i ("", "")).2) (by rw [List.length_map, hh.len]; have := hh.le; omega) (fun H2 s2 => (hh1.mono s2).d1) (fun i H2 y H3 hi s2 hy Qe qe => ?_) (fun H2 s2 h2 => ?_)
    · obtain ⟨rfl, hy⟩ := hy
      obtain ⟨p1, hp1, rfl⟩ := map_get hy
      have hiq : i < qs.length := by
        rw [List.length_map, hh.len] at hi
        exact hi
      have hq : qs[i]? = some qs[i] := List.getElem?_eq_getElem hiq
      have eq1 : (qs.getD i ("", "")).2 = qs[i].2 := by
        rw [List.getD_eq_getElem?_getD, hq]
        rfl
      rw [eq1] at qe
      exact ⟨p1, _, rfl, (hh1.mono s2).at_ i p1 _ hp1 hq, rfl, _, _, rfl, _, _, rfl, rfl, rfl, _, rfl, qe _ (Same.refl _)⟩
    rw [List.length_map, hh.len] at h2
    have el : (List.range qs.length).map (fun i => V.str (qs.getD i ("", "")).2) = (qs.map Prod.snd).map V.str := by
      apply List.ext_getElem
      · simp
      · intro i h1 h2
        simp at h1
        simp [h1]
    rw [el] at h1 h2
    have hs : SeqAt.shaped (.list ((qs.map Prod.snd).map PyData.str)) = true := strs_ok fun x m => by
      obtain ⟨q, hq, rfl⟩ := List.mem_map.mp m
      exact hok q hq
    have s12 := s1.trans s2
    refine ⟨_, _, dpStr (s2 _ _ h1), dpStr h2, hs, hs, ?_⟩
    refine ⟨_, rfl, ?_⟩
    rw [SeqAt.eqv_refl _ (SeqAt.canLay_of_shaped hs)]
    refine iteT ?_
    exact ⟨_, rfl, _, rfl, _, _, _, _, rfl, rfl, SqT.of (s12 _ _ ha), at1, d, .str res, rfl, dg hx _ s12, _, rfl, fp, _, dx, fs, _, rfl, (hh1.mono s2).ob, T.c_Function, T.n_Function_result, hh.f2, rfl, qT (decide_eq_true rfl) (k _ s12)⟩

end
end W16
set_option Elab.async false
set_option linter.all false
set_option maxRecDepth 100000
set_option maxHeartbeats 4000000
namespace W16
open PySem PySem.Spec PyProof.Rows L2 RZ
section
variable {P : Program} {w : World} {K : PySem.W.Frag} {mg : Str → Option Value} {base : Heap}

/-- a row of the right kinds: field kinds ks, functions us, variables kv, the function's result -/
def KindsG (K : PySem.W.Frag) (H : Hp) (ks us kv : List (Key × V)) (res : Str) : Rx → Prop
  | .num x _ => KindOf kv x "number"
  | .bin _ x y z => KindOf kv x "number" ∧ KindOf kv y "number" ∧ KindOf kv z "number"
  | .ifz x _ => KindOf kv x "number"
  | .get x y f => ∃ q : Str, KindOf kv y "object" ∧ KindOf kv x q ∧ valV ks (Sum.inr f : Key) = some (.str q)
  | .put x f y => ∃ q : Str, KindOf kv x "object" ∧ KindOf kv y q ∧ valV ks (Sum.inr f : Key) = some (.str q)
  | .call x F bs => ∃ fp dx pa fs ps qs rs, valV us (Sum.inr F : Key) = some (.ref fp) ∧ HeadG K H fp dx pa fs ps qs rs ∧ bs.length = qs.length ∧ (∀ (i : Nat) y q, bs[i]? = some y → qs[i]? = some q → KindOf kv y q.2) ∧ (∀ q ∈ qs, PyData.strOk q.2 = true) ∧ KindOf kv x rs
  | .same x y z => ∃ q, KindOf kv x "number" ∧ KindOf kv y q ∧ KindOf kv z q
  | .copy x y => ∃ q, KindOf kv x q ∧ KindOf kv y q
  | .nil x => KindOf kv x "object" | .new x _ => KindOf kv x "object"
  | .ret x => KindOf kv x res
  | .jump _ => True | .see _ => True
def spFitG (K : PySem.W.Frag) : Sp := fun vs H Q _ => ∃ (p a l d : Addr) (cs ks us kv : List (Key × V)) (res : Str) (r : Rx), vs = [.ref p, .ref a, .ref d, .str res] ∧ SrcH K H p cs ks us ∧ H a = some (.tup (.str r.word :: r.parts (.ref l))) ∧ ArgsAt H l r ∧ H d = some (.dK kv) ∧ KindsG K H ks us kv res r ∧ ∀ H', Same H H' → Q (.bl true) H' 
theorem sc_row_kinds_fit : FnScope ["source", "row", "kinds", "result", "word", "name"] ["source", "row", "kinds", "result"] (defScope s_row_kinds_fit) := ⟨rfl, rfl, rfl, by decide +kernel, rfl, by decide +kernel, by decide +kernel⟩
theorem ok_row_kinds_fit (T : Ctx w K mg) (H_names_in : Has P w K mg base 2 "_names_in" ["row"] spNamesInG) (H_call_fits : Has P w K mg base 1 "_call_fits" ["function", "row", "kinds"] (spCallFits K)) (H_Source_field_kind : HasM P w K mg base 1 "Source" "field_kind" ["self", "name"] (spFieldKind K)) (H_Source_function_at : HasM P w K mg base 1 "Source" "function_at" ["self", "name"] (spFunAt K)) : Has P w K mg base 3 "row_kinds_fit" ["source", "row", "kinds", "result"] (spFitG K) := by
  obtain ⟨fd, F⟩ := T.D_row_kinds_fit
  obtain ⟨fd_names_in, G_names_in, b_names_in⟩ := H_names_in.ex
  obtain ⟨fd_call_fits, G_call_fits, b_call_fits⟩ := H_call_fits.ex
  obtain ⟨fd_Source_field_kind, G_Source_field_kind, b_Source_field_kind⟩ := H_Source_field_kind.ex
  obtain ⟨fd_Source_function_at, G_Source_function_at, b_Source_function_at⟩ := H_Source_function_at.ex
  refine ⟨⟨fd, F.ok sc_row_kinds_fit (fun vs H Q E h => ?_) (fun cdv A outer s H vs Q E hr h => ?_), F.bindsN fun _ _ _ _ _ _ us hl => match us, hl with | [_, _, _, _], _ => rfl⟩, F.kp, T.g_row_kinds_fit⟩
  · obtain ⟨p, a, l, d, cs, ks, us, kv, res, r, rfl, S0, ha, hm, hd, hk, k⟩ := h; rfl
  · obtain ⟨p, a, l, d, cs, ks, us, kv, res, r, rfl, S0, ha, hm, hd, hk, k⟩ := h
    have hr_names_in : Room 2 _ := hr.mono (by decide)
    have hr_call_fits : Room 1 _ := hr.mono (by decide)
    have hr_Source_field_kind : Room 1 _ := hr.mono (by decide)
    have hr_Source_function_at : Room 1 _ := hr.mono (by decide)
    have hu := hu_of hr
    refine ⟨_, PSs.nox (pss_cons (ps_set (i := 4) sc_row_kinds_fit.nd rfl (Or.inl rfl) (pe_ix ix_tup (pv 1) pe_int (fun _ _ => rfl)))
      (pss_cons (ps_if (pt_cmpR op_in_seq (pv 4) (pe_glob (v := .ref (He.ga K "NUMBER_WORDS")) rfl T.g_NUMBER_WORDS rfl) rfl) (pss_one (ps_ret (pe_callB (cr_all rfl) (by rfl) T.f_all (by decide +kernel) (pa_cons (pe_lc (own := [("name", 5)]) (g := gName 5) (tt := tYes) rfl sc_row_kinds_fit.nd (pi_list (pe_call G_names_in hr_names_in (by rfl) H_names_in.gl H_names_in.kp b_names_in .nil pass0 (pa_cons (pv 1) pa_nil))) (blkOk_by (N := ["source", "row", "kinds", "result", "word", "name"]) (sc := defScope s_row_kinds_fit) (by decide +kernel)) (fun _ _ _ _ _ => (pg_name (i := 5) sc_row_kinds_fit.nd rfl (Or.inl rfl))) (fun _ _ _ _ _ => pts_nil) (fun _ _ _ _ _ => (pe_cmpR op_eq (pe_dget hu (pv 2) (pv 5) (fun _ _ => rfl)) pe_str (nomark _)))) pa_nil)))) pss_nil)
      (pss_cons (ps_if (pt_cmpR op_eq (pv 4) pe_str (nomark _)) (pss_one (ps_ret (pe_and (pe_cmpR op_eq (pe_dget hu (pv 2) (pe_ix ix_tup (pv 1) pe_int (fun _ _ => rfl)) (fun _ _ => rfl)) pe_str (nomark _)) (pe_one (pe_cmpR op_eq (pe_dget hu (pv 2) (pe_ix ix_tup (pv 1) pe_int (fun _ _ => rfl)) (fun _ _ => rfl)) (pe_meth (pv 0) T.c_Source T.m_Source_field_kind G_Source_field_kind hr_Source_field_kind b_Source_field_kind .nil pass0 (pa_cons (pe_ix ix_tup (pv 1) pe_int (fun _ _ => rfl)) pa_nil)) (nomark _)))))) pss_nil)
      (pss_cons (ps_if (pt_cmpR op_eq (pv 4) pe_str (nomark _)) (pss_one (ps_ret (pe_and (pe_cmpR op_eq (pe_dget hu (pv 2) (pe_ix ix_tup (pv 1) pe_int (fun _ _ => rfl)) (fun _ _ => rfl)) pe_str (nomark _)) (pe_one (pe_cmpR op_eq (pe_dget hu (pv 2) (pe_ix ix_tup (pv 1) pe_int (fun _ _ => rfl)) (fun _ _ => rfl)) (pe_meth (pv 0) T.c_Source T.m_Source_field_kind G_Source_field_kind hr_Source_field_kind b_Source_field_kind .nil pass0 (pa_cons (pe_ix ix_tup (pv 1) pe_int (fun _ _ => rfl)) pa_nil)) (nomark _)))))) pss_nil)
      (pss_cons (ps_if (pt_cmpR op_eq (pv 4) pe_str (nomark _)) (pss_one (ps_ret (pe_call G_call_fits hr_call_fits (by rfl) H_call_fits.gl H_call_fits.kp b_call_fits .nil pass0 (pa_cons (pe_meth (pv 0) T.c_Source T.m_Source_function_at G_Source_function_at hr_Source_function_at b_Source_function_at .nil pass0 (pa_cons (pe_ix ix_tup (pv 1) pe_int (fun _ _ => rfl)) pa_nil)) (pa_cons (pv 1) (pa_cons (pv 2) pa_nil)))))) pss_nil)
      (pss_cons (ps_if (pt_cmpR op_eq (pv 4) pe_str (nomark _)) (pss_one (ps_ret (pe_and (pe_cmpR op_eq (pe_dget hu (pv 2) (pe_ix ix_tup (pv 1) pe_int (fun _ _ => rfl)) (fun _ _ => rfl)) pe_str (nomark _)) (pe_one (pe_cmpR op_eq (pe_dget hu (pv 2) (pe_ix ix_tup (pv 1) pe_int (fun _ _ => rfl)) (fun _ _ => rfl)) (pe_dget hu (pv 2) (pe_ix ix_tup (pv 1) pe_int (fun _ _ => rfl)) (fun _ _ => rfl)) (nomark _)))))) pss_nil)
      (pss_cons (ps_if (pt_cmpR op_eq (pv 4) pe_str (nomark _)) (pss_one (ps_ret (pe_cmpR op_eq (pe_dget hu (pv 2) (pe_ix ix_tup (pv 1) pe_int (fun _ _ => rfl)) (fun _ _ => rfl)) (pe_dget hu (pv 2) (pe_ix ix_tup (pv 1) pe_int (fun _ _ => rfl)) (fun _ _ => rfl)) (nomark _)))) pss_nil)
      (pss_cons (ps_if (pt_cmpR op_in_seq (pv 4) (pe_tup (pa_cons pe_str (pa_cons pe_str pa_nil))) rfl) (pss_one (ps_ret (pe_cmpR op_eq (pe_dget hu (pv 2) (pe_ix ix_tup (pv 1) pe_int (fun _ _ => rfl)) (fun _ _ => rfl)) pe_str (nomark _)))) pss_nil)
      (pss_one (ps_ret (pe_or (pe_cmpR op_ne (pv 4) pe_str (nomark _)) (pe_one (pe_cmpR op_eq (pe_dget hu (pv 2) (pe_ix ix_tup (pv 1) pe_int (fun _ _ => rfl)) (fun _ _ => rfl)) (pv 3) (nomark _)))))))))))))), ?_⟩
    obtain ⟨dx0, df, dk, du, fs0, S⟩ := id S0
    have dg : ∀ {y q : Str}, KindOf kv y q → ∀ H', Same H H' → DGet H' d (.str y) (some (.str q)) := fun hx H' s' => by
      rw [← hx]
      exact DGet.k (k := Sum.inr _) (s' _ _ hd)
    refine ⟨_, rfl, _, _, _, _, rfl, rfl, SqT.of ha, at0, ?_⟩
    refine ⟨_, rfl, _, _, rfl, .inr (T.numwords H), rfl, rfl, _, rfl, ?_⟩
    cases r with
    | num x n =>
      let r0 : Rx := .num x n
      have hn : ∀ x ∈ r0.names, KindOf kv x "number" := fun z m => by
        have e : z = x := by simpa [r0, Rx.names, Rx.sets, Rx.reads] using m
        rw [e]
        exact hk
      have hnl : r0.names.length ≤ 5 := by show _ ≤ 5; simp [r0, Rx.names, Rx.sets, Rx.reads]
      refine ifT rfl ?_
      refine ⟨_, rfl, a, l, r0, rfl, ha, hm, fun p1 H1 s1 hp => ⟨p1, rfl, ⟨_, SqL.of hp⟩, fun D hD => ?_⟩⟩
      refine lc_pure (walk_list (K := K) (a := p1) (xs := r0.names.map V.str)) hD (fun _ => .bl true) (by rw [List.length_map]; exact Nat.lt_of_le_of_lt hnl (by decide)) (fun H2 s2 => SqL.of (s2 _ _ hp)) (fun i H2 y H3 hi s2 hy Qe qe => ?_) (fun H2 s2 h2 => ?_)
      · obtain ⟨rfl, hy⟩ := hy
        obtain ⟨x1, hx1, rfl⟩ := map_get hy
        exact ⟨rfl, _, rfl, _, rfl, d, .str "number", rfl, dg (hn x1 (List.mem_of_getElem? hx1)) _ (s1.trans s2), rfl, qT (decide_eq_true rfl) (qe _ (Same.refl _))⟩
      · exact ⟨D, (List.range (r0.names.map V.str).length).map (fun _ => true), rfl, SqL.of (by rw [h2, List.map_map]; rfl), qT all_true (k _ (s1.trans s2))⟩
    | ifz x n =>
      let r0 : Rx := .ifz x n
      have hn : ∀ x ∈ r0.names, KindOf kv x "number" := fun z m => by
        have e : z = x := by simpa [r0, Rx.names, Rx.sets, Rx.reads] using m
        rw [e]
        exact hk
      have hnl : r0.names.length ≤ 5 := by show _ ≤ 5; simp [r0, Rx.names, Rx.sets, Rx.reads]
      refine ifT rfl ?_
      refine ⟨_, rfl, a, l, r0, rfl, ha, hm, fun p1 H1 s1 hp => ⟨p1, rfl, ⟨_, SqL.of hp⟩, fun D hD => ?_⟩⟩
      refine lc_pure (walk_list (K := K) (a := p1) (xs := r0.names.map V.str)) hD (fun _ => .bl true) (by rw [List.length_map]; exact Nat.lt_of_le_of_lt hnl (by decide)) (fun H2 s2 => SqL.of (s2 _ _ hp)) (fun i H2 y H3 hi s2 hy Qe qe => ?_) (fun H2 s2 h2 => ?_)
      · obtain ⟨rfl, hy⟩ := hy
        obtain ⟨x1, hx1, rfl⟩ := map_get hy
        exact ⟨rfl, _, rfl, _, rfl, d, .str "number", rfl, dg (hn x1 (List.mem_of_getElem? hx1)) _ (s1.trans s2), rfl, qT (decide_eq_true rfl) (qe _ (Same.refl _))⟩
      · exact ⟨D, (List.range (r0.names.map V.str).length).map (fun _ => true), rfl, SqL.of (by rw [h2, List.map_map]; rfl), qT all_true (k _ (s1.trans s2))⟩
    | bin kk x y z =>
      let r0 : Rx := .bin kk x y z
      have hn : ∀ x ∈ r0.names, KindOf kv x "number" := fun u m => by
        have e : u = x ∨ u = y ∨ u = z := by simpa [r0, Rx.names, Rx.sets, Rx.reads] using m
        obtain ⟨h1, h2, h3⟩ := hk
        rcases e with e | e | e
        · rw [e]; exact h1
        · rw [e]; exact h2
        · rw [e]; exact h3
      have hnl : r0.names.length ≤ 5 := by show _ ≤ 5; simp [r0, Rx.names, Rx.sets, Rx.reads]
      refine ifT (by
        have key : ∀ kk : Fin 4, inV (V.str (binW kk)) (v_NUMBER_WORDS.map fun d => match d with | .str x => V.str x | _ => V.non) = true := by decide +kernel
        exact key kk) ?_
      refine ⟨_, rfl, a, l, r0, rfl, ha, hm, fun p1 H1 s1 hp => ⟨p1, rfl, ⟨_, SqL.of hp⟩, fun D hD => ?_⟩⟩
      refine lc_pure (walk_list (K := K) (a := p1) (xs := r0.names.map V.str)) hD (fun _ => .bl true) (by rw [List.length_map]; exact Nat.lt_of_le_of_lt hnl (by decide)) (fun H2 s2 => SqL.of (s2 _ _ hp)) (fun i H2 y H3 hi s2 hy Qe qe => ?_) (fun H2 s2 h2 => ?_)
      · obtain ⟨rfl, hy⟩ := hy
        obtain ⟨x1, hx1, rfl⟩ := map_get hy
        exact ⟨rfl, _, rfl, _, rfl, d, .str "number", rfl, dg (hn x1 (List.mem_of_getElem? hx1)) _ (s1.trans s2), rfl, qT (decide_eq_true rfl) (qe _ (Same.refl _))⟩
      · exact ⟨D, (List.range (r0.names.map V.str).length).map (fun _ => true), rfl, SqL.of (by rw [h2, List.map_map]; rfl), qT all_true (k _ (s1.trans s2))⟩
    | get x y f =>
      obtain ⟨q, h1, h2, h3⟩ := hk
      refine ifF rfl ⟨_, rfl, rfl, _, rfl, ifT rfl ?_⟩
      exact ⟨_, rfl, _, rfl, _, _, _, _, rfl, rfl, SqT.of ha, at2, d, .str "object", rfl, dg h1 _ (Same.refl H), rfl, _, rfl, ifT (decide_eq_true rfl) ⟨_, rfl, _, rfl, _, _, _, _, rfl, rfl, SqT.of ha, at1, d, .str q, rfl, dg h2 _ (Same.refl H), _, rfl, p, dx0, fs0, rfl, S.ob, S.nm _ (by decide +kernel), _, rfl, _, _, _, _, rfl, rfl, SqT.of ha, at3, p, cs, ks, us, f, .str q, rfl, S0, h3, rfl, qT (decide_eq_true rfl) (k _ (Same.refl H))⟩⟩
    | put x f y =>
      obtain ⟨q, h1, h2, h3⟩ := hk
      refine ifF rfl ⟨_, rfl, rfl, _, rfl, ifF rfl ⟨_, rfl, rfl, _, rfl, ifT rfl ?_⟩⟩
      exact ⟨_, rfl, _, rfl, _, _, _, _, rfl, rfl, SqT.of ha, at1, d, .str "object", rfl, dg h1 _ (Same.refl H), rfl, _, rfl, ifT (decide_eq_true rfl) ⟨_, rfl, _, rfl, _, _, _, _, rfl, rfl, SqT.of ha, at3, d, .str q, rfl, dg h2 _ (Same.refl H), _, rfl, p, dx0, fs0, rfl, S.ob, S.nm _ (by decide +kernel), _, rfl, _, _, _, _, rfl, rfl, SqT.of ha, at2, p, cs, ks, us, f, .str q, rfl, S0, h3, rfl, qT (decide_eq_true rfl) (k _ (Same.refl H))⟩⟩
    | call x F bs =>
      obtain ⟨fp, dx, pa, fs, ps, qs, rs, h1, h2, h3, h4, h5, h6⟩ := hk
      refine ifF rfl ⟨_, rfl, rfl, _, rfl, ifF rfl ⟨_, rfl, rfl, _, rfl, ifF rfl ⟨_, rfl, rfl, _, rfl, ifT rfl ?_⟩⟩⟩
      exact ⟨_, rfl, p, dx0, fs0, rfl, S.ob, S.nm _ (by decide +kernel), _, rfl, _, _, _, _, rfl, rfl, SqT.of ha, at2, p, cs, ks, us, F, .ref fp, rfl, S0, h1, _, rfl, _, rfl, fp, dx, pa, a, l, d, fs, ps, qs, rs, x, F, bs, kv, rfl, h2, ha, (hm bs rfl).1, hd, h3, h4, h5, h6, k⟩
    | same x y z =>
      obtain ⟨q, h1, h2, h3⟩ := hk
      refine ifF rfl ⟨_, rfl, rfl, _, rfl, ifF rfl ⟨_, rfl, rfl, _, rfl, ifF rfl ⟨_, rfl, rfl, _, rfl, ifF rfl ⟨_, rfl, rfl, _, rfl, ifT rfl ?_⟩⟩⟩⟩
      exact ⟨_, rfl, _, rfl, _, _, _, _, rfl, rfl, SqT.of ha, at1, d, .str "number", rfl, dg h1 _ (Same.refl H), rfl, _, rfl, ifT (decide_eq_true rfl) ⟨_, rfl, _, rfl, _, _, _, _, rfl, rfl, SqT.of ha, at2, d, .str q, rfl, dg h2 _ (Same.refl H), _, rfl, _, rfl, _, _, _, _, rfl, rfl, SqT.of ha, at3, d, .str q, rfl, dg h3 _ (Same.refl H), rfl, qT (decide_eq_true rfl) (k _ (Same.refl H))⟩⟩
    | copy x y =>
      obtain ⟨q, h1, h2⟩ := hk
      refine ifF rfl ⟨_, rfl, rfl, _, rfl, ifF rfl ⟨_, rfl, rfl, _, rfl, ifF rfl ⟨_, rfl, rfl, _, rfl, ifF rfl ⟨_, rfl, rfl, _, rfl, ifF rfl ⟨_, rfl, rfl, _, rfl, ifT rfl ?_⟩⟩⟩⟩⟩
      exact ⟨_, rfl, _, rfl, _, _, _, _, rfl, rfl, SqT.of ha, at1, d, .str q, rfl, dg h1 _ (Same.refl H), _, rfl, _, rfl, _, _, _, _, rfl, rfl, SqT.of ha, at2, d, .str q, rfl, dg h2 _ (Same.refl H), rfl, qT (decide_eq_true rfl) (k _ (Same.refl H))⟩
    | nil x => 
      refine ifF rfl ⟨_, rfl, rfl, _, rfl, ifF rfl ⟨_, rfl, rfl, _, rfl, ifF rfl ⟨_, rfl, rfl, _, rfl, ifF rfl ⟨_, rfl, rfl, _, rfl, ifF rfl ⟨_, rfl, rfl, _, rfl, ifF rfl ?_⟩⟩⟩⟩⟩
      refine ⟨_, rfl, sz_of (by decide), fun t ht => ⟨t, _, rfl, .inr (SqT.of upd_same), rfl, rfl, _, rfl, ifT rfl ?_⟩⟩
      have s1 : Same H (upd H t (.tup [.str "nil", .str "new"])) := Same.new ht
      exact ⟨_, rfl, _, rfl, _, _, _, _, rfl, rfl, SqT.of (s1 _ _ ha), at1, d, .str "object", rfl, dg hk _ s1, rfl, qT (decide_eq_true rfl) (k _ s1)⟩
    | new x c => 
      refine ifF rfl ⟨_, rfl, rfl, _, rfl, ifF rfl ⟨_, rfl, rfl, _, rfl, ifF rfl ⟨_, rfl, rfl, _, rfl, ifF rfl ⟨_, rfl, rfl, _, rfl, ifF rfl ⟨_, rfl, rfl, _, rfl, ifF rfl ?_⟩⟩⟩⟩⟩
      refine ⟨_, rfl, sz_of (by decide), fun t ht => ⟨t, _, rfl, .inr (SqT.of upd_same), rfl, rfl, _, rfl, ifT rfl ?_⟩⟩
      have s1 : Same H (upd H t (.tup [.str "nil", .str "new"])) := Same.new ht
      exact ⟨_, rfl, _, rfl, _, _, _, _, rfl, rfl, SqT.of (s1 _ _ ha), at1, d, .str "object", rfl, dg hk _ s1, rfl, qT (decide_eq_true rfl) (k _ s1)⟩
    | ret x =>
      refine ifF rfl ⟨_, rfl, rfl, _, rfl, ifF rfl ⟨_, rfl, rfl, _, rfl, ifF rfl ⟨_, rfl, rfl, _, rfl, ifF rfl ⟨_, rfl, rfl, _, rfl, ifF rfl ⟨_, rfl, rfl, _, rfl, ifF rfl ?_⟩⟩⟩⟩⟩
      refine ⟨_, rfl, sz_of (by decide), fun t ht => ⟨t, _, rfl, .inr (SqT.of upd_same), rfl, rfl, _, rfl, ifF rfl ?_⟩⟩
      have s1 : Same H (upd H t (.tup [.str "nil", .str "new"])) := Same.new ht
      exact ⟨_, rfl, rfl, false, rfl, iteF ⟨_, rfl, _, rfl, _, _, _, _, rfl, rfl, SqT.of (s1 _ _ ha), at1, d, _, rfl, dg hk _ s1, _, rfl, rfl, qT (decide_eq_true rfl) (k _ s1)⟩⟩
    | see x => 
      refine ifF rfl ⟨_, rfl, rfl, _, rfl, ifF rfl ⟨_, rfl, rfl, _, rfl, ifF rfl ⟨_, rfl, rfl, _, rfl, ifF rfl ⟨_, rfl, rfl, _, rfl, ifF rfl ⟨_, rfl, rfl, _, rfl, ifF rfl ?_⟩⟩⟩⟩⟩
      refine ⟨_, rfl, sz_of (by decide), fun t ht => ⟨t, _, rfl, .inr (SqT.of upd_same), rfl, rfl, _, rfl, ifF rfl ?_⟩⟩
      have s1 : Same H (upd H t (.tup [.str "nil", .str "new"])) := Same.new ht
      exact ⟨_, rfl, rfl, true, rfl, iteT (k _ s1)⟩
    | jump x => 
      refine ifF rfl ⟨_, rfl, rfl, _, rfl, ifF rfl ⟨_, rfl, rfl, _, rfl, ifF rfl ⟨_, rfl, rfl, _, rfl, ifF rfl ⟨_, rfl, rfl, _, rfl, ifF rfl ⟨_, rfl, rfl, _, rfl, ifF rfl ?_⟩⟩⟩⟩⟩
      refine ⟨_, rfl, sz_of (by decide), fun t ht => ⟨t, _, rfl, .inr (SqT.of upd_same), rfl, rfl, _, rfl, ifF rfl ?_⟩⟩
      have s1 : Same H (upd H t (.tup [.str "nil", .str "new"])) := Same.new ht
      exact ⟨_, rfl, rfl, true, rfl, iteT (k _ s1)⟩

end
end W16
set_option Elab.async false
set_option linter.all false
set_option maxRecDepth 100000
set_option maxHeartbeats 4000000
namespace W16
open PySem PySem.Spec PyProof.Rows L2 RZ
section
variable {P : Program} {w : World} {K : PySem.W.Frag} {mg : Str → Option Value} {base : Heap}

/-- a comprehension whose elements are values as told, or new tuples -/
def Mix (c : Nat → Bool) (f : Nat → V) (g : Nat → List V) (i : Nat) (H : Hp) (v : V) : Prop := (c i = false ∧ v = f i) ∨ (c i = true ∧ ∃ q, v = .ref q ∧ H q = some (.tup (g i)))
theorem lc_mix {J : It} {n : Nat} {G : Hp → Prop} {Y : Nat → Hp → V → Hp → Prop} (w : Walk J n G Y) {gg : TG} {te : TE} {vs : List Nat} {σ : L2.St} {H0 : Hp} {D : Addr} {Qd : Hp → Prop} (hD : H0 D = none) (c : Nat → Bool) (f : Nat → V) (g : Nat → List V) (hn : n < 100000)
    (hG : ∀ H, Same H0 H → G H)
    (hs : ∀ i H x H', i < n → Same H0 H → Y i H x H' → ∀ Qe : VK, (∀ v H4, Same H H4 → Mix c f g i H4 v → Qe v H4) → gg x (wipe σ vs) H' fun σ2 H2 => wipe σ2 vs = wipe σ vs ∧ te σ2 H2 Qe)
    (hd : ∀ (H : Hp) (xs : List V), Same H0 H → xs.length = n → (∀ (i : Nat) v, xs[i]? = some v → Mix c f g i H v) → H D = some (.lst xs) → Qd H) :
    ∃ W : Nat → Nat → Hp → Prop, (∃ m, W 0 m (upd H0 D (.lst []))) ∧ ∀ i m H, W i m H →
      (J.stop i H ∧ Qd H) ∨ (J.go i H ∧ ∃ Nx : Hp → Prop, (∀ H', Nx H' → ∃ m', m' < m ∧ W (i + 1) m' H') ∧ ∀ x H', J.yld i H x H' → gg x (wipe σ vs) H' fun σ2 H2 => wipe σ2 vs = wipe σ vs ∧ tYes σ2 H2 fun b H3 =>
        if b = true then te σ2 H3 fun y H4 => ∃ acc, H4 D = some (.lst acc) ∧ acc.length < sizeLine ∧ Nx (upd H4 D (.lst (acc ++ [y]))) else Nx H3) := by
  refine lc_it w (fun i H => Same H0 H ∧ ∃ xs : List V, xs.length = i ∧ (∀ (j : Nat) v, xs[j]? = some v → Mix c f g j H v) ∧ H D = some (.lst xs)) ⟨Same.new hD, [], rfl, fun j v e => by simp at e, upd_same⟩ (fun i H _ p => hG H p.1) (fun i x H H' hi q y => ?_) (fun H q => ?_)
  · obtain ⟨s1, xs, hl, hx, hDD⟩ := q
    have q := hs i H x H' hi s1 y (fun y H4 => ∃ acc, H4 D = some (.lst acc) ∧ acc.length < sizeLine ∧ (Same H0 (upd H4 D (.lst (acc ++ [y]))) ∧ ∃ xs : List V, xs.length = i + 1 ∧ (∀ (j : Nat) v, xs[j]? = some v → Mix c f g j (upd H4 D (.lst (acc ++ [y]))) v) ∧ upd H4 D (.lst (acc ++ [y])) D = some (.lst xs))) (fun v H4 s4 mv => ?_)
    · exact q
    · have h4 := s4 _ _ hDD
      have stay : ∀ {j : Nat} {u : V}, Mix c f g j H4 u → Mix c f g j (upd H4 D (.lst (xs ++ [v]))) u := fun {j u} m => by
        rcases m with m | ⟨m1, q, m2, m3⟩
        · exact .inl m
        · refine .inr ⟨m1, q, m2, ?_⟩
          rw [upd_ne (ne_of m3 h4 (by intro z; cases z))]
          exact m3
      refine ⟨xs, h4, sz_lt (by omega), Same.mut (s1.trans s4) hD, xs ++ [v], by rw [List.length_append, hl]; rfl, fun j u e => stay ?_, upd_same⟩
      by_cases hj : j < xs.length
      · rw [List.getElem?_append_left hj] at e
        rcases hx j u e with m | ⟨m1, q, m2, m3⟩
        · exact .inl m
        · exact .inr ⟨m1, q, m2, s4 _ _ m3⟩
      · rw [List.getElem?_append_right (by omega)] at e
        have h2 := (List.getElem?_eq_some_iff.mp e).1
        simp at h2
        have ej : j = i := by omega
        have e0 : j - xs.length = 0 := by omega
        rw [e0] at e
        rw [← Option.some.inj e, ej]
        exact mv
  · obtain ⟨s1, xs, hl, hx, hDD⟩ := q
    exact hd H xs s1 hl hx hDD
def spFzL : Sp := fun vs H Q _ => ∃ a xs, vs = [.ref a] ∧ H a = some (.lst xs) ∧ (∀ x ∈ xs, Fl x) ∧ xs.length ≤ 1000 ∧ ∀ p H', Same H H' → H' p = some (.tup xs) → Q (.ref p) H'
/-- a text, an int, or a list of such -/
def spFzM : Sp := fun vs H Q E => spFz0 vs H Q E ∨ spFzL vs H Q E
theorem sc_frozenM : FnScope ["thing", "part"] ["thing"] (defScope s_frozen) := ⟨rfl, rfl, rfl, by decide +kernel, rfl, by decide +kernel, by decide +kernel⟩
theorem ok_frozenM (T : Ctx w K mg) (H_frozen : Has P w K mg base 1 "frozen" ["thing"] spFz0) : Has P w K mg base 2 "frozen" ["thing"] spFzM := by
  obtain ⟨fd, F⟩ := T.D_frozen
  obtain ⟨fd_frozen, G_frozen, b_frozen⟩ := H_frozen.ex
  refine ⟨⟨fd, F.ok sc_frozenM (fun vs H Q E h => ?_) (fun cdv A outer s H vs Q E hr h => ?_), F.bindsN fun _ _ _ _ _ _ us hl => match us, hl with | [_], _ => rfl⟩, F.kp, T.g_frozen⟩
  · rcases h with ⟨v, rfl, _⟩ | ⟨a, xs, rfl, _⟩ <;> rfl
  · obtain h := h
    have hr_frozen : Room 1 _ := hr.mono (by decide)
    have hu := hu_of hr
    refine ⟨_, PSs.nox (pss_cons (ps_if (pt_val (pe_callB call_isiT (by rfl) T.f_isinstance (by decide +kernel) (pa_cons (pv 0) (pa_cons (pe_tup (pa_cons (pe_bltn (v := .ty "list") (u := .type "list") rfl T.f_list (by decide +kernel) rfl) (pa_cons (pe_bltn (v := .ty "tuple") (u := .type "tuple") rfl T.f_tuple (by decide +kernel) rfl) pa_nil))) pa_nil)))) (pss_one (ps_ret (pe_callTy call_tuple_of (by rfl) T.f_tuple (by decide +kernel) (pa_cons (pe_lc (own := [("part", 1)]) (g := gName 1) (tt := tYes) rfl sc_frozenM.nd (pi_list (pv 0)) (blkOk_by (N := ["thing", "part"]) (sc := defScope s_frozen) (by decide +kernel)) (fun _ _ _ _ _ => (pg_name (i := 1) sc_frozenM.nd rfl (Or.inl rfl))) (fun _ _ _ _ _ => pts_nil) (fun _ _ _ _ _ => (pe_call G_frozen hr_frozen (by rfl) H_frozen.gl H_frozen.kp b_frozen .nil pass0 (pa_cons (pv 1) pa_nil)))) pa_nil)))) pss_nil)
      (pss_one (ps_ret (pv 0)))), ?_⟩
    rcases h with ⟨v, rfl, F0, k⟩ | ⟨a, xs, rfl, ha, hf, hl, k⟩
    · refine ⟨_, rfl, sz_of (by decide), fun tp htp => ?_⟩
      cases F0 with
      | str x =>
        exact ⟨_, _, _, _, _, false, rfl, upd_same, .cons (.ty _) (.cons (.ty _) .nil), .base (.str x), kit2 (p := false) (q := false) (by decide +kernel) (by decide +kernel) rfl, _, rfl, iteF ⟨_, rfl, k _ (Same.new htp)⟩⟩
      | int x =>
        exact ⟨_, _, _, _, _, false, rfl, upd_same, .cons (.ty _) (.cons (.ty _) .nil), .base (.int x), kit2 (p := false) (q := false) (by decide +kernel) (by decide +kernel) rfl, _, rfl, iteF ⟨_, rfl, k _ (Same.new htp)⟩⟩
    refine ⟨_, rfl, sz_of (by decide), fun tp htp => ?_⟩
    have s1 : Same H (upd H tp (.tup [.ty "list", .ty "tuple"])) := Same.new htp
    refine ⟨_, _, _, _, _, true, rfl, upd_same, .cons (.ty _) (.cons (.ty _) .nil), .base (.lst (s1 _ _ ha)), kit2 (p := true) (q := false) (by decide +kernel) (by decide +kernel) rfl, _, rfl, iteT ?_⟩
    refine ⟨_, rfl, a, rfl, ⟨_, SqL.of (s1 _ _ ha)⟩, fun D hD => ?_⟩
    refine lc_pure (walk_list (K := K) (a := a) (xs := xs)) hD (fun i => xs.getD i .non) (Nat.lt_of_le_of_lt hl (by decide)) (fun H2 s2 => SqL.of (s2 _ _ (s1 _ _ ha))) (fun i H2 y H3 hi s2 hy Qe qe => ?_) (fun H2 s2 h2 => ?_)
    · obtain ⟨rfl, hx⟩ := hy
      rw [getD_of hx] at qe
      exact ⟨rfl, _, rfl, y, rfl, hf y (List.mem_of_getElem? hx), fun H4 s4 => qe _ s4⟩
    · rw [map_range_getD] at h2
      exact ⟨D, xs, rfl, .inl ⟨SqL.of h2, fun l hl2 => k l _ ((s1.trans s2).trans (Same.new hl2)) upd_same⟩⟩

end
end W16
set_option Elab.async false
set_option linter.all false
set_option maxRecDepth 100000
set_option maxHeartbeats 4000000
namespace W16
open PySem PySem.Spec PyProof.Rows L2 RZ
section
variable {P : Program} {w : World} {K : PySem.W.Frag} {mg : Str → Option Value} {base : Heap}

theorem parts_at {r : Rx} {l : V} {i : Nat} {y : V} (h : (V.str r.word :: r.parts l)[i]? = some y) : (Fl y ∧ (r.args.isSome && (i == 3)) = false) ∨ (∃ bs, r.args = some bs ∧ i = 3 ∧ y = l) := by
  cases r with
  | call x F bs =>
    match i, h with
    | 0, h => obtain rfl := Option.some.inj h; exact .inl ⟨.str _, rfl⟩
    | 1, h => obtain rfl := Option.some.inj h; exact .inl ⟨.str _, rfl⟩
    | 2, h => obtain rfl := Option.some.inj h; exact .inl ⟨.str _, rfl⟩
    | 3, h => obtain rfl := Option.some.inj h; exact .inr ⟨bs, rfl, rfl, rfl⟩
    | n + 4, h => simp [Rx.parts] at h
  | _ =>
    refine .inl ⟨?_, rfl⟩
    have m := List.mem_of_getElem? h
    simp only [Rx.parts, List.mem_cons, List.not_mem_nil, or_false] at m
    rcases m with rfl | m
    · exact .str _
    · first
        | (subst m; first | exact .str _ | exact .int _)
        | (rcases m with rfl | rfl <;> first | exact .str _ | exact .int _)
        | (rcases m with rfl | rfl | rfl <;> first | exact .str _ | exact .int _)
theorem parts_same {r : Rx} {l l2 : V} (h : r.args = none) : r.parts l = r.parts l2 := by
  cases r <;> first | rfl | cases h
def spFzRow : Sp := fun vs H Q _ => ∃ (a l : Addr) (r : Rx), vs = [.ref a] ∧ H a = some (.tup (.str r.word :: r.parts (.ref l))) ∧ ArgsAt H l r ∧ ∀ p H', Same H H' → RowAt true H' p r → Q (.ref p) H' 
theorem sc_frozenR : FnScope ["thing", "part"] ["thing"] (defScope s_frozen) := ⟨rfl, rfl, rfl, by decide +kernel, rfl, by decide +kernel, by decide +kernel⟩
theorem ok_frozenR (T : Ctx w K mg) (H_frozen : Has P w K mg base 2 "frozen" ["thing"] spFzM) : Has P w K mg base 3 "frozen" ["thing"] spFzRow := by
  obtain ⟨fd, F⟩ := T.D_frozen
  obtain ⟨fd_frozen, G_frozen, b_frozen⟩ := H_frozen.ex
  refine ⟨⟨fd, F.ok sc_frozenR (fun vs H Q E h => ?_) (fun cdv A outer s H vs Q E hr h => ?_), F.bindsN fun _ _ _ _ _ _ us hl => match us, hl with | [_], _ => rfl⟩, F.kp, T.g_frozen⟩
  · obtain ⟨a, l, r, rfl, ha, hm, k⟩ := h; rfl
  · obtain ⟨a, l, r, rfl, ha, hm, k⟩ := h
    have hr_frozen : Room 2 _ := hr.mono (by decide)
    have hu := hu_of hr
    refine ⟨_, PSs.nox (pss_cons (ps_if (pt_val (pe_callB call_isiT (by rfl) T.f_isinstance (by decide +kernel) (pa_cons (pv 0) (pa_cons (pe_tup (pa_cons (pe_bltn (v := .ty "list") (u := .type "list") rfl T.f_list (by decide +kernel) rfl) (pa_cons (pe_bltn (v := .ty "tuple") (u := .type "tuple") rfl T.f_tuple (by decide +kernel) rfl) pa_nil))) pa_nil)))) (pss_one (ps_ret (pe_callTy call_tuple_of (by rfl) T.f_tuple (by decide +kernel) (pa_cons (pe_lc (own := [("part", 1)]) (g := gName 1) (tt := tYes) rfl sc_frozenR.nd (pi_tup (pv 0)) (blkOk_by (N := ["thing", "part"]) (sc := defScope s_frozen) (by decide +kernel)) (fun _ _ _ _ _ => (pg_name (i := 1) sc_frozenR.nd rfl (Or.inl rfl))) (fun _ _ _ _ _ => pts_nil) (fun _ _ _ _ _ => (pe_call G_frozen hr_frozen (by rfl) H_frozen.gl H_frozen.kp b_frozen .nil pass0 (pa_cons (pv 1) pa_nil)))) pa_nil)))) pss_nil)
      (pss_one (ps_ret (pv 0)))), ?_⟩
    refine ⟨_, rfl, sz_of (by decide), fun tp htp => ?_⟩
    have s1 : Same H (upd H tp (.tup [.ty "list", .ty "tuple"])) := Same.new htp
    refine ⟨_, _, _, _, _, true, rfl, upd_same, .cons (.ty _) (.cons (.ty _) .nil), .base (.tup (s1 _ _ ha)), kit2 (p := false) (q := true) (by decide +kernel) (by decide +kernel) rfl, _, rfl, iteT ?_⟩
    refine ⟨_, rfl, a, rfl, ⟨_, SqT.of (s1 _ _ ha)⟩, fun D hD => ?_⟩
    have hlp : (V.str r.word :: r.parts (.ref l)).length ≤ 4 := by cases r <;> simp [Rx.parts]
    refine lc_mix (walk_tup (K := K) (a := a) (xs := V.str r.word :: r.parts (.ref l))) hD (fun i => r.args.isSome && (i == 3)) (fun i => (V.str r.word :: r.parts (.ref l)).getD i .non) (fun _ => r.namesOf.map V.str) (by omega) (fun H2 s2 => SqT.of (s2 _ _ (s1 _ _ ha))) (fun i H2 y H3 hi s2 hy Qe qe => ?_) (fun H2 xs s2 hl hx h2 => ?_)
    · obtain ⟨rfl, hy⟩ := hy
      rcases parts_at hy with ⟨f1, c1⟩ | ⟨bs, hb, rfl, rfl⟩
      · exact ⟨rfl, _, rfl, .inl ⟨y, rfl, f1, fun H4 s4 => qe _ _ s4 (.inl ⟨c1, (getD_of hy).symm⟩)⟩⟩
      · obtain ⟨q1, q2⟩ := hm bs hb
        refine ⟨rfl, _, rfl, .inr ⟨l, bs.map V.str, rfl, s2 _ _ (s1 _ _ q1), fun x m => ?_, by rw [List.length_map]; exact q2, fun p H4 s4 hp => qe _ _ s4 (.inr ⟨by rw [hb]; rfl, p, rfl, ?_⟩)⟩⟩
        · obtain ⟨z, _, rfl⟩ := List.mem_map.mp m
          exact .str z
        · rw [hp]
          unfold Rx.namesOf
          rw [hb]
          rfl
    refine ⟨D, xs, rfl, .inl ⟨SqL.of h2, fun q hq => k q _ ((s1.trans s2).trans (Same.new hq)) ?_⟩⟩
    have same : ∀ (i : Nat) v, xs[i]? = some v → (r.args.isSome && (i == 3)) = false → v = (V.str r.word :: r.parts (.ref l)).getD i .non := fun i v e c => by
      rcases hx i v e with ⟨_, h⟩ | ⟨h, _⟩
      · exact h
      · have h2 : (r.args.isSome && (i == 3)) = true := h
        rw [c] at h2
        cases h2
    cases e : r.args with
    | none =>
      refine ⟨l, ?_, fun bs z => by rw [e] at z; cases z⟩
      rw [upd_same]
      have ex : xs = V.str r.word :: r.parts (.ref l) := by
        apply List.ext_getElem hl
        intro i h1 h3
        have := same i xs[i] (List.getElem?_eq_getElem h1) (by rw [e]; rfl)
        rw [this, List.getD_eq_getElem?_getD, List.getElem?_eq_getElem h3]
        rfl
      rw [ex]
    | some bs =>
      cases r with
      | call x F cs =>
        obtain rfl : cs = bs := Option.some.inj e
        have h4 : xs.length = 4 := hl
        match xs, h4 with
        | [a0, a1, a2, a3], _ =>
          have e0 := same 0 a0 rfl rfl
          have e1 := same 1 a1 rfl rfl
          have e2 := same 2 a2 rfl rfl
          rcases hx 3 a3 rfl with ⟨z, _⟩ | ⟨_, q3, e3, h3⟩
          · cases z
          · subst e0 e1 e2 e3
            exact ⟨q3, upd_same, fun bs2 z => by
              obtain rfl := Option.some.inj z
              exact Same.new hq _ _ h3⟩
      | _ => cases e

end
end W16
set_option Elab.async false
set_option linter.all false
set_option maxRecDepth 100000
set_option maxHeartbeats 4000000
namespace W16
open PySem PySem.Spec PyProof.Rows L2 RZ
section
variable {P : Program} {w : World} {K : PySem.W.Frag} {mg : Str → Option Value} {base : Heap}

theorem RowAt.put {H : Hp} {a D : Addr} {r : Rx} {xs ys : List V} (h : RowAt true H a r) (hD : H D = some (.lst xs)) : RowAt true (upd H D (.lst ys)) a r := by
  obtain ⟨l, h1, h2⟩ := h
  refine ⟨l, ?_, fun bs e => ?_⟩
  · rw [upd_ne (ne_of h1 hD (by intro z; cases z))]
    exact h1
  · have q := h2 bs e
    rw [if_pos rfl] at q ⊢
    rw [upd_ne (ne_of q hD (by intro z; cases z))]
    exact q
/-- a comprehension whose elements are kept rows -/
theorem lc_rows {J : It} {n : Nat} {G : Hp → Prop} {Y : Nat → Hp → V → Hp → Prop} (w : Walk J n G Y) {gg : TG} {te : TE} {vs : List Nat} {σ : L2.St} {H0 : Hp} {D : Addr} {Qd : Hp → Prop} (hD : H0 D = none) (rws : List Rx) (hn : n < 100000)
    (hG : ∀ H, Same H0 H → G H)
    (hs : ∀ i H x H', i < n → Same H0 H → Y i H x H' → ∀ Qe : VK, (∀ q H4, Same H H4 → (∀ r, rws[i]? = some r → RowAt true H4 q r) → Qe (.ref q) H4) → gg x (wipe σ vs) H' fun σ2 H2 => wipe σ2 vs = wipe σ vs ∧ te σ2 H2 Qe)
    (hd : ∀ (H : Hp) (qs : List Addr), Same H0 H → qs.length = n → (∀ (i : Nat) q r, qs[i]? = some q → rws[i]? = some r → RowAt true H q r) → H D = some (.lst (qs.map V.ref)) → Qd H) :
    ∃ W : Nat → Nat → Hp → Prop, (∃ m, W 0 m (upd H0 D (.lst []))) ∧ ∀ i m H, W i m H →
      (J.stop i H ∧ Qd H) ∨ (J.go i H ∧ ∃ Nx : Hp → Prop, (∀ H', Nx H' → ∃ m', m' < m ∧ W (i + 1) m' H') ∧ ∀ x H', J.yld i H x H' → gg x (wipe σ vs) H' fun σ2 H2 => wipe σ2 vs = wipe σ vs ∧ tYes σ2 H2 fun b H3 =>
        if b = true then te σ2 H3 fun y H4 => ∃ acc, H4 D = some (.lst acc) ∧ acc.length < sizeLine ∧ Nx (upd H4 D (.lst (acc ++ [y]))) else Nx H3) := by
  refine lc_it w (fun i H => Same H0 H ∧ ∃ qs : List Addr, qs.length = i ∧ (∀ (j : Nat) q r, qs[j]? = some q → rws[j]? = some r → RowAt true H q r) ∧ H D = some (.lst (qs.map V.ref))) ⟨Same.new hD, [], rfl, fun j q r e => by simp at e, upd_same⟩ (fun i H _ p => hG H p.1) (fun i x H H' hi q y => ?_) (fun H q => ?_)
  · obtain ⟨s1, qs, hl, hx, hDD⟩ := q
    have q := hs i H x H' hi s1 y (fun y H4 => ∃ acc, H4 D = some (.lst acc) ∧ acc.length < sizeLine ∧ (Same H0 (upd H4 D (.lst (acc ++ [y]))) ∧ ∃ qs : List Addr, qs.length = i + 1 ∧ (∀ (j : Nat) q r, qs[j]? = some q → rws[j]? = some r → RowAt true (upd H4 D (.lst (acc ++ [y]))) q r) ∧ upd H4 D (.lst (acc ++ [y])) D = some (.lst (qs.map V.ref)))) (fun q H4 s4 mv => ?_)
    · exact q
    · have h4 := s4 _ _ hDD
      refine ⟨_, h4, sz_lt (by rw [List.length_map]; omega), Same.mut (s1.trans s4) hD, qs ++ [q], by rw [List.length_append, hl]; rfl, fun j u r e er => RowAt.put ?_ h4, by rw [upd_same, List.map_append]; rfl⟩
      by_cases hj : j < qs.length
      · rw [List.getElem?_append_left hj] at e
        exact (hx j u r e er).mono s4
      · rw [List.getElem?_append_right (by omega)] at e
        have h2 := (List.getElem?_eq_some_iff.mp e).1
        simp at h2
        have ej : j = i := by omega
        have e0 : j - qs.length = 0 := by omega
        rw [e0] at e
        rw [← Option.some.inj e]
        exact mv r (by rw [← ej]; exact er)
  · obtain ⟨s1, xs, hl, hx, hDD⟩ := q
    exact hd H xs s1 hl hx hDD
/-- rows as they are handed in -/
structure RawRows (H : Hp) (rs : List Addr) (rws : List Rx) : Prop where
  len : rs.length = rws.length
  at_ : ∀ (i : Nat) a r, rs[i]? = some a → rws[i]? = some r → ∃ l, H a = some (.tup (.str r.word :: r.parts (.ref l))) ∧ ArgsAt H l r
theorem RawRows.mono {H H' : Hp} {rs : List Addr} {rws : List Rx} (h : RawRows H rs rws) (e : Same H H') : RawRows H' rs rws := ⟨h.len, fun i a r x y => by
  obtain ⟨l, q1, q2⟩ := h.at_ i a r x y
  exact ⟨l, e _ _ q1, q2.mono e⟩⟩
/-- rows as they are kept -/
structure KeptRows (H : Hp) (rs : List Addr) (rws : List Rx) : Prop where
  len : rs.length = rws.length
  at_ : ∀ (i : Nat) a r, rs[i]? = some a → rws[i]? = some r → RowAt true H a r
theorem KeptRows.mono {H H' : Hp} {rs : List Addr} {rws : List Rx} (h : KeptRows H rs rws) (e : Same H H') : KeptRows H' rs rws := ⟨h.len, fun i a r x y => (h.at_ i a r x y).mono e⟩
def spFzRows : Sp := fun vs H Q _ => ∃ (a : Addr) (rs : List Addr) (rws : List Rx), vs = [.ref a] ∧ H a = some (.lst (rs.map V.ref)) ∧ RawRows H rs rws ∧ rws.length ≤ 100 ∧ ∀ (q : Addr) (qs : List Addr) (H' : Hp), Same H H' → TupP H' q (qs.map V.ref) → KeptRows H' qs rws → Q (.ref q) H' 
theorem sc_frozenW : FnScope ["thing", "part"] ["thing"] (defScope s_frozen) := ⟨rfl, rfl, rfl, by decide +kernel, rfl, by decide +kernel, by decide +kernel⟩
theorem ok_frozenW (T : Ctx w K mg) (H_frozen : Has P w K mg base 3 "frozen" ["thing"] spFzRow) : Has P w K mg base 4 "frozen" ["thing"] spFzRows := by
  obtain ⟨fd, F⟩ := T.D_frozen
  obtain ⟨fd_frozen, G_frozen, b_frozen⟩ := H_frozen.ex
  refine ⟨⟨fd, F.ok sc_frozenW (fun vs H Q E h => ?_) (fun cdv A outer s H vs Q E hr h => ?_), F.bindsN fun _ _ _ _ _ _ us hl => match us, hl with | [_], _ => rfl⟩, F.kp, T.g_frozen⟩
  · obtain ⟨a, rs, rws, rfl, ha, hR, hl, k⟩ := h; rfl
  · obtain ⟨a, rs, rws, rfl, ha, hR, hl, k⟩ := h
    have hr_frozen : Room 3 _ := hr.mono (by decide)
    have hu := hu_of hr
    refine ⟨_, PSs.nox (pss_cons (ps_if (pt_val (pe_callB call_isiT (by rfl) T.f_isinstance (by decide +kernel) (pa_cons (pv 0) (pa_cons (pe_tup (pa_cons (pe_bltn (v := .ty "list") (u := .type "list") rfl T.f_list (by decide +kernel) rfl) (pa_cons (pe_bltn (v := .ty "tuple") (u := .type "tuple") rfl T.f_tuple (by decide +kernel) rfl) pa_nil))) pa_nil)))) (pss_one (ps_ret (pe_callTy call_tupleP (by rfl) T.f_tuple (by decide +kernel) (pa_cons (pe_lc (own := [("part", 1)]) (g := gName 1) (tt := tYes) rfl sc_frozenW.nd (pi_list (pv 0)) (blkOk_by (N := ["thing", "part"]) (sc := defScope s_frozen) (by decide +kernel)) (fun _ _ _ _ _ => (pg_name (i := 1) sc_frozenW.nd rfl (Or.inl rfl))) (fun _ _ _ _ _ => pts_nil) (fun _ _ _ _ _ => (pe_call G_frozen hr_frozen (by rfl) H_frozen.gl H_frozen.kp b_frozen .nil pass0 (pa_cons (pv 1) pa_nil)))) pa_nil)))) pss_nil)
      (pss_one (ps_ret (pv 0)))), ?_⟩
    refine ⟨_, rfl, sz_of (by decide), fun tp htp => ?_⟩
    have s1 : Same H (upd H tp (.tup [.ty "list", .ty "tuple"])) := Same.new htp
    refine ⟨_, _, _, _, _, true, rfl, upd_same, .cons (.ty _) (.cons (.ty _) .nil), .base (.lst (s1 _ _ ha)), kit2 (p := true) (q := false) (by decide +kernel) (by decide +kernel) rfl, _, rfl, iteT ?_⟩
    refine ⟨_, rfl, a, rfl, ⟨_, SqL.of (s1 _ _ ha)⟩, fun D hD => ?_⟩
    refine lc_rows (walk_list (K := K) (a := a) (xs := rs.map V.ref)) hD rws (by rw [List.length_map, hR.len]; omega) (fun H2 s2 => SqL.of (s2 _ _ (s1 _ _ ha))) (fun i H2 y H3 hi s2 hy Qe qe => ?_) (fun H2 qs s2 hq hqs h2 => ?_)
    · obtain ⟨rfl, hy⟩ := hy
      obtain ⟨p1, hp1, rfl⟩ := map_get hy
      have hir : i < rws.length := by
        rw [← hR.len]
        exact (List.getElem?_eq_some_iff.mp hp1).1
      have er : rws[i]? = some rws[i] := List.getElem?_eq_getElem hir
      obtain ⟨l, h3, h4⟩ := ((hR.mono s1).mono s2).at_ i p1 rws[i] hp1 er
      refine ⟨rfl, _, rfl, p1, l, rws[i], rfl, h3, h4, fun q H4 s4 hk => qe q _ s4 (fun r e => ?_)⟩
      rw [er] at e
      rw [← Option.some.inj e]
      exact hk
    · rw [List.length_map, hR.len] at hq
      refine ⟨D, _, rfl, SqL.of h2, fun l o hl2 po => k l qs _ ((s1.trans s2).trans (Same.new hl2)) ⟨o, upd_same, po⟩ ⟨hq, fun i p r e1 e2 => (hqs i p r e1 e2).mono (Same.new hl2)⟩⟩

end
end W16
set_option Elab.async false
set_option linter.all false
set_option maxRecDepth 100000
set_option maxHeartbeats 4000000
namespace W16
open PySem PySem.Spec PyProof.Rows L2 RZ
section
variable {P : Program} {w : World} {K : PySem.W.Frag} {mg : Str → Option Value} {base : Heap}

/-- list.extend of any tuple object -/
theorem extend_tupG (l : Addr) (xs : Array Value) (n : Nat) (b : Addr) (ys : Array Value) (n2 : Nat) (dd : Option Addr) (ss : Array (Option Value))
    (h0 : ¬(!xs.isEmpty && Builtin.List.listTooLong (xs.size + ys.size)) = true) (h1 : xs.size ≤ sizeLine) (h2 : xs.size + ys.size ≤ sizeLine + 1) :
    Meets (Builtin.«list.extend» ⟨[.ref l, .ref b], []⟩) (fun _ R s => s.heap.get? l = some { cls := .type "list", dict := none, data := .seq xs n, slots := #[] } ∧
      s.heap.get? b = some { cls := .type "tuple", dict := dd, data := .seq ys n2, slots := ss } ∧
      R (.ok (.ret Value.none)) { s with heap := s.heap.update l (Obj.mapSeq fun x => x ++ ys), toks := s.toks }) := by
  refine .of_wp fun prog w A R s h => ?_
  obtain ⟨hp, g, d, tk, os⟩ := s
  obtain ⟨hl, hb, h⟩ := h
  have f1 := AutoSeq1.idx_int
  have f2 := AutoSeq1.sub_tuple_tuple
  have f3 := AutoSeq1.sub_list_list
  have f4 := AutoSeq1.sub_tuple_list
  have f5 := AutoSeq1.sub_list_tuple
  have hz : (xs ++ ys).size ≤ sizeLine + 1 := by
    rw [Array.size_append]
    exact h2
  wp_walk using (wpAny_updateSeq hl rfl (hz := h1) (_hz' := hz)), wpAny_loadPart' hl, wpAny_loadPart' hb
  exact ⟨_, rfl, h⟩
def rExtendT (K : PySem.W.Frag) : V → List V → Hp → VK → Prop := fun x vs H Q => ∃ l b xs zs, x = .ref l ∧ vs = [.ref b] ∧ H l = some (.lst xs) ∧ SqT K H b zs ∧ xs.length + zs.length ≤ sizeLine ∧ Q .non (upd H l (.lst (xs ++ zs)))
theorem mt_extendT {X : Cx} : MtM X "list.extend" (rExtendT X.K) := by
  intro pins s σ H x vs v us Q I rx rv h
  obtain ⟨l, b, xs, zs, rfl, rfl, hH, hB, hz, q⟩ := h
  cases rx
  obtain ⟨u, rfl, ru⟩ := rv.one
  cases ru
  obtain ⟨z, its, n, r, hl, e⟩ := I.lstM hH
  obtain ⟨its2, r2, ⟨o, ho, hc, n2, hd⟩, hl2⟩ := I.tuple hB
  have e3 : xs.length = its.length := hl
  have e4 : zs.length = its2.length := r2.length
  have hsz : its.toArray.size + its2.toArray.size ≤ sizeLine := by rw [List.size_toArray, List.size_toArray]; omega
  have hlong : ¬ (!its.toArray.isEmpty && Builtin.List.listTooLong (its.toArray.size + its2.toArray.size)) = true := by
    rw [notLongL hsz, Bool.and_false]
    exact Bool.false_ne_true
  obtain ⟨oc, od, dt, osl⟩ := o
  subst hc hd
  refine call_meets F.slot_list_extend ⟨_, e, rfl⟩ F.entry_list_extend (F.args_list_extend_2 _ _)
    (extend_tupG l its.toArray n b its2.toArray n2 od osl hlong (by rw [List.size_toArray]; omega) (by omega)) ⟨e, ho, ?_⟩
  refine ⟨.non, _, I.lset (its' := its ++ its2) hH e (by simp) (r.append r2) ?_, rfl, q⟩
  rw [List.length_append]
  omega

end
end W16
set_option Elab.async false
set_option linter.all false
set_option maxRecDepth 100000
set_option maxHeartbeats 4000000
namespace W16
open PySem PySem.Spec PyProof.Rows L2 RZ
section
variable {P : Program} {w : World} {K : PySem.W.Frag} {mg : Str → Option Value} {base : Heap}

/-- row_reads, row_sets of rows as they are kept -/
def spReadsK : Sp := fun vs H Q _ => ∃ (a : Addr) (r : Rx), vs = [.ref a] ∧ RowAt true H a r ∧ r.reads.length ≤ 1000 ∧ ∀ p H', Same H H' → H p = none → H' p = some (.lst (r.reads.map V.str)) → Q (.ref p) H'
theorem Rx.args_le {r : Rx} {bs : List Str} (h : r.args = some bs) : bs = r.reads := by
  cases r with
  | call x F cs => exact (Option.some.inj h).symm
  | _ => cases h
theorem sc_row_readsK : FnScope ["row", "names", "role", "part"] ["row"] (defScope s_row_reads) := ⟨rfl, rfl, rfl, by decide +kernel, rfl, by decide +kernel, by decide +kernel⟩
theorem ok_row_readsK (T : Ctx w K mg) : Has P w K mg base 1 "row_reads" ["row"] spReadsK := by
  obtain ⟨fd, F⟩ := T.D_row_reads
  refine ⟨⟨fd, F.ok sc_row_readsK (fun vs H Q E h => ?_) (fun cdv A outer s H vs Q E hr h => ?_), F.bindsN fun _ _ _ _ _ _ us hl => match us, hl with | [_], _ => rfl⟩, F.kp, T.g_row_reads⟩
  · obtain ⟨a, r, rfl, hRow, hle, k⟩ := h; rfl
  · obtain ⟨a, r, rfl, hRow, hle, k⟩ := h
    have hu := hu_of hr
    refine ⟨_, PSs.nox (pss_cons (ps_set (i := 1) sc_row_readsK.nd rfl (Or.inl rfl) (pe_lst pa_nil))
      (pss_cons (ps_for PassesOwn.never rfl (pi_zipA (by rfl) T.f_zip (pa_cons (pe_ix ix_kdict (pe_glob (v := .ref (He.ga K "ROLES")) rfl T.g_ROLES rfl) (pe_ix ix_tup (pv 0) pe_int (fun _ _ => rfl)) (fun _ _ => rfl)) (pa_cons (pe_slice sl_tup (pv 0) (po_some pe_int) po_none) pa_nil))) (pg_tup rfl (pgs_cons (pg_name (i := 2) sc_row_readsK.nd rfl (Or.inl rfl)) (pgs_cons (pg_name (i := 3) sc_row_readsK.nd rfl (Or.inl rfl)) pgs_nil)))
      (pss_one (ps_if (pt_cmpR op_eq (pv 2) pe_str (nomark _)) (pss_one (ps_expr (pe_bm PySem.F.plainAttrs_list PySem.F.slot_list_append PySem.F.type_list_append mt_append (pv 1) (pa_cons (pv 3) pa_nil)))) (pss_one (ps_if (pt_cmpR op_eq (pv 2) pe_str (nomark _)) (pss_one (ps_expr (pe_bm PySem.F.plainAttrs_list PySem.F.slot_list_extend PySem.F.type_list_extend mt_extendT (pv 1) (pa_cons (pv 3) pa_nil)))) pss_nil)))))
      (pss_one (ps_ret (pv 1))))), ?_⟩
    obtain ⟨m, ha, hm0⟩ := hRow
    have hm : ∀ bs, r.args = some bs → H m = some (.tup (bs.map V.str)) ∧ bs.length ≤ 1000 := fun bs e => ⟨hm0 bs e, by rw [Rx.args_le e]; exact hle⟩
    have hro : ∀ H, SqT K H (rolA K r.word) (r.roles.map V.str) := fun H => (T.role (rx_roles_mem r) H).2
    have hlp : (r.parts (.ref m)).length ≤ 3 := by cases r <;> simp [Rx.parts]
    have hlr := r.lens (.ref m)
    refine ⟨sz_of (by decide), fun l hl => ?_⟩
    have s0 : Same H (upd H l (.lst [])) := Same.new hl
    refine ⟨_, rfl, _, _, _, _, rfl, rfl, SqT.of (s0 _ _ ha), at0, _, _, _, rfl, rfl, T.roleK (rx_roles_mem r), ?_⟩
    refine ⟨_, rfl, 1, rfl, a, _, rfl, SqT.of (s0 _ _ ha), slice1.2, fun t ht => ?_⟩
    have s1 : Same (upd H l (.lst [])) (upd (upd H l (.lst [])) t (.tup (cutV (V.str r.word :: r.parts (.ref m)) (some 1) none))) := Same.new ht
    have ht1 : (upd (upd H l (.lst [])) t (.tup (cutV (V.str r.word :: r.parts (.ref m)) (some 1) none))) t = some (.tup (r.parts (.ref m))) := by
      rw [upd_same]
      exact congrArg (fun l => some (HO.tup l)) slice1.1
    have hnl : r.namesOf.length ≤ 1000 := by
      unfold Rx.namesOf
      cases e : r.args with
      | none => simp
      | some bs => exact (hm bs e).2
    refine ⟨_, t, _, r.parts (.ref m), rfl, .inr ⟨hro _, SqT.of ht1, ?_⟩⟩
    refine for_it (walk_zipT (K := K) (xs := r.roles.map V.str) (ys := r.parts (.ref m)) (n := (r.parts (.ref m)).length) (by rw [List.length_map, hlr, Nat.min_self])) (fun i σ H1 => ∃ v1 v2 : Option V, σ = [some (.ref a), some (.ref l), v1, v2] ∧ Same H H1 ∧ H1 t = some (.tup (r.parts (.ref m))) ∧ H1 l = some (.lst (rdG (r.namesOf.map V.str) (r.roles.take i) ((r.parts (.ref m)).take i)))) ⟨none, none, rfl, s0.trans s1, ht1, s1 _ _ upd_same⟩ (fun i σ H1 _ ⟨_, _, _, _, h3, _⟩ => ⟨hro _, SqT.of h3⟩) ?_ ?_
    · rintro i y σ H1 H2 hi ⟨v1, v2, rfl, s2, h3, h4⟩ ⟨u, x, v, rfl, hu0, rfl, hx, hv⟩
      obtain ⟨role, e, rfl⟩ := map_get (show (r.roles.map V.str)[i]? = some x from hx)
      have hv : (r.parts (.ref m))[i]? = some v := hv
      have s3 : Same H1 (upd H1 u (.tup [V.str role, v])) := Same.new hu0
      have hsn := rdG_snoc (as := r.namesOf.map V.str) e hv
      have hsz : (rdG (r.namesOf.map V.str) (r.roles.take i) ((r.parts (.ref m)).take i)).length ≤ 3003 := by
        refine Nat.le_trans (rdG_len _ _) ?_
        rw [List.length_take, List.length_map]
        have h6 : min i r.roles.length ≤ 3 := by omega
        exact Nat.le_trans (Nat.mul_le_mul h6 (Nat.succ_le_succ hnl)) (by decide)
      have keep : ∀ {o : List V}, (upd (upd H1 u (.tup [V.str role, v])) l (.lst o)) t = some (.tup (r.parts (.ref m))) := fun {o} => by
        rw [upd_ne]
        · exact s3 _ _ h3
        · intro z
          rw [z, h4] at h3
          cases h3
      refine ⟨u, _, rfl, SqT.of upd_same, rfl, _, _, rfl, _, _, rfl, rfl, ?_⟩
      refine ⟨_, rfl, rfl, _, rfl, ?_⟩
      by_cases c : role = "reads"
      · rw [if_pos c] at hsn
        refine ifT (decide_eq_true (by rw [c])) ?_
        refine ⟨_, rfl, .inl ⟨rfl, _, SqL.of (s3 _ _ h4)⟩, _, rfl, l, _, _, rfl, rfl, s3 _ _ h4, sz_lt (by omega), ?_⟩
        exact ⟨_, _, rfl, Same.mut (s2.trans s3) hl, keep, by rw [upd_same, hsn]⟩
      · rw [if_neg c] at hsn
        refine ifF (decide_eq_false (fun z => c (V.str.inj z))) ?_
        refine ⟨_, rfl, rfl, _, rfl, ?_⟩
        by_cases c2 : role = "many"
        · subst c2
          obtain ⟨bs, hbs, rfl⟩ := Rx.many_at e hv
          rw [if_pos rfl] at hsn
          have hn : r.namesOf = bs := by
            unfold Rx.namesOf
            rw [hbs]
            rfl
          rw [hn] at hsn hsz h4
          refine ifT (decide_eq_true rfl) ?_
          have hml := s3 _ _ (s2 _ _ (hm bs hbs).1)
          refine ⟨_, rfl, .inl ⟨rfl, _, SqL.of (s3 _ _ h4)⟩, _, rfl, l, m, _, _, rfl, rfl, s3 _ _ h4, SqT.of hml, sz_of (by have := (hm bs hbs).2; rw [List.length_map]; omega), ?_⟩
          refine ⟨_, _, rfl, Same.mut (s2.trans s3) hl, ?_, by rw [upd_same, hn, hsn]⟩
          rw [upd_ne]
          · exact s3 _ _ h3
          · intro z
            rw [z, h4] at h3
            cases h3
        · rw [if_neg c2, List.append_nil] at hsn
          refine ifF (decide_eq_false (fun z => c2 (V.str.inj z))) ?_
          refine ⟨_, _, rfl, s2.trans s3, s3 _ _ h3, ?_⟩
          rw [hsn]
          exact s3 _ _ h4
    · rintro σ H1 ⟨v1, v2, rfl, s2, h3, h4⟩
      refine ⟨_, rfl, k l _ s2 hl ?_⟩
      rw [h4, List.take_of_length_le (by rw [hlr]; exact Nat.le_refl _), List.take_length, r.rd _ _ (fun bs hb => by unfold Rx.namesOf; rw [hb]; rfl)]

end
end W16
set_option Elab.async false
set_option linter.all false
set_option maxRecDepth 100000
set_option maxHeartbeats 4000000
namespace W16
open PySem PySem.Spec PyProof.Rows L2 RZ
section
variable {P : Program} {w : World} {K : PySem.W.Frag} {mg : Str → Option Value} {base : Heap}

theorem binNo : ∀ kk : Fin 4, inV (V.str (binW kk)) [.str "if", .str "jump"] = false := by decide +kernel
theorem KindsG.mono {H H' : Hp} {ks us kv : List (Key × V)} {res : Str} {r : Rx} (h : KindsG K H ks us kv res r) (e : Same H H') : KindsG K H' ks us kv res r := by
  cases r with
  | call x F bs =>
    obtain ⟨fp, dx, pa, fs, ps, qs, rs, h1, h2, h3⟩ := h
    exact ⟨fp, dx, pa, fs, ps, qs, rs, h1, h2.mono e, h3⟩
  | _ => exact h
/-- a Function's variables and result, where it stands -/
structure FnG (K : PySem.W.Frag) (H : Hp) (p dx va : Addr) (fs : List (Str × V)) (kv : List (Key × V)) (res : Str) : Prop where
  ob : H p = some (.ins (He.ga K "Function") dx fs)
  vars : fs.lookup ("variables" : Str) = some (.ref va)
  res : fs.lookup ("result" : Str) = some (.str res)
  vd : H va = some (.dK kv)
theorem FnG.mono {H H' : Hp} {p dx va : Addr} {fs : List (Str × V)} {kv : List (Key × V)} {res : Str} (h : FnG K H p dx va fs kv res) (e : Same H H') : FnG K H' p dx va fs kv res := ⟨e _ _ h.ob, h.vars, h.res, e _ _ h.vd⟩
def spIsRowOfG (K : PySem.W.Frag) : Sp := fun vs H Q _ => ∃ (p fp dx va a m0 : Addr) (fs : List (Str × V)) (cs ks us kv : List (Key × V)) (res : Str) (r : Rx) (m : Nat), vs = [.ref p, .ref fp, .ref a, .int m] ∧ SrcH K H p cs ks us ∧ FnG K H fp dx va fs kv res ∧ H a = some (.tup (.str r.word :: r.parts (.ref m0))) ∧ ArgsAt H m0 r ∧
  FormG H cs ks us (.ref m0) r ∧ KindsG K H ks us kv res r ∧ (∀ x ∈ r.names, ∃ v, valV kv (Sum.inr x : Key) = some v) ∧ (∀ g, r.goal = some g → g < m) ∧ ∀ H', Same H H' → Q (.bl true) H' 
theorem sc_Source_is_row_of : FnScope ["self", "function", "row", "many", "names", "name"] ["self", "function", "row", "many"] (defScope s_Source_is_row_of) := ⟨rfl, rfl, rfl, by decide +kernel, rfl, by decide +kernel, by decide +kernel⟩
theorem ok_Source_is_row_of (T : Ctx w K mg) (H_is_row : Has P w K mg base 5 "is_row" ["source", "thing", "words"] (spIsRowG K)) (H_row_sets : Has P w K mg base 1 "row_sets" ["row"] spSetsG) (H_row_reads : Has P w K mg base 1 "row_reads" ["row"] spReadsG) (H_row_kinds_fit : Has P w K mg base 3 "row_kinds_fit" ["source", "row", "kinds", "result"] (spFitG K)) : HasM P w K mg base 6 "Source" "_is_row_of" ["self", "function", "row", "many"] (spIsRowOfG K) := by
  obtain ⟨fd, F⟩ := T.D_Source_is_row_of
  obtain ⟨fd_is_row, G_is_row, b_is_row⟩ := H_is_row.ex
  obtain ⟨fd_row_sets, G_row_sets, b_row_sets⟩ := H_row_sets.ex
  obtain ⟨fd_row_reads, G_row_reads, b_row_reads⟩ := H_row_reads.ex
  obtain ⟨fd_row_kinds_fit, G_row_kinds_fit, b_row_kinds_fit⟩ := H_row_kinds_fit.ex
  refine ⟨⟨fd, F.ok sc_Source_is_row_of (fun vs H Q E h => ?_) (fun cdv A outer s H vs Q E hr h => ?_), F.bindsN fun _ _ _ _ _ _ us hl => match us, hl with | [_, _, _, _], _ => rfl⟩⟩
  · obtain ⟨p, fp, dx, va, a, m0, fs, cs, ks, us, kv, res, r, m, rfl, S0, F0, ha, hm, hb, hk, hn, hg, k⟩ := h; rfl
  · obtain ⟨p, fp, dx, va, a, m0, fs, cs, ks, us, kv, res, r, m, rfl, S0, F0, ha, hm, hb, hk, hn, hg, k⟩ := h
    have hr_is_row : Room 5 _ := hr.mono (by decide)
    have hr_row_sets : Room 1 _ := hr.mono (by decide)
    have hr_row_reads : Room 1 _ := hr.mono (by decide)
    have hr_row_kinds_fit : Room 3 _ := hr.mono (by decide)
    have hu := hu_of hr
    refine ⟨_, PSs.nox (pss_cons (ps_if (pt_not (pt_val (pe_call G_is_row hr_is_row (by rfl) H_is_row.gl H_is_row.kp b_is_row .nil pass0 (pa_cons (pv 0) (pa_cons (pv 2) (pa_cons (pe_glob (v := .ref (He.ga K "ROW_WORDS")) rfl T.g_ROW_WORDS rfl) pa_nil)))))) (pss_one (ps_ret pe_bl)) pss_nil)
      (pss_cons (ps_if (PW.pt (pw_and (pt_cmpR op_in_seq (pe_ix ix_tup (pv 2) pe_int (fun _ _ => rfl)) (pe_tup (pa_cons pe_str (pa_cons pe_str pa_nil))) rfl) (pw_and1 (pt_not (pt_chain op_le op_lt pe_int (pe_ix ix_tup (pv 2) (pe_un un_neg pe_int) (fun _ _ => rfl)) (pv 3)))))) (pss_one (ps_ret pe_bl)) pss_nil)
      (pss_cons (ps_set (i := 4) sc_Source_is_row_of.nd rfl (Or.inl rfl) (pe_lst (pa_cons (pe_call G_row_sets hr_row_sets (by rfl) H_row_sets.gl H_row_sets.kp b_row_sets .nil pass0 (pa_cons (pv 2) pa_nil)) pa_nil)))
      (pss_cons (ps_expr (pe_bm PySem.F.plainAttrs_list PySem.F.slot_list_extend PySem.F.type_list_extend mt_extend (pv 4) (pa_cons (pe_call G_row_reads hr_row_reads (by rfl) H_row_reads.gl H_row_reads.kp b_row_reads .nil pass0 (pa_cons (pv 2) pa_nil)) pa_nil)))
      (pss_cons (ps_if (pt_not (pt_val (pe_callB (cr_all rfl) (by rfl) T.f_all (by decide +kernel) (pa_cons (pe_lc (own := [("name", 5)]) (g := gName 5) (tt := tYes) rfl sc_Source_is_row_of.nd (pi_list (pv 4)) (blkOk_by (N := ["self", "function", "row", "many", "names", "name"]) (sc := defScope s_Source_is_row_of) (by decide +kernel)) (fun _ _ _ _ _ => (pg_name (i := 5) sc_Source_is_row_of.nd rfl (Or.inl rfl))) (fun _ _ _ _ _ => pts_nil) (fun _ _ _ _ _ => (pe_or (pe_cmpR op_isN (pv 5) pe_non (nomark _)) (pe_one (pe_cmp (pc_din hu (pv 5) (pe_fldK (K := K) rfl (pv 1) (by rfl))) (by rfl)))))) pa_nil)))) (pss_one (ps_ret pe_bl)) pss_nil)
      (pss_one (ps_ret (pe_call G_row_kinds_fit hr_row_kinds_fit (by rfl) H_row_kinds_fit.gl H_row_kinds_fit.kp b_row_kinds_fit .nil pass0 (pa_cons (pv 0) (pa_cons (pv 2) (pa_cons (pe_fldK (K := K) rfl (pv 1) (by rfl)) (pa_cons (pe_fldK (K := K) rfl (pv 1) (by rfl)) pa_nil)))))))))))), ?_⟩
    refine ⟨_, rfl, _, rfl, p, cs, ks, us, a, .ref m0, r, rfl, S0, ha, hb, fun H1 s1 => ⟨_, rfl, iteF ?_⟩⟩
    have ha1 := s1 _ _ ha
    have F1 := F0.mono s1
    have hrl : r.reads.length ≤ 1003 := by
      cases r with
      | call x F bs =>
        have := (hm bs rfl).2
        simp only [Rx.reads]
        omega
      | _ => simp [Rx.reads]
    refine ⟨_, rfl, _, _, _, _, rfl, rfl, SqT.of ha1, at0, ?_⟩
    refine ⟨sz_of (by decide), fun t ht => ⟨t, _, rfl, .inr (SqT.of upd_same), rfl, rfl, ?_⟩⟩
    have s2 : Same H1 (upd H1 t (.tup [.str "if", .str "jump"])) := Same.new ht
    cases e : r.goal with
    | none =>
      refine ⟨_, rfl, ifF ?_ ?_⟩
      · cases r <;> first | rfl | exact binNo _ | cases e
      refine iteF ?_
      have ha2 := s2 _ _ ha1
      refine ⟨_, rfl, a, .ref m0, r, rfl, ha2, sz_of (by show 1 ≤ 100000; decide), fun l hl => ?_⟩
      have s3 : Same (upd H1 t (.tup [.str "if", .str "jump"])) (upd (upd H1 t (.tup [.str "if", .str "jump"])) l (.lst [oS r.sets])) := Same.new hl
      refine ⟨_, rfl, .inl ⟨rfl, _, SqL.of upd_same⟩, _, rfl, a, m0, r, rfl, s3 _ _ ha2, hm.mono (s1.trans (s2.trans s3)), fun q H3 s4 _ hq => ?_⟩
      refine ⟨l, q, _, _, rfl, rfl, s4 _ _ upd_same, hq, sz_of ?_, ?_⟩
      · have := hrl
        simp only [List.length_map, List.length_cons, List.length_nil]
        omega
      have s5 : Same H1 (upd H3 l (.lst ([oS r.sets] ++ r.reads.map V.str))) := s2.trans (Same.mut (s3.trans s4) hl)
      refine ⟨_, rfl, l, rfl, ⟨_, SqL.of upd_same⟩, fun D hD => ?_⟩
      have hin : ∀ y ∈ ([oS r.sets] ++ r.reads.map V.str), y = .non ∨ ∃ x ∈ r.names, y = .str x := by
        intro y hy
        simp only [List.mem_append, List.mem_singleton, List.mem_map] at hy
        unfold Rx.names
        rcases hy with rfl | ⟨x, hx, rfl⟩
        · cases e : r.sets with
          | none => exact .inl rfl
          | some x => exact .inr ⟨x, List.mem_cons_self, rfl⟩
        · cases e : r.sets with
          | none => exact .inr ⟨x, hx, rfl⟩
          | some z => exact .inr ⟨x, List.mem_cons_of_mem _ hx, rfl⟩
      refine lc_pure (walk_list (K := K) (a := l) (xs := [oS r.sets] ++ r.reads.map V.str)) hD (fun _ => .bl true) ?_ (fun H4 s6 => SqL.of (s6 _ _ upd_same)) (fun i H4 y H5 hi s6 hy Qe qe => ?_) (fun H4 s6 h4 => ?_)
      · have := hrl
        simp only [List.length_append, List.length_map, List.length_cons, List.length_nil]
        omega
      · obtain ⟨rfl, hy⟩ := hy
        have F2 := F1.mono (s5.trans s6)
        rcases hin y (List.mem_of_getElem? hy) with rfl | ⟨x, hx, rfl⟩
        · exact ⟨rfl, _, rfl, rfl, _, rfl, iteT (qe _ (Same.refl _))⟩
        · obtain ⟨v, hv⟩ := hn x hx
          refine ⟨rfl, _, rfl, rfl, _, rfl, iteF ⟨_, rfl, _, rfl, fp, _, dx, fs, _, rfl, F2.ob, T.c_Function, T.n_Function_variables, F2.vars, va, some v, rfl, ?_, qe _ (Same.refl _)⟩⟩
          rw [← hv]
          exact DGet.k (k := Sum.inr x) F2.vd
      refine ⟨D, (List.range ([oS r.sets] ++ r.reads.map V.str).length).map (fun _ => true), rfl, SqL.of (by rw [h4, List.map_map]; rfl), _, rfl, ifF (show (!((List.range ([oS r.sets] ++ r.reads.map V.str).length).map (fun _ => true)).all id) = false by rw [all_true]; rfl) ?_⟩
      have F3 := F1.mono (s5.trans s6)
      refine ⟨_, rfl, _, rfl, _, rfl, fp, _, dx, fs, _, rfl, F3.ob, T.c_Function, T.n_Function_variables, F3.vars, _, rfl, fp, _, dx, fs, _, rfl, F3.ob, T.c_Function, T.n_Function_result, F3.res, p, a, m0, va, cs, ks, us, kv, res, r, rfl, S0.mono (s1.trans (s5.trans s6)), s6 _ _ (s5 _ _ ha1), hm.mono (s1.trans (s5.trans s6)), F3.vd, hk.mono (s1.trans (s5.trans s6)), fun H' s7 => k H' ((s1.trans (s5.trans s6)).trans s7)⟩
    | some gg =>
      have hgg := hg gg e
      have hat : atI (V.str r.word :: r.parts (.ref m0)) (-1) = some (.int gg) := by
        cases r with
        | ifz x z =>
          have e2 : z = gg := Option.some.inj e
          rw [← e2]
          exact atI_last [V.str "if", V.str x] (.int z)
        | jump z =>
          have e2 : z = gg := Option.some.inj e
          rw [← e2]
          exact atI_last [V.str "jump"] (.int z)
        | _ => cases e
      refine ⟨_, rfl, ifT ?_ ?_⟩
      · cases r <;> first | rfl | cases e
      refine ⟨_, rfl, 1, rfl, _, _, _, _, rfl, rfl, SqT.of (s2 _ _ ha1), hat, _, _, rfl, rfl, _, rfl, ifT (decide_eq_true (by omega)) ⟨_, rfl, _, _, rfl, rfl, _, rfl, ?_⟩⟩
      have eqq : (!decide ((gg : Int) < (m : Int))) = false := by
        rw [decide_eq_true (by omega)]
        rfl
      refine ifF eqq ?_
      have ha2 := s2 _ _ ha1
      refine ⟨_, rfl, a, .ref m0, r, rfl, ha2, sz_of (by show 1 ≤ 100000; decide), fun l hl => ?_⟩
      have s3 : Same (upd H1 t (.tup [.str "if", .str "jump"])) (upd (upd H1 t (.tup [.str "if", .str "jump"])) l (.lst [oS r.sets])) := Same.new hl
      refine ⟨_, rfl, .inl ⟨rfl, _, SqL.of upd_same⟩, _, rfl, a, m0, r, rfl, s3 _ _ ha2, hm.mono (s1.trans (s2.trans s3)), fun q H3 s4 _ hq => ?_⟩
      refine ⟨l, q, _, _, rfl, rfl, s4 _ _ upd_same, hq, sz_of ?_, ?_⟩
      · have := hrl
        simp only [List.length_map, List.length_cons, List.length_nil]
        omega
      have s5 : Same H1 (upd H3 l (.lst ([oS r.sets] ++ r.reads.map V.str))) := s2.trans (Same.mut (s3.trans s4) hl)
      refine ⟨_, rfl, l, rfl, ⟨_, SqL.of upd_same⟩, fun D hD => ?_⟩
      have hin : ∀ y ∈ ([oS r.sets] ++ r.reads.map V.str), y = .non ∨ ∃ x ∈ r.names, y = .str x := by
        intro y hy
        simp only [List.mem_append, List.mem_singleton, List.mem_map] at hy
        unfold Rx.names
        rcases hy with rfl | ⟨x, hx, rfl⟩
        · cases e : r.sets with
          | none => exact .inl rfl
          | some x => exact .inr ⟨x, List.mem_cons_self, rfl⟩
        · cases e : r.sets with
          | none => exact .inr ⟨x, hx, rfl⟩
          | some z => exact .inr ⟨x, List.mem_cons_of_mem _ hx, rfl⟩
      refine lc_pure (walk_list (K := K) (a := l) (xs := [oS r.sets] ++ r.reads.map V.str)) hD (fun _ => .bl true) ?_ (fun H4 s6 => SqL.of (s6 _ _ upd_same)) (fun i H4 y H5 hi s6 hy Qe qe => ?_) (fun H4 s6 h4 => ?_)
      · have := hrl
        simp only [List.length_append, List.length_map, List.length_cons, List.length_nil]
        omega
      · obtain ⟨rfl, hy⟩ := hy
        have F2 := F1.mono (s5.trans s6)
        rcases hin y (List.mem_of_getElem? hy) with rfl | ⟨x, hx, rfl⟩
        · exact ⟨rfl, _, rfl, rfl, _, rfl, iteT (qe _ (Same.refl _))⟩
        · obtain ⟨v, hv⟩ := hn x hx
          refine ⟨rfl, _, rfl, rfl, _, rfl, iteF ⟨_, rfl, _, rfl, fp, _, dx, fs, _, rfl, F2.ob, T.c_Function, T.n_Function_variables, F2.vars, va, some v, rfl, ?_, qe _ (Same.refl _)⟩⟩
          rw [← hv]
          exact DGet.k (k := Sum.inr x) F2.vd
      refine ⟨D, (List.range ([oS r.sets] ++ r.reads.map V.str).length).map (fun _ => true), rfl, SqL.of (by rw [h4, List.map_map]; rfl), _, rfl, ifF (show (!((List.range ([oS r.sets] ++ r.reads.map V.str).length).map (fun _ => true)).all id) = false by rw [all_true]; rfl) ?_⟩
      have F3 := F1.mono (s5.trans s6)
      refine ⟨_, rfl, _, rfl, _, rfl, fp, _, dx, fs, _, rfl, F3.ob, T.c_Function, T.n_Function_variables, F3.vars, _, rfl, fp, _, dx, fs, _, rfl, F3.ob, T.c_Function, T.n_Function_result, F3.res, p, a, m0, va, cs, ks, us, kv, res, r, rfl, S0.mono (s1.trans (s5.trans s6)), s6 _ _ (s5 _ _ ha1), hm.mono (s1.trans (s5.trans s6)), F3.vd, hk.mono (s1.trans (s5.trans s6)), fun H' s7 => k H' ((s1.trans (s5.trans s6)).trans s7)⟩

end
end W16
set_option Elab.async false
set_option linter.all false
set_option maxRecDepth 100000
set_option maxHeartbeats 4000000
namespace W16
open PySem PySem.Spec PyProof.Rows L2 RZ
section
variable {P : Program} {w : World} {K : PySem.W.Frag} {mg : Str → Option Value} {base : Heap}

/-- all but what stands at p is as it was -/
def But (p : Addr) (H H' : Hp) : Prop := ∀ b u, H b = some u → b ≠ p → H' b = some u
theorem But.refl (p : Addr) (H : Hp) : But p H H := fun _ _ h _ => h
theorem But.trans {p : Addr} {H H1 H2 : Hp} (a : But p H H1) (b : But p H1 H2) : But p H H2 := fun c u h n => b c u (a c u h n) n
theorem But.of {p : Addr} {H H' : Hp} (e : Same H H') : But p H H' := fun b u h _ => e b u h
theorem But.upd {p : Addr} {H : Hp} {o : HO} : But p H (upd H p o) := fun b u h n => by
  rw [upd_ne n]
  exact h
theorem FormG.mono {H H' : Hp} {cs ks us : List (Key × V)} {l : V} {r : Rx} (h : FormG H cs ks us l r) (e : Same H H') : FormG H' cs ks us l r := fun i x v a b => (h i x v a b).mono e
theorem KeptRows.tupfn {p C dx : Addr} {fs fs' : List (Str × V)} {H : Hp} {qs : List Addr} {rws : List Rx} (h : KeptRows H qs rws) (hp : H p = some (.ins C dx fs)) : KeptRows (L2.upd H p (.ins C dx fs')) qs rws :=
  ⟨h.len, fun i a r e1 e2 => by
    obtain ⟨l, h1, h2⟩ := h.at_ i a r e1 e2
    refine ⟨l, ?_, fun bs e => ?_⟩
    · rw [upd_ne (ne_of h1 hp (by intro z; cases z))]
      exact h1
    · have q := h2 bs e
      rw [if_pos rfl] at q ⊢
      rw [upd_ne (ne_of q hp (by intro z; cases z))]
      exact q⟩
def spTakeRG (K : PySem.W.Frag) : Sp := fun vs H Q _ => ∃ (p fp dy va ra : Addr) (kk : Int) (gs : List (Str × V)) (cs ks us kv : List (Key × V)) (res : Str) (rs : List Addr) (rws : List Rx), vs = [.ref p, .int kk, .ref fp, .ref ra] ∧ SrcH K H p cs ks us ∧ gs.length ≤ 900 ∧ FnG K H fp dy va gs kv res ∧ H ra = some (.lst (rs.map V.ref)) ∧ RawRows H rs rws ∧
  (∀ (i : Nat) a r l, rs[i]? = some a → rws[i]? = some r → H a = some (.tup (.str r.word :: r.parts (.ref l))) → FormG H cs ks us (.ref l) r) ∧ (∀ r ∈ rws, KindsG K H ks us kv res r ∧ (∀ x ∈ r.names, ∃ v, valV kv (Sum.inr x : Key) = some v) ∧ ∀ g, r.goal = some g → g < rws.length) ∧
  (∃ r0 rl, rws = r0 ++ [rl] ∧ (rl.word = ("jump" : Str) ∨ rl.word = ("return" : Str))) ∧ rws.length ≤ 40 ∧
  ∀ (H' : Hp) (q : Addr) (qs : List Addr), But fp H H' → FnG K H' fp dy va (putF "body" (.ref q) gs) kv res → TupP H' q (qs.map V.ref) → KeptRows H' qs rws → Q .non H' 
theorem sc_Source_take_rows : FnScope ["self", "k", "function", "rows", "r", "row"] ["self", "k", "function", "rows"] (defScope s_Source_take_rows) := ⟨rfl, rfl, rfl, by decide +kernel, rfl, by decide +kernel, by decide +kernel⟩
theorem ok_Source_take_rows (T : Ctx w K mg) (H_Source_is_row_of : HasM P w K mg base 6 "Source" "_is_row_of" ["self", "function", "row", "many"] (spIsRowOfG K)) (H_frozen : Has P w K mg base 4 "frozen" ["thing"] spFzRows) : HasM P w K mg base 7 "Source" "_take_rows" ["self", "k", "function", "rows"] (spTakeRG K) := by
  obtain ⟨fd, F⟩ := T.D_Source_take_rows
  obtain ⟨fd_Source_is_row_of, G_Source_is_row_of, b_Source_is_row_of⟩ := H_Source_is_row_of.ex
  obtain ⟨fd_frozen, G_frozen, b_frozen⟩ := H_frozen.ex
  refine ⟨⟨fd, F.ok sc_Source_take_rows (fun vs H Q E h => ?_) (fun cdv A outer s H vs Q E hr h => ?_), F.bindsN fun _ _ _ _ _ _ us hl => match us, hl with | [_, _, _, _], _ => rfl⟩⟩
  · obtain ⟨p, fp, dy, va, ra, kk, gs, cs, ks, us, kv, res, rs, rws, rfl, S0, few0, F0, hra, hR, hf, hok, hlast, hle, k⟩ := h; rfl
  · obtain ⟨p, fp, dy, va, ra, kk, gs, cs, ks, us, kv, res, rs, rws, rfl, S0, few0, F0, hra, hR, hf, hok, hlast, hle, k⟩ := h
    have hr_Source_is_row_of : Room 6 _ := hr.mono (by decide)
    have hr_frozen : Room 4 _ := hr.mono (by decide)
    have hu := hu_of hr
    refine ⟨_, PSs.nox (pss_cons (ps_for PassesOwn.never rfl (pi_enum (by rfl) T.f_enumerate (pa_cons (pv 3) pa_nil)) (pg_tup rfl (pgs_cons (pg_name (i := 4) sc_Source_take_rows.nd rfl (Or.inl rfl)) (pgs_cons (pg_name (i := 5) sc_Source_take_rows.nd rfl (Or.inl rfl)) pgs_nil)))
      (pss_one (ps_if (pt_not (pt_val (pe_meth (pv 0) T.c_Source T.m_Source_is_row_of G_Source_is_row_of hr_Source_is_row_of b_Source_is_row_of .nil pass0 (pa_cons (pv 2) (pa_cons (pv 5) (pa_cons (pe_callB call_len_seq (by rfl) T.f_len (by decide +kernel) (pa_cons (pv 3) pa_nil)) pa_nil)))))) (pss_one ps_never) pss_nil)))
      (pss_cons (ps_if (pt_cmpR op_notIn_seq (pe_ix ix_tup (pe_ix ix_list (pv 3) (pe_un un_neg pe_int) (fun _ _ => rfl)) pe_int (fun _ _ => rfl)) (pe_tup (pa_cons pe_str (pa_cons pe_str pa_nil))) rfl) (pss_one ps_never) pss_nil)
      (pss_one (ps_fld (pv 2) (pe_call G_frozen hr_frozen (by rfl) H_frozen.gl H_frozen.kp b_frozen .nil pass0 (pa_cons (pv 3) pa_nil)) rfl)))), ?_⟩
    obtain ⟨dx, df, dk, du, fs, S⟩ := id S0
    have hlr : rs.length = rws.length := hR.len
    have nra : ra ≠ fp := ne_of hra F0.ob (by intro z; cases z)
    refine ⟨_, rfl, ra, _, rfl, SqL.of hra, ?_⟩
    refine for_it (walk_enum (K := K) (a := ra) (xs := rs.map V.ref)) (fun i σ H1 => ∃ v1 v2 : Option V, σ = [some (.ref p), some (.int kk), some (.ref fp), some (.ref ra), v1, v2] ∧ Same H H1) ⟨none, none, rfl, Same.refl H⟩ (fun i σ H1 _ ⟨_, _, _, s1⟩ => SqL.of (s1 _ _ hra)) ?_ ?_
    · rintro i y σ H1 H2 hi ⟨v1, v2, rfl, s1⟩ ⟨u, a, b, rfl, hu0, rfl, h1, h2⟩
      have h2 : (rs.map V.ref)[i]? = some b := h2
      obtain rfl : V.int (i : Nat) = a := Option.some.inj h1
      obtain ⟨c, hc, rfl⟩ := map_get h2
      have hir : i < rws.length := by
        rw [← hlr]
        exact (List.getElem?_eq_some_iff.mp hc).1
      have hr1 : rws[i]? = some rws[i] := List.getElem?_eq_getElem hir
      obtain ⟨l, hca, hm⟩ := hR.at_ i c _ hc hr1
      have s2 : Same H1 (upd H1 u (.tup [.int (i : Nat), .ref c])) := Same.new hu0
      have s12 := s1.trans s2
      obtain ⟨q1, q2, q3⟩ := hok rws[i] (List.getElem_mem hir)
      refine ⟨u, _, rfl, SqT.of upd_same, rfl, _, _, rfl, _, _, rfl, rfl, ?_⟩
      refine ⟨_, rfl, p, dx, fs, rfl, s12 _ _ S.ob, S.nm _ (by decide +kernel), _, rfl, _, rfl, _, rfl, _, _, rfl, .inl (SqL.of (s12 _ _ hra)), ?_⟩
      refine ⟨p, fp, dy, va, c, l, gs, cs, ks, us, kv, res, rws[i], (rs.map V.ref).length, rfl, S0.mono s12, F0.mono s12, s12 _ _ hca, hm.mono s12, (hf i c _ l hc hr1 hca).mono s12, q1.mono s12, q2, fun g e => by rw [List.length_map, hlr]; exact q3 g e, fun H3 s3 => ⟨_, rfl, iteF ?_⟩⟩
      exact ⟨_, _, rfl, s12.trans s3⟩
    · rintro σ H1 ⟨v1, v2, rfl, s1⟩
      have hl2 := hlast
      obtain ⟨r0, rl, erl, hword⟩ := hl2
      have hrl : rws[r0.length]? = some rl := by
        rw [erl]
        simp
      have hl0 : rs.length = r0.length + 1 := by
        rw [hlr, erl]
        simp
      obtain ⟨c, hc⟩ : ∃ c, rs[r0.length]? = some c := ⟨rs[r0.length], List.getElem?_eq_getElem _⟩
      obtain ⟨l, hcl, _⟩ := hR.at_ _ c rl hc hrl
      have hat : atI (rs.map V.ref) (-1) = some (.ref c) := by
        have e1 : rs = rs.take r0.length ++ [c] := by
          have e2 := take_snoc hc
          rw [← e2, List.take_of_length_le (by omega)]
        rw [e1, List.map_append]
        exact atI_last _ _
      refine ⟨_, rfl, 1, rfl, _, _, _, _, rfl, rfl, SqL.of (s1 _ _ hra), hat, _, _, _, _, rfl, rfl, SqT.of (s1 _ _ hcl), at0, sz_of (by show 2 ≤ 100000; decide), fun t ht => ⟨t, _, rfl, .inr (SqT.of upd_same), rfl, rfl, _, rfl, ifF ?_ ?_⟩⟩
      · show (if true = true then !inV (V.str rl.word) [.str "jump", .str "return"] else inV (V.str rl.word) [.str "jump", .str "return"]) = false
        rcases hword with e | e <;> rw [e] <;> rfl
      have s2 : Same H1 (upd H1 t (.tup [.str "jump", .str "return"])) := Same.new ht
      have s12 := s1.trans s2
      refine ⟨_, rfl, ra, rs, rws, rfl, s12 _ _ hra, hR.mono s12, by omega, fun q qs H3 s3 tq hqs => ?_⟩
      have s13 := s12.trans s3
      refine ⟨_, rfl, fp, _, dy, _, rfl, s13 _ _ F0.ob, T.c_Function, T.n_Function_body, Nat.lt_of_le_of_lt few0 (by decide), ?_⟩
      refine k _ q qs ((But.of s13).trans But.upd) ⟨upd_same, ?_, ?_, ?_⟩ ?_ (hqs.tupfn (s13 _ _ F0.ob))
      · rw [lookup_putF, if_neg (by decide +kernel)]
        exact F0.vars
      · rw [lookup_putF, if_neg (by decide +kernel)]
        exact F0.res
      · rw [upd_ne (ne_of F0.vd F0.ob (by intro z; cases z))]
        exact s13 _ _ F0.vd
      · obtain ⟨ob, e, pl⟩ := tq
        exact ⟨ob, by rw [upd_ne (ne_of e (s13 _ _ F0.ob) (by intro z; cases z))]; exact e, pl⟩

end
end W16
set_option Elab.async false
set_option linter.all false
set_option maxRecDepth 100000
set_option maxHeartbeats 4000000
namespace W16
open PySem
/-- rows whose goals are there, the last of which does not go on -/
structure OkG (rws : List Rx) : Prop where
  ok : ∀ r ∈ rws, ∀ g, r.goal = some g → g < rws.length
  last : ∃ r0 rl, rws = r0 ++ [rl] ∧ (rl.word = ("jump" : Str) ∨ rl.word = ("return" : Str))
  le : rws.length ≤ 40
def nextOf (rws : List Rx) (i : Nat) : List Nat := match rws[i]? with
  | none => []
  | some (.ret _) => []
  | some (.jump r) => [r]
  | some (.ifz _ r) => if i + 1 ≤ r then [i + 1, r] else [r, i + 1]
  | some _ => [i + 1]
def push (way : List Nat) : List Nat → List (List Nat) × List Nat → List (List Nat) × List Nat
  | [], s => s
  | g :: gs, s => push way gs (if g ∈ s.2 then s else (s.1 ++ [way ++ [g]], s.2 ++ [g]))
def look (rws : List Rx) (x : Str) : Nat → List (List Nat) × List Nat → Nat → Option (List Nat)
  | 0, _, _ => none
  | f + 1, s, at_ => match s.1[at_]? with
    | none => none
    | some way => match rws[way.getLastD 0]? with
      | none => none
      | some r => if x ∈ r.reads then some way else if r.sets = some x then look rws x f s (at_ + 1) else look rws x f (push way (nextOf rws (way.getLastD 0)) s) (at_ + 1)
def wayOf (rws : List Rx) (x : Str) (i : Nat) : Option (List Nat) := look rws x (rws.length + 1) ([[i]], [i]) 0
/-- the search's state: each way ends in a row that is met, each once -/
structure Seen (n : Nat) (s : List (List Nat) × List Nat) : Prop where
  len : s.1.length = s.2.length
  nd : s.2.Nodup
  lt : ∀ g ∈ s.2, g < n
  ne : ∀ w ∈ s.1, w ≠ []
  last : ∀ w ∈ s.1, w.getLastD 0 < n
  short : ∀ w ∈ s.1, w.length ≤ s.1.length
theorem nodup_len : ∀ (n : Nat) (l : List Nat), l.Nodup → (∀ g ∈ l, g < n) → l.length ≤ n
  | 0, [], _, _ => Nat.le_refl _
  | 0, a :: l, _, h => absurd (h a List.mem_cons_self) (Nat.not_lt_zero _)
  | n + 1, l, nd, h => by
    have h1 : (l.filter fun g => decide (g ≠ n)).length ≤ n := nodup_len n _ (nd.filter _) fun g m => by
      obtain ⟨m1, m2⟩ := List.mem_filter.mp m
      have := h g m1
      have m3 : g ≠ n := of_decide_eq_true m2
      omega
    have h2 : l.length ≤ (l.filter fun g => decide (g ≠ n)).length + 1 := by
      clear h h1
      induction l with
      | nil => simp
      | cons a l ih =>
        obtain ⟨n1, n2⟩ := List.nodup_cons.mp nd
        by_cases c : a = n
        · have e : (l.filter fun g => decide (g ≠ n)) = l := List.filter_eq_self.mpr fun g m => by
            refine decide_eq_true fun z => n1 ?_
            rw [c, ← z]
            exact m
          rw [List.filter_cons_of_neg (by simpa using c), e]
          simp
        · rw [List.filter_cons_of_pos (by simpa using c), List.length_cons, List.length_cons]
          have := ih n2
          omega
    omega
theorem Seen.le {n : Nat} {s : List (List Nat) × List Nat} (h : Seen n s) : s.1.length ≤ n := by
  rw [h.len]
  exact nodup_len n _ h.nd h.lt
theorem Seen.one {n i : Nat} (h : i < n) : Seen n ([[i]], [i]) :=
  ⟨rfl, by simp, fun g m => by simp at m; omega, fun w m => by simp at m; simp [m], fun w m => by simp at m; simp [m]; exact h, fun w m => by simp at m; simp [m]⟩
theorem Seen.add {n g : Nat} {way : List Nat} {s : List (List Nat) × List Nat} (h : Seen n s) (hg : g < n) (hn : g ∉ s.2) (hw : way.length ≤ s.1.length) : Seen n (s.1 ++ [way ++ [g]], s.2 ++ [g]) := by
  refine ⟨by simp [h.len], ?_, fun k m => ?_, fun w m => ?_, fun w m => ?_, fun w m => ?_⟩
  · exact L2.nd_snoc h.nd hn
  · rcases List.mem_append.mp m with q | q
    · exact h.lt k q
    · simp at q
      omega
  · rcases List.mem_append.mp m with q | q
    · exact h.ne w q
    · simp at q
      simp [q]
  · rcases List.mem_append.mp m with q | q
    · exact h.last w q
    · simp at q
      simp [q, hg]
  · rw [List.length_append]
    rcases List.mem_append.mp m with q | q
    · have := h.short w q
      omega
    · simp at q
      simp [q]
      omega
theorem next_lt {rws : List Rx} (h : OkG rws) {i : Nat} (hi : i < rws.length) : ∀ g ∈ nextOf rws i, g < rws.length := by
  intro g m
  have e : rws[i]? = some rws[i] := List.getElem?_eq_getElem hi
  have h3 := h.ok rws[i] (List.getElem_mem hi)
  obtain ⟨r0, rl, e1, e2⟩ := h.last
  have hl : rws.length = r0.length + 1 := by rw [e1]; simp
  have hlast : i = r0.length → rws[i] = rl := fun z => by
    have : rws[i]? = some rl := by
      rw [e1, z]
      simp
    exact Option.some.inj (e.symm.trans this)
  unfold nextOf at m
  rw [e] at m
  have step : ¬ (rws[i].word = ("jump" : PySem.Str) ∨ rws[i].word = ("return" : PySem.Str)) → i + 1 < rws.length := fun z => by
    have : i ≠ r0.length := fun q => z (by rw [hlast q]; exact e2)
    omega
  cases hr : rws[i] with
  | ret x => rw [hr] at m; simp at m
  | jump r =>
    rw [hr] at m h3
    simp at m
    rw [m]
    exact h3 r rfl
  | ifz x r =>
    rw [hr] at m h3 step
    have a1 := h3 r rfl
    have a2 := step (by simp only [Rx.word]; decide +kernel)
    simp only at m
    split at m <;> simp at m <;> omega
  | num x n =>
    rw [hr] at m step
    have a2 := step (by simp only [Rx.word]; decide +kernel)
    simp at m
    omega
  | nil x =>
    rw [hr] at m step
    have a2 := step (by simp only [Rx.word]; decide +kernel)
    simp at m
    omega
  | copy x y =>
    rw [hr] at m step
    have a2 := step (by simp only [Rx.word]; decide +kernel)
    simp at m
    omega
  | same x y z =>
    rw [hr] at m step
    have a2 := step (by simp only [Rx.word]; decide +kernel)
    simp at m
    omega
  | new x c =>
    rw [hr] at m step
    have a2 := step (by simp only [Rx.word]; decide +kernel)
    simp at m
    omega
  | get x y f =>
    rw [hr] at m step
    have a2 := step (by simp only [Rx.word]; decide +kernel)
    simp at m
    omega
  | put x f y =>
    rw [hr] at m step
    have a2 := step (by simp only [Rx.word]; decide +kernel)
    simp at m
    omega
  | call x F bs =>
    rw [hr] at m step
    have a2 := step (by simp only [Rx.word]; decide +kernel)
    simp at m
    omega
  | see x =>
    rw [hr] at m step
    have a2 := step (by simp only [Rx.word]; decide +kernel)
    simp at m
    omega
  | bin kk x y z =>
    rw [hr] at m step
    have key : ∀ kk : Fin 4, ¬ (binW kk = ("jump" : Str) ∨ binW kk = ("return" : Str)) := by decide +kernel
    have a2 := step (key kk)
    simp at m
    omega
theorem push_seen {n : Nat} {way : List Nat} : ∀ (gs : List Nat) (s : List (List Nat) × List Nat), (∀ g ∈ gs, g < n) → way.length ≤ s.1.length → Seen n s → Seen n (push way gs s)
  | [], s, _, _, h => h
  | g :: gs, s, hg, hw, h => by
    show Seen n (push way gs (if g ∈ s.2 then s else (s.1 ++ [way ++ [g]], s.2 ++ [g])))
    refine push_seen gs _ (fun k m => hg k (List.mem_cons_of_mem _ m)) ?_ ?_
    · split
      · exact hw
      · rw [List.length_append]
        omega
    · split
      · exact h
      · exact h.add (hg g List.mem_cons_self) (by assumption) hw
end W16
set_option Elab.async false
set_option linter.all false
set_option maxRecDepth 100000
set_option maxHeartbeats 4000000
namespace W16
open PySem PySem.Spec PyProof.Rows L2
theorem sort2 {a b : Int} {l : List Int} (h : l.Perm [a, b]) (p : l.Pairwise (· ≤ ·)) : l = if a ≤ b then [a, b] else [b, a] := by
  split
  · exact List.Perm.eq_of_pairwise (fun x y _ _ h1 h2 => Int.le_antisymm h1 h2) p (by simp; assumption) h
  · exact List.Perm.eq_of_pairwise (fun x y _ _ h1 h2 => Int.le_antisymm h1 h2) p (by simp; omega) (h.trans (List.Perm.swap b a []))
end W16
set_option Elab.async false
set_option linter.all false
set_option maxRecDepth 100000
set_option maxHeartbeats 4000000
namespace W16
open PySem PySem.Spec PyProof.Rows L2
section
variable {P : Program} {w : World} {K : PySem.W.Frag} {mg : Str → Option Value} {base : Heap}

def nI (k : Nat) : V := .int (k : Int)
theorem KeptRows.row {H : Hp} {rs : List Addr} {rws : List Rx} (h : KeptRows H rs rws) {i : Nat} (hi : i < rws.length) : ∃ a l, rs[i]? = some a ∧ H a = some (.tup (.str rws[i].word :: rws[i].parts (.ref l))) ∧ RowAt true H a rws[i] := by
  have hi2 : i < rs.length := by rw [h.len]; exact hi
  have q := h.at_ i _ _ (List.getElem?_eq_getElem hi2) (List.getElem?_eq_getElem hi)
  obtain ⟨l, h1, _⟩ := id q
  exact ⟨rs[i], l, List.getElem?_eq_getElem hi2, h1, q⟩
theorem at_refs {rs : List Addr} {i : Nat} {a : Addr} (h : rs[i]? = some a) : atI (rs.map V.ref) (i : Int) = some (.ref a) := atI_nat (by rw [List.getElem?_map, h]; rfl)
theorem binNe : ∀ kk : Fin 4, decide (V.str (binW kk) = V.str "return") = false ∧ decide (V.str (binW kk) = V.str "jump") = false ∧ decide (V.str (binW kk) = V.str "if") = false := by decide +kernel
def spBehind : Sp := fun vs H Q _ => ∃ (ba : Addr) (i : Nat) (rs : List Addr) (rws : List Rx), vs = [.ref ba, .int i] ∧ TupP H ba (rs.map V.ref) ∧ KeptRows H rs rws ∧ i < rws.length ∧ ∀ p H', Same H H' → H p = none → H' p = some (.lst ((nextOf rws i).map nI)) → Q (.ref p) H' 
theorem sc_rows_behind : FnScope ["body", "row", "word"] ["body", "row"] (defScope s_rows_behind) := ⟨rfl, rfl, rfl, by decide +kernel, rfl, by decide +kernel, by decide +kernel⟩
theorem ok_rows_behind (T : Ctx w K mg) : Has P w K mg base 1 "_rows_behind" ["body", "row"] spBehind := by
  obtain ⟨fd, F⟩ := T.D_rows_behind
  refine ⟨⟨fd, F.ok sc_rows_behind (fun vs H Q E h => ?_) (fun cdv A outer s H vs Q E hr h => ?_), F.bindsN fun _ _ _ _ _ _ us hl => match us, hl with | [_, _], _ => rfl⟩, F.kp, T.g_rows_behind⟩
  · obtain ⟨ba, i, rs, rws, rfl, ht, hR, hi, k⟩ := h; rfl
  · obtain ⟨ba, i, rs, rws, rfl, ht, hR, hi, k⟩ := h
    have hu := hu_of hr
    refine ⟨_, PSs.nox (pss_cons (ps_set (i := 2) sc_rows_behind.nd rfl (Or.inl rfl) (pe_ix ix_tup (pe_ix ix_tup (pv 0) (pv 1) (fun _ _ => rfl)) pe_int (fun _ _ => rfl)))
      (pss_cons (ps_if (pt_cmpR op_eq (pv 2) pe_str (nomark _)) (pss_one (ps_ret (pe_lst pa_nil))) pss_nil)
      (pss_cons (ps_if (pt_cmpR op_eq (pv 2) pe_str (nomark _)) (pss_one (ps_ret (pe_lst (pa_cons (pe_ix ix_tup (pe_ix ix_tup (pv 0) (pv 1) (fun _ _ => rfl)) pe_int (fun _ _ => rfl)) pa_nil)))) pss_nil)
      (pss_cons (ps_if (pt_cmpR op_eq (pv 2) pe_str (nomark _)) (pss_one (ps_ret (pe_callB cr_sorted (by rfl) T.f_sorted (by decide +kernel) (pa_cons (pe_lst (pa_cons (pe_op op_add (pv 1) pe_int) (pa_cons (pe_ix ix_tup (pe_ix ix_tup (pv 0) (pv 1) (fun _ _ => rfl)) pe_int (fun _ _ => rfl)) pa_nil))) pa_nil)))) pss_nil)
      (pss_one (ps_ret (pe_lst (pa_cons (pe_op op_add (pv 1) pe_int) pa_nil)))))))), ?_⟩
    obtain ⟨a, l0, ha, hra, _⟩ := hR.row hi
    have hx : rws[i]? = some rws[i] := List.getElem?_eq_getElem hi
    refine ⟨_, rfl, _, rfl, _, _, _, _, rfl, rfl, ht.sq, at_refs ha, _, _, _, _, rfl, rfl, SqT.of hra, at0, ?_⟩
    cases hr : rws[i] with
    | ret x =>
      refine ⟨_, rfl, rfl, _, rfl, ifT rfl ⟨sz_of (by decide), fun l hl => k l _ (Same.new hl) hl ?_⟩⟩
      rw [upd_same]
      unfold nextOf
      rw [hx, hr]
      rfl
    | jump r =>
      rw [hr] at hra
      refine ⟨_, rfl, rfl, _, rfl, ifF rfl ⟨_, rfl, rfl, _, rfl, ifT rfl ?_⟩⟩
      refine ⟨_, rfl, _, rfl, _, _, _, _, rfl, rfl, ht.sq, at_refs ha, _, _, _, _, rfl, rfl, SqT.of hra, at1, sz_of (by show 1 ≤ 100000; decide), fun l hl => k l _ (Same.new hl) hl ?_⟩
      rw [upd_same]
      unfold nextOf
      rw [hx, hr]
      rfl
    | ifz x r =>
      rw [hr] at hra
      refine ⟨_, rfl, rfl, _, rfl, ifF rfl ⟨_, rfl, rfl, _, rfl, ifF rfl ⟨_, rfl, rfl, _, rfl, ifT rfl ?_⟩⟩⟩
      refine ⟨_, rfl, _, _, rfl, rfl, _, rfl, _, rfl, _, _, _, _, rfl, rfl, ht.sq, at_refs ha, _, _, _, _, rfl, rfl, SqT.of hra, at2, sz_of (by show 2 ≤ 100000; decide), fun l hl => ?_⟩
      refine ⟨l, [(i : Int) + 1, (r : Int)], rfl, SqL.of upd_same, (by show 2 < 64; decide), fun ns' p pm ps hp => k p _ ((Same.new hl).trans (Same.new hp)) (by cases q : H p with | none => rfl | some z => exact absurd (Same.new hl _ _ q) (by rw [hp]; intro z; cases z)) ?_⟩
      rw [upd_same, sort2 pm ps]
      unfold nextOf
      rw [hx, hr]
      by_cases c : i + 1 ≤ r
      · rw [if_pos (by omega)]
        simp only [if_pos c]
        rfl
      · rw [if_neg (by omega)]
        simp only [if_neg c]
        rfl
    | num x n =>
      refine ⟨_, rfl, rfl, _, rfl, ifF rfl ⟨_, rfl, rfl, _, rfl, ifF rfl ⟨_, rfl, rfl, _, rfl, ifF rfl ?_⟩⟩⟩
      refine ⟨_, rfl, _, _, rfl, rfl, sz_of (by show 1 ≤ 100000; decide), fun l hl => k l _ (Same.new hl) hl ?_⟩
      rw [upd_same]
      unfold nextOf
      rw [hx, hr]
      rfl
    | nil x =>
      refine ⟨_, rfl, rfl, _, rfl, ifF rfl ⟨_, rfl, rfl, _, rfl, ifF rfl ⟨_, rfl, rfl, _, rfl, ifF rfl ?_⟩⟩⟩
      refine ⟨_, rfl, _, _, rfl, rfl, sz_of (by show 1 ≤ 100000; decide), fun l hl => k l _ (Same.new hl) hl ?_⟩
      rw [upd_same]
      unfold nextOf
      rw [hx, hr]
      rfl
    | copy x y =>
      refine ⟨_, rfl, rfl, _, rfl, ifF rfl ⟨_, rfl, rfl, _, rfl, ifF rfl ⟨_, rfl, rfl, _, rfl, ifF rfl ?_⟩⟩⟩
      refine ⟨_, rfl, _, _, rfl, rfl, sz_of (by show 1 ≤ 100000; decide), fun l hl => k l _ (Same.new hl) hl ?_⟩
      rw [upd_same]
      unfold nextOf
      rw [hx, hr]
      rfl
    | same x y z =>
      refine ⟨_, rfl, rfl, _, rfl, ifF rfl ⟨_, rfl, rfl, _, rfl, ifF rfl ⟨_, rfl, rfl, _, rfl, ifF rfl ?_⟩⟩⟩
      refine ⟨_, rfl, _, _, rfl, rfl, sz_of (by show 1 ≤ 100000; decide), fun l hl => k l _ (Same.new hl) hl ?_⟩
      rw [upd_same]
      unfold nextOf
      rw [hx, hr]
      rfl
    | new x c =>
      refine ⟨_, rfl, rfl, _, rfl, ifF rfl ⟨_, rfl, rfl, _, rfl, ifF rfl ⟨_, rfl, rfl, _, rfl, ifF rfl ?_⟩⟩⟩
      refine ⟨_, rfl, _, _, rfl, rfl, sz_of (by show 1 ≤ 100000; decide), fun l hl => k l _ (Same.new hl) hl ?_⟩
      rw [upd_same]
      unfold nextOf
      rw [hx, hr]
      rfl
    | get x y f =>
      refine ⟨_, rfl, rfl, _, rfl, ifF rfl ⟨_, rfl, rfl, _, rfl, ifF rfl ⟨_, rfl, rfl, _, rfl, ifF rfl ?_⟩⟩⟩
      refine ⟨_, rfl, _, _, rfl, rfl, sz_of (by show 1 ≤ 100000; decide), fun l hl => k l _ (Same.new hl) hl ?_⟩
      rw [upd_same]
      unfold nextOf
      rw [hx, hr]
      rfl
    | put x f y =>
      refine ⟨_, rfl, rfl, _, rfl, ifF rfl ⟨_, rfl, rfl, _, rfl, ifF rfl ⟨_, rfl, rfl, _, rfl, ifF rfl ?_⟩⟩⟩
      refine ⟨_, rfl, _, _, rfl, rfl, sz_of (by show 1 ≤ 100000; decide), fun l hl => k l _ (Same.new hl) hl ?_⟩
      rw [upd_same]
      unfold nextOf
      rw [hx, hr]
      rfl
    | call x F bs =>
      refine ⟨_, rfl, rfl, _, rfl, ifF rfl ⟨_, rfl, rfl, _, rfl, ifF rfl ⟨_, rfl, rfl, _, rfl, ifF rfl ?_⟩⟩⟩
      refine ⟨_, rfl, _, _, rfl, rfl, sz_of (by show 1 ≤ 100000; decide), fun l hl => k l _ (Same.new hl) hl ?_⟩
      rw [upd_same]
      unfold nextOf
      rw [hx, hr]
      rfl
    | see x =>
      refine ⟨_, rfl, rfl, _, rfl, ifF rfl ⟨_, rfl, rfl, _, rfl, ifF rfl ⟨_, rfl, rfl, _, rfl, ifF rfl ?_⟩⟩⟩
      refine ⟨_, rfl, _, _, rfl, rfl, sz_of (by show 1 ≤ 100000; decide), fun l hl => k l _ (Same.new hl) hl ?_⟩
      rw [upd_same]
      unfold nextOf
      rw [hx, hr]
      rfl
    | bin kk x y z =>
      refine ⟨_, rfl, rfl, _, rfl, ifF (binNe kk).1 ⟨_, rfl, rfl, _, rfl, ifF (binNe kk).2.1 ⟨_, rfl, rfl, _, rfl, ifF (binNe kk).2.2 ?_⟩⟩⟩
      refine ⟨_, rfl, _, _, rfl, rfl, sz_of (by show 1 ≤ 100000; decide), fun l hl => k l _ (Same.new hl) hl ?_⟩
      rw [upd_same]
      unfold nextOf
      rw [hx, hr]
      rfl

end
end W16
set_option Elab.async false
set_option linter.all false
set_option maxRecDepth 100000
set_option maxHeartbeats 4000000
namespace W16
open PySem PySem.Spec PyProof.Rows L2
section
variable {P : Program} {w : World} {K : PySem.W.Frag} {mg : Str → Option Value} {base : Heap}

/-- the ways that are kept: their lists' addresses -/
structure WaysAt (F H : Hp) (W : Addr) (as : List Addr) (ws : List (List Nat)) : Prop where
  ob : H W = some (.lst (as.map V.ref))
  len : as.length = ws.length
  at_ : ∀ (j : Nat) a w, as[j]? = some a → ws[j]? = some w → H a = some (.lst (w.map nI)) ∧ a ≠ W ∧ F a = none
def metD (l : List Nat) : List (Key × V) := l.map fun (k : Nat) => ((Sum.inl (k : Int) : Key), V.bl true)
theorem valV_met : ∀ (l : List Nat) (k : Nat), (valV (metD l) (Sum.inl (k : Int) : Key)).isSome = decide (k ∈ l) := by
  intro l k
  rw [← valV_any]
  unfold metD
  rw [List.any_map]
  by_cases c : k ∈ l
  · rw [decide_eq_true c]
    exact List.any_eq_true.mpr ⟨k, c, decide_eq_true rfl⟩
  · rw [decide_eq_false c]
    refine List.any_eq_false.mpr fun z m => ?_
    intro q
    have e := of_decide_eq_true q
    have e2 : (z : Int) = (k : Int) := Sum.inl.inj e
    exact c (by rw [← Int.ofNat.inj e2]; exact m)
theorem putK_met {l : List Nat} {k : Nat} (h : k ∉ l) : putK (metD l) (Sum.inl (k : Int) : Key) (.bl true) = metD (l ++ [k]) := by
  have e : valV (metD l) (Sum.inl (k : Int) : Key) = none := by
    have q := valV_met l k
    rw [decide_eq_false h] at q
    cases z : valV (metD l) (Sum.inl (k : Int) : Key) with
    | none => rfl
    | some v =>
      rw [z] at q
      cases q
  rw [putK_new _ e]
  unfold metD
  rw [List.map_append]
  rfl
theorem inV_str {x : Str} : ∀ {l : List Str}, inV (.str x) (l.map V.str) = decide (x ∈ l)
  | [] => rfl
  | a :: l => by
    have ih := inV_str (x := x) (l := l)
    have e : inV (.str x) ((a :: l).map V.str) = (eqV (.str a) (.str x) || inV (.str x) (l.map V.str)) := rfl
    rw [e, ih]
    by_cases c : a = x
    · subst c
      simp [eqV]
    · have c3 : ¬ x = a := fun z => c z.symm
      simp [eqV, c, c3]
theorem push_snoc {way : List Nat} : ∀ (gs : List Nat) (g : Nat) (s : List (List Nat) × List Nat), push way (gs ++ [g]) s = (if g ∈ (push way gs s).2 then push way gs s else ((push way gs s).1 ++ [way ++ [g]], (push way gs s).2 ++ [g]))
  | [], g, s => rfl
  | a :: gs, g, s => push_snoc gs g _
theorem all_flat (l : List Str) : (l.map V.str).all flatV = true := by
  rw [List.all_map]
  exact List.all_eq_true.mpr fun k _ => rfl
def WayV (o : Option (List Nat)) (v : V) (H : Hp) : Prop := match o with
  | none => v = .non
  | some w => ∃ a, v = .ref a ∧ H a = some (.lst (w.map nI))
/-- a way in a list that is new since F -/
def WayN (F : Hp) (o : Option (List Nat)) (v : V) (H : Hp) : Prop := match o with
  | none => v = .non
  | some w => ∃ a, v = .ref a ∧ F a = none ∧ H a = some (.lst (w.map nI))
theorem WayN.back {F G H : Hp} {o : Option (List Nat)} {v : V} (h : WayN G o v H) (e : Same F G) : WayN F o v H := by
  cases o with
  | none => exact h
  | some w =>
    obtain ⟨a, h1, h2, h3⟩ := h
    refine ⟨a, h1, ?_, h3⟩
    cases z : F a with
    | none => rfl
    | some u =>
      have q := e _ _ z
      rw [h2] at q
      cases q
def spWay : Sp := fun vs H Q _ => ∃ (ba : Addr) (i : Nat) (x : Str) (rs : List Addr) (rws : List Rx), vs = [.ref ba, .int i, .str x] ∧ TupP H ba (rs.map V.ref) ∧ KeptRows H rs rws ∧ i < rws.length ∧ OkG rws ∧ (∀ r ∈ rws, r.reads.length ≤ 1000) ∧ ∀ v H', Same H H' → WayN H (wayOf rws x i) v H' → Q v H'
theorem getLast_at {w : List Nat} (h : w ≠ []) : atI (w.map nI) (-1) = some (nI (w.getLastD 0)) := by
  have e : w = w.dropLast ++ [w.getLast h] := (List.dropLast_concat_getLast h).symm
  have e2 : w.getLastD 0 = w.getLast h := by
    rw [List.getLastD_eq_getLast?, List.getLast?_eq_some_getLast h]
    rfl
  rw [e2]
  conv => lhs; rw [e, List.map_append]
  exact atI_last _ _
theorem sets_eqS {s : Option Str} {x : Str} : decide (oS s = .str x) = decide (s = some x) := by
  cases s with
  | none => rfl
  | some y => simp [oS]
theorem sc_way_to_reader : FnScope ["body", "row", "variable", "ways", "met", "at", "way", "goal"] ["body", "row", "variable"] (defScope s_way_to_reader) := ⟨rfl, rfl, rfl, by decide +kernel, rfl, by decide +kernel, by decide +kernel⟩
theorem ok_way_to_reader (T : Ctx w K mg) (H_row_reads : Has P w K mg base 1 "row_reads" ["row"] spReadsK) (H_row_sets : Has P w K mg base 1 "row_sets" ["row"] spSetsG) (H_rows_behind : Has P w K mg base 1 "_rows_behind" ["body", "row"] spBehind) : Has P w K mg base 2 "_way_to_reader" ["body", "row", "variable"] spWay := by
  obtain ⟨fd, F⟩ := T.D_way_to_reader
  obtain ⟨fd_row_reads, G_row_reads, b_row_reads⟩ := H_row_reads.ex
  obtain ⟨fd_row_sets, G_row_sets, b_row_sets⟩ := H_row_sets.ex
  obtain ⟨fd_rows_behind, G_rows_behind, b_rows_behind⟩ := H_rows_behind.ex
  refine ⟨⟨fd, F.ok sc_way_to_reader (fun vs H Q E h => ?_) (fun cdv A outer s H vs Q E hr h => ?_), F.bindsN fun _ _ _ _ _ _ us hl => match us, hl with | [_, _, _], _ => rfl⟩, F.kp, T.g_way_to_reader⟩
  · obtain ⟨ba, i, x, rs, rws, rfl, ht, hR, hi, hO, hrd, k⟩ := h; rfl
  · obtain ⟨ba, i, x, rs, rws, rfl, ht, hR, hi, hO, hrd, k⟩ := h
    have hr_row_reads : Room 1 _ := hr.mono (by decide)
    have hr_row_sets : Room 1 _ := hr.mono (by decide)
    have hr_rows_behind : Room 1 _ := hr.mono (by decide)
    have hu := hu_of hr
    refine ⟨_, PSs.nox (pss_cons (ps_set (i := 3) sc_way_to_reader.nd rfl (Or.inl rfl) (pe_lst (pa_cons (pe_lst (pa_cons (pv 1) pa_nil)) pa_nil)))
      (pss_cons (ps_set (i := 4) sc_way_to_reader.nd rfl (Or.inl rfl) (pe_disp (pps_cons (pv 1) pe_bl pps_nil) (by rfl) (by rfl) (fun z => by cases z) (by decide)))
      (pss_cons (ps_set (i := 5) sc_way_to_reader.nd rfl (Or.inl rfl) pe_int)
      (pss_cons (ps_while PassesOwn.never (pt_cmpR op_lt (pv 5) (pe_callB call_len_seq (by rfl) T.f_len (by decide +kernel) (pa_cons (pv 3) pa_nil)) (nomark _))
      (pss_cons (ps_set (i := 6) sc_way_to_reader.nd rfl (Or.inl rfl) (pe_ix ix_list (pv 3) (pv 5) (fun _ _ => rfl)))
      (pss_cons (ps_aug (i := 5) sc_way_to_reader.nd rfl (Or.inl rfl) pe_int ip_add)
      (pss_cons (ps_if (pt_cmpR op_in_seq (pv 2) (pe_call G_row_reads hr_row_reads (by rfl) H_row_reads.gl H_row_reads.kp b_row_reads .nil pass0 (pa_cons (pe_ix ix_tup (pv 0) (pe_ix ix_list (pv 6) (pe_un un_neg pe_int) (fun _ _ => rfl)) (fun _ _ => rfl)) pa_nil)) rfl) (pss_one (ps_ret (pv 6))) pss_nil)
      (pss_cons (ps_if (pt_cmpR op_eq (pe_call G_row_sets hr_row_sets (by rfl) H_row_sets.gl H_row_sets.kp b_row_sets .nil pass0 (pa_cons (pe_ix ix_tup (pv 0) (pe_ix ix_list (pv 6) (pe_un un_neg pe_int) (fun _ _ => rfl)) (fun _ _ => rfl)) pa_nil)) (pv 2) (nomark _)) (pss_one ps_continue) pss_nil)
      (pss_one (ps_for PassesOwn.never rfl (pi_list (pe_call G_rows_behind hr_rows_behind (by rfl) H_rows_behind.gl H_rows_behind.kp b_rows_behind .nil pass0 (pa_cons (pv 0) (pa_cons (pe_ix ix_list (pv 6) (pe_un un_neg pe_int) (fun _ _ => rfl)) pa_nil)))) (pg_name (i := 7) sc_way_to_reader.nd rfl (Or.inl rfl))
      (pss_one (ps_if (pt_cmp (pc_dnotin hu (pv 7) (pv 4))) (pss_cons (ps_dput hu (pv 4) (pv 7) pe_bl rfl)
      (pss_one (ps_expr (pe_bm PySem.F.plainAttrs_list PySem.F.slot_list_append PySem.F.type_list_append mt_append (pv 3) (pa_cons (pe_lst (StX.pa_star (pv 6) (pa_cons (pv 7) pa_nil))) pa_nil))))) pss_nil)))))))))
      (pss_one (ps_ret pe_non)))))), ?_⟩
    refine ⟨_, rfl, sz_of (by show 1 ≤ 100000; decide), fun w0 hw0 => ⟨sz_of (by show 1 ≤ 100000; decide), fun W hW => ?_⟩⟩
    have nw0 : w0 ≠ W := fun z => by rw [← z, upd_same] at hW; cases hW
    intro M hM
    have nMW : M ≠ W := fun z => by rw [z, upd_same] at hM; cases hM
    have nMw : M ≠ w0 := fun z => by rw [z, upd_ne nw0, upd_same] at hM; cases hM
    refine ⟨_, rfl, upd_same, [(Sum.inl (i : Int), .bl true)], rfl, (by show 1 ≤ 15; decide), ?_⟩
    have sW : Same H (upd (upd (upd (upd H w0 (.lst [.int (i : Int)])) W (.lst [.ref w0])) M (.dK [])) M (.dK (mergeK [] [(Sum.inl (i : Int), .bl true)]))) := by
      have hWH : H W = none := by
        cases q : H W with
        | none => rfl
        | some z => exact absurd (Same.new hw0 _ _ q) (by rw [hW]; intro z; cases z)
      have hMH : H M = none := by
        cases q : H M with
        | none => rfl
        | some z => exact absurd (((Same.new hw0).trans (Same.new hW)) _ _ q) (by rw [hM]; intro z; cases z)
      exact Same.mut (Same.mut (Same.mut (Same.new hw0) hWH) hMH) hMH
    have fresh : ∀ {c : Addr} {u : HO}, H c = some u → c ≠ W ∧ c ≠ M := fun {c u} q => by
      refine ⟨fun z => ?_, fun z => ?_⟩
      · have := Same.new hw0 (o := .lst [.int (i : Int)]) _ _ q
        rw [z, hW] at this
        cases this
      · have := ((Same.new hw0 (o := .lst [.int (i : Int)])).trans (Same.new hW (o := .lst [.ref w0]))) _ _ q
        rw [z, hM] at this
        cases this
    have hWH : H W = none := by
      cases q : H W with
      | none => rfl
      | some z => exact absurd rfl (fresh q).1
    have hMH : H M = none := by
      cases q : H M with
      | none => rfl
      | some z => exact absurd rfl (fresh q).2
    refine ⟨fun m σ H1 => ∃ (a : Nat) (s : List (List Nat) × List Nat) (as : List Addr) (v6 v7 : Option V), m = rws.length + 1 - a ∧ σ = [some (.ref ba), some (.int i), some (.str x), some (.ref W), some (.ref M), some (.int a), v6, v7] ∧ Same H H1 ∧ WaysAt H H1 W as s.1 ∧ H1 M = some (.dK (metD s.2)) ∧ Seen rws.length s ∧ look rws x (rws.length + 1 - a) s a = wayOf rws x i, ⟨_, 0, ([[i]], [i]), [w0], none, none, rfl, rfl, sW, ⟨?_, rfl, fun j c w e1 e2 => ?_⟩, upd_same, Seen.one hi, rfl⟩, fun m σ H1 hinv => ?_⟩
    · rw [upd_ne nMW.symm, upd_ne nMW.symm, upd_same]
      rfl
    · cases j with
      | zero =>
        obtain rfl : w0 = c := Option.some.inj e1
        obtain rfl : [i] = w := Option.some.inj e2
        refine ⟨?_, nw0, hw0⟩
        rw [upd_ne nMw.symm, upd_ne nMw.symm, upd_ne nw0, upd_same]
        rfl
      | succ j => simp at e1
    obtain ⟨a, s, as, v6, v7, rfl, rfl, s1, WA, hMd, SE, hlook⟩ := hinv
    refine ⟨_, rfl, _, rfl, _, _, rfl, .inl (SqL.of WA.ob), _, _, rfl, rfl, _, rfl, ?_⟩
    by_cases hlt : a < as.length
    · refine ifT (decide_eq_true (by rw [List.length_map]; omega)) ?_
      obtain ⟨aw, haw⟩ : ∃ aw, as[a]? = some aw := ⟨as[a], List.getElem?_eq_getElem hlt⟩
      have hlt2 : a < s.1.length := by rw [← WA.len]; exact hlt
      obtain ⟨w, hw⟩ : ∃ w, s.1[a]? = some w := ⟨s.1[a], List.getElem?_eq_getElem hlt2⟩
      obtain ⟨hawl, naw, hawF⟩ := WA.at_ a aw w haw hw
      have hwm : w ∈ s.1 := List.mem_of_getElem? hw
      have hne := SE.ne w hwm
      have hlast := SE.last w hwm
      have hle := SE.le
      obtain ⟨ra, l0, hra, hrow, hrowK⟩ := (hR.mono s1).row hlast
      have hrx : rws[w.getLastD 0]? = some rws[w.getLastD 0] := List.getElem?_eq_getElem hlast
      have hrl := hrd _ (List.getElem_mem hlast)
      obtain ⟨f, hf⟩ : ∃ f, rws.length + 1 - a = f + 1 := ⟨rws.length - a, by omega⟩
      have hf2 : rws.length + 1 - (a + 1) = f := by omega
      rw [hf] at hlook
      refine ⟨fun σ' H' => ∃ (s' : List (List Nat) × List Nat) (as' : List Addr) (v6 v7 : Option V), σ' = [some (.ref ba), some (.int i), some (.str x), some (.ref W), some (.ref M), some (.int ((a : Int) + 1)), v6, v7] ∧ Same H H' ∧ WaysAt H H' W as' s'.1 ∧ H' M = some (.dK (metD s'.2)) ∧ Seen rws.length s' ∧ look rws x f s' (a + 1) = wayOf rws x i, fun σ' H' ⟨s', as', v6, v7, e1, e2, e3, e4, e5, e6⟩ => ⟨f, by omega, a + 1, s', as', v6, v7, hf2.symm, e1, e2, e3, e4, e5, by rw [hf2]; exact e6⟩, ?_⟩
      refine ⟨_, rfl, _, rfl, _, _, _, _, rfl, rfl, SqL.of WA.ob, at_refs haw, ?_⟩
      refine ⟨_, rfl, _, _, rfl, rfl, ?_⟩
      refine ⟨_, rfl, _, rfl, _, rfl, 1, rfl, _, _, _, _, rfl, rfl, SqL.of hawl, getLast_at hne, _, _, _, _, rfl, rfl, (ht.mono s1).sq, at_refs hra, ra, _, rfl, hrowK, hrl, fun p H2 s2 hpn hp => ?_⟩
      refine ⟨p, _, rfl, .inl (SqL.of hp), rfl, all_flat _, _, rfl, ?_⟩
      have s12 := s1.trans s2
      by_cases c1 : x ∈ rws[w.getLastD 0].reads
      · refine ifT (show (if false = true then !inV (V.str x) (rws[w.getLastD 0].reads.map V.str) else inV (V.str x) (rws[w.getLastD 0].reads.map V.str)) = true by rw [inV_str, decide_eq_true c1]; rfl) ?_
        refine ⟨_, rfl, k _ _ s12 ?_⟩
        have e : look rws x (f + 1) s a = some w := by
          unfold look
          rw [hw]
          simp only [hrx, if_pos c1]
        rw [← hlook, e]
        exact ⟨aw, rfl, hawF, s2 _ _ hawl⟩
      · refine ifF (show (if false = true then !inV (V.str x) (rws[w.getLastD 0].reads.map V.str) else inV (V.str x) (rws[w.getLastD 0].reads.map V.str)) = false by rw [inV_str, decide_eq_false c1]; rfl) ?_
        refine ⟨_, rfl, _, rfl, 1, rfl, _, _, _, _, rfl, rfl, SqL.of (s2 _ _ hawl), getLast_at hne, _, _, _, _, rfl, rfl, (ht.mono s12).sq, at_refs hra, ra, .ref l0, _, rfl, s2 _ _ hrow, _, rfl, ?_, _, rfl, ?_⟩
        · cases rws[w.getLastD 0] <;> rfl
        have W2 : WaysAt H H2 W as s.1 := ⟨s2 _ _ WA.ob, WA.len, fun j c v e1 e2 => ⟨s2 _ _ (WA.at_ j c v e1 e2).1, (WA.at_ j c v e1 e2).2⟩⟩
        by_cases c2 : rws[w.getLastD 0].sets = some x
        · refine ifT (show decide (oS rws[w.getLastD 0].sets = V.str x) = true by rw [sets_eqS, decide_eq_true c2]) ?_
          refine ⟨s, as, _, _, rfl, s12, W2, s2 _ _ hMd, SE, ?_⟩
          rw [← hlook]
          conv => rhs; unfold look
          rw [hw]
          simp only [hrx, if_neg c1, if_pos c2]
        · refine ifF (show decide (oS rws[w.getLastD 0].sets = V.str x) = false by rw [sets_eqS, decide_eq_false c2]) ?_
          refine ⟨_, rfl, _, rfl, 1, rfl, _, _, _, _, rfl, rfl, SqL.of (s2 _ _ hawl), getLast_at hne, ba, w.getLastD 0, rs, rws, rfl, ht.mono s12, hR.mono s12, hlast, fun q H3 s3 hqn hq => ?_⟩
          have s13 := s12.trans s3
          refine ⟨q, rfl, ⟨_, SqL.of hq⟩, ?_⟩
          have hfr : ∀ {c : Addr} {u : HO}, H1 c = some u → c ≠ q := fun {c u} e => ne_of_none (s2 _ _ e) hqn
          have nqW : q ≠ W := (hfr WA.ob).symm
          have nqM : q ≠ M := (hfr hMd).symm
          have nMW2 : M ≠ W := nMW
          have hgs := next_lt hO hlast
          refine for_it (walk_list (K := K) (a := q) (xs := (nextOf rws (w.getLastD 0)).map nI)) (fun j σ H4 => ∃ (as' : List Addr) (v7 : Option V), σ = [some (.ref ba), some (.int i), some (.str x), some (.ref W), some (.ref M), some (.int ((a : Int) + 1)), some (.ref aw), v7] ∧ Same H H4 ∧ WaysAt H H4 W as' (push w ((nextOf rws (w.getLastD 0)).take j) s).1 ∧ H4 M = some (.dK (metD (push w ((nextOf rws (w.getLastD 0)).take j) s).2)) ∧ H4 aw = some (.lst (w.map nI)) ∧ H4 q = some (.lst ((nextOf rws (w.getLastD 0)).map nI))) ⟨as, _, rfl, s13, ⟨s3 _ _ (s2 _ _ WA.ob), WA.len, fun j c v e1 e2 => ⟨s3 _ _ (s2 _ _ (WA.at_ j c v e1 e2).1), (WA.at_ j c v e1 e2).2⟩⟩, s3 _ _ (s2 _ _ hMd), s3 _ _ (s2 _ _ hawl), hq⟩ (fun j σ H4 _ ⟨_, _, _, _, _, _, _, h⟩ => SqL.of h) ?_ ?_
          · rintro j y σ H5 H4 hj ⟨as', v7, rfl, s4, W4, M4, aw4, q4⟩ ⟨rfl, hy⟩
            obtain ⟨gg, hgg, rfl⟩ := map_get hy
            have hgl := hgs gg (List.mem_of_getElem? hgg)
            have hps := push_snoc (way := w) ((nextOf rws (w.getLastD 0)).take j) gg s
            rw [← take_snoc hgg] at hps
            have SP : Seen rws.length (push w ((nextOf rws (w.getLastD 0)).take j) s) := push_seen _ s (fun z m => hgs z (List.mem_of_mem_take m)) (SE.short w hwm) SE
            generalize push w ((nextOf rws (w.getLastD 0)).take j) s = t at hps W4 M4 SP
            have hsz := SP.le
            have hsz2 : t.2.length ≤ 40 := by rw [← SP.len]; exact Nat.le_trans hsz hO.le
            refine ⟨_, rfl, _, rfl, M, _, rfl, DGet.k (k := Sum.inl (gg : Int)) M4, _, rfl, ?_⟩
            by_cases c3 : gg ∈ t.2
            · refine ifF (by rw [valV_met, decide_eq_true c3]; rfl) ?_
              rw [if_pos c3] at hps
              exact ⟨as', _, rfl, s4, by rw [hps]; exact W4, by rw [hps]; exact M4, aw4, q4⟩
            · refine ifT (by rw [valV_met, decide_eq_false c3]; rfl) ?_
              rw [if_neg c3] at hps
              refine ⟨_, rfl, _, rfl, M, _, rfl, DPut.k (k := Sum.inl (gg : Int)) M4 (small1000 (by unfold metD; rw [List.length_map]; omega)), ?_⟩
              have nawM : aw ≠ M := ne_of aw4 M4 (by intro z; cases z)
              refine ⟨_, rfl, .inl ⟨rfl, _, SqL.of (by rw [upd_ne nMW.symm]; exact W4.ob)⟩, _, rfl, aw, _, rfl, .inr (SqL.of (by rw [upd_ne nawM]; exact aw4)), _, rfl, sz_of ?_, fun l hl => ?_⟩
              · have h1 := SE.short w hwm
                have h2 := SE.le
                have h3 := hO.le
                simp only [List.length_append, List.length_map, List.length_cons, List.length_nil]
                omega
              have hl4 : H4 l = none := by
                by_cases z : l = M
                · rw [z, upd_same] at hl
                  cases hl
                · rw [upd_ne z] at hl
                  exact hl
              have nlW : W ≠ l := ne_of_none W4.ob hl4
              have nlM : M ≠ l := ne_of_none M4 hl4
              refine ⟨W, _, _, rfl, rfl, by rw [upd_ne nlW, upd_ne nMW.symm]; exact W4.ob, small1000 (by rw [List.length_map, W4.len]; exact Nat.le_trans hsz (Nat.le_trans hO.le (by decide))), ?_⟩
              have keep : ∀ {c : Addr} {u : HO}, H4 c = some u → c ≠ W → c ≠ M → upd (upd (upd H4 M (.dK (putK (metD t.2) (Sum.inl (gg : Int)) (.bl true)))) l (.lst (w.map nI ++ [nI gg]))) W (.lst (as'.map V.ref ++ [.ref l])) c = some u := fun {c u} e n1 n2 => by
                rw [upd_ne n1, upd_ne (ne_of_none e hl4), upd_ne n2]
                exact e
              refine ⟨as' ++ [l], _, rfl, fun c u e => keep (s4 _ _ e) (fresh e).1 (fresh e).2, ?_, ?_, ?_, ?_⟩
              · rw [hps]
                refine ⟨by rw [upd_same, List.map_append]; rfl, by simp [W4.len], fun z c v e1 e2 => ?_⟩
                by_cases hz : z < as'.length
                · rw [List.getElem?_append_left hz] at e1
                  rw [List.getElem?_append_left (by rw [← W4.len]; exact hz)] at e2
                  obtain ⟨r1, r2⟩ := W4.at_ z c v e1 e2
                  exact ⟨keep r1 r2.1 (ne_of r1 M4 (by intro z; cases z)), r2⟩
                · rw [List.getElem?_append_right (by omega)] at e1
                  rw [List.getElem?_append_right (by rw [← W4.len]; omega), ← W4.len] at e2
                  have z0 : z - as'.length = 0 := by
                    have := (List.getElem?_eq_some_iff.mp e1).1
                    simp at this
                    omega
                  rw [z0] at e1 e2
                  obtain rfl : l = c := Option.some.inj e1
                  obtain rfl : w ++ [gg] = v := Option.some.inj e2
                  refine ⟨?_, nlW.symm, ?_⟩
                  rotate_left
                  · cases z : H l with
                    | none => rfl
                    | some u =>
                      have q := s4 _ _ z
                      rw [hl4] at q
                      cases q
                  rw [upd_ne nlW.symm, upd_same, List.map_append]
                  rfl
              · rw [hps, upd_ne nMW, upd_ne nlM, upd_same, putK_met c3]
              · exact keep aw4 naw nawM
              · exact keep q4 nqW nqM
          · rintro σ H4 ⟨as', v7, rfl, s4, W4, M4, aw4, q4⟩
            rw [List.length_map, List.take_length] at W4 M4
            refine ⟨push w (nextOf rws (w.getLastD 0)) s, as', _, _, rfl, s4, W4, M4, push_seen _ s hgs (SE.short w hwm) SE, ?_⟩
            rw [← hlook]
            conv => rhs; unfold look
            rw [hw]
            simp only [hrx, if_neg c1, if_neg c2]
    · refine ifF (decide_eq_false (by rw [List.length_map]; omega)) ?_
      refine k _ _ s1 ?_
      have e : look rws x (rws.length + 1 - a) s a = none := by
        cases hz : rws.length + 1 - a with
        | zero => rfl
        | succ f =>
          unfold look
          rw [List.getElem?_eq_none (by rw [← WA.len]; omega)]
      rw [← hlook, e]
      rfl

end
end W16
set_option Elab.async false
set_option linter.all false
set_option maxRecDepth 100000
set_option maxHeartbeats 4000000
namespace W16
open PySem PySem.Spec PyProof.Rows L2
section
variable {P : Program} {w : World} {K : PySem.W.Frag} {mg : Str → Option Value} {base : Heap}

/-- pairs of a name and a kind -/
structure PairsG (H : Hp) (ps : List Addr) (qs : List (Str × Str)) : Prop where
  len : ps.length = qs.length
  at_ : ∀ (i : Nat) p q, ps[i]? = some p → qs[i]? = some q → H p = some (.tup [.str q.1, .str q.2])
theorem PairsG.mono {H H' : Hp} {ps : List Addr} {qs : List (Str × Str)} (h : PairsG H ps qs) (e : Same H H') : PairsG H' ps qs := ⟨h.len, fun i p x a b => e _ _ (h.at_ i p x a b)⟩
theorem PairsG.get {H : Hp} {ps : List Addr} {qs : List (Str × Str)} (h : PairsG H ps qs) {i : Nat} {y : V} (e : (ps.map V.ref)[i]? = some y) : ∃ p q, y = .ref p ∧ ps[i]? = some p ∧ qs[i]? = some q ∧ H p = some (.tup [.str q.1, .str q.2]) := by
  obtain ⟨p, hp, rfl⟩ := map_get e
  have hi : i < qs.length := by
    rw [← h.len]
    exact (List.getElem?_eq_some_iff.mp hp).1
  have hx : qs[i]? = some qs[i] := List.getElem?_eq_getElem hi
  exact ⟨p, _, rfl, hp, hx, h.at_ i p _ hp hx⟩
def IsKind (q : Str) : Prop := q = "number" ∨ q = "object"
def spKindG : Sp := fun vs H Q _ => ∃ q, vs = [.str q] ∧ IsKind q ∧ Q (.bl true) H
def spNamedG : Sp := fun vs H Q _ => ∃ (a : Addr) (ps : List Addr) (qs : List (Str × Str)) (m : Int), vs = [.ref a, .int m] ∧ H a = some (.lst (ps.map V.ref)) ∧ PairsG H ps qs ∧ (∀ q ∈ qs, Nam q.1 ∧ IsKind q.2) ∧ (qs.map Prod.fst).Nodup ∧ (qs.length : Int) ≤ m ∧ qs.length ≤ 100 ∧ ∀ H', Same H H' → Q (.bl true) H' 
theorem sc_is_kindG : FnScope ["thing"] ["thing"] (defScope s_is_kind) := ⟨rfl, rfl, rfl, by decide +kernel, rfl, by decide +kernel, by decide +kernel⟩
theorem ok_is_kindG (T : Ctx w K mg) : Has P w K mg base 1 "is_kind" ["thing"] spKindG := by
  obtain ⟨fd, F⟩ := T.D_is_kind
  refine ⟨⟨fd, F.ok sc_is_kindG (fun vs H Q E h => ?_) (fun cdv A outer s H vs Q E hr h => ?_), F.bindsN fun _ _ _ _ _ _ us hl => match us, hl with | [_], _ => rfl⟩, F.kp, T.g_is_kind⟩
  · obtain ⟨q, rfl, hq, k⟩ := h; rfl
  · obtain ⟨q, rfl, hq, k⟩ := h
    have hu := hu_of hr
    refine ⟨_, PSs.nox (pss_one (ps_ret (pe_and (pe_callB call_isi (by rfl) T.f_isinstance (by decide +kernel) (pa_cons (pv 0) (pa_cons (pe_bltn (v := .ty "str") (u := .type "str") rfl T.f_str (by decide +kernel) rfl) pa_nil))) (pe_one (pe_cmpR op_in_seq (pv 0) (pe_glob (v := .ref (He.ga K "KINDS")) rfl T.g_KINDS rfl) rfl))))), ?_⟩
    refine ⟨_, rfl, _, _, _, _, true, rfl, .ty _, .base (.str _), kit_ty (by decide +kernel), true, rfl, iteT ?_⟩
    refine ⟨_, rfl, _, _, rfl, .inr (T.kinds H), rfl, rfl, qT ?_ k⟩
    rcases hq with rfl | rfl <;> rfl
theorem sc_are_named_kindsG : FnScope ["thing", "most", "names", "pair"] ["thing", "most"] (defScope s_are_named_kinds) := ⟨rfl, rfl, rfl, by decide +kernel, rfl, by decide +kernel, by decide +kernel⟩
theorem ok_are_named_kindsG (T : Ctx w K mg) (H_is_list_of : Has P w K mg base 1 "is_list_of" ["thing", "least", "most"] spListOf) (H_is_tuple_of : Has P w K mg base 1 "is_tuple_of" ["thing", "many"] spTupOf) (H_is_name : Has P w K mg base 1 "is_name" ["thing"] spName) (H_is_kind : Has P w K mg base 1 "is_kind" ["thing"] spKindG) : Has P w K mg base 2 "are_named_kinds" ["thing", "most"] spNamedG := by
  obtain ⟨fd, F⟩ := T.D_are_named_kinds
  obtain ⟨fd_is_list_of, G_is_list_of, b_is_list_of⟩ := H_is_list_of.ex
  obtain ⟨fd_is_tuple_of, G_is_tuple_of, b_is_tuple_of⟩ := H_is_tuple_of.ex
  obtain ⟨fd_is_name, G_is_name, b_is_name⟩ := H_is_name.ex
  obtain ⟨fd_is_kind, G_is_kind, b_is_kind⟩ := H_is_kind.ex
  refine ⟨⟨fd, F.ok sc_are_named_kindsG (fun vs H Q E h => ?_) (fun cdv A outer s H vs Q E hr h => ?_), F.bindsN fun _ _ _ _ _ _ us hl => match us, hl with | [_, _], _ => rfl⟩, F.kp, T.g_are_named_kinds⟩
  · obtain ⟨a, ps, qs, m, rfl, ha, hp, hN, hnd, hm, h100, k⟩ := h; rfl
  · obtain ⟨a, ps, qs, m, rfl, ha, hp, hN, hnd, hm, h100, k⟩ := h
    have hr_is_list_of : Room 1 _ := hr.mono (by decide)
    have hr_is_tuple_of : Room 1 _ := hr.mono (by decide)
    have hr_is_name : Room 1 _ := hr.mono (by decide)
    have hr_is_kind : Room 1 _ := hr.mono (by decide)
    have hu := hu_of hr
    refine ⟨_, PSs.nox (pss_cons (ps_if (pt_not (pt_val (pe_call G_is_list_of hr_is_list_of (by rfl) H_is_list_of.gl H_is_list_of.kp b_is_list_of .nil pass0 (pa_cons (pv 0) (pa_cons pe_int (pa_cons (pv 1) pa_nil)))))) (pss_one (ps_ret pe_bl)) pss_nil)
      (pss_cons (ps_set (i := 2) sc_are_named_kindsG.nd rfl (Or.inl rfl) pe_dnewK)
      (pss_cons (ps_for PassesOwn.never rfl (pi_list (pv 0)) (pg_name (i := 3) sc_are_named_kindsG.nd rfl (Or.inl rfl))
      (pss_cons (ps_if (PW.pt (pw_or (pt_not (pt_val (pe_call G_is_tuple_of hr_is_tuple_of (by rfl) H_is_tuple_of.gl H_is_tuple_of.kp b_is_tuple_of .nil pass0 (pa_cons (pv 3) (pa_cons pe_int pa_nil))))) (pw_or (pt_not (pt_val (pe_call G_is_name hr_is_name (by rfl) H_is_name.gl H_is_name.kp b_is_name .nil pass0 (pa_cons (pe_ix ix_tup (pv 3) pe_int (fun _ _ => rfl)) pa_nil)))) (pw_or1 (pt_not (pt_val (pe_call G_is_kind hr_is_kind (by rfl) H_is_kind.gl H_is_kind.kp b_is_kind .nil pass0 (pa_cons (pe_ix ix_tup (pv 3) pe_int (fun _ _ => rfl)) pa_nil)))))))) (pss_one (ps_ret pe_bl)) pss_nil)
      (pss_cons (ps_if (pt_cmp (pc_din hu (pe_ix ix_tup (pv 3) pe_int (fun _ _ => rfl)) (pv 2))) (pss_one (ps_ret pe_bl)) pss_nil)
      (pss_one (ps_dput hu (pv 2) (pe_ix ix_tup (pv 3) pe_int (fun _ _ => rfl)) pe_bl rfl)))))
      (pss_one (ps_ret pe_bl))))), ?_⟩
    have hlp : (ps.map V.ref).length = qs.length := by rw [List.length_map, hp.len]
    refine ⟨_, rfl, _, rfl, a, ps.map V.ref, 0, m, rfl, ha, by omega, by rw [hlp]; exact hm, _, rfl, iteF ?_⟩
    intro d hd
    have s1 : Same H (upd H d (.dK [])) := Same.new hd
    refine ⟨_, rfl, a, rfl, ⟨_, SqL.of (s1 _ _ ha)⟩, ?_⟩
    refine for_it (walk_list (K := K) (a := a) (xs := ps.map V.ref)) (fun i σ H1 => ∃ v : Option V, σ = [some (.ref a), some (.int m), some (.ref d), v] ∧ Same H H1 ∧ H1 d = some (.dK (kvT ((qs.map Prod.fst).take i) fun _ => .bl true))) ⟨none, rfl, s1, upd_same⟩ (fun i σ H1 _ ⟨v, _, s2, _⟩ => SqL.of (s2 _ _ ha)) ?_ ?_
    · rintro i y σ H1 H2 hi ⟨v, rfl, s2, h2⟩ ⟨rfl, hy⟩
      obtain ⟨p, x, rfl, hpi, hni, hpt⟩ := hp.get hy
      have hx := s2 _ _ hpt
      have hni1 : (qs.map Prod.fst)[i]? = some x.1 := by
        rw [List.getElem?_map, hni]
        rfl
      have hnot := not_in_take hnd hni1
      obtain ⟨n1, n2⟩ := hN x (List.mem_of_getElem? hni)
      refine ⟨_, rfl, p, _, 2, rfl, hx, rfl, _, rfl, ?_⟩
      refine iteF ⟨_, rfl, _, _, _, _, rfl, rfl, SqT.of hx, at0, x.1, rfl, n1, fun H3 s3 => ⟨_, rfl, iteF ?_⟩⟩
      have hx3 := s3 _ _ hx
      refine ⟨_, rfl, _, _, _, _, rfl, rfl, SqT.of hx3, at1, x.2, rfl, n2, _, rfl, iteF ?_⟩
      have h3 := s3 _ _ h2
      refine ⟨_, rfl, _, _, _, _, rfl, rfl, SqT.of hx3, at0, _, rfl, d, _, rfl, DGet.k (k := Sum.inr x.1) h3, _, rfl, ?_⟩
      refine ifF (by rw [valV_kvT hnot]; rfl) ?_
      refine ⟨_, rfl, _, rfl, _, _, _, _, rfl, rfl, SqT.of hx3, at0, d, _, rfl, DPut.k (k := Sum.inr x.1) h3 (small1000 ?_), ?_⟩
      · unfold kvT
        rw [List.length_map, List.length_take, List.length_map]
        omega
      · refine ⟨_, rfl, Same.mut (s2.trans s3) hd, ?_⟩
        rw [upd_same, take_snoc hni1]
        exact congrArg (fun l => some (HO.dK l)) (putK_kvT hnot)
    · rintro σ H1 ⟨v, rfl, s2, h2⟩
      exact k _ s2

end
end W16
set_option Elab.async false
set_option linter.all false
set_option maxRecDepth 100000
set_option maxHeartbeats 4000000
namespace W16
open PySem PySem.Spec PyProof.Rows L2
section
variable {P : Program} {w : World} {K : PySem.W.Frag} {mg : Str → Option Value} {base : Heap}

theorem PairsG.append {H : Hp} {ps qs : List Addr} {ns ms : List (Str × Str)} (h : PairsG H ps ns) (h2 : PairsG H qs ms) : PairsG H (ps ++ qs) (ns ++ ms) := by
  refine ⟨by rw [List.length_append, List.length_append, h.len, h2.len], fun i p x a b => ?_⟩
  by_cases hi : i < ps.length
  · rw [List.getElem?_append_left hi] at a
    rw [List.getElem?_append_left (by rw [← h.len]; exact hi)] at b
    exact h.at_ i p x a b
  · rw [List.getElem?_append_right (by omega)] at a
    rw [List.getElem?_append_right (by rw [← h.len]; omega), ← h.len] at b
    exact h2.at_ _ p x a b
/-- a function as it is handed in, all but its rows -/
structure EntryG (H : Hp) (e pa oa ra : Addr) (nm res : Str) (ps qs : List Addr) (ns ms : List (Str × Str)) (rs : List V) : Prop where
  he : H e = some (.tup [.str nm, .ref pa, .ref oa, .str res, .ref ra])
  nf : Nam nm
  kd : IsKind res
  hpa : H pa = some (.lst (ps.map V.ref))
  p1 : PairsG H ps ns
  hoa : H oa = some (.lst (qs.map V.ref))
  p2 : PairsG H qs ms
  nam : ∀ q ∈ ns ++ ms, Nam q.1 ∧ IsKind q.2
  nd : ((ns ++ ms).map Prod.fst).Nodup
  l1 : ns.length ≤ 4
  l2 : ms.length ≤ 8
  hra : H ra = some (.lst rs)
  l3 : 1 ≤ rs.length
  l4 : rs.length ≤ 40
def spHeadG : Sp := fun vs H Q _ => ∃ (e pa oa ra : Addr) (nm res : Str) (ps qs : List Addr) (ns ms : List (Str × Str)) (rs : List V), vs = [.ref e] ∧ EntryG H e pa oa ra nm res ps qs ns ms rs ∧ ∀ H', Same H H' → Q (.bl true) H'
/-- a class as it is handed in -/
def spClassG : Sp := fun vs H Q _ => ∃ (e fa : Addr) (nm : Str) (ps : List Addr) (ns : List (Str × Str)), vs = [.ref e] ∧ H e = some (.tup [.str nm, .ref fa]) ∧ Nam nm ∧ H fa = some (.lst (ps.map V.ref)) ∧ PairsG H ps ns ∧ (∀ q ∈ ns, Nam q.1 ∧ IsKind q.2) ∧ (ns.map Prod.fst).Nodup ∧ ns.length ≤ 4 ∧ ∀ H', Same H H' → Q (.bl true) H' 
theorem sc_is_head : FnScope ["entry"] ["entry"] (defScope s_is_head) := ⟨rfl, rfl, rfl, by decide +kernel, rfl, by decide +kernel, by decide +kernel⟩
theorem ok_is_head (T : Ctx w K mg) (H_is_tuple_of : Has P w K mg base 1 "is_tuple_of" ["thing", "many"] spTupOf) (H_is_name : Has P w K mg base 1 "is_name" ["thing"] spName) (H_is_kind : Has P w K mg base 1 "is_kind" ["thing"] spKindG) (H_are_named_kinds : Has P w K mg base 2 "are_named_kinds" ["thing", "most"] spNamedG) (H_is_list_of : Has P w K mg base 1 "is_list_of" ["thing", "least", "most"] spListOf) : Has P w K mg base 3 "_is_head" ["entry"] spHeadG := by
  obtain ⟨fd, F⟩ := T.D_is_head
  obtain ⟨fd_is_tuple_of, G_is_tuple_of, b_is_tuple_of⟩ := H_is_tuple_of.ex
  obtain ⟨fd_is_name, G_is_name, b_is_name⟩ := H_is_name.ex
  obtain ⟨fd_is_kind, G_is_kind, b_is_kind⟩ := H_is_kind.ex
  obtain ⟨fd_are_named_kinds, G_are_named_kinds, b_are_named_kinds⟩ := H_are_named_kinds.ex
  obtain ⟨fd_is_list_of, G_is_list_of, b_is_list_of⟩ := H_is_list_of.ex
  refine ⟨⟨fd, F.ok sc_is_head (fun vs H Q E h => ?_) (fun cdv A outer s H vs Q E hr h => ?_), F.bindsN fun _ _ _ _ _ _ us hl => match us, hl with | [_], _ => rfl⟩, F.kp, T.g_is_head⟩
  · obtain ⟨e, pa, oa, ra, nm, res, ps, qs, ns, ms, rs, rfl, E0, k⟩ := h; rfl
  · obtain ⟨e, pa, oa, ra, nm, res, ps, qs, ns, ms, rs, rfl, E0, k⟩ := h
    have hr_is_tuple_of : Room 1 _ := hr.mono (by decide)
    have hr_is_name : Room 1 _ := hr.mono (by decide)
    have hr_is_kind : Room 1 _ := hr.mono (by decide)
    have hr_are_named_kinds : Room 2 _ := hr.mono (by decide)
    have hr_is_list_of : Room 1 _ := hr.mono (by decide)
    have hu := hu_of hr
    obtain ⟨t_MOST_PARAMETERS, e_MOST_PARAMETERS⟩ := T.i_MOST_PARAMETERS
    obtain ⟨t_MOST_OTHERS, e_MOST_OTHERS⟩ := T.i_MOST_OTHERS
    obtain ⟨t_MOST_ROWS, e_MOST_ROWS⟩ := T.i_MOST_ROWS
    refine ⟨_, PSs.nox (pss_cons (ps_if (PW.pt (pw_or (pt_not (pt_val (pe_call G_is_tuple_of hr_is_tuple_of (by rfl) H_is_tuple_of.gl H_is_tuple_of.kp b_is_tuple_of .nil pass0 (pa_cons (pv 0) (pa_cons pe_int pa_nil))))) (pw_or (pt_not (pt_val (pe_call G_is_name hr_is_name (by rfl) H_is_name.gl H_is_name.kp b_is_name .nil pass0 (pa_cons (pe_ix ix_tup (pv 0) pe_int (fun _ _ => rfl)) pa_nil)))) (pw_or1 (pt_not (pt_val (pe_call G_is_kind hr_is_kind (by rfl) H_is_kind.gl H_is_kind.kp b_is_kind .nil pass0 (pa_cons (pe_ix ix_tup (pv 0) pe_int (fun _ _ => rfl)) pa_nil)))))))) (pss_one (ps_ret pe_bl)) pss_nil)
      (pss_cons (ps_if (PW.pt (pw_or (pt_not (pt_val (pe_call G_are_named_kinds hr_are_named_kinds (by rfl) H_are_named_kinds.gl H_are_named_kinds.kp b_are_named_kinds .nil pass0 (pa_cons (pe_ix ix_tup (pv 0) pe_int (fun _ _ => rfl)) (pa_cons (pe_glob (v := .int 4) rfl e_MOST_PARAMETERS ⟨_, rfl⟩) pa_nil))))) (pw_or1 (pt_not (pt_val (pe_call G_are_named_kinds hr_are_named_kinds (by rfl) H_are_named_kinds.gl H_are_named_kinds.kp b_are_named_kinds .nil pass0 (pa_cons (pe_ix ix_tup (pv 0) pe_int (fun _ _ => rfl)) (pa_cons (pe_glob (v := .int 8) rfl e_MOST_OTHERS ⟨_, rfl⟩) pa_nil)))))))) (pss_one (ps_ret pe_bl)) pss_nil)
      (pss_cons (ps_if (pt_not (pt_val (pe_call G_are_named_kinds hr_are_named_kinds (by rfl) H_are_named_kinds.gl H_are_named_kinds.kp b_are_named_kinds .nil pass0 (pa_cons (pe_op op_cat (pe_ix ix_tup (pv 0) pe_int (fun _ _ => rfl)) (pe_ix ix_tup (pv 0) pe_int (fun _ _ => rfl))) (pa_cons (pe_op op_add (pe_glob (v := .int 4) rfl e_MOST_PARAMETERS ⟨_, rfl⟩) (pe_glob (v := .int 8) rfl e_MOST_OTHERS ⟨_, rfl⟩)) pa_nil))))) (pss_one (ps_ret pe_bl)) pss_nil)
      (pss_one (ps_ret (pe_call G_is_list_of hr_is_list_of (by rfl) H_is_list_of.gl H_is_list_of.kp b_is_list_of .nil pass0 (pa_cons (pe_ix ix_tup (pv 0) pe_int (fun _ _ => rfl)) (pa_cons pe_int (pa_cons (pe_glob (v := .int 40) rfl e_MOST_ROWS ⟨_, rfl⟩) pa_nil))))))))), ?_⟩
    obtain ⟨he, nf, kd, hpa, hp1, hoa, hp2, hN, hnd, l1, l2, hra, l3, l4⟩ := E0
    have hnd0 := hnd
    rw [List.map_append] at hnd0
    have hnd1 := (List.nodup_append.mp hnd0).1
    have hnd2 := (List.nodup_append.mp hnd0).2.1
    refine ⟨_, rfl, e, _, 5, rfl, he, rfl, _, rfl, iteF ?_⟩
    refine ⟨_, rfl, _, _, _, _, rfl, rfl, SqT.of he, at0, nm, rfl, nf, fun H1 s1 => ⟨_, rfl, iteF ?_⟩⟩
    refine ⟨_, rfl, _, _, _, _, rfl, rfl, SqT.of (s1 _ _ he), at3, res, rfl, kd, _, rfl, iteF ?_⟩
    refine ⟨_, rfl, _, _, _, _, rfl, rfl, SqT.of (s1 _ _ he), at1, pa, ps, ns, 4, rfl, s1 _ _ hpa, hp1.mono s1, fun x m => hN x (List.mem_append_left _ m), hnd1, by omega, by omega, fun H2 s2 => ⟨_, rfl, iteF ?_⟩⟩
    have s12 := s1.trans s2
    refine ⟨_, rfl, _, _, _, _, rfl, rfl, SqT.of (s12 _ _ he), at2, oa, qs, ms, 8, rfl, s12 _ _ hoa, hp2.mono s12, fun x m => hN x (List.mem_append_right _ m), hnd2, by omega, by omega, fun H3 s3 => ⟨_, rfl, iteF ?_⟩⟩
    have s13 := s12.trans s3
    refine ⟨_, rfl, _, _, _, _, rfl, rfl, SqT.of (s13 _ _ he), at1, _, rfl, _, _, _, _, rfl, rfl, SqT.of (s13 _ _ he), at2, ?_⟩
    have hl1 : ps.length = ns.length := hp1.len
    have hl2 : qs.length = ms.length := hp2.len
    refine ⟨pa, oa, _, _, rfl, rfl, s13 _ _ hpa, s13 _ _ hoa, sz_of (by rw [List.length_map, List.length_map]; omega), fun c hc => ?_⟩
    have s4 := Same.new (o := .lst (ps.map V.ref ++ qs.map V.ref)) hc
    refine ⟨_, _, rfl, rfl, c, ps ++ qs, ns ++ ms, 12, rfl, by rw [upd_same, List.map_append], (hp1.append hp2).mono (s13.trans s4), hN, hnd, by rw [List.length_append]; omega, by rw [List.length_append]; omega, fun H5 s5 => ⟨_, rfl, iteF ?_⟩⟩
    have s15 := (s13.trans s4).trans s5
    exact ⟨_, rfl, _, _, _, _, rfl, rfl, SqT.of (s15 _ _ he), at4, ra, rs, 1, 40, rfl, s15 _ _ hra, by omega, by omega, k _ s15⟩
theorem sc_is_class : FnScope ["entry"] ["entry"] (defScope s_is_class) := ⟨rfl, rfl, rfl, by decide +kernel, rfl, by decide +kernel, by decide +kernel⟩
theorem ok_is_class (T : Ctx w K mg) (H_is_tuple_of : Has P w K mg base 1 "is_tuple_of" ["thing", "many"] spTupOf) (H_is_name : Has P w K mg base 1 "is_name" ["thing"] spName) (H_are_named_kinds : Has P w K mg base 2 "are_named_kinds" ["thing", "most"] spNamedG) : Has P w K mg base 3 "_is_class" ["entry"] spClassG := by
  obtain ⟨fd, F⟩ := T.D_is_class
  obtain ⟨fd_is_tuple_of, G_is_tuple_of, b_is_tuple_of⟩ := H_is_tuple_of.ex
  obtain ⟨fd_is_name, G_is_name, b_is_name⟩ := H_is_name.ex
  obtain ⟨fd_are_named_kinds, G_are_named_kinds, b_are_named_kinds⟩ := H_are_named_kinds.ex
  refine ⟨⟨fd, F.ok sc_is_class (fun vs H Q E h => ?_) (fun cdv A outer s H vs Q E hr h => ?_), F.bindsN fun _ _ _ _ _ _ us hl => match us, hl with | [_], _ => rfl⟩, F.kp, T.g_is_class⟩
  · obtain ⟨e, fa, nm, ps, ns, rfl, he, nf, hfa, hp, hN, hnd, hl, k⟩ := h; rfl
  · obtain ⟨e, fa, nm, ps, ns, rfl, he, nf, hfa, hp, hN, hnd, hl, k⟩ := h
    have hr_is_tuple_of : Room 1 _ := hr.mono (by decide)
    have hr_is_name : Room 1 _ := hr.mono (by decide)
    have hr_are_named_kinds : Room 2 _ := hr.mono (by decide)
    have hu := hu_of hr
    obtain ⟨t_MOST_FIELDS, e_MOST_FIELDS⟩ := T.i_MOST_FIELDS
    refine ⟨_, PSs.nox (pss_one (ps_ret (pe_and (pe_call G_is_tuple_of hr_is_tuple_of (by rfl) H_is_tuple_of.gl H_is_tuple_of.kp b_is_tuple_of .nil pass0 (pa_cons (pv 0) (pa_cons pe_int pa_nil))) (pe_and (pe_call G_is_name hr_is_name (by rfl) H_is_name.gl H_is_name.kp b_is_name .nil pass0 (pa_cons (pe_ix ix_tup (pv 0) pe_int (fun _ _ => rfl)) pa_nil)) (pe_one (pe_call G_are_named_kinds hr_are_named_kinds (by rfl) H_are_named_kinds.gl H_are_named_kinds.kp b_are_named_kinds .nil pass0 (pa_cons (pe_ix ix_tup (pv 0) pe_int (fun _ _ => rfl)) (pa_cons (pe_glob (v := .int 4) rfl e_MOST_FIELDS ⟨_, rfl⟩) pa_nil)))))))), ?_⟩
    refine ⟨_, rfl, e, _, 2, rfl, he, rfl, _, rfl, iteT ?_⟩
    refine ⟨_, rfl, _, _, _, _, rfl, rfl, SqT.of he, at0, nm, rfl, nf, fun H1 s1 => ⟨_, rfl, iteT ?_⟩⟩
    exact ⟨_, rfl, _, _, _, _, rfl, rfl, SqT.of (s1 _ _ he), at1, fa, ps, ns, 4, rfl, s1 _ _ hfa, hp.mono s1, hN, hnd, by omega, by omega, fun H2 s2 => k _ (s1.trans s2)⟩

end
end W16
set_option Elab.async false
set_option linter.all false
set_option maxRecDepth 100000
set_option maxHeartbeats 4000000
namespace W16
open PySem
/-- paths as Python compares them -/
def pints (p : List Nat) : List Int := p.map fun (k : Nat) => (k : Int)
theorem ints_app (p : List Nat) (g : Nat) : pints (p ++ [g]) = pints p ++ [(g : Int)] := by
  unfold pints
  rw [List.map_append]
  rfl
theorem lt_app : ∀ {a b c d : List Int}, a.length = b.length → a < b → a ++ c < b ++ d
  | [], [], _, _, _, h => absurd h (List.lt_irrefl _)
  | [], _ :: _, _, _, hl, _ => by simp at hl
  | _ :: _, [], _, _, hl, _ => by simp at hl
  | x :: a, y :: b, c, d, hl, h => by
    rw [List.cons_lt_cons_iff] at h
    rw [List.cons_append, List.cons_append, List.cons_lt_cons_iff]
    rcases h with h | ⟨h1, h2⟩
    · exact .inl h
    · exact .inr ⟨h1, lt_app (by simpa using hl) h2⟩
theorem app_lt : ∀ (a : List Int) {g h : Int}, g < h → a ++ [g] < a ++ [h]
  | [], _, _, q => List.cons_lt_cons_iff.mpr (.inl q)
  | x :: a, _, _, q => List.cons_lt_cons_iff.mpr (.inr ⟨rfl, app_lt a q⟩)
theorem push_app {way : List Nat} : ∀ (gs : List Nat) (A B : List (List Nat)) (m : List Nat), push way gs (A ++ B, m) = (A ++ (push way gs (B, m)).1, (push way gs (B, m)).2)
  | [], A, B, m => rfl
  | g :: gs, A, B, m => by
    show push way gs (if g ∈ m then (A ++ B, m) else (A ++ B ++ [way ++ [g]], m ++ [g])) = (A ++ (push way gs (if g ∈ m then (B, m) else (B ++ [way ++ [g]], m ++ [g]))).1, (push way gs (if g ∈ m then (B, m) else (B ++ [way ++ [g]], m ++ [g]))).2)
    split
    · exact push_app gs A B m
    · rw [List.append_assoc]
      exact push_app gs A _ _
/-- the ways of a layer of one length, ascending -/
structure Lay (n : Nat) (L : List (List Nat)) : Prop where
  asc : L.Pairwise fun p q => pints p < pints q
  len : ∀ p ∈ L, p.length = n
theorem Lay.one (i : Nat) : Lay 1 [[i]] := ⟨List.pairwise_singleton _ _, fun p m => by rw [List.mem_singleton.mp m]; rfl⟩
theorem push_lay {n : Nat} {p : List Nat} (hp : p.length = n) : ∀ (gs : List Nat) (s : List (List Nat) × List Nat), gs.Pairwise (· ≤ ·) → Lay (n + 1) s.1 → (∀ b ∈ s.1, ∀ g ∈ gs, g ∉ s.2 → pints b < pints (p ++ [g])) →
    Lay (n + 1) (push p gs s).1 ∧ ∀ q, (∀ b ∈ s.1, pints b < q) → (∀ g, pints (p ++ [g]) < q) → ∀ b ∈ (push p gs s).1, pints b < q
  | [], s, _, h, _ => ⟨h, fun q h1 _ b hb => h1 b hb⟩
  | g :: gs, s, hg, h, hb => by
    obtain ⟨hg1, hg2⟩ := List.pairwise_cons.mp hg
    show Lay (n + 1) (push p gs (if g ∈ s.2 then s else (s.1 ++ [p ++ [g]], s.2 ++ [g]))).1 ∧ ∀ q, (∀ b ∈ s.1, pints b < q) → (∀ g, pints (p ++ [g]) < q) → ∀ b ∈ (push p gs (if g ∈ s.2 then s else (s.1 ++ [p ++ [g]], s.2 ++ [g]))).1, pints b < q
    split
    · exact push_lay hp gs s hg2 h fun b m k mk => hb b m k (List.mem_cons_of_mem _ mk)
    · rename_i hn
      have key := push_lay hp gs (s.1 ++ [p ++ [g]], s.2 ++ [g]) hg2 ⟨?_, ?_⟩ ?_
      · refine ⟨key.1, fun q h1 h2 => key.2 q (fun b m => ?_) h2⟩
        rcases List.mem_append.mp m with m | m
        · exact h1 b m
        · rw [List.mem_singleton.mp m]
          exact h2 g
      · refine List.pairwise_append.mpr ⟨h.asc, List.pairwise_singleton _ _, fun a ma b mb => ?_⟩
        rw [List.mem_singleton.mp mb]
        exact hb a ma g List.mem_cons_self hn
      · intro b m
        rcases List.mem_append.mp m with m | m
        · exact h.len b m
        · rw [List.mem_singleton.mp m, List.length_append, hp]
          rfl
      · intro b m k mk hk
        have hk1 : k ∉ s.2 := fun z => hk (List.mem_append_left _ z)
        have hk2 : k ≠ g := fun z => hk (List.mem_append_right _ (by rw [z]; exact List.mem_singleton_self _))
        rcases List.mem_append.mp m with m | m
        · exact hb b m k (List.mem_cons_of_mem _ mk) hk1
        · rw [List.mem_singleton.mp m, ints_app, ints_app]
          have := hg1 k mk
          exact app_lt _ (by omega)
/-- how a layer leads to the next one -/
def grow (stop : List Nat → Bool) (nx : List Nat → List Nat) : List (List Nat) → List (List Nat) × List Nat → List (List Nat) × List Nat
  | [], s => s
  | p :: L, s => grow stop nx L (if stop p = true then s else push p (nx p) s)
theorem grow_lay {n : Nat} {stop : List Nat → Bool} {nx : List Nat → List Nat} (hx : ∀ p, (nx p).Pairwise (· ≤ ·)) : ∀ (L : List (List Nat)) (s : List (List Nat) × List Nat), Lay n L → Lay (n + 1) s.1 → (∀ b ∈ s.1, ∀ p ∈ L, ∀ g, pints b < pints (p ++ [g])) → Lay (n + 1) (grow stop nx L s).1
  | [], s, _, h, _ => h
  | p :: L, s, hL, h, hb => by
    obtain ⟨a1, a2⟩ := List.pairwise_cons.mp hL.asc
    have hL2 : Lay n L := ⟨a2, fun q m => hL.len q (List.mem_cons_of_mem _ m)⟩
    have hp := hL.len p List.mem_cons_self
    show Lay (n + 1) (grow stop nx L (if stop p = true then s else push p (nx p) s)).1
    split
    · exact grow_lay hx L s hL2 h fun b m q mq => hb b m q (List.mem_cons_of_mem _ mq)
    · obtain ⟨k1, k2⟩ := push_lay hp (nx p) s (hx p) h fun b m g _ _ => hb b m p List.mem_cons_self g
      refine grow_lay hx L _ hL2 k1 fun b m q mq g => k2 _ (fun c mc => hb c mc q (List.mem_cons_of_mem _ mq) g) (fun g' => ?_) b m
      rw [ints_app, ints_app]
      refine lt_app ?_ (a1 q mq)
      unfold pints
      rw [List.length_map, List.length_map, hp, hL2.len q mq]
theorem grow_app {stop : List Nat → Bool} {nx : List Nat → List Nat} : ∀ (L : List (List Nat)) (A B : List (List Nat)) (m : List Nat), grow stop nx L (A ++ B, m) = (A ++ (grow stop nx L (B, m)).1, (grow stop nx L (B, m)).2)
  | [], A, B, m => rfl
  | p :: L, A, B, m => by
    show grow stop nx L (if stop p = true then (A ++ B, m) else push p (nx p) (A ++ B, m)) = (A ++ (grow stop nx L (if stop p = true then (B, m) else push p (nx p) (B, m))).1, (grow stop nx L (if stop p = true then (B, m) else push p (nx p) (B, m))).2)
    split
    · exact grow_app L A B m
    · rw [push_app]
      exact grow_app L A _ _

/-- the search with what stands in rows told by functions of the way -/
def lookF (rd stop : List Nat → Bool) (nx : List Nat → List Nat) : Nat → List (List Nat) × List Nat → Nat → Option (List Nat)
  | 0, _, _ => none
  | f + 1, s, i => match s.1[i]? with
    | none => none
    | some way => if rd way = true then some way else if stop way = true then lookF rd stop nx f s (i + 1) else lookF rd stop nx f (push way (nx way) s) (i + 1)
theorem lookF_layer {rd stop : List Nat → Bool} {nx : List Nat → List Nat} : ∀ (L done longer : List (List Nat)) (m : List Nat) (f : Nat), (∀ p ∈ L, rd p = false) →
    lookF rd stop nx (f + L.length) (done ++ L ++ longer, m) done.length = lookF rd stop nx f (done ++ L ++ (grow stop nx L (longer, m)).1, (grow stop nx L (longer, m)).2) (done.length + L.length)
  | [], done, longer, m, f, _ => rfl
  | p :: L, done, longer, m, f, h => by
    have e1 : (done ++ p :: L ++ longer)[done.length]? = some p := by simp
    have e2 : rd p = false := h p List.mem_cons_self
    have e3 : f + (p :: L).length = (f + L.length) + 1 := by simp; omega
    have hL : ∀ q ∈ L, rd q = false := fun q mq => h q (List.mem_cons_of_mem _ mq)
    rw [e3]
    have a1 : ∀ x : List (List Nat), done ++ p :: L ++ x = (done ++ [p]) ++ L ++ x := fun x => by simp
    have a2 : done.length + 1 = (done ++ [p]).length := by simp
    have a3 : done.length + (p :: L).length = (done ++ [p]).length + L.length := by simp; omega
    show (match (done ++ p :: L ++ longer)[done.length]? with
      | none => none
      | some way => if rd way = true then some way else if stop way = true then lookF rd stop nx (f + L.length) (done ++ p :: L ++ longer, m) (done.length + 1) else lookF rd stop nx (f + L.length) (push way (nx way) (done ++ p :: L ++ longer, m)) (done.length + 1)) = _
    rw [e1]
    show (if rd p = true then some p else if stop p = true then lookF rd stop nx (f + L.length) (done ++ p :: L ++ longer, m) (done.length + 1) else lookF rd stop nx (f + L.length) (push p (nx p) (done ++ p :: L ++ longer, m)) (done.length + 1)) = lookF rd stop nx f (done ++ p :: L ++ (grow stop nx L (if stop p = true then (longer, m) else push p (nx p) (longer, m))).1, (grow stop nx L (if stop p = true then (longer, m) else push p (nx p) (longer, m))).2) (done.length + (p :: L).length)
    rw [if_neg (by rw [e2]; decide), a3, a2]
    split
    · rw [a1, a1]
      exact lookF_layer L (done ++ [p]) longer m f hL
    · rw [push_app, a1, a1]
      exact lookF_layer L (done ++ [p]) (push p (nx p) (longer, m)).1 (push p (nx p) (longer, m)).2 f hL
theorem lookF_hit {rd stop : List Nat → Bool} {nx : List Nat → List Nat} : ∀ (L done longer : List (List Nat)) (m : List Nat) (f : Nat) (q : List Nat) (r : List (List Nat)), L.filter rd = q :: r →
    lookF rd stop nx (f + L.length) (done ++ L ++ longer, m) done.length = some q
  | [], done, longer, m, f, q, r, h => by simp at h
  | p :: L, done, longer, m, f, q, r, h => by
    have e1 : (done ++ p :: L ++ longer)[done.length]? = some p := by simp
    have e3 : f + (p :: L).length = (f + L.length) + 1 := by simp; omega
    have a1 : ∀ x : List (List Nat), done ++ p :: L ++ x = (done ++ [p]) ++ L ++ x := fun x => by simp
    have a2 : done.length + 1 = (done ++ [p]).length := by simp
    rw [e3]
    show (match (done ++ p :: L ++ longer)[done.length]? with
      | none => none
      | some way => if rd way = true then some way else if stop way = true then lookF rd stop nx (f + L.length) (done ++ p :: L ++ longer, m) (done.length + 1) else lookF rd stop nx (f + L.length) (push way (nx way) (done ++ p :: L ++ longer, m)) (done.length + 1)) = _
    rw [e1]
    show (if rd p = true then some p else if stop p = true then lookF rd stop nx (f + L.length) (done ++ p :: L ++ longer, m) (done.length + 1) else lookF rd stop nx (f + L.length) (push p (nx p) (done ++ p :: L ++ longer, m)) (done.length + 1)) = some q
    cases c : rd p with
    | true =>
      rw [List.filter_cons_of_pos c] at h
      rw [if_pos rfl, (List.cons.inj h).1]
    | false =>
      rw [List.filter_cons_of_neg (by rw [c]; decide)] at h
      rw [if_neg (by decide), a2]
      split
      · rw [a1]
        exact lookF_hit L (done ++ [p]) longer m f q r h
      · rw [push_app, a1]
        exact lookF_hit L (done ++ [p]) _ _ f q r h
theorem lookF_end {rd stop : List Nat → Bool} {nx : List Nat → List Nat} : ∀ (f : Nat) (done : List (List Nat)) (m : List Nat), lookF rd stop nx f (done, m) done.length = none
  | 0, _, _ => rfl
  | f + 1, done, m => by
    show (match done[done.length]? with
      | none => none
      | some way => if rd way = true then some way else if stop way = true then lookF rd stop nx f (done, m) (done.length + 1) else lookF rd stop nx f (push way (nx way) (done, m)) (done.length + 1)) = none
    rw [List.getElem?_eq_none (Nat.le_refl _)]

/-! ### the search of M16, layer by layer -/
def rdW (rws : List Rx) (x : PySem.Str) (p : List Nat) : Bool := match rws[p.getLastD 0]? with
  | some r => decide (x ∈ r.reads)
  | none => false
def stopW (rws : List Rx) (x : PySem.Str) (p : List Nat) : Bool := match rws[p.getLastD 0]? with
  | some r => decide (r.sets = some x)
  | none => false
def nxW (rws : List Rx) (p : List Nat) : List Nat := nextOf rws (p.getLastD 0)
theorem nx_asc (rws : List Rx) (p : List Nat) : (nxW rws p).Pairwise (· ≤ ·) := by
  unfold nxW nextOf
  split
  · exact List.Pairwise.nil
  · exact List.Pairwise.nil
  · exact List.pairwise_singleton _ _
  · split
    · rename_i c
      exact List.pairwise_cons.mpr ⟨fun b m => by rw [List.mem_singleton.mp m]; exact c, List.pairwise_singleton _ _⟩
    · rename_i c
      exact List.pairwise_cons.mpr ⟨fun b m => by rw [List.mem_singleton.mp m]; exact Nat.le_of_lt (Nat.lt_of_not_le c), List.pairwise_singleton _ _⟩
  · exact List.pairwise_singleton _ _
theorem look_eq {rws : List Rx} {x : PySem.Str} (hO : OkG rws) : ∀ (f : Nat) (s : List (List Nat) × List Nat) (i : Nat), Seen rws.length s → look rws x f s i = lookF (rdW rws x) (stopW rws x) (nxW rws) f s i
  | 0, _, _, _ => rfl
  | f + 1, s, i, h => by
    show (match s.1[i]? with
      | none => none
      | some way => match rws[way.getLastD 0]? with
        | none => none
        | some r => if x ∈ r.reads then some way else if r.sets = some x then look rws x f s (i + 1) else look rws x f (push way (nextOf rws (way.getLastD 0)) s) (i + 1)) = (match s.1[i]? with
      | none => none
      | some way => if rdW rws x way = true then some way else if stopW rws x way = true then lookF (rdW rws x) (stopW rws x) (nxW rws) f s (i + 1) else lookF (rdW rws x) (stopW rws x) (nxW rws) f (push way (nxW rws way) s) (i + 1))
    cases e : s.1[i]? with
    | none => rfl
    | some way =>
      have hm : way ∈ s.1 := List.mem_of_getElem? e
      have hl := h.last way hm
      have er : rws[way.getLastD 0]? = some rws[way.getLastD 0] := List.getElem?_eq_getElem hl
      have e1 : rdW rws x way = decide (x ∈ rws[way.getLastD 0].reads) := by
        unfold rdW
        rw [er]
      have e2 : stopW rws x way = decide (rws[way.getLastD 0].sets = some x) := by
        unfold stopW
        rw [er]
      simp only [er, e1, e2, decide_eq_true_eq]
      split
      · rfl
      · split
        · exact look_eq hO f s (i + 1) h
        · exact look_eq hO f _ (i + 1) (push_seen _ s (next_lt hO hl) (h.short way hm) h)
theorem grow_seen {rws : List Rx} {x : PySem.Str} (hO : OkG rws) (L0 : List (List Nat)) : ∀ (L B : List (List Nat)) (m : List Nat), (∀ p ∈ L, p ∈ L0) → Seen rws.length (L0 ++ B, m) → Seen rws.length (L0 ++ (grow (stopW rws x) (nxW rws) L (B, m)).1, (grow (stopW rws x) (nxW rws) L (B, m)).2)
  | [], B, m, _, h => h
  | p :: L, B, m, hp, h => by
    have hL : ∀ q ∈ L, q ∈ L0 := fun q mq => hp q (List.mem_cons_of_mem _ mq)
    have pm : p ∈ L0 ++ B := List.mem_append_left _ (hp p List.mem_cons_self)
    show Seen rws.length (L0 ++ (grow (stopW rws x) (nxW rws) L (if stopW rws x p = true then (B, m) else push p (nxW rws p) (B, m))).1, (grow (stopW rws x) (nxW rws) L (if stopW rws x p = true then (B, m) else push p (nxW rws p) (B, m))).2)
    split
    · exact grow_seen hO L0 L B m hL h
    · have k := push_seen (way := p) (nxW rws p) (L0 ++ B, m) (next_lt hO (h.last p pm)) (h.short p pm) h
      rw [push_app] at k
      exact grow_seen hO L0 L _ _ hL k
/-- the state at the head of the law's loop: the rows done, the layer, the rows seen -/
structure Front (rws : List Rx) (x : PySem.Str) (i : Nat) (done L : List (List Nat)) (m : List Nat) : Prop where
  seen : Seen rws.length (done ++ L, m)
  lay : ∃ n, Lay n L
  way : wayOf rws x i = lookF (rdW rws x) (stopW rws x) (nxW rws) (rws.length + 1 - done.length) (done ++ L, m) done.length
theorem Front.start {rws : List Rx} {x : PySem.Str} {i : Nat} (hO : OkG rws) (hi : i < rws.length) : Front rws x i [] [[i]] [i] :=
  ⟨Seen.one hi, ⟨1, Lay.one i⟩, look_eq hO _ _ _ (Seen.one hi)⟩
theorem Front.fits {rws : List Rx} {x : PySem.Str} {i : Nat} {done L : List (List Nat)} {m : List Nat} (h : Front rws x i done L m) : done.length + L.length ≤ rws.length := by
  have q := h.seen.le
  rw [List.length_append] at q
  exact q
theorem Front.nil {rws : List Rx} {x : PySem.Str} {i : Nat} {done : List (List Nat)} {m : List Nat} (h : Front rws x i done [] m) : wayOf rws x i = none := by
  have q := h.way
  rw [List.append_nil] at q
  rw [q]
  exact lookF_end _ _ _
theorem Front.hit {rws : List Rx} {x : PySem.Str} {i : Nat} {done L : List (List Nat)} {m : List Nat} (h : Front rws x i done L m) {q : List Nat} {r : List (List Nat)} (e : L.filter (rdW rws x) = q :: r) : wayOf rws x i = some q := by
  have f := h.fits
  have k := lookF_hit (rd := rdW rws x) (stop := stopW rws x) (nx := nxW rws) L done [] m (rws.length + 1 - done.length - L.length) q r e
  rw [List.append_nil, show rws.length + 1 - done.length - L.length + L.length = rws.length + 1 - done.length by omega] at k
  rw [h.way]
  exact k
theorem Front.next {rws : List Rx} {x : PySem.Str} {i : Nat} {done L : List (List Nat)} {m : List Nat} (hO : OkG rws) (h : Front rws x i done L m) (e : L.filter (rdW rws x) = []) : Front rws x i (done ++ L) (grow (stopW rws x) (nxW rws) L ([], m)).1 (grow (stopW rws x) (nxW rws) L ([], m)).2 := by
  have f := h.fits
  obtain ⟨n, hl⟩ := h.lay
  refine ⟨?_, ⟨n + 1, grow_lay (nx_asc rws) L ([], m) hl ⟨List.Pairwise.nil, fun p mp => by cases mp⟩ (fun b mb => by cases mb)⟩, ?_⟩
  · have k := grow_seen (x := x) hO (done ++ L) L [] m (fun p mp => List.mem_append_right _ mp) (by rw [List.append_nil]; exact h.seen)
    exact k
  · have k := lookF_layer (rd := rdW rws x) (stop := stopW rws x) (nx := nxW rws) L done [] m (rws.length + 1 - done.length - L.length) (fun p mp => by
      have := List.filter_eq_nil_iff.mp e p mp
      simpa using this)
    rw [List.append_nil, show rws.length + 1 - done.length - L.length + L.length = rws.length + 1 - done.length by omega] at k
    rw [h.way, k, List.length_append, show rws.length + 1 - done.length - L.length = rws.length + 1 - (done.length + L.length) by omega]
end W16
set_option Elab.async false
set_option linter.all false
set_option maxRecDepth 100000
set_option maxHeartbeats 4000000
namespace W16
open PySem PySem.Spec PyProof.Rows L2
/-- lists of ints, one for each address -/
inductive RowsI (H : Hp) : List Addr → List (List Int) → Prop
  | nil : RowsI H [] []
  | cons {q : Addr} {qs : List Addr} {n : List Int} {ns : List (List Int)} : H q = some (.lst (n.map V.int)) → RowsI H qs ns → RowsI H (q :: qs) (n :: ns)
def encR (b : Addr × List Int) : PyData := .list (b.2.map .int)
section
variable {X : Cx} {pins : List (Addr × Obj)} {σ : L2.St} {H : Hp} {s : Shared}
theorem rd_row (I : Inv X pins σ H s) {q : Addr} {n : List Int} (h : H q = some (.lst (n.map V.int))) : ∃ as, Reads s.heap (.ref q) (.list (n.map .int)) as := by
  refine Dp.reads I _ (.ref q) (.ref q) (.lst (SqL.of h) ?_) rfl
  clear h
  induction n with
  | nil => exact .nil
  | cons x l ih => exact .cons (.int x) ih
theorem each_rows (I : Inv X pins σ H s) : ∀ {qs : List Addr} {ns : List (List Int)} {its : List Value}, Vals (qs.map V.ref) its → RowsI H qs ns →
    PySem.W.EachIs (fun v (b : Addr × List Int) => v = Value.ref b.1) its (qs.zip ns) ∧ PySem.W.EachIs (fun v b => ∃ as, Reads s.heap v (encR b) as) its (qs.zip ns)
  | [], [], _, r, .nil => by
    cases r
    exact ⟨.nil, .nil⟩
  | q :: qs, n :: ns, _, r, .cons h t => by
    cases r with
    | cons r1 r2 =>
      cases r1
      obtain ⟨k1, k2⟩ := each_rows I r2 t
      exact ⟨.cons rfl k1, .cons (rd_row I h) k2⟩
theorem RowsI.len : ∀ {qs : List Addr} {ns : List (List Int)}, RowsI H qs ns → qs.length = ns.length
  | _, _, .nil => rfl
  | _, _, .cons _ t => congrArg Nat.succ t.len
theorem zip_asc : ∀ {qs : List Addr} {ns : List (List Int)}, RowsI H qs ns → ns.Pairwise (fun p q => p < q) → (qs.zip ns).Pairwise (fun a b => decide (a.2 ≤ b.2) = true)
  | _, _, .nil, _ => List.Pairwise.nil
  | q :: qs, n :: ns, .cons h t, p => by
    obtain ⟨p1, p2⟩ := List.pairwise_cons.mp p
    refine List.pairwise_cons.mpr ⟨fun b m => decide_eq_true ?_, zip_asc t p2⟩
    exact List.le_of_lt (p1 b.2 (List.of_mem_zip m).2)
theorem each_refs : ∀ {out its : List Value} {bs : List (Addr × List Int)}, PySem.W.EachIs (fun v (b : Addr × List Int) => v = Value.ref b.1) out bs → PySem.W.EachIs (fun v (b : Addr × List Int) => v = Value.ref b.1) its bs → out = its
  | _, _, _, .nil, .nil => rfl
  | _, _, _, .cons h t, .cons h2 t2 => by rw [h, h2, each_refs t t2]
/-- sorted(l) of lists of ints that ascend: they as they stand, in a new list -/
def rSortedRows (K : PySem.W.Frag) : List V → Hp → VK → Prop := fun vs H Q => ∃ (a : Addr) (qs : List Addr) (ns : List (List Int)), vs = [.ref a] ∧ SqL K H a (qs.map V.ref) ∧ RowsI H qs ns ∧ ns.Pairwise (fun p q => p < q) ∧ ∀ p, H p = none → Q (.ref p) (upd H p (.lst (qs.map V.ref)))
theorem cr_sortedRows (hu : X.A.units + 64 < cLine) : CallR X (.builtin "sorted") (rSortedRows X.K) := by
  intro pins s σ H vs us Q I r h
  obtain ⟨a, qs, ns, rfl, hs, hr, hp, q⟩ := h
  obtain ⟨its, rv, hl, hz⟩ := I.list hs
  rw [Vals.ref1 r]
  obtain ⟨e1, e2⟩ := each_rows I rv hr
  have hlen : (qs.zip ns).length = qs.length := by
    rw [List.length_zip, ← hr.len]
    exact Nat.min_self _
  rw [List.length_map] at hz
  refine PySem.W.sorted_data (enc := encR) (R := fun v (b : Addr × List Int) => v = Value.ref b.1) hl.isList e1 e2 (PySem.W.AllAlike.of fun b b' => ?_) (PySem.W.Sortable.others (enc := encR) (bs := qs.zip ns) fun b => ⟨(by intro z; cases z), (fun xs z => by cases z)⟩) (by rw [hlen]; exact hz) (fun b _ => ?_) fun out ho hout => ?_
  · show PySem.W.alike (.list _) (.list _) = true
    rw [PySem.W.alike]
    exact PySem.W.alike_ints _ _
  · show X.A.units + 2 + (PyData.list (b.2.map .int)).depth < cLine
    rw [PyData.depth, PySem.W.depth_ints]
    omega
  · have e3 : PySem.W.dataLe false encR = fun (p q : Addr × List Int) => decide (p.2 ≤ q.2) := PySem.W.dataLe_rows _
    rw [e3, List.mergeSort_of_pairwise (zip_asc hr hp)] at hout
    have e4 : out = its := each_refs hout e1
    subst e4
    obtain ⟨ep, he'⟩ := PyProof.Rows.sortedAll_at s.heap out out.toArray
    refine ⟨.ref _, upd H (s.heap.objs.size + 1) (.lst (qs.map V.ref)), I.laid (t' := s.toks) (fun _ _ => PyProof.Rows.sortedAll_old) (Nat.le_succ _) ⟨by rw [List.length_map]; exact hz, out, ep, rv, he'⟩, rfl, q _ (I.hok.fresh (Nat.le_succ _))⟩
/-- min(l) of lists of ints, the first of which is the least -/
def rMinRows (K : PySem.W.Frag) : List V → Hp → VK → Prop := fun vs H Q => ∃ (a q : Addr) (qs : List Addr) (n : List Int) (ns : List (List Int)), vs = [.ref a] ∧ SqL K H a ((q :: qs).map V.ref) ∧ RowsI H (q :: qs) (n :: ns) ∧ (∀ m ∈ ns, n < m) ∧ ∀ p, p ∈ q :: qs → H p = some (.lst (n.map V.int)) → Q (.ref p) H
theorem reads_rows (I : Inv X pins σ H s) : ∀ {qs : List Addr} {ns : List (List Int)} {its : List Value}, Vals (qs.map V.ref) its → RowsI H qs ns → ∃ as, ReadsAll s.heap its (ns.map fun (n : List Int) => PyData.list (n.map .int)) as
  | [], [], _, r, .nil => by
    cases r
    exact ⟨_, .nil⟩
  | q :: qs, n :: ns, _, r, .cons h t => by
    cases r with
    | cons r1 r2 =>
      cases r1
      obtain ⟨bs, k2⟩ := reads_rows I r2 t
      obtain ⟨as, k1⟩ := rd_row I h
      exact ⟨_, .cons k1 k2⟩
theorem minD_first {n : List Int} : ∀ {ns : List (List Int)}, (∀ m ∈ ns, n < m) → PySem.W.minD (.list (n.map .int)) (ns.map fun (n : List Int) => PyData.list (n.map .int)) = .list (n.map .int)
  | [], _ => rfl
  | m :: ns, h => by
    have e : PySem.W.dataLt (.list (m.map .int)) (.list (n.map .int)) = false := by
      rw [PySem.W.dataLt_list]
      show PySem.W.rowLt (m.map .int) (n.map .int) = false
      rw [PySem.W.dataLt_ints]
      exact decide_eq_false fun z => absurd (List.lt_trans z (h m List.mem_cons_self)) (List.lt_irrefl _)
    show PySem.W.minD (if PySem.W.dataLt (.list (m.map .int)) (.list (n.map .int)) = true then .list (m.map .int) else .list (n.map .int)) (ns.map fun (n : List Int) => PyData.list (n.map .int)) = _
    rw [if_neg (by rw [e]; decide)]
    exact minD_first fun k mk => h k (List.mem_cons_of_mem _ mk)
theorem depth_rows : ∀ ns : List (List Int), PyData.depthAll (ns.map fun (n : List Int) => PyData.list (n.map .int)) ≤ 1
  | [] => by simp [PyData.depthAll]
  | n :: ns => by
    have := depth_rows ns
    show PyData.depthAll (PyData.list (n.map .int) :: ns.map fun (n : List Int) => PyData.list (n.map .int)) ≤ 1
    rw [PyData.depthAll, PyData.depth, PySem.W.depth_ints]
    omega
theorem vals_mem : ∀ {qs : List Addr} {its : List Value} {ns : List (List Int)}, Vals (qs.map V.ref) its → RowsI H qs ns → ∀ v ∈ its, ∃ (p : Addr) (n : List Int), v = .ref p ∧ p ∈ qs ∧ H p = some (.lst (n.map V.int))
  | [], _, _, r, _, v, m => by
    cases r
    cases m
  | q :: qs, _, _, r, h, v, m => by
    cases r with
    | cons r1 r2 =>
      cases r1
      cases h with
      | cons h t =>
        rcases List.mem_cons.mp m with m | m
        · exact ⟨q, _, m, List.mem_cons_self, h⟩
        · obtain ⟨p, n, a, b, c⟩ := vals_mem r2 t v m
          exact ⟨p, n, a, List.mem_cons_of_mem _ b, c⟩
theorem ints_inj : ∀ {n m : List Int}, n.map PyData.int = m.map PyData.int → n = m
  | [], [], _ => rfl
  | [], _ :: _, h => by cases h
  | _ :: _, [], h => by cases h
  | x :: n, y :: m, h => by
    have h1 := List.cons.inj h
    have h2 : x = y := by
      have q := h1.1
      injection q
    rw [h2, ints_inj h1.2]
theorem cr_minRows (hc : X.calm = true) (hu : X.A.units + 64 < cLine) : CallR X (.builtin "min") (rMinRows X.K) := by
  intro pins s σ H vs us Q I r h
  obtain ⟨a, q, qs, n, ns, rfl, hs, hr, hlt, k⟩ := h
  obtain ⟨its, rv, hl, hz⟩ := I.list hs
  rw [Vals.ref1 r]
  obtain ⟨as, hrd⟩ := reads_rows I rv hr
  refine PySem.W.min_list_data (I.ok.hd hc) hl.isList (x := .list (n.map .int)) (xs := ns.map fun (n : List Int) => PyData.list (n.map .int)) (as := as) (by simpa using hrd) ⟨fun x hx y hy => ?_, fun x hx => ?_⟩ ?_ fun i v h' tk bs e rd kp => ?_
  · obtain ⟨x', _, rfl⟩ := List.mem_map.mp (show x ∈ (n :: ns).map fun (n : List Int) => PyData.list (n.map .int) from hx)
    obtain ⟨y', _, rfl⟩ := List.mem_map.mp (show y ∈ (n :: ns).map fun (n : List Int) => PyData.list (n.map .int) from hy)
    rw [PySem.W.alike]
    exact PySem.W.alike_ints _ _
  · obtain ⟨x', _, rfl⟩ := List.mem_map.mp (show x ∈ (n :: ns).map fun (n : List Int) => PyData.list (n.map .int) from hx)
    intro z
    cases z
  · have := depth_rows (n :: ns)
    have e : PyData.depthAll (PyData.list (n.map .int) :: ns.map fun (n : List Int) => PyData.list (n.map .int)) ≤ 1 := this
    omega
  · have hm : v ∈ its := by
      have := Array.mem_of_getElem? e
      simpa using this
    obtain ⟨p, n2, rfl, hp, hpn⟩ := vals_mem rv hr v hm
    rw [minD_first hlt] at rd
    obtain ⟨bs2, rd2⟩ := rd_row I hpn
    have al : PySem.W.alike (.list (n.map .int)) (.list (n2.map .int)) = true := by
      rw [PySem.W.alike]
      exact PySem.W.alike_ints _ _
    have en := PySem.W.alike_unique _ _ _ _ _ al rd (Reads.keeps kp rd2)
    injection en with en
    have en2 : n = n2 := ints_inj en
    rw [← en2] at hpn
    exact ⟨.ref p, H, I.kept kp, rfl, k p hp hpn⟩
end
end W16
set_option Elab.async false
set_option linter.all false
set_option maxRecDepth 100000
set_option maxHeartbeats 4000000
namespace W16
open PySem PySem.Spec PyProof.Rows L2
/-- enumerate of a text: each sign in a new pair -/
def IteS (x : Str) : It :=
  ⟨fun i _ => i < x.cps.size, fun i H v H' => ∃ T c, v = .ref T ∧ H T = none ∧ x.cps[i]? = some c ∧ H' = upd H T (.tup [.int (i : Nat), .str ⟨#[c]⟩]), fun i _ => i = x.cps.size⟩
theorem turn_enumS {P : Program} {w : World} {K : PySem.W.Frag} {elts : List Expr} {kk : Nat} {tpos : Pos} (x : Str) (t : Tok) (e it : Addr) :
    Turn P w K (.Tuple elts kk tpos) (IteS x) [e, it] e (fun i h => (∃ old, IsEnum h e it ((i : Nat) : Int) old) ∧ h.IsStrIter it (strIterType x) x t i ∧ e ≠ it) where
  mem := by simp
  obj := fun i h st b hb => by
    obtain ⟨⟨old, he⟩, ⟨o, ho, hc, hd⟩, _⟩ := st
    have e' : b = e ∨ b = it := by simpa using hb
    rcases e' with z | z
    · rw [z]; exact ⟨_, he, fun v q => nomatch q⟩
    · rw [z]; exact ⟨o, ho, fun v q => by rw [hd] at q; cases q⟩
  keep := fun i h h' st k => let ⟨⟨old, he⟩, ⟨o, ho, r⟩, hne⟩ := st; ⟨⟨old, k e (by simp) _ he⟩, ⟨o, k it (by simp) o ho, r⟩, hne⟩
  item := by
    intro X hP hw hK hc i pins s σ H E I hf st hg
    subst hP hw hK
    obtain ⟨⟨old, he⟩, hit, hne⟩ := st
    have hel : e < s.heap.objs.size := Heap.lt_size he
    have hil : it < s.heap.objs.size := by obtain ⟨_, q, _⟩ := hit; exact Heap.lt_size q
    have D : Draws X.prog X.w X.A.in1 it [it] x.cps.size (fun i v => ∃ c u, x.cps[i]? = some c ∧ v = .str ⟨#[c]⟩ u) (fun i h => h.IsStrIter it (strIterType x) x t i) := Draws.text (A := X.A.in1) (show X.A.in1.handled = none from I.ok.hd hc) it x t
    refine wpAny_pyNext_enum_itemD D he hit hg hne (by simp [hne]) fun u h' tk hu ho hit' hT hsz hk => ?_
    obtain ⟨c, v, hcx, rfl⟩ := hu
    refine ⟨_, rfl, wpAny_letOwnedTupleGo_enum (s := { s with heap := h', toks := tk + 1 }) ho fun h'' he' sb => ?_⟩
    have hT2 : h''.get? s.heap.objs.size = some { cls := .type "tuple", data := .seq #[.int i tk, .str ⟨#[c]⟩ v] } := (sb.2 _ (Nat.ne_of_gt hel)).trans hT
    have new : ObjOk X.prog X.w (upd H s.heap.objs.size (.tup [.int (i : Nat), .str ⟨#[c]⟩])) h'' s.heap.objs.size (.tup [.int (i : Nat), .str ⟨#[c]⟩]) :=
      ⟨by show 2 ≤ sizeLine; decide, [.int i tk, .str ⟨#[c]⟩ v], .cons ⟨_, rfl⟩ (.cons ⟨_, rfl⟩ .nil), ⟨_, hT2, rfl, _, rfl⟩⟩
    have I1 : Inv X pins σ (upd H s.heap.objs.size (.tup [.int (i : Nat), .str ⟨#[c]⟩])) { s with heap := h'', toks := tk + 1 } :=
      I.turnedNew (ch := [e, it]) (fun b ob hb q => (sb.2 b (fun z => hb (by simp [z]))).trans (hk b ob (fun z => hb (by simp [z])) (fun z => hb (by simp [z])) q)) hf (Nat.le_refl _) new
    refine ⟨.ref s.heap.objs.size, _, I1, rfl, ⟨_, c, rfl, I.hok.fresh (Nat.le_refl _), hcx, rfl⟩, ⟨⟨.str ⟨#[c]⟩ v, ?_⟩, ?_, hne⟩, fun b hb => ?_⟩
    · have e1 : ((i + 1 : Nat) : Int) = (i : Int) + 1 := by omega
      rw [e1]; exact he'
    · obtain ⟨o, q, r⟩ := hit'
      exact ⟨o, (sb.2 it (Ne.symm hne)).trans q, r⟩
    · have hb' : b < s.heap.objs.size := by
        have e' : b = e ∨ b = it := by simpa using hb
        rcases e' with z | z
        · rw [z]; exact hel
        · rw [z]; exact hil
      rw [upd_ne (Nat.ne_of_lt hb')]
      exact (hf b hb).1
  done := by
    intro X hP hw hK hc i pins s σ H E I hf st hg
    subst hP hw hK
    obtain ⟨⟨old, he⟩, hit, hne⟩ := st
    have hg2 : i = x.cps.size := hg
    subst hg2
    have D : Draws X.prog X.w X.A.in1 it [it] x.cps.size (fun i v => ∃ c u, x.cps[i]? = some c ∧ v = .str ⟨#[c]⟩ u) (fun i h => h.IsStrIter it (strIterType x) x t i) := Draws.text (A := X.A.in1) (show X.A.in1.handled = none from I.ok.hd hc) it x t
    obtain ⟨f0, f1, f2, f3, f4, f5⟩ := hf it (by simp)
    exact wpAny_pyNext_enum_endD D he hit fun h' eb => ⟨rfl, I.turned (t' := s.toks) (fun b o hb q => eb b o hb q) f0 f1 f3 f4 f5⟩
  self := fun A i s Q E st h => let ⟨⟨_, he⟩, _⟩ := st; wpAny_pyIter_enum he h
def iEnumS (ta : TA) : TI := fun σ H R => ta σ H fun vs H1 => ∃ x, vs = [.str x] ∧ R (IteS x) H1
theorem pi_enumS {X : Cx} {e : Expr} {ta : TA} {p pos tpos : Pos} {elts : List Expr} {kk : Nat} (hg : Gl X "enumerate") (hm : X.mg "enumerate" = none) (ha : PA X [e] ta) (hs : starEach [e] X.env = [(false, eval e X.env)] := by rfl) :
    PI X (.Tuple elts kk tpos) (.Call (.Name "enumerate" p) [e] [] pos) (iEnumS ta) := by
  refine ⟨fun pins s σ H R I h => ?_⟩
  refine Call_ (ld_blt I hg hm boot_enumerate (PyProof.Rows.callWith_type1 (thn (ha.run pos pins s σ H _ I h) fun us s1 ⟨vs, H1, I1, r1, q1⟩ => ?_) hs rfl))
  obtain ⟨x, ex, q⟩ := q1
  subst ex
  cases r1 with
  | cons r rr =>
    cases rr
    obtain ⟨t, rfl⟩ := r
    refine call_enumerate_str fun h' he hit hsz hk => wpAny_pyIter_enum he ?_
    have I2 : Inv X pins σ H1 { s1 with heap := h' } := I1.kept (t' := s1.toks) hk
    refine ⟨s1.heap.objs.size + 1, [s1.heap.objs.size + 1, s1.heap.objs.size], _, _, H1, rfl, I2, turn_enumS x t (s1.heap.objs.size + 1) s1.heap.objs.size, ⟨⟨.none, he⟩, hit, Nat.succ_ne_self _⟩, fun b hb => ?_, q⟩
    have e' : b = s1.heap.objs.size + 1 ∨ b = s1.heap.objs.size := by simpa using hb
    have hle : s1.heap.objs.size ≤ b := by
      rcases e' with z | z
      · rw [z]; exact Nat.le_add_right _ _
      · rw [z]; exact Nat.le_refl _
    exact I1.fpOk hle (I1.hok.fresh hle)
end W16
set_option Elab.async false
set_option linter.all false
set_option maxRecDepth 100000
set_option maxHeartbeats 4000000
namespace W16
open PySem PySem.Spec PyProof.Rows L2
theorem vals_rev : ∀ {vs : List V} {us : List Value}, Vals vs us → Vals vs.reverse us.reverse
  | _, _, .nil => .nil
  | _, _, .cons h t => by
    rw [List.reverse_cons, List.reverse_cons]
    exact (vals_rev t).append (.cons h .nil)
section
variable {K : PySem.W.Frag} {x qual : Str} {params : Arguments} {body : List Stmt} {scope : Scope} {kws : List (Str × V)} {f : Addr} {fd : FuncData} {ps : List Str}
/-- all arguments by name, in the order behind -/
theorem _root_.L2.FunD.kbindsR (F : FunD K x qual params body scope [] kws f fd) (ks : List Str)
    (h : ∀ (kV doc pm : Value) (an : Option Addr) (cdv ct : Value) (ws : List Value), ws.length = ks.length → bindArgs (PySem.W.fnOf x qual params body scope .none kV doc pm an cdv ct) ⟨[], ks.zip ws⟩ = pure (ps.zip ws.reverse)) : KBn K fd ps 0 ks (fun _ ws => ws.reverse) (fun _ zs => zs.reverse) := by
  obtain ⟨oc, od, dV, kV, doc, pm, an, cdv, ct, osl, rfl, lk, hcd, hD, hK⟩ := F.ex
  rcases hD with ⟨_, rfl⟩ | ⟨e, _⟩
  · refine ⟨fun s us ws X l1 l2 => ?_, fun _ rz => vals_rev rz⟩
    have e : us = [] := List.length_eq_zero_iff.mp l1
    subst e
    exact .of_eq (h kV doc pm an cdv ct ws l2)
  · exact absurd rfl e
end
section
variable {X : Cx} {CX : CXT} {k n : Nat} {f : Addr} {fd : FuncData} {ps ks : List Str} {sp : Sp} {E : XK} {x : Str} {p pos : Pos} {kws : List Keyword} {tk : TA} {g : List Value → List Value → List Value} {gV : List V → List V → List V}
/-- f(k = v, ..) -/
theorem pe_callKO (F : FnOk X.prog X.w X.K X.mg X.base CX k f fd ps sp) (hr : Room k X.A) (hg : Gl X x) (hm : X.mg x = some (.ref f)) (hk : PySem.W.keepIn X.K (.ref f) = true) (hb : KBn X.K fd ps 0 ks g gV) (hx : Passes CX X E)
    (hkw : PK X kws tk) (hall : (backToKw pos (keywordEach kws X.env)).all (·.1.isSome) = true := by rfl) (hks : (backToKw pos (keywordEach kws X.env)).filterMap (·.1) = ks := by rfl)
    (hdb : (x == ("__debug__" : Str)) = false := by decide)
    (hpl : ((backTo pos (starEach [] X.env)).any (·.1) || (backToKw pos (keywordEach kws X.env)).any (·.1.isNone)) = false := by rfl) :
    PE X (.Call (.Name x p) [] kws pos) (tCallN 0 ks.length sp gV E tNil tk) := by
  refine ⟨fun pins s σ H Q I h => ?_⟩
  refine wpAny_Call_Name_kw (ld_glob I hg hm ?_ hdb)
  refine PySem.W.callWith_KW0 (h₀ := X.base) I.ok.mod.kin hk hall ?_ hpl
  refine thn (hkw.run pos pins s σ H _ I h) fun ws s2 ⟨zs, H2, I2, rz, l1, l2, q2⟩ => ⟨I2.kIn, ?_⟩
  rw [hks]
  exact run_fnN (us := []) (vs := []) F hr hb hx I2 .nil rz l1 l2 q2
end
end W16
set_option Elab.async false
set_option linter.all false
set_option maxRecDepth 100000
set_option maxHeartbeats 4000000
namespace W16
open PySem PySem.Spec PyProof.Rows L2 RZ
section
variable {P : Program} {w : World} {K : PySem.W.Frag} {mg : Str → Option Value} {base : Heap}

/-- pairs as a dict -/
def kvP (ns : List (Str × Str)) : List (Key × V) := ns.map fun n => (Sum.inr n.1, V.str n.2)
theorem valV_kvP {x : Str} : ∀ {l : List (Str × Str)}, x ∉ l.map Prod.fst → valV (kvP l) (Sum.inr x : Key) = none
  | [], _ => rfl
  | a :: l, h => by
    have h1 : ¬ a.1 = x := fun z => h (by rw [← z]; exact List.mem_cons_self)
    have ih := valV_kvP (x := x) (l := l) fun m => h (List.mem_cons_of_mem _ m)
    unfold kvP at ih ⊢
    unfold valV at ih ⊢
    rw [List.map_cons, List.find?_cons_of_neg (by simpa using h1)]
    exact ih
theorem valV_kvP_in {q : Str × Str} : ∀ {l : List (Str × Str)}, (l.map Prod.fst).Nodup → q ∈ l → valV (kvP l) (Sum.inr q.1 : Key) = some (.str q.2)
  | [], _, m => by cases m
  | a :: l, nd, m => by
    obtain ⟨n1, n2⟩ := List.nodup_cons.mp (show (a.1 :: l.map Prod.fst).Nodup from nd)
    unfold kvP
    unfold valV
    rw [List.map_cons]
    by_cases c : a.1 = q.1
    · rw [List.find?_cons_of_pos (by simpa using c)]
      have e : a = q := by
        rcases List.mem_cons.mp m with m | m
        · exact m.symm
        · exact absurd (by rw [c]; exact List.mem_map.mpr ⟨q, m, rfl⟩) n1
      rw [e]
      rfl
    · rw [List.find?_cons_of_neg (by simpa using c)]
      have m2 : q ∈ l := by
        rcases List.mem_cons.mp m with m | m
        · exact absurd (by rw [m]) c
        · exact m
      exact valV_kvP_in n2 m2
theorem putK_new {k : Key} {v : V} {l : List (Key × V)} (h : ∀ q ∈ l, q.1 ≠ k) : putK l k v = l ++ [(k, v)] := by
  unfold putK
  rw [if_neg]
  intro z
  obtain ⟨q, m, e⟩ := List.any_eq_true.mp z
  exact h q m (of_decide_eq_true e)
theorem putK_kvP {q : Str × Str} {l : List (Str × Str)} (h : q.1 ∉ l.map Prod.fst) : putK (kvP l) (Sum.inr q.1 : Key) (.str q.2) = kvP (l ++ [q]) := by
  unfold kvP
  rw [List.map_append]
  refine putK_new fun r m e => h ?_
  obtain ⟨a, ma, rfl⟩ := List.mem_map.mp m
  exact List.mem_map.mpr ⟨a, ma, Sum.inr.inj e⟩
theorem pairFG {H : Hp} {ps : List Addr} {ns : List (Str × Str)} (h : PairsG H ps ns) : ∀ (i : Nat) (p : Addr), ps[i]? = some p → H p = some (.tup [.str (ns.getD i ("", "")).1, .str (ns.getD i ("", "")).2]) ∧ ([V.str (ns.getD i ("", "")).1, .str (ns.getD i ("", "")).2] : List V).length ≤ 100 ∧ ∀ x ∈ ([V.str (ns.getD i ("", "")).1, .str (ns.getD i ("", "")).2] : List V), Fl x := by
  intro i p e
  have hi : i < ns.length := by
    rw [← h.len]
    exact (List.getElem?_eq_some_iff.mp e).1
  refine ⟨?_, by simp, fun x m => ?_⟩
  · have q := h.at_ i p ns[i] e (List.getElem?_eq_getElem hi)
    rw [q, List.getD_eq_getElem?_getD, List.getElem?_eq_getElem hi]
    rfl
  · simp at m
    rcases m with rfl | rfl
    · exact .str _
    · exact .str _
theorem fPairG {H : Hp} {qs : List Addr} {ns : List (Str × Str)} (hl : qs.length = ns.length) (h : ∀ (i : Nat) (p : Addr), qs[i]? = some p → H p = some (.tup [.str (ns.getD i ("", "")).1, .str (ns.getD i ("", "")).2])) : PairsG H qs ns := by
  refine ⟨hl, fun i p x e1 e2 => ?_⟩
  rw [h i p e1, List.getD_eq_getElem?_getD, e2]
  rfl
def spDiff (K : PySem.W.Frag) : Sp := fun vs H Q _ => ∃ (p fa : Addr) (cs ks us : List (Key × V)) (ps : List Addr) (ns : List (Str × Str)), vs = [.ref p, .ref fa] ∧ SrcH K H p cs ks us ∧ H fa = some (.lst (ps.map V.ref)) ∧ PairsG H ps ns ∧ (∀ q ∈ ns, valV ks (Sum.inr q.1 : Key) = none ∨ valV ks (Sum.inr q.1 : Key) = some (.str q.2)) ∧ ns.length ≤ 100 ∧ ∀ H', Same H H' → Q (.bl false) H'
theorem any_false {n : Nat} : ((List.range n).map fun _ => false).any id = false := by
  rw [List.any_map]
  exact List.any_eq_false.mpr fun x _ => by simp
/-- all but what stands at the places of l -/
def ButL (l : List Addr) (H H' : Hp) : Prop := ∀ b u, H b = some u → b ∉ l → H' b = some u
def spTakeCG (K : PySem.W.Frag) : Sp := fun vs H Q _ => ∃ (p ca dx df dk du e fa : Addr) (fs : List (Str × V)) (us : List (Key × V)) (C : Str) (ps : List Addr) (ns : List (Str × Str)), vs = [.ref p, .ref ca] ∧ SrcG K H p dx df dk du fs [] [] us ∧ df ≠ dk ∧ H ca = some (.lst [.ref e]) ∧ H e = some (.tup [.str C, .ref fa]) ∧ Nam C ∧
  H fa = some (.lst (ps.map V.ref)) ∧ PairsG H ps ns ∧ (∀ q ∈ ns, Nam q.1 ∧ IsKind q.2) ∧ (ns.map Prod.fst).Nodup ∧ ns.length ≤ 4 ∧ ∀ (H' : Hp) (q : Addr), ButL [df, dk] H H' → H' df = some (.dK [(Sum.inr C, .ref q)]) → H' dk = some (.dK (kvP ns)) → Q .non H' 
theorem sc_Source_kinds_differ : FnScope ["self", "fields", "field", "kind"] ["self", "fields"] (defScope s_Source_kinds_differ) := ⟨rfl, rfl, rfl, by decide +kernel, rfl, by decide +kernel, by decide +kernel⟩
theorem ok_Source_kinds_differ (T : Ctx w K mg) : HasM P w K mg base 1 "Source" "_kinds_differ" ["self", "fields"] (spDiff K) := by
  obtain ⟨fd, F⟩ := T.D_Source_kinds_differ
  refine ⟨⟨fd, F.ok sc_Source_kinds_differ (fun vs H Q E h => ?_) (fun cdv A outer s H vs Q E hr h => ?_), F.bindsN fun _ _ _ _ _ _ us hl => match us, hl with | [_, _], _ => rfl⟩⟩
  · obtain ⟨p, fa, cs, ks, us, ps, ns, rfl, S0, hfa, hp, hk, hl, k⟩ := h; rfl
  · obtain ⟨p, fa, cs, ks, us, ps, ns, rfl, S0, hfa, hp, hk, hl, k⟩ := h
    have hu := hu_of hr
    refine ⟨_, PSs.nox (pss_one (ps_ret (pe_callB (cr_any rfl) (by rfl) T.f_any (by decide +kernel) (pa_cons (pe_lc (own := [("field", 2), ("kind", 3)]) (g := gTup K 2 (gCons (gName 2) (gCons (gName 3) (gNil)))) (tt := tYes) rfl sc_Source_kinds_differ.nd (pi_list (pv 1)) (blkOk_by (N := ["self", "fields", "field", "kind"]) (sc := defScope s_Source_kinds_differ) (by decide +kernel)) (fun _ _ _ _ _ => (pg_tup rfl (pgs_cons (pg_name (i := 2) sc_Source_kinds_differ.nd rfl (Or.inl rfl)) (pgs_cons (pg_name (i := 3) sc_Source_kinds_differ.nd rfl (Or.inl rfl)) pgs_nil)))) (fun _ _ _ _ _ => pts_nil) (fun _ _ _ _ _ => (pe_cmpR op_ne (pe_dget2 hu (pe_fldK (K := K) rfl (pv 0) (by rfl)) (pv 2) (pv 3) ⟨rfl, rfl, rfl, rfl⟩) (pv 3) (nomark _)))) pa_nil)))), ?_⟩
    obtain ⟨dx, df, dk, du, fs, S⟩ := S0
    refine ⟨_, rfl, fa, rfl, ⟨_, SqL.of hfa⟩, fun D hD => ?_⟩
    refine lc_pure (walk_list (K := K) (a := fa) (xs := ps.map V.ref)) hD (fun _ => .bl false) (by rw [List.length_map, hp.len]; omega) (fun H1 s1 => SqL.of (s1 _ _ hfa)) (fun i H1 y H2 hi s1 hy Qe qe => ?_) (fun H1 s1 h1 => ?_)
    · obtain ⟨rfl, hy⟩ := hy
      obtain ⟨p1, x, rfl, hp1, hx, hpt⟩ := (hp.mono s1).get hy
      have S1 := S.mono s1
      refine ⟨p1, _, rfl, SqT.of hpt, rfl, _, _, rfl, _, _, rfl, rfl, rfl, ?_⟩
      refine ⟨_, rfl, p, _, dx, fs, _, rfl, S1.ob, T.c_Source, T.n_Source_field_kinds, S1.f2, dk, rfl, .inl ⟨_, .inl S1.d2⟩, _, rfl, _, rfl, _, DGet.k (k := Sum.inr x.1) S1.d2, ?_⟩
      have e : (valV ks (Sum.inr x.1 : Key)).getD (.str x.2) = .str x.2 := by
        rcases hk x (List.mem_of_getElem? hx) with e | e <;> rw [e] <;> rfl
      rw [e]
      exact ⟨_, rfl, rfl, qF (by simp) (qe _ (Same.refl _))⟩
    · exact ⟨D, (List.range (ps.map V.ref).length).map (fun _ => false), rfl, SqL.of (by rw [h1, List.map_map]; rfl), qF any_false (k _ s1)⟩
theorem sc_Source_take_classes : FnScope ["self", "classes", "k", "entry", "field", "kind"] ["self", "classes"] (defScope s_Source_take_classes) := ⟨rfl, rfl, rfl, by decide +kernel, rfl, by decide +kernel, by decide +kernel⟩
theorem ok_Source_take_classes (T : Ctx w K mg) (H_is_list_of : Has P w K mg base 1 "is_list_of" ["thing", "least", "most"] spListOf) (H_is_class : Has P w K mg base 3 "_is_class" ["entry"] spClassG) (H_Source_kinds_differ : HasM P w K mg base 1 "Source" "_kinds_differ" ["self", "fields"] (spDiff K)) (H_frozen : Has P w K mg base 3 "frozen" ["thing"] spFz2) : HasM P w K mg base 4 "Source" "_take_classes" ["self", "classes"] (spTakeCG K) := by
  obtain ⟨fd, F⟩ := T.D_Source_take_classes
  obtain ⟨fd_is_list_of, G_is_list_of, b_is_list_of⟩ := H_is_list_of.ex
  obtain ⟨fd_is_class, G_is_class, b_is_class⟩ := H_is_class.ex
  obtain ⟨fd_Source_kinds_differ, G_Source_kinds_differ, b_Source_kinds_differ⟩ := H_Source_kinds_differ.ex
  obtain ⟨fd_frozen, G_frozen, b_frozen⟩ := H_frozen.ex
  refine ⟨⟨fd, F.ok sc_Source_take_classes (fun vs H Q E h => ?_) (fun cdv A outer s H vs Q E hr h => ?_), F.bindsN fun _ _ _ _ _ _ us hl => match us, hl with | [_, _], _ => rfl⟩⟩
  · obtain ⟨p, ca, dx, df, dk, du, e, fa, fs, us, C, ps, ns, rfl, S, hdd, hca, he, hC, hfa, hp, hN, hnd, hl, k⟩ := h; rfl
  · obtain ⟨p, ca, dx, df, dk, du, e, fa, fs, us, C, ps, ns, rfl, S, hdd, hca, he, hC, hfa, hp, hN, hnd, hl, k⟩ := h
    have hr_is_list_of : Room 1 _ := hr.mono (by decide)
    have hr_is_class : Room 3 _ := hr.mono (by decide)
    have hr_Source_kinds_differ : Room 1 _ := hr.mono (by decide)
    have hr_frozen : Room 3 _ := hr.mono (by decide)
    have hu := hu_of hr
    obtain ⟨t_c, e_MOST_CLASSES⟩ := T.i_MOST_CLASSES
    refine ⟨_, PSs.nox (pss_cons (ps_if (pt_not (pt_val (pe_call G_is_list_of hr_is_list_of (by rfl) H_is_list_of.gl H_is_list_of.kp b_is_list_of .nil pass0 (pa_cons (pv 1) (pa_cons pe_int (pa_cons (pe_glob (v := .int 6) rfl e_MOST_CLASSES ⟨_, rfl⟩) pa_nil)))))) (pss_one ps_never) pss_nil)
      (pss_one (ps_for PassesOwn.never rfl (pi_enum (by rfl) T.f_enumerate (pa_cons (pv 1) pa_nil)) (pg_tup rfl (pgs_cons (pg_name (i := 2) sc_Source_take_classes.nd rfl (Or.inl rfl)) (pgs_cons (pg_name (i := 3) sc_Source_take_classes.nd rfl (Or.inl rfl)) pgs_nil)))
      (pss_cons (ps_if (PW.pt (pw_or (pt_not (pt_val (pe_call G_is_class hr_is_class (by rfl) H_is_class.gl H_is_class.kp b_is_class .nil pass0 (pa_cons (pv 3) pa_nil)))) (pw_or (pt_cmp (pc_din hu (pe_ix ix_tup (pv 3) pe_int (fun _ _ => rfl)) (pe_fldK (K := K) rfl (pv 0) (by rfl)))) (pw_or1 (pt_val (pe_meth (pv 0) T.c_Source T.m_Source_kinds_differ G_Source_kinds_differ hr_Source_kinds_differ b_Source_kinds_differ .nil pass0 (pa_cons (pe_ix ix_tup (pv 3) pe_int (fun _ _ => rfl)) pa_nil))))))) (pss_one ps_never) pss_nil)
      (pss_cons (ps_dput hu (pe_fldK (K := K) rfl (pv 0) (by rfl)) (pe_ix ix_tup (pv 3) pe_int (fun _ _ => rfl)) (pe_call G_frozen hr_frozen (by rfl) H_frozen.gl H_frozen.kp b_frozen .nil pass0 (pa_cons (pe_ix ix_tup (pv 3) pe_int (fun _ _ => rfl)) pa_nil)) rfl)
      (pss_one (ps_for PassesOwn.never rfl (pi_list (pe_ix ix_tup (pv 3) pe_int (fun _ _ => rfl))) (pg_tup rfl (pgs_cons (pg_name (i := 4) sc_Source_take_classes.nd rfl (Or.inl rfl)) (pgs_cons (pg_name (i := 5) sc_Source_take_classes.nd rfl (Or.inl rfl)) pgs_nil)))
      (pss_one (ps_dput hu (pe_fldK (K := K) rfl (pv 0) (by rfl)) (pv 4) (pv 5) rfl))))))))), ?_⟩
    have ne : ∀ {b : Addr} {u : HO}, H b = some u → (∀ z, u ≠ .dK z) → b ∉ [df, dk] := fun q n m => by
      rcases List.mem_cons.mp m with m | m
      · rw [m, S.d1] at q
        exact n _ (Option.some.inj q).symm
      · rw [List.mem_singleton.mp m, S.d2] at q
        exact n _ (Option.some.inj q).symm
    refine ⟨_, rfl, ca, _, 0, 6, rfl, hca, by simp, by simp, _, rfl, iteF ?_⟩
    refine ⟨_, rfl, ca, _, rfl, SqL.of hca, ?_⟩
    refine for_it (walk_enum (K := K) (a := ca) (xs := [V.ref e])) (fun i σ H1 => (i = 0 ∧ σ = [some (.ref p), some (.ref ca), none, none, none, none] ∧ H1 = H) ∨ (i = 1 ∧ Q .non H1 ∧ H1 ca = some (.lst [.ref e]))) (.inl ⟨rfl, rfl, rfl⟩) ?_ ?_ ?_
    · rintro i σ H1 _ (⟨_, _, rfl⟩ | ⟨_, _, h⟩)
      · exact SqL.of hca
      · exact SqL.of h
    · rintro i x σ H1 H2 hi (⟨rfl, rfl, rfl⟩ | ⟨rfl, _, _⟩) hy
      · obtain ⟨u, a, b, rfl, hu0, rfl, h1, h2⟩ := hy
        obtain rfl : V.int ((0 : Nat) : Int) = a := Option.some.inj h1
        obtain rfl : V.ref e = b := Option.some.inj h2
        have s1 : Same H1 (upd H1 u (.tup [.int ((0 : Nat) : Int), .ref e])) := Same.new hu0
        refine ⟨u, _, rfl, SqT.of upd_same, rfl, _, _, rfl, _, _, rfl, rfl, ?_⟩
        refine ⟨_, rfl, e, fa, C, ps, ns, rfl, s1 _ _ he, hC, s1 _ _ hfa, hp.mono s1, hN, hnd, hl, fun H3 s3 => ⟨_, rfl, iteF ?_⟩⟩
        have s13 := s1.trans s3
        have S3 := S.mono s13
        have he3 := s13 _ _ he
        refine ⟨_, rfl, _, _, _, _, rfl, rfl, SqT.of he3, at0, _, rfl, p, _, dx, fs, _, rfl, S3.ob, T.c_Source, T.n_Source_fields, S3.f1, df, none, rfl, DGet.k (k := Sum.inr C) S3.d1, _, rfl, iteF ?_⟩
        refine ⟨_, rfl, p, dx, fs, rfl, S3.ob, S3.nm _ (by decide +kernel), _, rfl, _, _, _, _, rfl, rfl, SqT.of he3, at1, ?_⟩
        refine ⟨p, fa, [], [], us, ps, ns, rfl, ⟨dx, df, dk, du, fs, S3⟩, s13 _ _ hfa, hp.mono s13, fun q _ => .inl rfl, by omega, fun H4 s4 => ⟨_, rfl, iteF ?_⟩⟩
        have s14 := s13.trans s4
        have he4 := s14 _ _ he
        refine ⟨_, rfl, _, _, _, _, rfl, rfl, SqT.of he4, at1, fa, ps, _, rfl, s14 _ _ hfa, pairFG (hp.mono s14), by rw [hp.len]; omega, fun q qs H5 s5 tq hq fq => ?_⟩
        have s15 := s14.trans s5
        have S5 := S.mono s15
        have he5 := s15 _ _ he
        refine ⟨_, rfl, p, _, dx, fs, _, rfl, S5.ob, T.c_Source, T.n_Source_fields, S5.f1, _, rfl, _, _, _, _, rfl, rfl, SqT.of he5, at0, df, _, rfl, DPut.k (k := Sum.inr C) S5.d1 (by show 0 < sizeLine; decide), ?_⟩
        have b6 : ButL [df, dk] H1 (upd H5 df (.dK (putK [] (Sum.inr C : Key) (.ref q)))) := fun b u q n => by
          rw [upd_ne (fun z => n (by rw [z]; exact List.mem_cons_self))]
          exact s15 _ _ q
        have hd6 : upd H5 df (.dK (putK [] (Sum.inr C : Key) (.ref q))) dk = some (.dK []) := by
          rw [upd_ne (Ne.symm hdd)]
          exact S5.d2
        have he6 := b6 _ _ he (ne he (by intro z w; cases w))
        have hfa6 := b6 _ _ hfa (ne hfa (by intro z w; cases w))
        refine ⟨_, rfl, _, _, _, _, rfl, rfl, SqT.of he6, at1, fa, rfl, ⟨_, SqL.of hfa6⟩, ?_⟩
        have ndf : ∀ HH : Hp, upd HH df (.dK (putK [] (Sum.inr C : Key) (.ref q))) df = some (.dK (putK [] (Sum.inr C : Key) (.ref q))) := fun HH => upd_same
        refine for_it (walk_list (K := K) (a := fa) (xs := ps.map V.ref)) (fun i σ H1' => ∃ v1 v2 : Option V, σ = [some (.ref p), some (.ref ca), some (.int ((0 : Nat) : Int)), some (.ref e), v1, v2] ∧ ButL [df, dk] H1 H1' ∧ H1' df = some (.dK [(Sum.inr C, .ref q)]) ∧ H1' dk = some (.dK (kvP (ns.take i)))) ⟨none, none, rfl, b6, upd_same, hd6⟩ (fun i σ H1' _ ⟨_, _, _, b7, _⟩ => SqL.of (b7 _ _ hfa (ne hfa (by intro z w; cases w)))) ?_ ?_
        · rintro i y σ H7 H8 hi ⟨v1, v2, rfl, b7, h7, k7⟩ ⟨rfl, hy⟩
          obtain ⟨p1, hp1, rfl⟩ := map_get hy
          have hin : i < ns.length := by
            rw [List.length_map, hp.len] at hi
            exact hi
          have hx : ns[i]? = some ns[i] := List.getElem?_eq_getElem hin
          have hpt := hp.at_ i p1 _ hp1 hx
          have hpt7 := b7 _ _ hpt (ne hpt (by intro z w; cases w))
          have ob7 := b7 _ _ S.ob (ne S.ob (by intro z w; cases w))
          have hnot : ns[i].1 ∉ (ns.take i).map Prod.fst := by
            have q1 : (ns.map Prod.fst)[i]? = some ns[i].1 := by
              rw [List.getElem?_map, hx]
              rfl
            have q2 := not_in_take hnd q1
            rw [List.map_take]
            exact q2
          refine ⟨p1, _, rfl, SqT.of hpt7, rfl, _, _, rfl, _, _, rfl, rfl, ?_⟩
          refine ⟨_, rfl, _, rfl, p, _, dx, fs, _, rfl, ob7, T.c_Source, T.n_Source_field_kinds, S.f2, _, rfl, dk, _, rfl, DPut.k (k := Sum.inr ns[i].1) k7 (small1000 (by unfold kvP; rw [List.length_map, List.length_take]; omega)), ?_⟩
          refine ⟨_, _, rfl, fun b u q n => ?_, ?_, ?_⟩
          · rw [upd_ne (fun z => n (by rw [z]; exact List.mem_cons_of_mem _ (List.mem_singleton_self _)))]
            exact b7 _ _ q n
          · rw [upd_ne hdd]
            exact h7
          · rw [upd_same, take_snoc hx]
            exact congrArg (fun l => some (HO.dK l)) (putK_kvP hnot)
        · rintro σ H7 ⟨v1, v2, rfl, b7, h7, k7⟩
          rw [List.length_map, hp.len, List.take_length] at k7
          exact .inr ⟨rfl, k H7 q b7 h7 k7, b7 _ _ hca (ne hca (by intro z w; cases w))⟩
      · exact absurd hi (by simp)
    · rintro σ H1 (⟨h, _⟩ | ⟨_, h, _⟩)
      · exact absurd h (by simp)
      · exact h

end
end W16
set_option Elab.async false
set_option linter.all false
set_option maxRecDepth 100000
set_option maxHeartbeats 4000000
namespace W16
open PySem PySem.Spec PyProof.Rows L2 RZ
section
variable {P : Program} {w : World} {K : PySem.W.Frag} {mg : Str → Option Value} {base : Heap}

/-- t + u of plain tuples, whichever is empty -/
def rCatPA : R2 := fun x y H Q => ∃ (a b : Addr) (xs ys : List V), x = .ref a ∧ y = .ref b ∧ TupP H a xs ∧ TupP H b ys ∧ xs.length + ys.length ≤ sizeLine ∧ ∀ (c : Addr) (H' : Hp), Same H H' → TupP H' c (xs ++ ys) → Q (.ref c) H'
theorem op_catPA {X : Cx} : OpR X (binaryOp .Add) rCatPA := by
  intro pins s σ H x y v u Q I rx ry h
  obtain ⟨a, b, xs, ys, rfl, rfl, ta, tb, hz, q⟩ := h
  have ha : SqT X.K H a xs := ta.sq
  have hb : SqT X.K H b ys := tb.sq
  cases rx
  cases ry
  obtain ⟨its, r1, p1, _⟩ := I.tuple ha
  obtain ⟨its2, r2, p2, _⟩ := I.tuple hb
  by_cases hx : xs = []
  · have e : its = [] := r1.nil_iff.mpr hx
    subst e
    refine cat_tup0 p1 p2 ⟨.ref b, H, I, rfl, q b H (Same.refl H) ?_⟩
    rw [hx]
    exact tb
  · refine HT.cat_tup p1 p2 (fun z => hx (r1.nil_iff.mp z)) (fun z => ⟨.ref a, H, I, rfl, q a H (Same.refl H) (by rw [r2.nil_iff.mp z, List.append_nil]; exact ta)⟩) (fun z => ?_) (by rw [← r1.length, ← r2.length]; exact hz)
    have hf := I.hok.fresh (Nat.le_refl s.heap.objs.size)
    refine ⟨.ref s.heap.objs.size, _, I.laid (t' := s.toks) (o := .frz { cls := .type "tuple", data := .seq (its ++ its2).toArray } (.tup (xs ++ ys))) (fun b ob q => Heap.get?_push_of_some _ q) (Nat.le_refl _) ?_, rfl, q _ _ (Same.new hf) ⟨_, upd_same, rfl, rfl⟩⟩
    exact ⟨Heap.get?_push_size _ rfl, by rw [List.length_append]; exact hz, _, r1.append r2, IsTup.new _ _⟩
theorem mergeK_kvP : ∀ (l2 l1 : List (Str × Str)), ((l1 ++ l2).map Prod.fst).Nodup → mergeK (kvP l1) (kvP l2) = kvP (l1 ++ l2)
  | [], l1, _ => by
    rw [List.append_nil]
    rfl
  | a :: r, l1, h => by
    have e : l1 ++ a :: r = (l1 ++ [a]) ++ r := by simp
    have h1 : a.1 ∉ l1.map Prod.fst := fun m => by
      rw [List.map_append, List.map_cons] at h
      have := List.nodup_append.mp h
      exact this.2.2 a.1 m a.1 (List.mem_cons_self) rfl
    show mergeK (putK (kvP l1) (Sum.inr a.1 : Key) (.str a.2)) (kvP r) = _
    rw [putK_kvP h1, e]
    exact mergeK_kvP r (l1 ++ [a]) (by rw [← e]; exact h)
theorem pairsG_paired {H : Hp} : ∀ {qs : List Addr} {ns : List (Str × Str)}, PairsG H qs ns → Paired (fun p (kv : Key × V) => SqT K H p [kV kv.1, kv.2]) qs (kvP ns)
  | [], [], _ => .nil
  | [], b :: ns, h => by have := h.len; simp at this
  | a :: qs, [], h => by have := h.len; simp at this
  | a :: qs, b :: ns, h => .cons (SqT.of (h.at_ 0 a b rfl rfl)) (pairsG_paired (qs := qs) (ns := ns) ⟨by have := h.len; simpa using this, fun i p x e1 e2 => h.at_ (i + 1) p x (by simpa using e1) (by simpa using e2)⟩)
theorem But.tupP {p a C dx : Addr} {fs : List (Str × V)} {H H' : Hp} {xs : List V} (b : But p H H') (hp : H p = some (.ins C dx fs)) (h : TupP H a xs) : TupP H' a xs := by
  obtain ⟨o, e, q⟩ := h
  exact ⟨o, b _ _ e (ne_of e hp (by intro z; cases z)), q⟩
theorem But.pairsG {p C dx : Addr} {fs : List (Str × V)} {H H' : Hp} {as : List Addr} {xs : List (Str × Str)} (b : But p H H') (hp : H p = some (.ins C dx fs)) (h : PairsG H as xs) : PairsG H' as xs :=
  ⟨h.len, fun i q x e1 e2 => b _ _ (h.at_ i q x e1 e2) (ne_of (h.at_ i q x e1 e2) hp (by intro z; cases z))⟩
theorem putF_le (f : Str) (v : V) : ∀ fs : List (Str × V), (putF f v fs).length ≤ fs.length + 1
  | [] => Nat.le_refl _
  | (g, u) :: r => by
    show (if g = f then (g, v) :: r else (g, u) :: putF f v r).length ≤ _
    split
    · simp
    · rw [List.length_cons, List.length_cons]
      have := putF_le f v r
      omega
theorem pl1 {f : Str} {v : V} {fs : List (Str × V)} {n : Nat} (h : fs.length ≤ n) : (putF f v fs).length ≤ n + 1 := Nat.le_trans (putF_le f v fs) (Nat.succ_le_succ h)
theorem pf0 : ([] : List (Str × V)).length ≤ 0 := Nat.le_refl _
theorem few {fs : List (Str × V)} {n : Nat} (h : fs.length ≤ n) (hn : n < 900 := by decide) : fs.length < 1000 := by omega
theorem few8 {fs : List (Str × V)} {n : Nat} (h : fs.length ≤ n) (hn : n ≤ 900 := by decide) : fs.length ≤ 900 := by omega
/-- a Function, all but its rows -/
structure FunG (K : PySem.W.Frag) (H : Hp) (p dx pa va : Addr) (fs : List (Str × V)) (ps : List Addr) (ns ms : List (Str × Str)) (res : Str) : Prop where
  ob : H p = some (.ins (He.ga K "Function") dx fs)
  f1 : fs.lookup ("params" : Str) = some (.ref pa)
  f2 : fs.lookup ("result" : Str) = some (.str res)
  f3 : fs.lookup ("variables" : Str) = some (.ref va)
  nohas : fs.lookup ("has_row" : Str) = none ∧ fs.lookup ("called_at" : Str) = none
  few : fs.length ≤ 900
  d1 : TupP H pa (ps.map V.ref)
  pr : PairsG H ps ns
  vd : H va = some (.dK (kvP (ns ++ ms)))
theorem FunG.mono {H H' : Hp} {p dx pa va : Addr} {fs : List (Str × V)} {ps : List Addr} {ns ms : List (Str × Str)} {res : Str} (h : FunG K H p dx pa va fs ps ns ms res) (e : Same H H') : FunG K H' p dx pa va fs ps ns ms res :=
  ⟨e _ _ h.ob, h.f1, h.f2, h.f3, h.nohas, h.few, h.d1.mono e, h.pr.mono e, e _ _ h.vd⟩
def spFnInitG (K : PySem.W.Frag) : Sp := fun vs H Q _ => ∃ (p dx pa oa : Addr) (nm res : Str) (ps qs : List Addr) (ns ms : List (Str × Str)), vs = [.ref p, .str nm, .ref pa, .ref oa, .str res] ∧ H p = some (.ins (He.ga K "Function") dx []) ∧
  H pa = some (.lst (ps.map V.ref)) ∧ PairsG H ps ns ∧ H oa = some (.lst (qs.map V.ref)) ∧ PairsG H qs ms ∧ ((ns ++ ms).map Prod.fst).Nodup ∧ ns.length ≤ 4 ∧ ms.length ≤ 8 ∧
  ∀ (H' : Hp) (ta va : Addr) (fs : List (Str × V)) (ps' : List Addr), But p H H' → FunG K H' p dx ta va fs ps' ns ms res → H va = none → Q .non H' 
theorem sc_Function_init : FnScope ["self", "name", "params", "others", "result"] ["self", "name", "params", "others", "result"] (defScope s_Function_init) := ⟨rfl, rfl, rfl, by decide +kernel, rfl, by decide +kernel, by decide +kernel⟩
theorem ok_Function_init (T : Ctx w K mg) (H_frozen : Has P w K mg base 3 "frozen" ["thing"] spFz2) : HasM P w K mg base 4 "Function" "__init__" ["self", "name", "params", "others", "result"] (spFnInitG K) := by
  obtain ⟨fd, F⟩ := T.D_Function_init
  obtain ⟨fd_frozen, G_frozen, b_frozen⟩ := H_frozen.ex
  refine ⟨⟨fd, F.ok sc_Function_init (fun vs H Q E h => ?_) (fun cdv A outer s H vs Q E hr h => ?_), F.bindsN fun _ _ _ _ _ _ us hl => match us, hl with | [_, _, _, _, _], _ => rfl⟩⟩
  · obtain ⟨p, dx, pa, oa, nm, res, ps, qs, ns, ms, rfl, hp, hpa, hp1, hoa, hp2, hnd, l1, l2, k⟩ := h; rfl
  · obtain ⟨p, dx, pa, oa, nm, res, ps, qs, ns, ms, rfl, hp, hpa, hp1, hoa, hp2, hnd, l1, l2, k⟩ := h
    have hr_frozen : Room 3 _ := hr.mono (by decide)
    have hu := hu_of hr
    refine ⟨_, PSs.nox (pss_cons (ps_fld (pv 0) (pv 1) rfl)
      (pss_cons (ps_fld (pv 0) (pe_call G_frozen hr_frozen (by rfl) H_frozen.gl H_frozen.kp b_frozen .nil pass0 (pa_cons (pv 2) pa_nil)) rfl)
      (pss_cons (ps_fld (pv 0) (pe_call G_frozen hr_frozen (by rfl) H_frozen.gl H_frozen.kp b_frozen .nil pass0 (pa_cons (pv 3) pa_nil)) rfl)
      (pss_cons (ps_fld (pv 0) (pv 4) rfl)
      (pss_cons (ps_fld (pv 0) (pe_callTy (call_dictT rfl) (by rfl) T.f_dict (by decide +kernel) (pa_cons (pe_op op_catPA (pe_fldK (K := K) rfl (pv 0) (by rfl)) (pe_fldK (K := K) rfl (pv 0) (by rfl))) pa_nil)) rfl)
      (pss_one (ps_fld (pv 0) (pe_tup pa_nil) rfl))))))), ?_⟩
    have npa : pa ≠ p := ne_of hpa hp (by intro z; cases z)
    have noa : oa ≠ p := ne_of hoa hp (by intro z; cases z)
    have hl1 : ps.length = ns.length := hp1.len
    have hl2 : qs.length = ms.length := hp2.len
    refine ⟨_, rfl, _, rfl, p, _, dx, _, rfl, hp, T.c_Function, T.n_Function_name, few pf0, ?_⟩
    have b1 : But p H (upd H p (.ins (He.ga K "Function") dx (putF "name" (.str nm) []))) := But.upd
    refine ⟨_, rfl, pa, ps, _, rfl, b1 _ _ hpa npa, pairFG (b1.pairsG hp hp1), by omega, fun q1 qs1 H2 s2 t1 h1 f1 => ?_⟩
    refine ⟨_, rfl, p, _, dx, _, rfl, s2 _ _ upd_same, T.c_Function, T.n_Function_params, few (pl1 pf0), ?_⟩
    have b2 : But p H H2 := b1.trans (But.of s2)
    have hp2' := s2 _ _ (upd_same (H := H) (a := p))
    have b3 : But p H2 (upd H2 p (.ins (He.ga K "Function") dx (putF "params" (.ref q1) (putF "name" (.str nm) [])))) := But.upd
    have b13 := b2.trans b3
    refine ⟨_, rfl, oa, qs, _, rfl, b13 _ _ hoa noa, pairFG (b13.pairsG hp hp2), by omega, fun q2 qs2 H4 s4 t2 h2 f2 => ?_⟩
    refine ⟨_, rfl, p, _, dx, _, rfl, s4 _ _ upd_same, T.c_Function, T.n_Function_others, few (pl1 (pl1 pf0)), ?_⟩
    have hp4 := s4 _ _ (upd_same (H := H2) (a := p))
    have b4 : But p H2 H4 := b3.trans (But.of s4)
    refine ⟨_, rfl, _, rfl, p, _, dx, _, rfl, upd_same, T.c_Function, T.n_Function_result, few (pl1 (pl1 (pl1 pf0))), ?_⟩
    refine ⟨_, rfl, p, _, dx, _, _, rfl, upd_same, T.c_Function, T.n_Function_params, rfl, _, rfl, p, _, dx, _, _, rfl, upd_same, T.c_Function, T.n_Function_others, rfl, ?_⟩
    refine ⟨q1, q2, _, _, rfl, rfl, But.tupP (b4.trans (But.upd.trans But.upd)) hp2' t1, But.tupP (But.upd.trans But.upd) hp4 t2, by rw [List.length_map, List.length_map]; exact sz_of (by omega), fun c H6 s6 tc => ?_⟩
    have t6 : TupP H6 q1 (qs1.map V.ref) := But.tupP ((b4.trans (But.upd.trans But.upd)).trans (But.of s6)) hp2' t1
    have pq1 : PairsG H6 qs1 ns := But.pairsG ((b4.trans (But.upd.trans But.upd)).trans (But.of s6)) hp2' (fPairG (h1.trans hl1) f1)
    have pq2 : PairsG H6 qs2 ms := But.pairsG ((But.upd.trans But.upd).trans (But.of s6)) hp4 (fPairG (h2.trans hl2) f2)
    refine ⟨c, qs1 ++ qs2, kvP (ns ++ ms), rfl, (by rw [List.map_append]; exact tc), pairsG_paired (pq1.append pq2), fun d hd => ?_⟩
    have hp6 := s6 p _ upd_same
    refine ⟨_, rfl, p, _, dx, _, rfl, Same.new hd _ _ hp6, T.c_Function, T.n_Function_variables, few (pl1 (pl1 (pl1 (pl1 pf0)))), ?_⟩
    refine ⟨sz_of (by decide), fun t ht => ?_⟩
    refine ⟨_, rfl, p, _, dx, _, rfl, Same.new ht _ _ upd_same, T.c_Function, T.n_Function_body, few (pl1 (pl1 (pl1 (pl1 (pl1 pf0))))), ?_⟩
    have ndp : d ≠ p := (ne_of_none hp6 hd).symm
    have ndt : d ≠ t := fun z => by
      rw [← z, upd_ne ndp, upd_same] at ht
      cases ht
    have b6 : But p H H6 := b2.trans (b4.trans ((But.upd.trans But.upd).trans (But.of s6)))
    have hq1p : q1 ≠ p := by
      obtain ⟨oo, e, _⟩ := t1
      exact ne_of e hp2' (by intro z; cases z)
    have dnone : H d = none := by
      cases z : H d with
      | none => rfl
      | some u => exact absurd (b6 _ _ z ndp) (by rw [hd]; intro z; cases z)
    refine k _ q1 d _ qs1 (b6.trans ((But.of (Same.new hd)).trans (But.upd.trans ((But.of (Same.new ht)).trans But.upd)))) ⟨upd_same, rfl, rfl, rfl, ⟨rfl, rfl⟩, few8 (pl1 (pl1 (pl1 (pl1 (pl1 (pl1 pf0)))))), But.tupP ((But.of (Same.new hd)).trans (But.upd.trans ((But.of (Same.new ht)).trans But.upd))) hp6 t6, But.pairsG ((But.of (Same.new hd)).trans (But.upd.trans ((But.of (Same.new ht)).trans But.upd))) hp6 pq1, ?_⟩ dnone
    · rw [upd_ne ndp, upd_ne ndt, upd_ne ndp, upd_same]
      exact congrArg (fun l => some (HO.dK l)) (mergeK_kvP _ [] hnd)

end
end W16
set_option Elab.async false
set_option linter.all false
set_option maxRecDepth 100000
set_option maxHeartbeats 4000000
namespace W16
open PySem PySem.Spec PyProof.Rows L2 RZ
section
variable {P : Program} {w : World} {K : PySem.W.Frag} {mg : Str → Option Value} {base : Heap}

/-- a function, as plain data -/
structure FdT where
  nm : Str
  res : Str
  ns : List (Str × Str)
  ms : List (Str × Str)
  rws : List Rx
/-- tuples and lists stay -/
def KeepTL (H H' : Hp) : Prop := (∀ b xs, H b = some (.tup xs) → H' b = some (.tup xs)) ∧ ∀ b xs, H b = some (.lst xs) → H' b = some (.lst xs)
theorem KeepTL.of {H H' : Hp} (e : Same H H') : KeepTL H H' := ⟨fun b xs h => e _ _ h, fun b xs h => e _ _ h⟩
theorem KeepTL.butD {H H' : Hp} {d : Addr} {ks : List (Key × V)} (hd : H d = some (.dK ks)) (b : ButL [d] H H') : KeepTL H H' :=
  ⟨fun a xs h => b _ _ h (fun m => by rw [List.mem_singleton.mp m, hd] at h; cases h), fun a xs h => b _ _ h (fun m => by rw [List.mem_singleton.mp m, hd] at h; cases h)⟩
theorem PairsG.keep {H H' : Hp} {ps : List Addr} {qs : List (Str × Str)} (h : PairsG H ps qs) (e : KeepTL H H') : PairsG H' ps qs := ⟨h.len, fun i p x a b => e.1 _ _ (h.at_ i p x a b)⟩
theorem EntryG.keep {H H' : Hp} {e pa oa ra : Addr} {nm res : Str} {ps qs : List Addr} {ns ms : List (Str × Str)} {rs : List V} (h : EntryG H e pa oa ra nm res ps qs ns ms rs) (k : KeepTL H H') : EntryG H' e pa oa ra nm res ps qs ns ms rs :=
  ⟨k.1 _ _ h.he, h.nf, h.kd, k.2 _ _ h.hpa, h.p1.keep k, k.2 _ _ h.hoa, h.p2.keep k, h.nam, h.nd, h.l1, h.l2, k.2 _ _ h.hra, h.l3, h.l4⟩
def EntryAt (H : Hp) (e : Addr) (f : FdT) : Prop := ∃ (pa oa ra : Addr) (ps qs : List Addr) (rs : List V), EntryG H e pa oa ra f.nm f.res ps qs f.ns f.ms rs
theorem EntryAt.keep {H H' : Hp} {e : Addr} {f : FdT} (h : EntryAt H e f) (k : KeepTL H H') : EntryAt H' e f := by
  obtain ⟨pa, oa, ra, ps, qs, rs, q⟩ := h
  exact ⟨pa, oa, ra, ps, qs, rs, q.keep k⟩
def usOf (fds : List FdT) (fps : List Addr) : List (Key × V) := (fds.zip fps).map fun q => (Sum.inr q.1.nm, V.ref q.2)
theorem valV_new {k : Key} : ∀ {l : List (Key × V)}, (∀ q ∈ l, q.1 ≠ k) → valV l k = none
  | [], _ => rfl
  | a :: l, h => by
    have ih := valV_new (k := k) (l := l) fun q m => h q (List.mem_cons_of_mem _ m)
    unfold valV at ih ⊢
    rw [List.find?_cons_of_neg (by simpa using h a List.mem_cons_self)]
    exact ih
theorem us_ne {fds : List FdT} {fps : List Addr} {i : Nat} {f : FdT} (nd : (fds.map FdT.nm).Nodup) (h : fds[i]? = some f) : ∀ q ∈ usOf (fds.take i) fps, q.1 ≠ (Sum.inr f.nm : Key) := by
  intro q m e
  unfold usOf at m
  obtain ⟨r, mr, rfl⟩ := List.mem_map.mp m
  have m1 := (List.of_mem_zip mr).1
  have e1 : r.1.nm = f.nm := Sum.inr.inj e
  have q1 : (fds.map FdT.nm)[i]? = some f.nm := by
    rw [List.getElem?_map, h]
    rfl
  refine not_in_take nd q1 ?_
  rw [← List.map_take, ← e1]
  exact List.mem_map.mpr ⟨r.1, m1, rfl⟩
theorem us_snoc {fds : List FdT} {fps : List Addr} {i : Nat} {f : FdT} {x : Addr} (h : fds[i]? = some f) (hl : fps.length = i) : usOf (fds.take (i + 1)) (fps ++ [x]) = usOf (fds.take i) fps ++ [(Sum.inr f.nm, V.ref x)] := by
  unfold usOf
  rw [take_snoc h, List.zip_append (by
    rw [List.length_take, hl]
    have := (List.getElem?_eq_some_iff.mp h).1
    omega), List.map_append]
  rfl
theorem us_at {fds : List FdT} {fps : List Addr} {i : Nat} {f : FdT} {x : Addr} (nd : (fds.map FdT.nm).Nodup) (h : fds[i]? = some f) (hx : fps[i]? = some x) : valV (usOf fds fps) (Sum.inr f.nm : Key) = some (.ref x) := by
  induction fds generalizing fps i with
  | nil => simp at h
  | cons a l ih =>
    cases fps with
    | nil => simp at hx
    | cons y fps =>
      obtain ⟨n1, n2⟩ := List.nodup_cons.mp (show (a.nm :: l.map FdT.nm).Nodup from nd)
      cases i with
      | zero =>
        have e1 : a = f := Option.some.inj h
        have e2 : y = x := Option.some.inj hx
        unfold usOf valV
        rw [List.zip_cons_cons, List.map_cons, List.find?_cons_of_pos (by simp [e1]), e2]
        rfl
      | succ i =>
        have h' : l[i]? = some f := by simpa using h
        have hx' : fps[i]? = some x := by simpa using hx
        have k := ih n2 h' hx'
        have c : ¬ a.nm = f.nm := fun z => n1 (by rw [z]; exact List.mem_map.mpr ⟨f, List.mem_of_getElem? h', rfl⟩)
        unfold usOf valV at k ⊢
        rw [List.zip_cons_cons, List.map_cons, List.find?_cons_of_neg (by simpa using c)]
        exact k
/-- the functions made, all but their rows -/
def Heads (K : PySem.W.Frag) (H : Hp) (du : Addr) (fds : List FdT) (fps : List Addr) : Prop := ∀ (j : Nat) (f : FdT) (a : Addr), fds[j]? = some f → fps[j]? = some a → ∃ (dx pa va : Addr) (fs : List (Str × V)) (ps : List Addr), va ≠ du ∧ FunG K H a dx pa va fs ps f.ns f.ms f.res
theorem FunG.butD {H H' : Hp} {d : Addr} {ks : List (Key × V)} {p dx pa va : Addr} {fs : List (Str × V)} {ps : List Addr} {ns ms : List (Str × Str)} {res : Str} (h : FunG K H p dx pa va fs ps ns ms res) (hd : H d = some (.dK ks)) (hv : va ≠ d) (b : ButL [d] H H') : FunG K H' p dx pa va fs ps ns ms res := by
  have n : ∀ {a : Addr} {u : HO}, H a = some u → a ≠ d → H' a = some u := fun q z => b _ _ q fun m => z (List.mem_singleton.mp m)
  obtain ⟨o, e, pl⟩ := h.d1
  exact ⟨n h.ob (ne_of h.ob hd (by intro z; cases z)), h.f1, h.f2, h.f3, h.nohas, h.few, ⟨o, n e (ne_of e hd (by intro z; cases z)), pl⟩, h.pr.keep (.butD hd b), n h.vd hv⟩
def spTakeHG (K : PySem.W.Frag) : Sp := fun vs H Q _ => ∃ (p dx df dk du fa : Addr) (fs : List (Str × V)) (cs ks : List (Key × V)) (es : List Addr) (fds : List FdT), vs = [.ref p, .ref fa] ∧ SrcG K H p dx df dk du fs cs ks [] ∧ H fa = some (.lst (es.map V.ref)) ∧ es.length = fds.length ∧ (∀ (i : Nat) e f, es[i]? = some e → fds[i]? = some f → EntryAt H e f) ∧ (fds.map FdT.nm).Nodup ∧ 1 ≤ fds.length ∧ fds.length ≤ 6 ∧
  ∀ (H' : Hp) (fps : List Addr), ButL [du] H H' → fps.length = fds.length → Heads K H' du fds fps → (∀ a ∈ fps, H a = none) → fps.Nodup → H' du = some (.dK (usOf fds fps)) → Q .non H' 
theorem sc_Source_take_heads : FnScope ["self", "functions", "k", "entry"] ["self", "functions"] (defScope s_Source_take_heads) := ⟨rfl, rfl, rfl, by decide +kernel, rfl, by decide +kernel, by decide +kernel⟩
theorem ok_Source_take_heads (T : Ctx w K mg) (H_is_list_of : Has P w K mg base 1 "is_list_of" ["thing", "least", "most"] spListOf) (H_is_head : Has P w K mg base 3 "_is_head" ["entry"] spHeadG) (H_Function_init : HasM P w K mg base 4 "Function" "__init__" ["self", "name", "params", "others", "result"] (spFnInitG K)) : HasM P w K mg base 6 "Source" "_take_heads" ["self", "functions"] (spTakeHG K) := by
  obtain ⟨fd, F⟩ := T.D_Source_take_heads
  obtain ⟨fd_is_list_of, G_is_list_of, b_is_list_of⟩ := H_is_list_of.ex
  obtain ⟨fd_is_head, G_is_head, b_is_head⟩ := H_is_head.ex
  obtain ⟨fd_Function_init, G_Function_init, b_Function_init⟩ := H_Function_init.ex
  refine ⟨⟨fd, F.ok sc_Source_take_heads (fun vs H Q E h => ?_) (fun cdv A outer s H vs Q E hr h => ?_), F.bindsN fun _ _ _ _ _ _ us hl => match us, hl with | [_, _], _ => rfl⟩⟩
  · obtain ⟨p, dx, df, dk, du, fa, fs, cs, ks, es, fds, rfl, S, hfa, hel, hE, hN, hl1, hl6, k⟩ := h; rfl
  · obtain ⟨p, dx, df, dk, du, fa, fs, cs, ks, es, fds, rfl, S, hfa, hel, hE, hN, hl1, hl6, k⟩ := h
    have hr_is_list_of : Room 1 _ := hr.mono (by decide)
    have hr_is_head : Room 3 _ := hr.mono (by decide)
    have hr_Function_init : Room 5 _ := hr.mono (by decide)
    have hu := hu_of hr
    obtain ⟨t_c, e_MOST_FUNCTIONS⟩ := T.i_MOST_FUNCTIONS
    refine ⟨_, PSs.nox (pss_cons (ps_if (pt_not (pt_val (pe_call G_is_list_of hr_is_list_of (by rfl) H_is_list_of.gl H_is_list_of.kp b_is_list_of .nil pass0 (pa_cons (pv 1) (pa_cons pe_int (pa_cons (pe_glob (v := .int 6) rfl e_MOST_FUNCTIONS ⟨_, rfl⟩) pa_nil)))))) (pss_one ps_never) pss_nil)
      (pss_one (ps_for PassesOwn.never rfl (pi_enum (by rfl) T.f_enumerate (pa_cons (pv 1) pa_nil)) (pg_tup rfl (pgs_cons (pg_name (i := 2) sc_Source_take_heads.nd rfl (Or.inl rfl)) (pgs_cons (pg_name (i := 3) sc_Source_take_heads.nd rfl (Or.inl rfl)) pgs_nil)))
      (pss_cons (ps_if (PW.pt (pw_or (pt_not (pt_val (pe_call G_is_head hr_is_head (by rfl) H_is_head.gl H_is_head.kp b_is_head .nil pass0 (pa_cons (pv 3) pa_nil)))) (pw_or1 (pt_cmp (pc_din hu (pe_ix ix_tup (pv 3) pe_int (fun _ _ => rfl)) (pe_fldK (K := K) rfl (pv 0) (by rfl))))))) (pss_one ps_never) pss_nil)
      (pss_one (ps_dput hu (pe_fldK (K := K) rfl (pv 0) (by rfl)) (pe_ix ix_tup (pv 3) pe_int (fun _ _ => rfl)) (pe_make T.k_Function G_Function_init hr_Function_init rfl T.g_Function b_Function_init .nil pass0 (pa_cons (pe_ix ix_tup (pv 3) pe_int (fun _ _ => rfl)) (pa_cons (pe_ix ix_tup (pv 3) pe_int (fun _ _ => rfl)) (pa_cons (pe_ix ix_tup (pv 3) pe_int (fun _ _ => rfl)) (pa_cons (pe_ix ix_tup (pv 3) pe_int (fun _ _ => rfl)) pa_nil))))) rfl)))))), ?_⟩
    have hlr : (es.map V.ref).length = fds.length := by rw [List.length_map, hel]
    have nd : ∀ {b : Addr} {u : HO}, H b = some u → (∀ z, u ≠ .dK z) → b ∉ [du] := fun q n m => by
      rw [List.mem_singleton.mp m, S.d3] at q
      exact n _ (Option.some.inj q).symm
    refine ⟨_, rfl, fa, _, 1, 6, rfl, hfa, by omega, by omega, _, rfl, iteF ?_⟩
    refine ⟨_, rfl, fa, _, rfl, SqL.of hfa, ?_⟩
    refine for_it (walk_enum (K := K) (a := fa) (xs := es.map V.ref)) (fun i σ H1 => ∃ v1 v2 : Option V, σ = [some (.ref p), some (.ref fa), v1, v2] ∧ ButL [du] H H1 ∧ ∃ fps : List Addr, fps.length = i ∧ H1 du = some (.dK (usOf (fds.take i) fps)) ∧ Heads K H1 du (fds.take i) fps ∧ (∀ a ∈ fps, H a = none ∧ ∃ u, H1 a = some u) ∧ fps.Nodup) ⟨none, none, rfl, fun b u q _ => q, [], rfl, S.d3, fun j f a e _ => by simp at e, (fun a m => by cases m), List.nodup_nil⟩ (fun i σ H1 _ ⟨_, _, _, b1, _⟩ => SqL.of (b1 _ _ hfa (nd hfa (by intro z w; cases w)))) ?_ ?_
    · rintro i y σ H1 H2 hi ⟨v1, v2, rfl, b1, fps, fl, h1d, hH, hfr, hnd⟩ ⟨u, a, b, rfl, hu0, rfl, h1, h2⟩
      have h2 : (es.map V.ref)[i]? = some b := h2
      obtain rfl : V.int (i : Nat) = a := Option.some.inj h1
      obtain ⟨e, hc, rfl⟩ := map_get h2
      have hif : i < fds.length := by rw [hlr] at hi; exact hi
      have hf : fds[i]? = some fds[i] := List.getElem?_eq_getElem hif
      obtain ⟨pa, oa, ra, ps, qs, rs, E0⟩ := hE i e _ hc hf
      have E1 := E0.keep (.butD S.d3 b1)
      have s1 : Same H1 (upd H1 u (.tup [.int (i : Nat), .ref e])) := Same.new hu0
      refine ⟨u, _, rfl, SqT.of upd_same, rfl, _, _, rfl, _, _, rfl, rfl, ?_⟩
      have A1 := E1.keep (.of s1)
      refine ⟨_, rfl, e, pa, oa, ra, fds[i].nm, fds[i].res, ps, qs, fds[i].ns, fds[i].ms, rs, rfl, A1, fun H3 s3 => ⟨_, rfl, iteF ?_⟩⟩
      have s13 := s1.trans s3
      have A3 := E1.keep (.of s13)
      have hp1 := b1 _ _ S.ob (nd S.ob (by intro z w; cases w))
      have ob3 := s13 _ _ hp1
      have d3 := s13 _ _ h1d
      refine ⟨_, rfl, _, _, _, _, rfl, rfl, SqT.of A3.he, at0, _, rfl, p, _, dx, fs, _, rfl, ob3, T.c_Source, T.n_Source_functions, S.f3, du, none, rfl, ?_, _, rfl, iteF ?_⟩
      · have q := DGet.k (k := Sum.inr fds[i].nm) d3
        rw [valV_new (us_ne hN hf)] at q
        exact q
      -- Function(..)
      refine ⟨_, rfl, _, _, _, _, rfl, rfl, SqT.of A3.he, at0, _, rfl, _, _, _, _, rfl, rfl, SqT.of A3.he, at1, _, rfl, _, _, _, _, rfl, rfl, SqT.of A3.he, at2, _, rfl, _, _, _, _, rfl, rfl, SqT.of A3.he, at3, fun x dy nx ny nxy => ?_⟩
      have s4 : Same H3 (upd (upd H3 dy (.own x)) x (.ins (He.ga K "Function") dy [])) := (Same.new ny).trans (Same.new (by rw [upd_ne nxy.symm]; exact nx))
      have A4 := A3.keep (.of s4)
      refine ⟨x, dy, pa, oa, fds[i].nm, fds[i].res, ps, qs, fds[i].ns, fds[i].ms, rfl, upd_same, A4.hpa, A4.p1, A4.hoa, A4.p2, A4.nd, A4.l1, A4.l2, fun H5 ta va gs ps' b5 F5 hva => ⟨rfl, ?_⟩⟩
      have s15 : Same H1 H5 := fun b o q => b5 b o (s4 _ _ (s13 _ _ q)) (ne_of_none (s13 _ _ q) nx)
      have A5 := E1.keep (.of s15)
      have d5 := s15 _ _ h1d
      have vne : va ≠ du := fun z => by
        rw [z, s4 _ _ d3] at hva
        cases hva
      have nxf : x ≠ du := fun z => by
        rw [z, d3] at nx
        cases nx
      refine ⟨_, rfl, p, _, dx, fs, _, rfl, s15 _ _ hp1, T.c_Source, T.n_Source_functions, S.f3, _, rfl, _, _, _, _, rfl, rfl, SqT.of A5.he, at0, du, _, rfl, DPut.k (k := Sum.inr fds[i].nm) d5 ?_, ?_⟩
      · unfold usOf
        rw [List.length_map, List.length_zip, fl]
        exact sz_lt (by omega)
      have b6 : ButL [du] H5 (upd H5 du (.dK (putK (usOf (fds.take i) fps) (Sum.inr fds[i].nm : Key) (.ref x)))) := fun b u q n => by
        rw [upd_ne (fun z => n (by rw [z]; exact List.mem_singleton_self _))]
        exact q
      refine ⟨_, _, rfl, fun b u q n => b6 _ _ (s15 _ _ (b1 _ _ q n)) n, fps ++ [x], by rw [List.length_append, fl]; rfl, ?_, ?_, ?_, ?_⟩
      · rw [upd_same, us_snoc hf fl, putK_new (us_ne hN hf)]
      · intro j f a e1 e2
        by_cases hj : j < i
        · rw [List.getElem?_append_left (by omega)] at e2
          rw [List.getElem?_take, if_pos (by omega)] at e1
          obtain ⟨dx', pa', va', fs', ps'', vn', F⟩ := hH j f a (by rw [List.getElem?_take, if_pos hj]; exact e1) e2
          exact ⟨dx', pa', va', fs', ps'', vn', (F.mono s15).butD d5 vn' b6⟩
        · by_cases hj2 : j = i
          · subst hj2
            rw [List.getElem?_append_right (by omega), fl, Nat.sub_self] at e2
            have e3 : x = a := Option.some.inj e2
            rw [List.getElem?_take, if_pos (by omega), hf] at e1
            have e4 : fds[j] = f := Option.some.inj e1
            rw [← e3, ← e4]
            exact ⟨dy, ta, va, gs, ps', vne, F5.butD d5 vne b6⟩
          · rw [List.getElem?_append_right (by omega)] at e2
            have := (List.getElem?_eq_some_iff.mp e2).1
            rw [List.length_singleton] at this
            omega
      · intro a m
        rcases List.mem_append.mp m with m | m
        · obtain ⟨q1, u', q2⟩ := hfr a m
          by_cases z : a = du
          · exact ⟨q1, by rw [z]; exact ⟨_, upd_same⟩⟩
          · exact ⟨q1, u', b6 _ _ (s15 _ _ q2) (fun w => z (List.mem_singleton.mp w))⟩
        · rw [List.mem_singleton.mp m]
          refine ⟨?_, _, b6 _ _ F5.ob (fun w => nxf (List.mem_singleton.mp w))⟩
          cases z : H x with
          | none => rfl
          | some o =>
            have := s13 _ _ (b1 _ _ z (fun w => nxf (List.mem_singleton.mp w)))
            rw [nx] at this
            cases this
      · refine List.nodup_append.mpr ⟨hnd, List.nodup_cons.mpr ⟨by simp, List.nodup_nil⟩, fun a ma b mb z => ?_⟩
        rw [List.mem_singleton.mp mb] at z
        obtain ⟨_, u', q2⟩ := hfr a ma
        have := s13 _ _ q2
        rw [z, nx] at this
        cases this
    · rintro σ H1 ⟨v1, v2, rfl, b1, fps, fl, h1d, hH, hfr, hnd⟩
      rw [hlr] at fl
      rw [hlr, List.take_length] at h1d hH
      exact k H1 fps b1 fl hH (fun a m => (hfr a m).1) hnd h1d

end
end W16
set_option Elab.async false
set_option linter.all false
set_option maxRecDepth 100000
set_option maxHeartbeats 4000000
namespace W16
open PySem PySem.Spec PyProof.Rows L2 RZ
section
variable {P : Program} {w : World} {K : PySem.W.Frag} {mg : Str → Option Value} {base : Heap}

/-- a variable of a function with its kind -/
def KO (f : FdT) (x q : Str) : Prop := (x, q) ∈ f.ns ++ f.ms
/-- a row that fits a function of a source -/
def RowOk (cls : Str) (flds : List (Str × Str)) (fds : List FdT) (f : FdT) : Rx → Prop
  | .num x n => KO f x "number" ∧ -1000000000 ≤ n ∧ n ≤ 1000000000
  | .nil x => KO f x "object"
  | .copy x y => ∃ q, KO f x q ∧ KO f y q
  | .bin _ x y z => KO f x "number" ∧ KO f y "number" ∧ KO f z "number"
  | .same x y z => ∃ q, KO f x "number" ∧ KO f y q ∧ KO f z q
  | .new x c => KO f x "object" ∧ c = cls
  | .get x y g => ∃ q, KO f y "object" ∧ KO f x q ∧ (g, q) ∈ flds
  | .put x g y => ∃ q, KO f x "object" ∧ KO f y q ∧ (g, q) ∈ flds
  | .call x F as => ∃ (j : Nat) (g : FdT), fds[j]? = some g ∧ g.nm = F ∧ as.length = g.ns.length ∧ (∀ (i : Nat) y q, as[i]? = some y → g.ns[i]? = some q → KO f y q.2) ∧ KO f x g.res
  | .see x => ∃ q, KO f x q
  | .ifz x _ => KO f x "number"
  | .jump _ => True
  | .ret x => KO f x f.res
structure FdOk (cls : Str) (flds : List (Str × Str)) (fds : List FdT) (f : FdT) : Prop where
  nf : Nam f.nm
  kd : IsKind f.res
  nam : ∀ q ∈ f.ns ++ f.ms, Nam q.1 ∧ IsKind q.2
  nd : ((f.ns ++ f.ms).map Prod.fst).Nodup
  l1 : f.ns.length ≤ 4
  l2 : f.ms.length ≤ 8
  rows : ∀ r ∈ f.rws, RowOk cls flds fds f r
  ok : OkG f.rws
theorem FdOk.kind {cls : Str} {flds : List (Str × Str)} {fds : List FdT} {f : FdT} (h : FdOk cls flds fds f) {x q : Str} (m : KO f x q) : KindOf (kvP (f.ns ++ f.ms)) x q := valV_kvP_in (q := (x, q)) h.nd m
theorem FdOk.name {cls : Str} {flds : List (Str × Str)} {fds : List FdT} {f : FdT} (h : FdOk cls flds fds f) {x q : Str} (m : KO f x q) : Nam x := (h.nam (x, q) m).1
theorem args_kind {f g : FdT} {as : List Str} (hl : as.length = g.ns.length) (hk : ∀ (i : Nat) y q, as[i]? = some y → g.ns[i]? = some q → KO f y q.2) : ∀ y ∈ as, ∃ q, KO f y q := by
  intro y m
  obtain ⟨i, hi, e⟩ := List.getElem_of_mem m
  have e1 : as[i]? = some y := by rw [List.getElem?_eq_getElem hi, e]
  have hi2 : i < g.ns.length := by omega
  exact ⟨_, hk i y _ e1 (List.getElem?_eq_getElem hi2)⟩
theorem form_of {R : Str → V → Prop} : ∀ {rs : List Str} {vs : List V}, Paired R rs vs → ∀ (i : Nat) x v, rs[i]? = some x → vs[i]? = some v → R x v
  | _, _, .nil, i, x, v, h, _ => by simp at h
  | _, _, .cons h t, 0, x, v, e1, e2 => by
    rw [← Option.some.inj e1, ← Option.some.inj e2]
    exact h
  | _, _, .cons h t, i + 1, x, v, e1, e2 => form_of t i x v (by simpa using e1) (by simpa using e2)
theorem FdOk.form {cls : Str} {flds : List (Str × Str)} {fds : List FdT} {f : FdT} {fps : List Addr} {H : Hp} {qC l : Addr} (h : FdOk cls flds fds f) (hN : (fds.map FdT.nm).Nodup) (hl : fps.length = fds.length) (hF : (flds.map Prod.fst).Nodup) {r : Rx} (hr : RowOk cls flds fds f r) (hA : ArgsAt H l r) :
    FormG H [(Sum.inr cls, .ref qC)] (kvP flds) (usOf fds fps) (.ref l) r := by
  have fld : ∀ {g q : Str}, (g, q) ∈ flds → FitsG H [(Sum.inr cls, .ref qC)] (kvP flds) (usOf fds fps) "field" (.str g) := fun {g q} m => .fld (v := .str q) (valV_kvP_in (q := (g, q)) hF m) (by intro z; cases z)
  unfold FormG
  cases r with
  | num x n => exact form_of (.cons (.sets (h.name hr.1)) (.cons (.num hr.2.1 hr.2.2) .nil))
  | nil x => exact form_of (.cons (.sets (h.name hr)) .nil)
  | copy x y =>
    obtain ⟨q, h1, h2⟩ := hr
    exact form_of (.cons (.sets (h.name h1)) (.cons (.reads (h.name h2)) .nil))
  | bin kk x y z => exact form_of (.cons (.sets (h.name hr.1)) (.cons (.reads (h.name hr.2.1)) (.cons (.reads (h.name hr.2.2)) .nil)))
  | same x y z =>
    obtain ⟨q, h1, h2, h3⟩ := hr
    exact form_of (.cons (.sets (h.name h1)) (.cons (.reads (h.name h2)) (.cons (.reads (h.name h3)) .nil)))
  | new x c =>
    obtain ⟨h1, rfl⟩ := hr
    refine form_of (.cons (.sets (h.name h1)) (.cons (.cls (v := .ref qC) ?_ (by intro z; cases z)) .nil))
    unfold valV
    rw [List.find?_cons_of_pos (by simp)]
    rfl
  | get x y g =>
    obtain ⟨q, h1, h2, h3⟩ := hr
    exact form_of (.cons (.sets (h.name h2)) (.cons (.reads (h.name h1)) (.cons (fld h3) .nil)))
  | put x g y =>
    obtain ⟨q, h1, h2, h3⟩ := hr
    exact form_of (.cons (.reads (h.name h1)) (.cons (fld h3) (.cons (.reads (h.name h2)) .nil)))
  | call x F as =>
    obtain ⟨j, g, h1, h2, h3, h4, h5⟩ := hr
    obtain ⟨a1, a2⟩ := hA as rfl
    obtain ⟨a, ha⟩ : ∃ a, fps[j]? = some a := ⟨fps[j]'(by rw [hl]; exact (List.getElem?_eq_some_iff.mp h1).1), List.getElem?_eq_getElem _⟩
    have e : valV (usOf fds fps) (Sum.inr F : Key) = some (.ref a) := by
      rw [← h2]
      exact us_at hN h1 ha
    refine form_of (.cons (.sets (h.name h5)) (.cons (.fn e (by intro z; cases z)) (.cons (.many a1 (fun y m => ?_) a2) .nil)))
    obtain ⟨q, hq⟩ := args_kind h3 h4 y m
    exact h.name hq
  | see x =>
    obtain ⟨q, h1⟩ := hr
    exact form_of (.cons (.reads (h.name h1)) .nil)
  | ifz x r => exact form_of (.cons (.reads (h.name hr)) (.cons (.row _) .nil))
  | jump r => exact form_of (.cons (.row _) .nil)
  | ret x => exact form_of (.cons (.reads (h.name hr)) .nil)
theorem kind_str {q : Str} (h : IsKind q) : PyData.strOk q = true := by
  rcases h with rfl | rfl <;> decide +kernel
theorem FdOk.kinds {cls : Str} {flds : List (Str × Str)} {fds : List FdT} {f : FdT} {fps : List Addr} {H : Hp} (h : FdOk cls flds fds f) (hN : (fds.map FdT.nm).Nodup) (hF : (flds.map Prod.fst).Nodup) (hK : ∀ g ∈ fds, FdOk cls flds fds g)
    (hH : ∀ (j : Nat) (g : FdT), fds[j]? = some g → ∃ a dx pa fs ps, fps[j]? = some a ∧ HeadG K H a dx pa fs ps g.ns g.res) {r : Rx} (hr : RowOk cls flds fds f r) :
    KindsG K H (kvP flds) (usOf fds fps) (kvP (f.ns ++ f.ms)) f.res r := by
  have fld : ∀ {g q : Str}, (g, q) ∈ flds → valV (kvP flds) (Sum.inr g : Key) = some (.str q) := fun {g q} m => valV_kvP_in (q := (g, q)) hF m
  cases r with
  | num x n => exact h.kind hr.1
  | nil x => exact h.kind hr
  | copy x y =>
    obtain ⟨q, h1, h2⟩ := hr
    exact ⟨q, h.kind h1, h.kind h2⟩
  | bin kk x y z => exact ⟨h.kind hr.1, h.kind hr.2.1, h.kind hr.2.2⟩
  | same x y z =>
    obtain ⟨q, h1, h2, h3⟩ := hr
    exact ⟨q, h.kind h1, h.kind h2, h.kind h3⟩
  | new x c => exact h.kind hr.1
  | get x y g =>
    obtain ⟨q, h1, h2, h3⟩ := hr
    exact ⟨q, h.kind h1, h.kind h2, fld h3⟩
  | put x g y =>
    obtain ⟨q, h1, h2, h3⟩ := hr
    exact ⟨q, h.kind h1, h.kind h2, fld h3⟩
  | call x F as =>
    obtain ⟨j, g, h1, h2, h3, h4, h5⟩ := hr
    obtain ⟨a, dx, pa, fs, ps, ha, hg⟩ := hH j g h1
    refine ⟨a, dx, pa, fs, ps, g.ns, g.res, ?_, hg, h3, fun i y q e1 e2 => h.kind (h4 i y q e1 e2), fun q m => kind_str ((hK g (List.mem_of_getElem? h1)).nam q (List.mem_append_left _ m)).2, h.kind h5⟩
    rw [← h2]
    exact us_at hN h1 ha
  | see x => trivial
  | ifz x r => exact h.kind hr
  | jump r => trivial
  | ret x => exact h.kind hr
theorem FdOk.names {cls : Str} {flds : List (Str × Str)} {fds : List FdT} {f : FdT} (h : FdOk cls flds fds f) {r : Rx} (hr : RowOk cls flds fds f r) : ∀ x ∈ r.names, ∃ v, valV (kvP (f.ns ++ f.ms)) (Sum.inr x : Key) = some v := by
  have key : ∀ x ∈ r.names, ∃ q, KO f x q := by
    intro x m
    cases r with
    | num y n =>
      simp only [Rx.names, Rx.sets, Rx.reads, List.mem_cons, List.not_mem_nil, or_false] at m
      exact ⟨_, m ▸ hr.1⟩
    | nil y =>
      simp only [Rx.names, Rx.sets, Rx.reads, List.mem_cons, List.not_mem_nil, or_false] at m
      exact ⟨_, m ▸ hr⟩
    | copy y z =>
      obtain ⟨q, h1, h2⟩ := hr
      simp only [Rx.names, Rx.sets, Rx.reads, List.mem_cons, List.not_mem_nil, or_false] at m
      rcases m with m | m
      · exact ⟨_, m ▸ h1⟩
      · exact ⟨_, m ▸ h2⟩
    | bin kk y z t =>
      obtain ⟨h1, h2, h3⟩ := hr
      simp only [Rx.names, Rx.sets, Rx.reads, List.mem_cons, List.not_mem_nil, or_false] at m
      rcases m with m | m | m
      · exact ⟨_, m ▸ h1⟩
      · exact ⟨_, m ▸ h2⟩
      · exact ⟨_, m ▸ h3⟩
    | same y z t =>
      obtain ⟨q, h1, h2, h3⟩ := hr
      simp only [Rx.names, Rx.sets, Rx.reads, List.mem_cons, List.not_mem_nil, or_false] at m
      rcases m with m | m | m
      · exact ⟨_, m ▸ h1⟩
      · exact ⟨_, m ▸ h2⟩
      · exact ⟨_, m ▸ h3⟩
    | new y c =>
      simp only [Rx.names, Rx.sets, Rx.reads, List.mem_cons, List.not_mem_nil, or_false] at m
      exact ⟨_, m ▸ hr.1⟩
    | get y z g =>
      obtain ⟨q, h1, h2, h3⟩ := hr
      simp only [Rx.names, Rx.sets, Rx.reads, List.mem_cons, List.not_mem_nil, or_false] at m
      rcases m with m | m
      · exact ⟨_, m ▸ h2⟩
      · exact ⟨_, m ▸ h1⟩
    | put y g z =>
      obtain ⟨q, h1, h2, h3⟩ := hr
      simp only [Rx.names, Rx.sets, Rx.reads, List.mem_cons, List.not_mem_nil, or_false] at m
      rcases m with m | m
      · exact ⟨_, m ▸ h1⟩
      · exact ⟨_, m ▸ h2⟩
    | call y F as =>
      obtain ⟨j, g, h1, h2, h3, h4, h5⟩ := hr
      simp only [Rx.names, Rx.sets, Rx.reads, List.mem_cons] at m
      rcases m with m | m
      · exact ⟨_, m ▸ h5⟩
      · exact args_kind h3 h4 x m
    | see y =>
      obtain ⟨q, h1⟩ := hr
      simp only [Rx.names, Rx.sets, Rx.reads, List.mem_cons, List.not_mem_nil, or_false] at m
      exact ⟨_, m ▸ h1⟩
    | ifz y g =>
      simp only [Rx.names, Rx.sets, Rx.reads, List.mem_cons, List.not_mem_nil, or_false] at m
      exact ⟨_, m ▸ hr⟩
    | jump g =>
      simp only [Rx.names, Rx.sets, Rx.reads, List.not_mem_nil] at m
    | ret y =>
      simp only [Rx.names, Rx.sets, Rx.reads, List.mem_cons, List.not_mem_nil, or_false] at m
      exact ⟨_, m ▸ hr⟩
  intro x m
  obtain ⟨q, hq⟩ := key x m
  exact ⟨_, h.kind hq⟩
/-- a Function with its rows -/
structure FunB (K : PySem.W.Frag) (H : Hp) (p dx pa va ba : Addr) (fs : List (Str × V)) (ps rs : List Addr) (f : FdT) : Prop where
  ob : H p = some (.ins (He.ga K "Function") dx fs)
  f1 : fs.lookup ("params" : Str) = some (.ref pa)
  f2 : fs.lookup ("result" : Str) = some (.str f.res)
  f3 : fs.lookup ("variables" : Str) = some (.ref va)
  f4 : fs.lookup ("body" : Str) = some (.ref ba)
  nohas : fs.lookup ("has_row" : Str) = none ∧ fs.lookup ("called_at" : Str) = none
  d1 : TupP H pa (ps.map V.ref)
  pr : PairsG H ps f.ns
  vd : H va = some (.dK (kvP (f.ns ++ f.ms)))
  tb : TupP H ba (rs.map V.ref)
  kr : KeptRows H rs f.rws
theorem KeptRows.keep {H H' : Hp} {rs : List Addr} {rws : List Rx} (h : KeptRows H rs rws) (e : KeepTL H H') : KeptRows H' rs rws := ⟨h.len, fun i a r x y => by
  obtain ⟨l, h1, h2⟩ := h.at_ i a r x y
  exact ⟨l, e.1 _ _ h1, fun bs q => by
    have k := h2 bs q
    rw [if_pos rfl] at k ⊢
    exact e.1 _ _ k⟩⟩
theorem KeepTL.butF {H H' : Hp} {p C dx : Addr} {fs : List (Str × V)} (hp : H p = some (.ins C dx fs)) (b : But p H H') : KeepTL H H' :=
  ⟨fun a xs h => b _ _ h (ne_of h hp (by intro z; cases z)), fun a xs h => b _ _ h (ne_of h hp (by intro z; cases z))⟩
theorem FunB.mono {H H' : Hp} {p dx pa va ba : Addr} {fs : List (Str × V)} {ps rs : List Addr} {f : FdT} (h : FunB K H p dx pa va ba fs ps rs f) (e : Same H H') : FunB K H' p dx pa va ba fs ps rs f :=
  ⟨e _ _ h.ob, h.f1, h.f2, h.f3, h.f4, h.nohas, h.d1.mono e, h.pr.mono e, e _ _ h.vd, h.tb.mono e, h.kr.mono e⟩
theorem FunB.but {H H' : Hp} {p dx pa va ba b C dy : Addr} {fs gs : List (Str × V)} {ps rs : List Addr} {f : FdT} (h : FunB K H p dx pa va ba fs ps rs f) (hb : H b = some (.ins C dy gs)) (hn : p ≠ b) (e : But b H H') : FunB K H' p dx pa va ba fs ps rs f :=
  ⟨e _ _ h.ob hn, h.f1, h.f2, h.f3, h.f4, h.nohas, e.tupP hb h.d1, e.pairsG hb h.pr, e _ _ h.vd (ne_of h.vd hb (by intro z; cases z)), e.tupP hb h.tb, h.kr.keep (.butF hb e)⟩
theorem FunG.but {H H' : Hp} {p dx pa va b C dy : Addr} {fs gs : List (Str × V)} {ps : List Addr} {ns ms : List (Str × Str)} {res : Str} (h : FunG K H p dx pa va fs ps ns ms res) (hb : H b = some (.ins C dy gs)) (hn : p ≠ b) (e : But b H H') : FunG K H' p dx pa va fs ps ns ms res :=
  ⟨e _ _ h.ob hn, h.f1, h.f2, h.f3, h.nohas, h.few, e.tupP hb h.d1, e.pairsG hb h.pr, e _ _ h.vd (ne_of h.vd hb (by intro z; cases z))⟩
theorem FunG.head {H : Hp} {p dx pa va : Addr} {fs : List (Str × V)} {ps : List Addr} {ns ms : List (Str × Str)} {res : Str} (h : FunG K H p dx pa va fs ps ns ms res) (hl : ns.length ≤ 4) : HeadG K H p dx pa fs ps ns res :=
  ⟨h.ob, h.f1, h.f2, h.d1.sq, h.pr.len, by omega, fun i a q e1 e2 => SqT.of (h.pr.at_ i a q e1 e2)⟩
theorem FunB.head {H : Hp} {p dx pa va ba : Addr} {fs : List (Str × V)} {ps rs : List Addr} {f : FdT} (h : FunB K H p dx pa va ba fs ps rs f) (hl : f.ns.length ≤ 4) : HeadG K H p dx pa fs ps f.ns f.res :=
  ⟨h.ob, h.f1, h.f2, h.d1.sq, h.pr.len, by omega, fun i a q e1 e2 => SqT.of (h.pr.at_ i a q e1 e2)⟩
/-- a Source of one class and these functions -/
def SrcX (K : PySem.W.Frag) (H : Hp) (p : Addr) (cls : Str) (flds : List (Str × Str)) (fds : List FdT) : Prop := ∃ (fps : List Addr) (qC : Addr), SrcH K H p [(Sum.inr cls, .ref qC)] (kvP flds) (usOf fds fps) ∧ fps.length = fds.length ∧
  ∀ (j : Nat) (f : FdT) (a : Addr), fds[j]? = some f → fps[j]? = some a → ∃ (dx pa va ba : Addr) (fs : List (Str × V)) (ps rs : List Addr), FunB K H a dx pa va ba fs ps rs f
theorem SrcX.mono {H H' : Hp} {p : Addr} {cls : Str} {flds : List (Str × Str)} {fds : List FdT} (h : SrcX K H p cls flds fds) (e : Same H H') : SrcX K H' p cls flds fds := by
  obtain ⟨fps, qC, h1, h2, h3⟩ := h
  refine ⟨fps, qC, h1.mono e, h2, fun j f a e1 e2 => ?_⟩
  obtain ⟨dx, pa, va, ba, fs, ps, rs, q⟩ := h3 j f a e1 e2
  exact ⟨dx, pa, va, ba, fs, ps, rs, q.mono e⟩

end
end W16
set_option Elab.async false
set_option linter.all false
set_option maxRecDepth 100000
set_option maxHeartbeats 4000000
namespace W16
open PySem PySem.Spec PyProof.Rows L2 RZ
section
variable {P : Program} {w : World} {K : PySem.W.Frag} {mg : Str → Option Value} {base : Heap}

theorem KeepTL.trans {H H1 H2 : Hp} (a : KeepTL H H1) (b : KeepTL H1 H2) : KeepTL H H2 := ⟨fun c xs h => b.1 _ _ (a.1 _ _ h), fun c xs h => b.2 _ _ (a.2 _ _ h)⟩
theorem KeepTL.butL {H H' : Hp} {l : List Addr} (hl : ∀ d ∈ l, ∀ xs, H d ≠ some (.tup xs) ∧ H d ≠ some (.lst xs)) (b : ButL l H H') : KeepTL H H' :=
  ⟨fun a xs h => b _ _ h fun m => (hl a m xs).1 h, fun a xs h => b _ _ h fun m => (hl a m xs).2 h⟩
theorem RawRows.keep {H H' : Hp} {rs : List Addr} {rws : List Rx} (h : RawRows H rs rws) (e : KeepTL H H') : RawRows H' rs rws := ⟨h.len, fun i a r x y => by
  obtain ⟨l, q1, q2⟩ := h.at_ i a r x y
  exact ⟨l, e.1 _ _ q1, fun bs z => ⟨e.2 _ _ (q2 bs z).1, (q2 bs z).2⟩⟩⟩
/-- a function as it is handed in, with its rows -/
def EntryR (H : Hp) (e : Addr) (f : FdT) : Prop := ∃ (pa oa ra : Addr) (ps qs rs : List Addr), EntryG H e pa oa ra f.nm f.res ps qs f.ns f.ms (rs.map V.ref) ∧ RawRows H rs f.rws
theorem EntryR.keep {H H' : Hp} {e : Addr} {f : FdT} (h : EntryR H e f) (k : KeepTL H H') : EntryR H' e f := by
  obtain ⟨pa, oa, ra, ps, qs, rs, q, r⟩ := h
  exact ⟨pa, oa, ra, ps, qs, rs, q.keep k, r.keep k⟩
theorem EntryR.entry {H : Hp} {e : Addr} {f : FdT} (h : EntryR H e f) : EntryAt H e f := by
  obtain ⟨pa, oa, ra, ps, qs, rs, q, r⟩ := h
  exact ⟨pa, oa, ra, ps, qs, _, q⟩
/-- classes and functions as they are handed in -/
structure RawSrc (H : Hp) (ca fa : Addr) (cls : Str) (flds : List (Str × Str)) (fds : List FdT) : Prop where
  cl : ∃ (e la : Addr) (ps : List Addr), H ca = some (.lst [.ref e]) ∧ H e = some (.tup [.str cls, .ref la]) ∧ H la = some (.lst (ps.map V.ref)) ∧ PairsG H ps flds
  nc : Nam cls
  nf : ∀ q ∈ flds, Nam q.1 ∧ IsKind q.2
  nd : (flds.map Prod.fst).Nodup
  l4 : flds.length ≤ 4
  fn : ∃ es : List Addr, H fa = some (.lst (es.map V.ref)) ∧ es.length = fds.length ∧ ∀ (i : Nat) e f, es[i]? = some e → fds[i]? = some f → EntryR H e f
  nn : (fds.map FdT.nm).Nodup
  l1 : 1 ≤ fds.length
  l6 : fds.length ≤ 6
  ok : ∀ f ∈ fds, FdOk cls flds fds f
theorem RawSrc.keep {H H' : Hp} {ca fa : Addr} {cls : Str} {flds : List (Str × Str)} {fds : List FdT} (h : RawSrc H ca fa cls flds fds) (k : KeepTL H H') : RawSrc H' ca fa cls flds fds := by
  obtain ⟨⟨e, la, ps, c1, c2, c3, c4⟩, h1, h2, h3, h4, ⟨es, f1, f2, f3⟩, h5, h6, h7, h8⟩ := h
  exact ⟨⟨e, la, ps, k.2 _ _ c1, k.1 _ _ c2, k.2 _ _ c3, c4.keep k⟩, h1, h2, h3, h4, ⟨es, k.2 _ _ f1, f2, fun i e f a b => (f3 i e f a b).keep k⟩, h5, h6, h7, h8⟩
def spSrcInitG (K : PySem.W.Frag) : Sp := fun vs H Q _ => ∃ (p dx ca fa : Addr) (cls : Str) (flds : List (Str × Str)) (fds : List FdT), vs = [.ref p, .ref ca, .ref fa] ∧ H p = some (.ins (He.ga K "Source") dx []) ∧ RawSrc H ca fa cls flds fds ∧ ∀ H', But p H H' → SrcX K H' p cls flds fds → Q .non H' 
theorem sc_Source_init : FnScope ["self", "classes", "functions", "k", "entry"] ["self", "classes", "functions"] (defScope s_Source_init) := ⟨rfl, rfl, rfl, by decide +kernel, rfl, by decide +kernel, by decide +kernel⟩
theorem ok_Source_init (T : Ctx w K mg) (H_Source_take_classes : HasM P w K mg base 4 "Source" "_take_classes" ["self", "classes"] (spTakeCG K)) (H_Source_take_heads : HasM P w K mg base 6 "Source" "_take_heads" ["self", "functions"] (spTakeHG K)) (H_Source_take_rows : HasM P w K mg base 7 "Source" "_take_rows" ["self", "k", "function", "rows"] (spTakeRG K)) : HasM P w K mg base 8 "Source" "__init__" ["self", "classes", "functions"] (spSrcInitG K) := by
  obtain ⟨fd, F⟩ := T.D_Source_init
  obtain ⟨fd_Source_take_classes, G_Source_take_classes, b_Source_take_classes⟩ := H_Source_take_classes.ex
  obtain ⟨fd_Source_take_heads, G_Source_take_heads, b_Source_take_heads⟩ := H_Source_take_heads.ex
  obtain ⟨fd_Source_take_rows, G_Source_take_rows, b_Source_take_rows⟩ := H_Source_take_rows.ex
  refine ⟨⟨fd, F.ok sc_Source_init (fun vs H Q E h => ?_) (fun cdv A outer s H vs Q E hr h => ?_), F.bindsN fun _ _ _ _ _ _ us hl => match us, hl with | [_, _, _], _ => rfl⟩⟩
  · obtain ⟨p, dx, ca, fa, cls, flds, fds, rfl, hp, HR, k⟩ := h; rfl
  · obtain ⟨p, dx, ca, fa, cls, flds, fds, rfl, hp, HR, k⟩ := h
    have hr_Source_take_classes : Room 4 _ := hr.mono (by decide)
    have hr_Source_take_heads : Room 6 _ := hr.mono (by decide)
    have hr_Source_take_rows : Room 7 _ := hr.mono (by decide)
    have hu := hu_of hr
    refine ⟨_, PSs.nox (pss_cons (ps_fld (pv 0) pe_dnewK rfl)
      (pss_cons (ps_fld (pv 0) pe_dnewK rfl)
      (pss_cons (ps_fld (pv 0) pe_dnewK rfl)
      (pss_cons (ps_expr (pe_meth (pv 0) T.c_Source T.m_Source_take_classes G_Source_take_classes hr_Source_take_classes b_Source_take_classes .nil pass0 (pa_cons (pv 1) pa_nil)))
      (pss_cons (ps_expr (pe_meth (pv 0) T.c_Source T.m_Source_take_heads G_Source_take_heads hr_Source_take_heads b_Source_take_heads .nil pass0 (pa_cons (pv 2) pa_nil)))
      (pss_one (ps_for PassesOwn.never rfl (pi_enum (by rfl) T.f_enumerate (pa_cons (pv 2) pa_nil)) (pg_tup rfl (pgs_cons (pg_name (i := 3) sc_Source_init.nd rfl (Or.inl rfl)) (pgs_cons (pg_name (i := 4) sc_Source_init.nd rfl (Or.inl rfl)) pgs_nil)))
      (pss_one (ps_expr (pe_meth (pv 0) T.c_Source T.m_Source_take_rows G_Source_take_rows hr_Source_take_rows b_Source_take_rows .nil pass0 (pa_cons (pv 3) (pa_cons (pe_dget hu (pe_fldK (K := K) rfl (pv 0) (by rfl)) (pe_ix ix_tup (pv 4) pe_int (fun _ _ => rfl)) (fun _ _ => rfl)) (pa_cons (pe_ix ix_tup (pv 4) pe_int (fun _ _ => rfl)) pa_nil))))))))))))), ?_⟩
    intro d1 hd1
    have nd1 : d1 ≠ p := (ne_of_none hp hd1).symm
    refine ⟨_, rfl, p, _, dx, _, rfl, Same.new hd1 _ _ hp, T.c_Source, T.n_Source_field_kinds, few pf0, ?_⟩
    have b1 : But p H (upd (upd H d1 (.dK [])) p (.ins (He.ga K "Source") dx (putF "_field_kinds" (.ref d1) []))) := (But.of (Same.new hd1)).trans But.upd
    intro d2 hd2
    have nd2 : d2 ≠ p := fun z => by rw [z, upd_same] at hd2; cases hd2
    have n21 : d2 ≠ d1 := fun z => by rw [z, upd_ne nd1, upd_same] at hd2; cases hd2
    refine ⟨_, rfl, p, _, dx, _, rfl, Same.new hd2 _ _ upd_same, T.c_Source, T.n_Source_fields, few (pl1 pf0), ?_⟩
    have b2 := b1.trans ((But.of (Same.new (o := .dK []) hd2)).trans (But.upd (o := .ins (He.ga K "Source") dx (putF "_fields" (.ref d2) (putF "_field_kinds" (.ref d1) [])))))
    intro d3 hd3
    have nd3 : d3 ≠ p := fun z => by rw [z, upd_same] at hd3; cases hd3
    have n32 : d3 ≠ d2 := fun z => by rw [z, upd_ne nd2, upd_same] at hd3; cases hd3
    have n31 : d3 ≠ d1 := fun z => by rw [z, upd_ne nd1, upd_ne n21.symm, upd_ne nd1, upd_same] at hd3; cases hd3
    refine ⟨_, rfl, p, _, dx, _, rfl, Same.new hd3 _ _ upd_same, T.c_Source, T.n_Source_functions, few (pl1 (pl1 pf0)), ?_⟩
    have b3 := b2.trans ((But.of (Same.new (o := .dK []) hd3)).trans (But.upd (o := .ins (He.ga K "Source") dx (putF "_functions" (.ref d3) (putF "_fields" (.ref d2) (putF "_field_kinds" (.ref d1) []))))))
    generalize hH3 : upd (upd (upd (upd (upd (upd H d1 (.dK [])) p (.ins (He.ga K "Source") dx (putF "_field_kinds" (.ref d1) []))) d2 (.dK [])) p (.ins (He.ga K "Source") dx (putF "_fields" (.ref d2) (putF "_field_kinds" (.ref d1) [])))) d3 (.dK [])) p (.ins (He.ga K "Source") dx (putF "_functions" (.ref d3) (putF "_fields" (.ref d2) (putF "_field_kinds" (.ref d1) [])))) = H3 at b3 ⊢
    have S3 : SrcG K H3 p dx d2 d1 d3 (putF "_functions" (.ref d3) (putF "_fields" (.ref d2) (putF "_field_kinds" (.ref d1) []))) [] [] [] := by
      subst hH3
      refine ⟨upd_same, rfl, rfl, rfl, fun m hm => ?_, ?_, ?_, ?_⟩
      · simp only [List.mem_cons, List.not_mem_nil, or_false] at hm
        rcases hm with rfl | rfl | rfl | rfl | rfl | rfl | rfl | rfl <;> rfl
      · rw [upd_ne nd2, upd_ne n32.symm, upd_ne nd2, upd_same]
      · rw [upd_ne nd1, upd_ne n31.symm, upd_ne nd1, upd_ne n21.symm, upd_ne nd1, upd_same]
      · rw [upd_ne nd3, upd_same]
    generalize putF "_functions" (V.ref d3) (putF "_fields" (.ref d2) (putF "_field_kinds" (.ref d1) [])) = fs at S3
    have k3 : KeepTL H H3 := .butF hp b3
    have R3 := HR.keep k3
    clear hH3 b1 b2
    obtain ⟨e0, la, ps, c1, c2, c3, c4⟩ := R3.cl
    obtain ⟨es, f1, f2, f3⟩ := R3.fn
    refine ⟨_, rfl, p, dx, _, rfl, S3.ob, S3.nm _ (by decide +kernel), _, rfl, ?_⟩
    refine ⟨p, ca, dx, d2, d1, d3, e0, la, fs, [], cls, ps, flds, rfl, S3, n21, c1, c2, HR.nc, c3, c4, HR.nf, HR.nd, HR.l4, fun H4 qC b4 df4 dk4 => ?_⟩
    have k4 : KeepTL H3 H4 := .butL (fun d m xs => by
      rcases List.mem_cons.mp m with m | m
      · rw [m, S3.d1]
        exact ⟨(by intro z; cases z), (by intro z; cases z)⟩
      · rw [List.mem_singleton.mp m, S3.d2]
        exact ⟨(by intro z; cases z), (by intro z; cases z)⟩) b4
    have nin : ∀ {b : Addr}, b ≠ d2 → b ≠ d1 → b ∉ [d2, d1] := fun h1 h2 m => by
      rcases List.mem_cons.mp m with m | m
      · exact h1 m
      · exact h2 (List.mem_singleton.mp m)
    have S4 : SrcG K H4 p dx d2 d1 d3 fs [(Sum.inr cls, .ref qC)] (kvP flds) [] := ⟨b4 _ _ S3.ob (nin nd2.symm nd1.symm), S3.f1, S3.f2, S3.f3, S3.nm, df4, dk4, b4 _ _ S3.d3 (nin n32 n31)⟩
    refine ⟨_, rfl, p, dx, _, rfl, S4.ob, S4.nm _ (by decide +kernel), _, rfl, ?_⟩
    refine ⟨p, dx, d2, d1, d3, fa, fs, _, _, es, fds, rfl, S4, k4.2 _ _ f1, f2, fun i e f a b => ((f3 i e f a b).keep k4).entry, HR.nn, HR.l1, HR.l6, fun H5 fps b5 fl hH hfr hnd d5 => ?_⟩
    have k5 : KeepTL H4 H5 := .butD S4.d3 b5
    have n5 : ∀ {b : Addr}, b ≠ d3 → b ∉ [d3] := fun h m => h (List.mem_singleton.mp m)
    have fin : ∀ a ∈ fps, ∃ (dy pa va : Addr) (gs : List (Str × V)) (ps' : List Addr) (f : FdT), FunG K H5 a dy pa va gs ps' f.ns f.ms f.res := fun a m => by
      obtain ⟨j, hj, e⟩ := List.getElem_of_mem m
      have e1 : fps[j]? = some a := by rw [List.getElem?_eq_getElem hj, e]
      have hj2 : j < fds.length := by omega
      obtain ⟨dy, pa, va, gs, ps', _, F⟩ := hH j _ a (List.getElem?_eq_getElem hj2) e1
      exact ⟨dy, pa, va, gs, ps', _, F⟩
    have nfp : ∀ {b : Addr} {u : HO}, H5 b = some u → (∀ dz gz, u ≠ .ins (He.ga K "Function") dz gz) → b ∉ fps := fun q n m => by
      obtain ⟨dy, pa, va, gs, ps', f, F⟩ := fin _ m
      rw [F.ob] at q
      exact n _ _ (Option.some.inj q).symm
    have p4 : H4 p = some (.ins (He.ga K "Source") dx fs) := S4.ob
    have npf : p ∉ fps := fun m => by
      have q := hfr p m
      rw [p4] at q
      cases q
    have S5 : SrcG K H5 p dx d2 d1 d3 fs [(Sum.inr cls, .ref qC)] (kvP flds) (usOf fds fps) := ⟨b5 _ _ S4.ob (n5 nd3.symm), S4.f1, S4.f2, S4.f3, S4.nm, b5 _ _ S4.d1 (n5 n32.symm), b5 _ _ S4.d2 (n5 n31.symm), d5⟩
    have k35 := k4.trans k5
    have fa5 := k35.2 _ _ f1
    have hlr : (es.map V.ref).length = fds.length := by rw [List.length_map, f2]
    refine ⟨_, rfl, fa, _, rfl, SqL.of fa5, ?_⟩
    refine for_it (walk_enum (K := K) (a := fa) (xs := es.map V.ref)) (fun i σ H1 => ∃ v1 v2 : Option V, σ = [some (.ref p), some (.ref ca), some (.ref fa), v1, v2] ∧ ButL fps H5 H1 ∧ (∀ (j : Nat) f a, fds[j]? = some f → fps[j]? = some a → j < i → ∃ (dy pa va ba : Addr) (gs : List (Str × V)) (ps' rs' : List Addr), FunB K H1 a dy pa va ba gs ps' rs' f) ∧
      (∀ (j : Nat) f a, fds[j]? = some f → fps[j]? = some a → i ≤ j → ∃ (dy pa va : Addr) (gs : List (Str × V)) (ps' : List Addr), FunG K H1 a dy pa va gs ps' f.ns f.ms f.res)) ⟨none, none, rfl, fun b u q _ => q, fun j f a _ _ h => absurd h (Nat.not_lt_zero j), fun j f a e1 e2 _ => by
        obtain ⟨dy, pa, va, gs, ps', _, F⟩ := hH j f a e1 e2
        exact ⟨dy, pa, va, gs, ps', F⟩⟩ (fun i σ H1 _ ⟨_, _, _, b6, _⟩ => SqL.of (b6 _ _ fa5 (nfp fa5 (by intro _ _ z; cases z)))) ?_ ?_
    · rintro i y σ H1 H2 hi ⟨v1, v2, rfl, b6, hB, hG⟩ ⟨u, a, b, rfl, hu0, rfl, h1, h2⟩
      have h2 : (es.map V.ref)[i]? = some b := h2
      obtain rfl : V.int (i : Nat) = a := Option.some.inj h1
      obtain ⟨e, hc, rfl⟩ := map_get h2
      have hif : i < fds.length := by rw [hlr] at hi; exact hi
      have hf : fds[i]? = some fds[i] := List.getElem?_eq_getElem hif
      have hip : i < fps.length := by omega
      have ha : fps[i]? = some fps[i] := List.getElem?_eq_getElem hip
      have hfm : fds[i] ∈ fds := List.getElem_mem hif
      have k6 : KeepTL H5 H1 := .butL (fun d m xs => by
        obtain ⟨dy, pa, va, gs, ps', f, F⟩ := fin _ m
        rw [F.ob]
        exact ⟨(by intro z; cases z), (by intro z; cases z)⟩) b6
      obtain ⟨pa, oa, ra, pp, qq, rs, E3, RR3⟩ := f3 i e _ hc hf
      have k36 := k35.trans k6
      have E1 := E3.keep k36
      have RR1 := RR3.keep k36
      have s1 : Same H1 (upd H1 u (.tup [.int (i : Nat), .ref e])) := Same.new hu0
      have S1 : SrcG K H1 p dx d2 d1 d3 fs [(Sum.inr cls, .ref qC)] (kvP flds) (usOf fds fps) := ⟨b6 _ _ S5.ob npf, S5.f1, S5.f2, S5.f3, S5.nm, b6 _ _ S5.d1 (nfp S5.d1 (by intro _ _ z; cases z)), b6 _ _ S5.d2 (nfp S5.d2 (by intro _ _ z; cases z)), b6 _ _ S5.d3 (nfp S5.d3 (by intro _ _ z; cases z))⟩
      have S2 := S1.mono s1
      have E2 := E1.keep (.of s1)
      have RR2 := RR1.mono s1
      obtain ⟨dy, ta, va, gs, ps', F0⟩ := hG i _ _ hf ha (Nat.le_refl _)
      have F2 := F0.mono s1
      have O := HR.ok _ hfm
      have hLen : rs.length = fds[i].rws.length := RR1.len
      refine ⟨u, _, rfl, SqT.of upd_same, rfl, _, _, rfl, _, _, rfl, rfl, ?_⟩
      refine ⟨_, rfl, p, dx, _, rfl, S2.ob, S2.nm _ (by decide +kernel), _, rfl, _, rfl, p, _, dx, _, _, rfl, S2.ob, T.c_Source, T.n_Source_functions, S2.f3, _, rfl, _, _, _, _, rfl, rfl, SqT.of E2.he, at0, d3, .ref fps[i], rfl, ?_, ?_⟩
      · have q := DGet.k (k := Sum.inr fds[i].nm) S2.d3
        rw [us_at HR.nn hf ha] at q
        exact q
      refine ⟨_, rfl, _, _, _, _, rfl, rfl, SqT.of E2.he, at4, ?_⟩
      have hHead : ∀ (j : Nat) (g : FdT), fds[j]? = some g → ∃ a dx pa fs ps, fps[j]? = some a ∧ HeadG K (upd H1 u (.tup [.int (i : Nat), .ref e])) a dx pa fs ps g.ns g.res := fun j g ej => by
        have hj : j < fps.length := by
          have := (List.getElem?_eq_some_iff.mp ej).1
          omega
        have aj : fps[j]? = some fps[j] := List.getElem?_eq_getElem hj
        have lj := (HR.ok g (List.mem_of_getElem? ej)).l1
        by_cases c : j < i
        · obtain ⟨dz, pz, vz, bz, gz, psz, rsz, Fz⟩ := hB j g _ ej aj c
          exact ⟨_, _, _, _, _, aj, (Fz.mono s1).head lj⟩
        · obtain ⟨dz, pz, vz, gz, psz, Fz⟩ := hG j g _ ej aj (by omega)
          exact ⟨_, _, _, _, _, aj, (Fz.mono s1).head lj⟩
      refine ⟨p, fps[i], dy, va, ra, (i : Nat), gs, _, _, _, _, _, rs, fds[i].rws, rfl, ⟨dx, d2, d1, d3, fs, S2⟩, F2.few, ⟨F2.ob, F2.f3, F2.f2, F2.vd⟩, E2.hra, RR2, fun j c r l e1 e2 e3 => ?_, fun r m => ⟨O.kinds HR.nn HR.nd HR.ok hHead (O.rows r m), O.names (O.rows r m), O.ok.ok r m⟩, O.ok.last, O.ok.le, fun H7 q qs b7 F7 t7 q7 => ?_⟩
      · obtain ⟨l2, q1, q2⟩ := RR2.at_ j c r e1 e2
        refine O.form HR.nn fl HR.nd (O.rows r (List.mem_of_getElem? e2)) fun bs hb => ?_
        have el : l2 = l ∨ r.args = none := by
          cases r with
          | call x F as =>
            left
            rw [q1] at e3
            have := (HO.tup.inj (Option.some.inj e3))
            simp [Rx.parts] at this
            exact this
          | _ => exact .inr rfl
        rcases el with rfl | el
        · exact q2 bs hb
        · rw [el] at hb
          cases hb
      · have ob2 := F2.ob
        refine ⟨_, _, rfl, fun b u q n => ?_, fun j f a e1 e2 hj => ?_, fun j f a e1 e2 hj => ?_⟩
        · exact b7 _ _ (s1 _ _ (b6 _ _ q n)) fun z => n (by rw [z]; exact List.getElem_mem hip)
        · by_cases c : j = i
          · subst c
            rw [hf] at e1
            rw [ha] at e2
            have ef := Option.some.inj e1
            have ea := Option.some.inj e2
            subst ef
            subst ea
            refine ⟨dy, ta, va, q, _, ps', qs, F7.ob, ?_, F7.res, F7.vars, ?_, ?_, b7.tupP ob2 F2.d1, b7.pairsG ob2 F2.pr, F7.vd, t7, q7⟩
            · rw [lookup_putF, if_neg (by decide +kernel)]
              exact F2.f1
            · rw [lookup_putF, if_pos rfl]
            · rw [lookup_putF, lookup_putF, if_neg (by decide +kernel), if_neg (by decide +kernel)]
              exact F2.nohas
          · obtain ⟨dz, pz, vz, bz, gz, psz, rsz, Fz⟩ := hB j f a e1 e2 (by omega)
            refine ⟨dz, pz, vz, bz, gz, psz, rsz, (Fz.mono s1).but ob2 (fun z => c ?_) b7⟩
            exact (List.getElem?_inj (List.getElem?_eq_some_iff.mp e2).1 hnd).mp (by rw [e2, z, ha])
        · obtain ⟨dz, pz, vz, gz, psz, Fz⟩ := hG j f a e1 e2 (by omega)
          refine ⟨dz, pz, vz, gz, psz, (Fz.mono s1).but ob2 (fun z => ?_) b7⟩
          have := (List.getElem?_inj (List.getElem?_eq_some_iff.mp e2).1 hnd).mp (show fps[j]? = fps[i]? by rw [e2, z, ha])
          omega
    · rintro σ H1 ⟨v1, v2, rfl, b6, hB, hG⟩
      rw [hlr] at hB
      have S1 : SrcG K H1 p dx d2 d1 d3 fs [(Sum.inr cls, .ref qC)] (kvP flds) (usOf fds fps) := ⟨b6 _ _ S5.ob npf, S5.f1, S5.f2, S5.f3, S5.nm, b6 _ _ S5.d1 (nfp S5.d1 (by intro _ _ z; cases z)), b6 _ _ S5.d2 (nfp S5.d2 (by intro _ _ z; cases z)), b6 _ _ S5.d3 (nfp S5.d3 (by intro _ _ z; cases z))⟩
      refine k H1 (fun b o q n => ?_) ⟨fps, qC, ⟨dx, d2, d1, d3, fs, S1⟩, fl, fun j f a e1 e2 => hB j f a e1 e2 (List.getElem?_eq_some_iff.mp e1).1⟩
      have old : ∀ {d : Addr}, H d = none → b ≠ d := fun hd z => by
        rw [z, hd] at q
        cases q
      have q3 := b3 _ _ q n
      have m1 : b ≠ d1 := old hd1
      have m2 : b ≠ d2 := fun z => by
        rw [upd_ne nd2] at hd2
        by_cases w : d2 = d1
        · exact n21 w
        · rw [upd_ne w] at hd2
          exact old hd2 z
      have m3 : b ≠ d3 := fun z => by
        rw [upd_ne nd3, upd_ne n32, upd_ne nd3, upd_ne n31] at hd3
        exact old hd3 z
      have q4 := b4 _ _ q3 (nin m2 m1)
      have q5 := b5 _ _ q4 (n5 m3)
      exact b6 _ _ q5 fun m => by
        have := hfr b m
        rw [q4] at this
        cases this

end
end W16
set_option Elab.async false
set_option linter.all false
set_option maxRecDepth 100000
set_option maxHeartbeats 4000000
namespace W16
open PySem PySem.Spec PyProof.Rows L2 RZ
section
variable {P : Program} {w : World} {K : PySem.W.Frag} {mg : Str → Option Value} {base : Heap}

/-- a comprehension with a test, whose elements leave what stood as it was -/
theorem lc_filt {J : It} {n : Nat} {G : Hp → Prop} {Y : Nat → Hp → V → Hp → Prop} (w : Walk J n G Y) {g : TG} {tt : TT} {te : TE} {vs : List Nat} {σ : L2.St} {H0 : Hp} {D : Addr} {Qd : Hp → Prop} (hD : H0 D = none) (f : Nat → V) (b : Nat → Bool) (hn : n < 100000)
    (hG : ∀ H, Same H0 H → G H)
    (hs : ∀ i H x H', i < n → Same H0 H → Y i H x H' → ∀ (Qe : VK) (Qn : Hp → Prop), (∀ H4, Same H H4 → b i = true → Qe (f i) H4) → (∀ H4, Same H H4 → b i = false → Qn H4) → g x (wipe σ vs) H' fun σ2 H2 => wipe σ2 vs = wipe σ vs ∧ tt σ2 H2 fun c H3 => if c = true then te σ2 H3 Qe else Qn H3)
    (hd : ∀ H, Same H0 H → H D = some (.lst (((List.range n).filter b).map f)) → Qd H) :
    ∃ W : Nat → Nat → Hp → Prop, (∃ m, W 0 m (upd H0 D (.lst []))) ∧ ∀ i m H, W i m H →
      (J.stop i H ∧ Qd H) ∨ (J.go i H ∧ ∃ Nx : Hp → Prop, (∀ H', Nx H' → ∃ m', m' < m ∧ W (i + 1) m' H') ∧ ∀ x H', J.yld i H x H' → g x (wipe σ vs) H' fun σ2 H2 => wipe σ2 vs = wipe σ vs ∧ tt σ2 H2 fun b H3 =>
        if b = true then te σ2 H3 fun y H4 => ∃ acc, H4 D = some (.lst acc) ∧ acc.length < sizeLine ∧ Nx (upd H4 D (.lst (acc ++ [y]))) else Nx H3) := by
  refine lc_it w (fun i H => Same H0 H ∧ H D = some (.lst (((List.range i).filter b).map f))) ⟨Same.new hD, upd_same⟩ (fun i H _ p => hG H p.1) (fun i x H H' hi p y => ?_) (fun H p => hd H p.1 p.2)
  refine hs i H x H' hi p.1 y (fun y H4 => ∃ acc, H4 D = some (.lst acc) ∧ acc.length < sizeLine ∧ (Same H0 (upd H4 D (.lst (acc ++ [y]))) ∧ upd H4 D (.lst (acc ++ [y])) D = some (.lst (((List.range (i + 1)).filter b).map f)))) (fun H3 => Same H0 H3 ∧ H3 D = some (.lst (((List.range (i + 1)).filter b).map f))) (fun H4 s4 hb => ?_) (fun H4 s4 hb => ?_)
  · refine ⟨_, s4 _ _ p.2, sz_lt ?_, Same.mut (p.1.trans s4) hD, ?_⟩
    · rw [List.length_map]
      refine Nat.lt_of_le_of_lt (List.length_filter_le _ _) ?_
      rw [List.length_range]
      exact Nat.lt_trans hi hn
    · rw [upd_same, List.range_succ, List.filter_append, List.map_append, List.filter_cons_of_pos hb]
      rfl
  · refine ⟨p.1.trans s4, ?_⟩
    rw [s4 _ _ p.2, List.range_succ, List.filter_append, List.filter_cons_of_neg (by rw [hb]; decide)]
    simp
/-- what a comprehension with a test leaves of a list -/
theorem filt_range {α : Type} (d : α) (p : α → Bool) (l : List α) : ((List.range l.length).filter fun i => p (l.getD i d)).map (fun i => l.getD i d) = l.filter p := by
  have e : (List.range l.length).map (fun i => l.getD i d) = l := by
    apply List.ext_getElem
    · simp
    · intro i h1 h2
      simp [h2]
  have q : ((List.range l.length).map (fun i => l.getD i d)).filter p = ((List.range l.length).filter fun i => p (l.getD i d)).map (fun i => l.getD i d) := by
    rw [List.filter_map]
    rfl
  rw [← q, e]
theorem risingS_le : ∀ (l : List Str) (p : Str), risingS p l = true → (p :: l).Pairwise (fun a b => a.cps.toList ≤ b.cps.toList)
  | [], p, _ => List.pairwise_singleton _ _
  | x :: r, p, h => by
    have h1 : (!ltCps x.cps.toList p.cps.toList && risingS x r) = true := h
    rw [Bool.and_eq_true] at h1
    obtain ⟨h2, h3⟩ := h1
    have ih := risingS_le r x h3
    rw [ltCps_eq] at h2
    have h4 : p.cps.toList ≤ x.cps.toList := List.not_lt.mp (by simpa using h2)
    refine List.pairwise_cons.mpr ⟨fun b m => ?_, ih⟩
    rcases List.mem_cons.mp m with m | m
    · rw [m]
      exact h4
    · exact List.le_trans h4 ((List.pairwise_cons.mp ih).1 b m)
theorem sortedS_le {l : List Str} (h : sortedS l = true) : l.Pairwise (fun a b => a.cps.toList ≤ b.cps.toList) := by
  cases l with
  | nil => exact List.Pairwise.nil
  | cons x r => exact risingS_le r x h
theorem sortedS_one {l m : List Str} (p : l.Perm m) (hl : sortedS l = true) (hm : sortedS m = true) : l = m :=
  List.Perm.eq_of_pairwise (fun a b _ _ h1 h2 => PySem.W.str_of_cps (List.le_antisymm h1 h2)) (sortedS_le hl) (sortedS_le hm) p
/-- the names of a function's variables -/
def FdT.vars (f : FdT) : List Str := (f.ns ++ f.ms).map Prod.fst
theorem kvP_keys (l : List (Str × Str)) : (kvP l).map (fun kv => kV kv.1) = (l.map Prod.fst).map V.str := by
  unfold kvP
  rw [List.map_map, List.map_map]
  rfl
def spHasRowG (K : PySem.W.Frag) : Sp := fun vs H Q _ => ∃ (p dx pa va ba : Addr) (fs : List (Str × V)) (ps rs : List Addr) (f : FdT) (i : Nat), vs = [.ref p, .int i] ∧ FunB K H p dx pa va ba fs ps rs f ∧ i < f.rws.length ∧ ∀ H', Same H H' → Q (.bl true) H'
/-- what is asked of a function of a source: its rows are right by themselves -/
structure Fine (f : FdT) : Prop where
  ok : OkG f.rws
  few : ∀ r ∈ f.rws, r.reads.length ≤ 1000
  vars : f.vars.length ≤ 12
def spWantedInG (K : PySem.W.Frag) : Sp := fun vs H Q _ => ∃ (p dx pa va ba : Addr) (fs : List (Str × V)) (ps rs : List Addr) (f : FdT) (i : Nat), vs = [.ref p, .int i] ∧ FunB K H p dx pa va ba fs ps rs f ∧ Fine f ∧ i < f.rws.length ∧
  ∀ (q : Addr) (H' : Hp) (ys : List Str), Same H H' → H q = none → ys.Perm f.vars → sortedS ys = true → H' q = some (.lst ((ys.filter fun x => (wayOf f.rws x i).isSome).map V.str)) → Q (.ref q) H'
def spWithG (K : PySem.W.Frag) : Sp := fun vs H Q _ => ∃ (p : Addr) (cls : Str) (flds : List (Str × Str)) (fds : List FdT) (j i : Nat) (f : FdT), vs = [.ref p, .str f.nm, .int i] ∧ SrcX K H p cls flds fds ∧ (fds.map FdT.nm).Nodup ∧ fds[j]? = some f ∧ i < f.rws.length ∧
  ∀ (a dx pa va ba : Addr) (fs : List (Str × V)) (ps rs : List Addr) (H' : Hp), Same H H' → FunB K H' a dx pa va ba fs ps rs f → Q (.ref a) H'
def spWantedG (K : PySem.W.Frag) : Sp := fun vs H Q _ => ∃ (p : Addr) (cls : Str) (flds : List (Str × Str)) (fds : List FdT) (j i : Nat) (f : FdT), vs = [.ref p, .str f.nm, .int i] ∧ SrcX K H p cls flds fds ∧ (fds.map FdT.nm).Nodup ∧ fds[j]? = some f ∧ Fine f ∧ i < f.rws.length ∧
  ∀ (q : Addr) (H' : Hp) (ys : List Str), Same H H' → H q = none → ys.Perm f.vars → sortedS ys = true → H' q = some (.lst ((ys.filter fun x => (wayOf f.rws x i).isSome).map V.str)) → Q (.ref q) H'
def spWantingG (K : PySem.W.Frag) : Sp := fun vs H Q _ => ∃ (p : Addr) (cls : Str) (flds : List (Str × Str)) (fds : List FdT) (j i : Nat) (f : FdT) (x : Str), vs = [.ref p, .str f.nm, .int i, .str x] ∧ SrcX K H p cls flds fds ∧ (fds.map FdT.nm).Nodup ∧ fds[j]? = some f ∧ Fine f ∧ (f.vars).Nodup ∧ i < f.rws.length ∧ x ∈ f.vars ∧
  ∀ v H', Same H H' → WayN H (wayOf f.rws x i) v H' → Q v H' 
theorem sc_Function_has_row : FnScope ["self", "thing"] ["self", "thing"] (defScope s_Function_has_row) := ⟨rfl, rfl, rfl, by decide +kernel, rfl, by decide +kernel, by decide +kernel⟩
theorem ok_Function_has_row (T : Ctx w K mg) (H_is_integer_in : Has P w K mg base 2 "is_integer_in" ["thing", "least", "most"] spIntIn) : HasM P w K mg base 3 "Function" "has_row" ["self", "thing"] (spHasRowG K) := by
  obtain ⟨fd, F⟩ := T.D_Function_has_row
  obtain ⟨fd_is_integer_in, G_is_integer_in, b_is_integer_in⟩ := H_is_integer_in.ex
  refine ⟨⟨fd, F.ok sc_Function_has_row (fun vs H Q E h => ?_) (fun cdv A outer s H vs Q E hr h => ?_), F.bindsN fun _ _ _ _ _ _ us hl => match us, hl with | [_, _], _ => rfl⟩⟩
  · obtain ⟨p, dx, pa, va, ba, fs, ps, rs, f, i, rfl, B, hi, k⟩ := h; rfl
  · obtain ⟨p, dx, pa, va, ba, fs, ps, rs, f, i, rfl, B, hi, k⟩ := h
    have hr_is_integer_in : Room 2 _ := hr.mono (by decide)
    have hu := hu_of hr
    refine ⟨_, PSs.nox (pss_one (ps_ret (pe_call G_is_integer_in hr_is_integer_in (by rfl) H_is_integer_in.gl H_is_integer_in.kp b_is_integer_in .nil pass0 (pa_cons (pv 1) (pa_cons pe_int (pa_cons (pe_op op_sub (pe_callB call_len_seq (by rfl) T.f_len (by decide +kernel) (pa_cons (pe_fldK (K := K) rfl (pv 0) (by rfl)) pa_nil)) pe_int) pa_nil)))))), ?_⟩
    have hl : rs.length = f.rws.length := B.kr.len
    refine ⟨_, rfl, _, rfl, p, _, dx, fs, _, rfl, B.ob, T.c_Function, T.n_Function_body, B.f4, _, _, rfl, .inr B.tb.sq, _, _, rfl, rfl, i, 0, _, rfl, by omega, ?_, k H (Same.refl H)⟩
    rw [List.length_map, hl]
    omega
theorem sc_wanted_in : FnScope ["function", "row", "names", "name"] ["function", "row"] (defScope s_wanted_in) := ⟨rfl, rfl, rfl, by decide +kernel, rfl, by decide +kernel, by decide +kernel⟩
theorem ok_wanted_in (T : Ctx w K mg) (H_way_to_reader : Has P w K mg base 2 "_way_to_reader" ["body", "row", "variable"] spWay) : Has P w K mg base 4 "_wanted_in" ["function", "row"] (spWantedInG K) := by
  obtain ⟨fd, F⟩ := T.D_wanted_in
  obtain ⟨fd_way_to_reader, G_way_to_reader, b_way_to_reader⟩ := H_way_to_reader.ex
  refine ⟨⟨fd, F.ok sc_wanted_in (fun vs H Q E h => ?_) (fun cdv A outer s H vs Q E hr h => ?_), F.bindsN fun _ _ _ _ _ _ us hl => match us, hl with | [_, _], _ => rfl⟩, F.kp, T.g_wanted_in⟩
  · obtain ⟨p, dx, pa, va, ba, fs, ps, rs, f, i, rfl, B, Fi, hi, k⟩ := h; rfl
  · obtain ⟨p, dx, pa, va, ba, fs, ps, rs, f, i, rfl, B, Fi, hi, k⟩ := h
    have hr_way_to_reader : Room 2 _ := hr.mono (by decide)
    have hu := hu_of hr
    refine ⟨_, PSs.nox (pss_cons (ps_set (i := 2) sc_wanted_in.nd rfl (Or.inl rfl) (pe_callB cr_sortedS (by rfl) T.f_sorted (by decide +kernel) (pa_cons (pe_callTy (call_listD rfl) (by rfl) T.f_list (by decide +kernel) (pa_cons (pe_fldK (K := K) rfl (pv 0) (by rfl)) pa_nil)) pa_nil)))
      (pss_one (ps_ret (pe_lc (own := [("name", 3)]) (g := gName 3) rfl sc_wanted_in.nd (pi_list (pv 2)) (blkOk_by (N := ["function", "row", "names", "name"]) (sc := defScope s_wanted_in) (by decide +kernel)) (fun _ _ _ _ _ => (pg_name (i := 3) sc_wanted_in.nd rfl (Or.inl rfl))) (fun _ _ _ _ _ => (pts_one (pt_cmpR op_notN (pe_call G_way_to_reader hr_way_to_reader (by rfl) H_way_to_reader.gl H_way_to_reader.kp b_way_to_reader .nil pass0 (pa_cons (pe_fldK (K := K) rfl (pv 0) (by rfl)) (pa_cons (pv 1) (pa_cons (pv 3) pa_nil)))) pe_non (nomark _)))) (fun _ _ _ _ _ => (pv 3)))))), ?_⟩
    refine ⟨_, rfl, p, _, dx, fs, _, rfl, B.ob, T.c_Function, T.n_Function_variables, B.f3, va, _, rfl, .inl B.vd, fun l hl => ?_⟩
    have s1 : Same H (upd H l (.lst ((kvP (f.ns ++ f.ms)).map fun kv => kV kv.1))) := Same.new hl
    refine ⟨l, f.vars, rfl, SqL.of ?_, by have := Fi.vars; omega, fun ys p1 pm ps1 hp => ?_⟩
    · rw [upd_same, kvP_keys]
      rfl
    have hyl : ys.length ≤ 12 := by
      rw [pm.length_eq]
      exact Fi.vars
    have s2 := s1.trans (Same.new (o := .lst (ys.map V.str)) hp)
    refine ⟨_, rfl, p1, rfl, ⟨_, SqL.of upd_same⟩, fun D hD => ?_⟩
    refine lc_filt (walk_list (K := K) (a := p1) (xs := ys.map V.str)) hD (fun j => .str (ys.getD j "")) (fun j => (wayOf f.rws (ys.getD j "") i).isSome) (by rw [List.length_map]; omega) (fun H4 s4 => SqL.of (s4 _ _ upd_same)) (fun j H4 y H5 hj s4 hy Qe Qn qe qn => ?_) (fun H4 s4 h4 => ?_)
    · obtain ⟨rfl, hy⟩ := hy
      obtain ⟨x, hx, rfl⟩ := map_get hy
      have ex : ys.getD j "" = x := by
        rw [List.getD_eq_getElem?_getD, hx]
        rfl
      rw [ex] at qe qn
      have B5 := B.mono (s2.trans s4)
      refine ⟨rfl, _, rfl, p, _, dx, fs, _, rfl, B5.ob, T.c_Function, T.n_Function_body, B5.f4, _, rfl, _, rfl, ba, i, x, rs, f.rws, rfl, B5.tb, B5.kr, hi, Fi.ok, Fi.few, fun v H6 s6 hv => ?_⟩
      refine ⟨rfl, _, rfl, ?_⟩
      cases e : wayOf f.rws x i with
      | none =>
        rw [e] at hv
        have hv2 : v = .non := hv
        subst hv2
        exact ifF rfl (qn _ s6 (by rw [e]; rfl))
      | some w =>
        rw [e] at hv
        obtain ⟨a, rfl, _⟩ := hv
        exact ifT rfl ⟨_, rfl, qe _ s6 (by rw [e]; rfl)⟩
    · have hDN : H D = none := by
        cases q : H D with
        | none => rfl
        | some z => exact absurd (s2 _ _ q) (by rw [hD]; intro z; cases z)
      refine k D _ ys (s2.trans s4) hDN pm ps1 ?_
      rw [h4, List.length_map]
      have q := filt_range ("" : Str) (fun x => (wayOf f.rws x i).isSome) ys
      rw [← q, List.map_map]
      rfl

end
end W16
set_option Elab.async false
set_option linter.all false
set_option maxRecDepth 100000
set_option maxHeartbeats 4000000
namespace W16
open PySem PySem.Spec PyProof.Rows L2 RZ
section
variable {P : Program} {w : World} {K : PySem.W.Frag} {mg : Str → Option Value} {base : Heap}

/-- what stands behind the top of the error InvalidNumber -/
structure ErrOk (K : PySem.W.Frag) (C : Addr) : Prop where
  ae : AE.AeC K C
  xf : XfC K C
  no : PySem.W.findIn K (.ref C) "number" = some none
  init : PySem.W.findIn K (.ref C) "__init__" = some (some (.ref (He.ma K C "__init__")))
  ty : PySem.W.typeIn K (.ref (He.ma K C "__init__")) = some (.type "function")
theorem Ctx.err (T : Ctx w K mg) : ErrOk K (He.ga K "InvalidNumber") := by
  have e := (He.ba (He.ba (He.ba (He.ba (He.ba T.more).2).2).2).2).2
  obtain ⟨e1, e⟩ := He.ba (show (AE.aeB K (He.ga K "InvalidNumber") && (L2.xfB K (He.ga K "InvalidNumber") && (decide (PySem.W.findIn K (.ref (He.ga K "InvalidNumber")) "number" = some none) && (decide (PySem.W.findIn K (.ref (He.ga K "InvalidNumber")) "__init__" = some (some (.ref (He.ma K (He.ga K "InvalidNumber") "__init__")))) && decide (PySem.W.typeIn K (.ref (He.ma K (He.ga K "InvalidNumber") "__init__")) = some (.type "function")))))) = true from e)
  obtain ⟨e2, e⟩ := He.ba e
  obtain ⟨e3, e⟩ := He.ba e
  obtain ⟨e4, e5⟩ := He.ba e
  exact ⟨AE.aeB_ok e1, xfB_ok e2, of_decide_eq_true e3, of_decide_eq_true e4, of_decide_eq_true e5⟩
def spNumInit (K : PySem.W.Frag) : Sp := fun vs H Q _ => ∃ (a C : Addr) (y : V), vs = [.ref a, y] ∧ ErrOk K C ∧ H a = some (exo a C none) ∧ ∀ dx, H dx = none → dx ≠ a → Q .non (upd (upd H dx (exd dx [("number", y)])) a (exo a C (some dx)))
theorem sc_num_init : FnScope ["self", "number"] ["self", "number"] (defScope s_InvalidNumber_init) := ⟨rfl, rfl, rfl, by decide +kernel, rfl, by decide +kernel, by decide +kernel⟩
theorem ok_num_init (T : Ctx w K mg) : HasM P w K mg base 1 "InvalidNumber" "__init__" ["self", "number"] (spNumInit K) := by
  obtain ⟨fd, F⟩ := T.D_InvalidNumber_init
  refine ⟨⟨fd, F.ok sc_num_init (fun vs H Q E h => ?_) (fun cdv A outer s H vs Q E hr h => ?_), F.bindsN fun _ _ _ _ _ _ us hl => match us, hl with | [_, _], _ => rfl⟩⟩
  · obtain ⟨a, C, y, rfl, _⟩ := h
    rfl
  · obtain ⟨a, C, y, rfl, O, ha, k⟩ := h
    refine ⟨_, PSs.nox (pss_one (AE.ps_ast (pv 0) (pv 1))), ?_⟩
    exact ⟨_, rfl, _, rfl, a, C, rfl, O.ae, O.no, ha, fun dx n ne => k dx n ne⟩
/-- raise InvalidNumber(row) -/
def tNum (C : Addr) (W : WX) (te : TE) : TS := fun _ σ H => te σ H fun y H1 => ∀ d, H1 d = none → W (.ref C) (some d) σ (upd H1 d (.xd [("number", y)]))

end
end W16
set_option Elab.async false
set_option linter.all false
set_option maxRecDepth 100000
set_option maxHeartbeats 4000000
namespace W16
open PySem PySem.Spec PyProof.Rows L2 RZ
section
variable {P : Program} {w : World} {K : PySem.W.Frag} {mg : Str → Option Value} {base : Heap}
theorem num_made {C a : Addr} {y : V} {H1 : Hp} {Q : XK} (hn : H1 a = none) (O : ErrOk K C) (k : ∀ d, H1 d = none → Q (.ref C) (some d) (upd H1 d (.xd [("number", y)]))) :
    spNumInit K [.ref a, y] (upd H1 a (exo a C none)) (fun v H2 => v = .non ∧ ∃ (d : Addr) (fs : List (Str × V)), H2 a = some (exo a C (some d)) ∧ H2 d = some (exd d fs) ∧ H1 d = none ∧ Q (.ref C) (some d) (upd (del H2 a) d (.xd fs))) (fun _ _ _ => False) := by
  refine ⟨a, C, y, rfl, O, upd_same, fun d n ne => ⟨rfl, d, _, upd_same, by rw [upd_ne ne, upd_same], by rw [upd_ne ne] at n; exact n, ?_⟩⟩
  have n1 : H1 d = none := by rw [upd_ne ne] at n; exact n
  have e : upd (del (upd (upd (upd H1 a (exo a C none)) d (exd d [("number", y)])) a (exo a C (some d))) a) d (.xd [("number", y)]) = upd H1 d (.xd [("number", y)]) := by
    funext b
    by_cases c : b = d
    · rw [c, upd_same, upd_same]
    · rw [upd_ne c, upd_ne c]
      by_cases c2 : b = a
      · rw [c2, del_same, hn]
      · rw [del_ne c2, upd_ne c2, upd_ne c, upd_ne c2]
  rw [e]
  exact k d n1
/-- raise InvalidNumber(e) -/
theorem ps_raiseNum {X : Cx} {e : Expr} {ta : TA} {W : WX} {p pos pos2 : Pos} {k : Nat} {fd : FuncData} (hc : X.calm = true) (tk : Takes X W) (O : ErrOk X.K (He.ga X.K "InvalidNumber"))
    (F : FnOk X.prog X.w X.K X.mg X.base CX0 k (He.ma X.K (He.ga X.K "InvalidNumber") "__init__") fd ["self", "number"] (spNumInit X.K)) (b : Binds X.K fd ["self", "number"] []) (hr : Room (k + 1) X.A) (hg : Gl X "InvalidNumber")
    (hm : X.mg "InvalidNumber" = some (.ref (He.ga X.K "InvalidNumber"))) (ha : PA X [e] ta) (h1 : starEach (e :: []) X.env = (false, eval e X.env) :: starEach [] X.env := by rfl) (h2 : (backTo pos (starEach [] X.env)).any (·.1) = false := by rfl) :
    PS X (.Raise (some (.Call (.Name "InvalidNumber" p) [e] [] pos)) none pos2) (fun _ σ H => tMkO (He.ga X.K "InvalidNumber") (spNumInit X.K) [] ta σ H fun cls d H' => W cls d σ H') :=
  ps_raise hc tk (AE.pmk_ae O.ae O.init O.ty F hr b pass0 hg hm ha (by decide) h1 h2)
end
end W16
set_option Elab.async false
set_option linter.all false
set_option maxRecDepth 100000
set_option maxHeartbeats 4000000
namespace W16
open PySem PySem.Spec PyProof.Rows L2 RZ
section
variable {P : Program} {w : World} {K : PySem.W.Frag} {mg : Str → Option Value} {base : Heap}

/-- the name that a row calls -/
def calledV : Rx → V
  | .call _ F _ => .str F
  | _ => .non
theorem binNc : ∀ kk : Fin 4, decide (V.str (binW kk) = V.str "call") = false := by decide +kernel
def spCalled (K : PySem.W.Frag) : Sp := fun vs H Q _ => ∃ (p dx pa va ba : Addr) (fs : List (Str × V)) (ps rs : List Addr) (f : FdT) (i : Nat), vs = [.ref p, .int i] ∧ FunB K H p dx pa va ba fs ps rs f ∧ i < f.rws.length ∧ ∀ r, f.rws[i]? = some r → Q (calledV r) H
theorem sc_Function_called_at : FnScope ["self", "row"] ["self", "row"] (defScope s_Function_called_at) := ⟨rfl, rfl, rfl, by decide +kernel, rfl, by decide +kernel, by decide +kernel⟩
theorem ok_Function_called_at (T : Ctx w K mg) : HasM P w K mg base 1 "Function" "called_at" ["self", "row"] (spCalled K) := by
  obtain ⟨fd, F⟩ := T.D_Function_called_at
  refine ⟨⟨fd, F.ok sc_Function_called_at (fun vs H Q E h => ?_) (fun cdv A outer s H vs Q E hr h => ?_), F.bindsN fun _ _ _ _ _ _ us hl => match us, hl with | [_, _], _ => rfl⟩⟩
  · obtain ⟨p, dx, pa, va, ba, fs, ps, rs, f, i, rfl, B, hi, k⟩ := h; rfl
  · obtain ⟨p, dx, pa, va, ba, fs, ps, rs, f, i, rfl, B, hi, k⟩ := h
    have hu := hu_of hr
    refine ⟨_, PSs.nox (pss_one (ps_ret (pe_ifExp (pt_cmpR op_eq (pe_ix ix_tup (pe_ix ix_tup (pe_fldK (K := K) rfl (pv 0) (by rfl)) (pv 1) (fun _ _ => rfl)) pe_int (fun _ _ => rfl)) pe_str (nomark _)) (pe_ix ix_tup (pe_ix ix_tup (pe_fldK (K := K) rfl (pv 0) (by rfl)) (pv 1) (fun _ _ => rfl)) pe_int (fun _ _ => rfl)) pe_non))), ?_⟩
    have hl : rs.length = f.rws.length := B.kr.len
    obtain ⟨a, l0, ha, hra, _⟩ := B.kr.row hi
    have hx : f.rws[i]? = some f.rws[i] := List.getElem?_eq_getElem hi
    have kk := k _ hx
    clear k
    refine ⟨_, rfl, p, _, dx, fs, _, rfl, B.ob, T.c_Function, T.n_Function_body, B.f4, _, rfl, _, _, _, _, rfl, rfl, B.tb.sq, at_refs ha, _, _, _, _, rfl, rfl, SqT.of hra, at0, ?_⟩
    cases hr : f.rws[i] with
    | call x F bs =>
      rw [hr] at hra kk
      refine ⟨rfl, _, rfl, ifT rfl ?_⟩
      exact ⟨_, rfl, p, _, dx, fs, _, rfl, B.ob, T.c_Function, T.n_Function_body, B.f4, _, rfl, _, _, _, _, rfl, rfl, B.tb.sq, at_refs ha, _, _, _, _, rfl, rfl, SqT.of hra, at2, kk⟩
    | bin m x y z =>
      rw [hr] at kk
      exact ⟨rfl, _, rfl, ifF (binNc m) kk⟩
    | num x n =>
      rw [hr] at kk
      exact ⟨rfl, _, rfl, ifF rfl kk⟩
    | nil x =>
      rw [hr] at kk
      exact ⟨rfl, _, rfl, ifF rfl kk⟩
    | copy x y =>
      rw [hr] at kk
      exact ⟨rfl, _, rfl, ifF rfl kk⟩
    | same x y z =>
      rw [hr] at kk
      exact ⟨rfl, _, rfl, ifF rfl kk⟩
    | new x c =>
      rw [hr] at kk
      exact ⟨rfl, _, rfl, ifF rfl kk⟩
    | get x y f =>
      rw [hr] at kk
      exact ⟨rfl, _, rfl, ifF rfl kk⟩
    | put x f y =>
      rw [hr] at kk
      exact ⟨rfl, _, rfl, ifF rfl kk⟩
    | see x =>
      rw [hr] at kk
      exact ⟨rfl, _, rfl, ifF rfl kk⟩
    | ret x =>
      rw [hr] at kk
      exact ⟨rfl, _, rfl, ifF rfl kk⟩
    | jump r =>
      rw [hr] at kk
      exact ⟨rfl, _, rfl, ifF rfl kk⟩
    | ifz x r =>
      rw [hr] at kk
      exact ⟨rfl, _, rfl, ifF rfl kk⟩

end
end W16
set_option Elab.async false
set_option linter.all false
set_option maxRecDepth 100000
set_option maxHeartbeats 4000000
namespace W16
open PySem PySem.Spec PyProof.Rows L2 RZ
section
variable {P : Program} {w : World} {K : PySem.W.Frag} {mg : Str → Option Value} {base : Heap}

def spIntInB : Sp := fun vs H Q _ => ∃ i lo hi : Int, vs = [.int i, .int lo, .int hi] ∧ Q (.bl (decide (lo ≤ i) && decide (i ≤ hi))) H
def spHasRowB (K : PySem.W.Frag) : Sp := fun vs H Q _ => ∃ (p dx pa va ba : Addr) (fs : List (Str × V)) (ps rs : List Addr) (f : FdT) (i : Int), vs = [.ref p, .int i] ∧ FunB K H p dx pa va ba fs ps rs f ∧ f.rws.length ≤ 40 ∧ Q (.bl (decide (0 ≤ i) && decide (i ≤ (f.rws.length : Int) - 1))) H
theorem scB_is_integer_in : FnScope ["thing", "least", "most"] ["thing", "least", "most"] (defScope s_is_integer_in) := ⟨rfl, rfl, rfl, by decide +kernel, rfl, by decide +kernel, by decide +kernel⟩
theorem ok_is_integer_inB (T : Ctx w K mg) (H_is_integer : Has P w K mg base 1 "is_integer" ["thing"] spIsInt) : Has P w K mg base 2 "is_integer_in" ["thing", "least", "most"] spIntInB := by
  obtain ⟨fd, F⟩ := T.D_is_integer_in
  obtain ⟨fd_is_integer, G_is_integer, b_is_integer⟩ := H_is_integer.ex
  refine ⟨⟨fd, F.ok scB_is_integer_in (fun vs H Q E h => ?_) (fun cdv A outer s H vs Q E hr h => ?_), F.bindsN fun _ _ _ _ _ _ us hl => match us, hl with | [_, _, _], _ => rfl⟩, F.kp, T.g_is_integer_in⟩
  · obtain ⟨i, lo, hi, rfl, k⟩ := h; rfl
  · obtain ⟨i, lo, hi, rfl, k⟩ := h
    have hr_is_integer : Room 1 _ := hr.mono (by decide)
    have hu := hu_of hr
    refine ⟨_, PSs.nox (pss_one (ps_ret (pe_and (pe_call G_is_integer hr_is_integer (by rfl) H_is_integer.gl H_is_integer.kp b_is_integer .nil pass0 (pa_cons (pv 0) pa_nil)) (pe_one (pe_chain op_le op_le (pv 1) (pv 0) (pv 2)))))), ?_⟩
    refine ⟨_, rfl, i, rfl, true, rfl, iteT ?_⟩
    by_cases h1 : lo ≤ i
    · refine ⟨_, rfl, _, rfl, _, _, rfl, rfl, _, rfl, ifT (decide_eq_true h1) ⟨_, rfl, _, _, rfl, rfl, ?_⟩⟩
      rw [decide_eq_true h1, Bool.true_and] at k
      exact k
    · refine ⟨_, rfl, _, rfl, _, _, rfl, rfl, _, rfl, ifF (decide_eq_false h1) ?_⟩
      rw [decide_eq_false h1, Bool.false_and] at k
      exact k
theorem scB_Function_has_row : FnScope ["self", "thing"] ["self", "thing"] (defScope s_Function_has_row) := ⟨rfl, rfl, rfl, by decide +kernel, rfl, by decide +kernel, by decide +kernel⟩
theorem ok_Function_has_rowB (T : Ctx w K mg) (H_is_integer_in : Has P w K mg base 2 "is_integer_in" ["thing", "least", "most"] spIntInB) : HasM P w K mg base 3 "Function" "has_row" ["self", "thing"] (spHasRowB K) := by
  obtain ⟨fd, F⟩ := T.D_Function_has_row
  obtain ⟨fd_is_integer_in, G_is_integer_in, b_is_integer_in⟩ := H_is_integer_in.ex
  refine ⟨⟨fd, F.ok scB_Function_has_row (fun vs H Q E h => ?_) (fun cdv A outer s H vs Q E hr h => ?_), F.bindsN fun _ _ _ _ _ _ us hl => match us, hl with | [_, _], _ => rfl⟩⟩
  · obtain ⟨p, dx, pa, va, ba, fs, ps, rs, f, i, rfl, B, h40, k⟩ := h; rfl
  · obtain ⟨p, dx, pa, va, ba, fs, ps, rs, f, i, rfl, B, h40, k⟩ := h
    have hr_is_integer_in : Room 2 _ := hr.mono (by decide)
    have hu := hu_of hr
    refine ⟨_, PSs.nox (pss_one (ps_ret (pe_call G_is_integer_in hr_is_integer_in (by rfl) H_is_integer_in.gl H_is_integer_in.kp b_is_integer_in .nil pass0 (pa_cons (pv 1) (pa_cons pe_int (pa_cons (pe_op op_sub (pe_callB call_len_seq (by rfl) T.f_len (by decide +kernel) (pa_cons (pe_fldK (K := K) rfl (pv 0) (by rfl)) pa_nil)) pe_int) pa_nil)))))), ?_⟩
    have hl : rs.length = f.rws.length := B.kr.len
    refine ⟨_, rfl, _, rfl, p, _, dx, fs, _, rfl, B.ob, T.c_Function, T.n_Function_body, B.f4, _, _, rfl, .inr B.tb.sq, _, _, rfl, rfl, i, 0, _, rfl, ?_⟩
    rw [List.length_map, hl]
    exact k

end
end W16
set_option Elab.async false
set_option linter.all false
set_option maxRecDepth 100000
set_option maxHeartbeats 4000000
namespace W16
open PySem PySem.Spec PyProof.Rows L2 RZ
section
variable {P : Program} {w : World} {K : PySem.W.Frag} {mg : Str → Option Value} {base : Heap}

/-- a def that keeps its promise and may raise -/
structure HasX (P : Program) (w : World) (K : PySem.W.Frag) (mg : Str → Option Value) (base : Heap) (k : Nat) (x : Str) (ps : List Str) (sp : Sp) : Prop where
  ex : ∃ fd, FnOk P w K mg base (L2.CX P w) k (He.ga K x) fd ps sp ∧ Binds K fd ps []
  kp : PySem.W.keepIn K (.ref (He.ga K x)) = true
  gl : mg x = some (.ref (He.ga K x))
def NumE (K : PySem.W.Frag) (H : Hp) (i : Int) (E : XK) : Prop := ∀ d, H d = none → E (.ref (He.ga K "InvalidNumber")) (some d) (upd H d (.xd [("number", .int i)]))
def spWithX (K : PySem.W.Frag) : Sp := fun vs H Q E => ∃ (p : Addr) (cls : Str) (flds : List (Str × Str)) (fds : List FdT) (j : Nat) (i : Int) (f : FdT), vs = [.ref p, .str f.nm, .int i] ∧ SrcX K H p cls flds fds ∧ (fds.map FdT.nm).Nodup ∧ fds[j]? = some f ∧ f.rws.length ≤ 40 ∧
  (∀ n : Nat, i = (n : Int) → n < f.rws.length → ∀ (a dx pa va ba : Addr) (fs : List (Str × V)) (ps rs : List Addr), FunB K H a dx pa va ba fs ps rs f → Q (.ref a) H) ∧ ((i < 0 ∨ (f.rws.length : Int) ≤ i) → NumE K H i E)
theorem sc_function_withX : FnScope ["source", "name", "row", "function"] ["source", "name", "row"] (defScope s_function_with) := ⟨rfl, rfl, rfl, by decide +kernel, rfl, by decide +kernel, by decide +kernel⟩
theorem ok_function_withX (T : Ctx w K mg) (H_num : HasM P w K mg base 1 "InvalidNumber" "__init__" ["self", "number"] (spNumInit K)) (H_Source_function_at : HasM P w K mg base 1 "Source" "function_at" ["self", "name"] (spFunAt K)) (H_Function_has_row : HasM P w K mg base 3 "Function" "has_row" ["self", "thing"] (spHasRowB K)) : HasX P w K mg base 5 "_function_with" ["source", "name", "row"] (spWithX K) := by
  obtain ⟨fd, F⟩ := T.D_function_with
  obtain ⟨fd_num, G_num, b_num⟩ := H_num.ex
  obtain ⟨fd_Source_function_at, G_Source_function_at, b_Source_function_at⟩ := H_Source_function_at.ex
  obtain ⟨fd_Function_has_row, G_Function_has_row, b_Function_has_row⟩ := H_Function_has_row.ex
  refine ⟨⟨fd, F.ok sc_function_withX (fun vs H Q E h => ?_) (fun cdv A outer s H vs Q E hr h => ?_), F.bindsN fun _ _ _ _ _ _ us hl => match us, hl with | [_, _, _], _ => rfl⟩, F.kp, T.g_function_with⟩
  · obtain ⟨p, cls, flds, fds, j, i, f, rfl, _⟩ := h; rfl
  · obtain ⟨p, cls, flds, fds, j, i, f, rfl, S, hN, hf, h40, k, kE⟩ := h
    have hr_num : Room 2 _ := hr.mono (by decide)
    have hr_Source_function_at : Room 1 _ := hr.mono (by decide)
    have hr_Function_has_row : Room 3 _ := hr.mono (by decide)
    have hu := hu_of hr
    refine ⟨_, pss_cons (ps_if (pt_not (pt_val (pe_callB call_isi (by rfl) T.f_isinstance (by decide +kernel) (pa_cons (pv 0) (pa_cons (pe_glob (v := .ref (He.ga K "Source")) rfl T.g_Source rfl) pa_nil))))) (pss_one ps_never) pss_nil)
      (pss_cons (ps_set (i := 3) sc_function_withX.nd rfl (Or.inl rfl) (pe_meth (pv 0) T.c_Source T.m_Source_function_at G_Source_function_at hr_Source_function_at b_Source_function_at .nil pass0 (pa_cons (pv 1) pa_nil)))
      (pss_cons (ps_if (pt_cmpR op_isN (pv 3) pe_non (nomark _)) (pss_one ps_never) pss_nil)
      (pss_cons (ps_if (pt_not (pt_val (pe_meth (pv 3) T.c_Function T.m_Function_has_row G_Function_has_row hr_Function_has_row b_Function_has_row .nil pass0 (pa_cons (pv 2) pa_nil)))) (pss_one (ps_raiseNum rfl (takes_of rfl rfl rfl rfl) T.err G_num b_num hr_num rfl T.g_InvalidNumber (by exact (pa_cons (pv 2) pa_nil)))) pss_nil)
      (pss_one (ps_ret (pv 3)))))), ?_⟩
    obtain ⟨fps, qC, S0, fl, hB⟩ := S
    obtain ⟨dx, df, dk, du, fs, S1⟩ := id S0
    have hj : j < fps.length := by
      have := (List.getElem?_eq_some_iff.mp hf).1
      omega
    have aj : fps[j]? = some fps[j] := List.getElem?_eq_getElem hj
    obtain ⟨dz, pz, vz, bz, gz, psz, rsz, B⟩ := hB j f _ hf aj
    obtain ⟨i1, i2⟩ := T.isSource S1.ob
    refine ⟨_, rfl, _, _, _, _, true, rfl, .own _, i1, i2, true, rfl, iteF ?_⟩
    refine ⟨_, rfl, p, dx, fs, rfl, S1.ob, S1.nm _ (by decide +kernel), _, rfl, p, _, _, _, f.nm, _, rfl, S0, us_at hN hf aj, ?_⟩
    refine ⟨_, rfl, rfl, _, rfl, ifF rfl ?_⟩
    refine ⟨_, rfl, fps[j], dz, gz, rfl, B.ob, B.nohas.1, _, rfl, fps[j], dz, pz, vz, bz, gz, psz, rsz, f, i, rfl, B, h40, ?_⟩
    by_cases c : 0 ≤ i ∧ i ≤ (f.rws.length : Int) - 1
    · rw [decide_eq_true c.1, decide_eq_true c.2]
      exact ⟨_, rfl, iteF ⟨_, rfl, k i.toNat (by omega) (by omega) _ _ _ _ _ _ _ _ B⟩⟩
    · have e : (decide (0 ≤ i) && decide (i ≤ (f.rws.length : Int) - 1)) = false := by
        rw [Bool.and_eq_false_iff, decide_eq_false_iff_not, decide_eq_false_iff_not]
        omega
      rw [e]
      refine ⟨_, rfl, iteT ⟨_, rfl, by show 1 ≤ 1000; decide, fun a hn => num_made hn T.err fun d n => ?_⟩⟩
      exact kE (by omega) d n

end
end W16
set_option Elab.async false
set_option linter.all false
set_option maxRecDepth 100000
set_option maxHeartbeats 4000000
namespace W16
open PySem PySem.Spec PyProof.Rows L2 RZ
section
variable {P : Program} {w : World} {K : PySem.W.Frag} {mg : Str → Option Value} {base : Heap}

def spAtCall (K : PySem.W.Frag) : Sp := fun vs H Q E => ∃ (p : Addr) (cls : Str) (flds : List (Str × Str)) (fds : List FdT) (j : Nat) (i : Int) (f : FdT), vs = [.ref p, .str f.nm, .int i] ∧ SrcX K H p cls flds fds ∧ (fds.map FdT.nm).Nodup ∧ fds[j]? = some f ∧ Fine f ∧ f.rws.length ≤ 40 ∧
  (∀ (n : Nat) x F bs, i = (n : Int) → f.rws[n]? = some (.call x F bs) → ∀ (q : Addr) (H' : Hp) (ys : List Str), Same H H' → H q = none → ys.Perm f.vars → sortedS ys = true → H' q = some (.lst ((ys.filter fun z => decide (z ≠ x) && (wayOf f.rws z (n + 1)).isSome).map V.str)) → Q (.ref q) H') ∧
  ((∀ (n : Nat) x F bs, i = (n : Int) → f.rws[n]? ≠ some (.call x F bs)) → NumE K H i E)
/-- a def that may raise, called by place or with all arguments by name -/
structure HasXK (P : Program) (w : World) (K : PySem.W.Frag) (mg : Str → Option Value) (base : Heap) (k : Nat) (x : Str) (ps : List Str) (sp : Sp) : Prop where
  ex : ∃ fd, FnOk P w K mg base (L2.CX P w) k (He.ga K x) fd ps sp ∧ Binds K fd ps [] ∧ KBn K fd ps 0 ps.reverse (fun _ ws => ws.reverse) (fun _ zs => zs.reverse)
  kp : PySem.W.keepIn K (.ref (He.ga K x)) = true
  gl : mg x = some (.ref (He.ga K x))
theorem sc_wanted_at_call : FnScope ["source", "name", "row", "function", "result", "variable"] ["source", "name", "row"] (defScope s_wanted_at_call) := ⟨rfl, rfl, rfl, by decide +kernel, rfl, by decide +kernel, by decide +kernel⟩
theorem ok_wanted_at_call (T : Ctx w K mg) (H_num : HasM P w K mg base 1 "InvalidNumber" "__init__" ["self", "number"] (spNumInit K)) (H_function_with : HasX P w K mg base 5 "_function_with" ["source", "name", "row"] (spWithX K)) (H_wanted_in : Has P w K mg base 4 "_wanted_in" ["function", "row"] (spWantedInG K)) (H_row_sets : Has P w K mg base 1 "row_sets" ["row"] spSetsG) (H_Function_called_at : HasM P w K mg base 1 "Function" "called_at" ["self", "row"] (spCalled K)) : HasXK P w K mg base 6 "wanted_at_call" ["source", "name", "row"] (spAtCall K) := by
  obtain ⟨fd, F⟩ := T.D_wanted_at_call
  obtain ⟨fd_num, G_num, b_num⟩ := H_num.ex
  obtain ⟨fd_function_with, G_function_with, b_function_with⟩ := H_function_with.ex
  obtain ⟨fd_wanted_in, G_wanted_in, b_wanted_in⟩ := H_wanted_in.ex
  obtain ⟨fd_row_sets, G_row_sets, b_row_sets⟩ := H_row_sets.ex
  obtain ⟨fd_Function_called_at, G_Function_called_at, b_Function_called_at⟩ := H_Function_called_at.ex
  refine ⟨⟨fd, F.ok sc_wanted_at_call (fun vs H Q E h => ?_) (fun cdv A outer s H vs Q E hr h => ?_), F.bindsN fun _ _ _ _ _ _ us hl => match us, hl with | [_, _, _], _ => rfl, F.kbindsR _ fun _ _ _ _ _ _ ws hl => match ws, hl with | [_, _, _], _ => rfl⟩, F.kp, T.g_wanted_at_call⟩
  · obtain ⟨p, cls, flds, fds, j, i, f, rfl, S, hN, hf, Fi, h40, k, kE⟩ := h; rfl
  · obtain ⟨p, cls, flds, fds, j, i, f, rfl, S, hN, hf, Fi, h40, k, kE⟩ := h
    have hr_function_with : Room 5 _ := hr.mono (by decide)
    have hr_wanted_in : Room 4 _ := hr.mono (by decide)
    have hr_row_sets : Room 1 _ := hr.mono (by decide)
    have hr_Function_called_at : Room 1 _ := hr.mono (by decide)
    have hr_num : Room 2 _ := hr.mono (by decide)
    have hu := hu_of hr
    refine ⟨_, (pss_cons (ps_set (i := 3) sc_wanted_at_call.nd rfl (Or.inl rfl) (by exact (pe_callS G_function_with hr_function_with rfl H_function_with.gl H_function_with.kp b_function_with (fun σ => passAt (takes_of rfl rfl rfl rfl) σ) (by exact (pa_cons (pv 0) (pa_cons (pv 1) (pa_cons (pv 2) pa_nil)))))))
      (pss_cons (ps_if (pt_cmpR op_isN (pe_meth (pv 3) T.c_Function T.m_Function_called_at G_Function_called_at hr_Function_called_at b_Function_called_at .nil pass0 (pa_cons (pv 2) pa_nil)) pe_non (nomark _)) (pss_one (ps_raiseNum rfl (takes_of rfl rfl rfl rfl) T.err G_num b_num hr_num rfl T.g_InvalidNumber (by exact (pa_cons (pv 2) pa_nil)))) pss_nil)
      (pss_cons (ps_set (i := 4) sc_wanted_at_call.nd rfl (Or.inr rfl) (pe_call G_row_sets hr_row_sets (by rfl) H_row_sets.gl H_row_sets.kp b_row_sets .nil pass0 (pa_cons (pe_ix ix_tup (pe_fldK (K := K) rfl (pv 3) (by rfl)) (pv 2) (fun _ _ => rfl)) pa_nil)))
      (pss_one (ps_ret (pe_lc (own := [("variable", 5)]) (g := gName 5) rfl sc_wanted_at_call.nd (pi_list (pe_call G_wanted_in hr_wanted_in (by rfl) H_wanted_in.gl H_wanted_in.kp b_wanted_in .nil pass0 (pa_cons (pv 3) (pa_cons (pe_op op_add (pv 2) pe_int) pa_nil)))) (blkOk_by (N := ["source", "name", "row", "function", "result", "variable"]) (sc := defScope s_wanted_at_call) (by decide +kernel)) (fun _ _ _ _ _ => (pg_name (i := 5) sc_wanted_at_call.nd rfl (Or.inl rfl))) (fun _ _ _ _ _ => (pts_one (pt_cmpR op_ne (pv 5) (pv 4) (nomark _)))) (fun _ _ _ _ _ => (pv 5)))))))), ?_⟩
    refine ⟨_, rfl, _, rfl, _, rfl, p, cls, flds, fds, j, i, f, rfl, S, hN, hf, h40, fun n hn hnl a dx pa va ba fs ps rs B => ?_, fun ho => kE fun n x F bs e1 e2 => ?_⟩
    rotate_left
    · have := (List.getElem?_eq_some_iff.mp e2).1
      omega
    subst hn
    refine ⟨_, rfl, a, dx, fs, rfl, B.ob, B.nohas.2, _, rfl, a, dx, pa, va, ba, fs, ps, rs, f, n, rfl, B, hnl, fun r hr => ?_⟩
    by_cases c : ∃ x F bs, r = .call x F bs
    rotate_left
    · have e : calledV r = .non := by
        cases r <;> first | rfl | exact absurd ⟨_, _, _, rfl⟩ c
      rw [e]
      refine ⟨rfl, _, rfl, ifT rfl ⟨_, rfl, by show 1 ≤ 1000; decide, fun b hb => num_made hb T.err fun d nd => kE (fun m x F bs e1 e2 => ?_) d nd⟩⟩
      have em : n = m := Int.ofNat.inj e1
      rw [← em, hr] at e2
      exact c ⟨x, F, bs, Option.some.inj e2⟩
    obtain ⟨x, F, bs, rfl⟩ := c
    refine ⟨rfl, _, rfl, ifF rfl ?_⟩
    obtain ⟨ra, l0, ha, hra, _⟩ := B.kr.row hnl
    have er : f.rws[n] = .call x F bs := by
      have z := List.getElem?_eq_getElem hnl
      rw [hr] at z
      exact (Option.some.inj z).symm
    rw [er] at hra
    refine ⟨_, rfl, a, _, dx, fs, _, rfl, B.ob, T.c_Function, T.n_Function_body, B.f4, _, rfl, _, _, _, _, rfl, rfl, B.tb.sq, at_refs ha, ra, _, _, rfl, hra, ?_⟩
    have hn1 : n + 1 < f.rws.length := next_lt Fi.ok hnl (n + 1) (by unfold nextOf; rw [hr]; exact List.mem_cons_self)
    refine ⟨_, rfl, _, rfl, _, _, rfl, rfl, a, dx, pa, va, ba, fs, ps, rs, f, n + 1, rfl, B, Fi, hn1, fun q H1 ys s1 hq pm o1 hql => ⟨q, rfl, ⟨_, SqL.of hql⟩, fun D hD => ?_⟩⟩
    have yl : ys.length ≤ 12 := by
      rw [pm.length_eq]
      exact Fi.vars
    have zl := List.length_filter_le (fun z => (wayOf f.rws z (n + 1)).isSome) ys
    generalize hz : (ys.filter fun z => (wayOf f.rws z (n + 1)).isSome) = zs at hql zl
    refine lc_filt (walk_list (K := K) (a := q) (xs := zs.map V.str)) hD (fun t => .str (zs.getD t "")) (fun t => decide (zs.getD t "" ≠ x)) (by rw [List.length_map]; omega) (fun H4 s4 => SqL.of (s4 _ _ hql)) (fun t H4 y H5 ht s4 hy Qe Qn qe qn => ?_) (fun H4 s4 h4 => ?_)
    · obtain ⟨rfl, hy⟩ := hy
      obtain ⟨z, hz2, rfl⟩ := map_get hy
      have ex : zs.getD t "" = z := by
        rw [List.getD_eq_getElem?_getD, hz2]
        rfl
      rw [ex] at qe qn
      refine ⟨rfl, _, rfl, _, rfl, ?_⟩
      by_cases cz : z = x
      · have ez : (V.str z) = oS (Rx.call x F bs).sets := by rw [cz]; rfl
        exact ⟨rfl, _, rfl, ifF (by rw [decide_eq_true ez]; rfl) (qn _ (Same.refl _) (by simp [cz]))⟩
      · have ez : ¬ (V.str z) = oS (Rx.call x F bs).sets := fun w => cz (V.str.inj w)
        exact ⟨rfl, _, rfl, ifT (by rw [decide_eq_false ez]; rfl) ⟨_, rfl, qe _ (Same.refl _) (by simp [cz])⟩⟩
    · have hDN : H D = none := by
        cases w : H D with
        | none => rfl
        | some o => exact absurd (s1 _ _ w) (by rw [hD]; intro z; cases z)
      refine k n x F bs rfl hr D _ ys (s1.trans s4) hDN pm o1 ?_
      rw [h4, List.length_map]
      have w := filt_range ("" : Str) (fun z => decide (z ≠ x)) zs
      rw [← List.filter_filter, hz, ← w, List.map_map]
      rfl

end
end W16
set_option Elab.async false
set_option linter.all false
set_option maxRecDepth 100000
set_option maxHeartbeats 4000000
namespace W16
open PySem PySem.Spec PyProof.Rows L2 RZ
section
variable {P : Program} {w : World} {K : PySem.W.Frag} {mg : Str → Option Value} {base : Heap}
theorem takesNo {X : Cx} : Takes X (fun _ _ _ _ => False) := fun _ _ ⟨_, _, _, _, _, _, _, _, _, _, _, _, _, _, _, _, h⟩ => h.elim
theorem Ctx.exmNum (T : Ctx w K mg) : PySem.W.exmOne K (.ref (He.ga K "InvalidNumber")) (.ref (He.ga K "InvalidNumber")) = some true := He.exm_ok (T.says.d.fact 67 rfl)
def spSaid (K : PySem.W.Frag) : Sp := fun vs H Q _ => ∃ (p : Addr) (cls : Str) (flds : List (Str × Str)) (fds : List FdT) (j : Nat) (i : Int) (f : FdT), vs = [.ref p, .str f.nm, .int i] ∧ SrcX K H p cls flds fds ∧ (fds.map FdT.nm).Nodup ∧ fds[j]? = some f ∧ Fine f ∧ f.rws.length ≤ 40 ∧
  (∀ (n : Nat) x F bs, i = (n : Int) → f.rws[n]? = some (.call x F bs) → ∀ (q : Addr) (H' : Hp) (ys : List Str), Same H H' → H q = none → ys.Perm f.vars → sortedS ys = true → H' q = some (.lst ((ys.filter fun z => decide (z ≠ x) && (wayOf f.rws z (n + 1)).isSome).map V.str)) → Q (.ref q) H') ∧
  ((∀ (n : Nat) x F bs, i = (n : Int) → f.rws[n]? ≠ some (.call x F bs)) → ∀ (q : Addr) (H' : Hp), Same H H' → H q = none → H' q = some (.tup [.str "number", .int i]) → Q (.ref q) H')
theorem sc_L_said : FnScope ["_law_prog", "_law_title", "_law_at", "e"] ["_law_prog", "_law_title", "_law_at"] (defScope s_L_said) := ⟨rfl, rfl, rfl, by decide +kernel, rfl, by decide +kernel, by decide +kernel⟩
theorem ok_L_said (T : Ctx w K mg) (H_wanted_at_call : HasXK P w K mg base 6 "wanted_at_call" ["source", "name", "row"] (spAtCall K)) : Has P w K mg base 7 "_law_said" ["_law_prog", "_law_title", "_law_at"] (spSaid K) := by
  obtain ⟨fd, F⟩ := T.D_L_said
  obtain ⟨fd_c, G_c, b_c, k_c⟩ := H_wanted_at_call.ex
  refine ⟨⟨fd, F.ok sc_L_said (fun vs H Q E h => ?_) (fun cdv A outer s H vs Q E hr h => ?_), F.bindsN fun _ _ _ _ _ _ us hl => match us, hl with | [_, _, _], _ => rfl⟩, F.kp, T.g_L_said⟩
  · obtain ⟨p, cls, flds, fds, j, i, f, rfl, S, hN, hf, Fi, h40, k, kE⟩ := h; rfl
  · obtain ⟨p, cls, flds, fds, j, i, f, rfl, S, hN, hf, Fi, h40, k, kE⟩ := h
    have hr_c : Room 6 _ := hr.mono (by decide)
    have O := T.err
    refine ⟨_, PSs.nox (pss_one (TR.ps_try (W := fun _ _ _ _ => False) rfl rfl sc_L_said.nd takesNo
      (fun W' pn xe tk hp => pss_one (ps_ret (by exact (pe_callS G_c hr_c rfl H_wanted_at_call.gl H_wanted_at_call.kp b_c (fun σ => passAt tk σ) (by exact (pa_cons (pv 0) (pa_cons (pv 1) (pa_cons (pv 2) pa_nil))))))))
      (TR.Cls.as (q := ⟨.ref (He.ga K "InvalidNumber"), some 3, _⟩) ⟨rfl, rfl, .inl T.g_InvalidNumber⟩ rfl rfl rfl (fun a oe cls d pn hz hf => by exact (pss_one (ps_ret (pe_tup (pa_cons pe_str (pa_cons (pe_xf O.xf O.no hz hf (pv 3)) pa_nil))))))
        (TR.Cls.bare (q := ⟨.ref (He.ga K "CodeError"), none, _⟩) ⟨rfl, rfl, .inl T.g_CodeError⟩ rfl (fun a oe cls d pn hz hf => by exact (pss_one (ps_ret pe_str))) TR.Cls.nil)))), ?_⟩
    refine ⟨_, rfl, _, rfl, _, rfl, p, cls, flds, fds, j, i, f, rfl, S, hN, hf, Fi, h40, fun n x F bs e1 e2 q H' ys s1 h1 pm o1 hq => k n x F bs e1 e2 q H' ys s1 h1 pm o1 hq, fun hno d hd => ?_⟩
    refine ⟨true, T.exmNum, fun _ a ha => ?_, fun z => by cases z⟩
    refine ⟨_, rfl, rfl, rfl, d, _, _, rfl, upd_same, rfl, ⟨sz_of (by show 2 ≤ 100000; decide), fun q hq => ?_⟩⟩
    refine kE hno q _ ((Same.new hd).trans (Same.new hq)) ?_ upd_same
    cases c : H q with
    | none => rfl
    | some o =>
      have c2 := Same.new (o := .xd [("number", V.int i)]) hd _ _ c
      rw [hq] at c2
      cases c2
end
end W16
set_option Elab.async false
set_option linter.all false
set_option maxRecDepth 100000
set_option maxHeartbeats 4000000
namespace W16
open PySem PySem.Spec PyProof.Rows L2 RZ
section
variable {P : Program} {w : World} {K : PySem.W.Frag} {mg : Str → Option Value} {base : Heap}

/-- a def that keeps its promise, called by place or with all arguments by name -/
structure HasK (P : Program) (w : World) (K : PySem.W.Frag) (mg : Str → Option Value) (base : Heap) (k : Nat) (x : Str) (ps : List Str) (sp : Sp) : Prop where
  ex : ∃ fd, FnOk P w K mg base CX0 k (He.ga K x) fd ps sp ∧ Binds K fd ps [] ∧ KBn K fd ps 0 ps.reverse (fun _ ws => ws.reverse) (fun _ zs => zs.reverse)
  kp : PySem.W.keepIn K (.ref (He.ga K x)) = true
  gl : mg x = some (.ref (He.ga K x))

end
end W16
set_option Elab.async false
set_option linter.all false
set_option maxRecDepth 100000
set_option maxHeartbeats 4000000
namespace W16
open PySem PySem.Spec PyProof.Rows L2 RZ
section
variable {P : Program} {w : World} {K : PySem.W.Frag} {mg : Str → Option Value} {base : Heap}

/-- a source of draws -/
def WellAt (H : Hp) (p : Addr) : Prop := ∃ a b c : Int, H p = some (.lst [.int a, .int b, .int c])
theorem fm {a : Int} {m : Nat} (h : 0 < m) : ∃ k : Nat, k < m ∧ a.fmod (m : Int) = (k : Int) := by
  have h0 : (0 : Int) < (m : Int) := by omega
  have h1 : 0 ≤ a.fmod (m : Int) := Int.fmod_nonneg_of_pos a h0
  have h2 : a.fmod (m : Int) < (m : Int) := Int.fmod_lt_of_pos a h0
  exact ⟨(a.fmod (m : Int)).toNat, by omega, by omega⟩
theorem mb1 (a : Int) : -(2 ^ 64) < a.fmod 2147483647 ∧ a.fmod 2147483647 < 2 ^ 64 := by
  have h1 : 0 ≤ a.fmod 2147483647 := Int.fmod_nonneg_of_pos a (by decide)
  have h2 : a.fmod 2147483647 < 2147483647 := Int.fmod_lt_of_pos a (by decide)
  omega
theorem mb2 (a : Int) : -(2 ^ 64) < a.fmod 2147483587 ∧ a.fmod 2147483587 < 2 ^ 64 := by
  have h1 : 0 ≤ a.fmod 2147483587 := Int.fmod_nonneg_of_pos a (by decide)
  have h2 : a.fmod 2147483587 < 2147483587 := Int.fmod_lt_of_pos a (by decide)
  omega
theorem bb (b : Bool) : -(2 ^ 64) < b2i b ∧ b2i b < 2 ^ 64 := by cases b <;> decide
def spWell : Sp := fun vs H Q _ => ∃ c : Int, vs = [.int c] ∧ ∀ p H', Same H H' → H p = none → WellAt H' p → Q (.ref p) H'
def spDraw : Sp := fun vs H Q _ => ∃ (p : Addr) (m : Nat), vs = [.ref p, .int m] ∧ WellAt H p ∧ 0 < m ∧ m ≤ 1000 ∧ ∀ (k : Nat) (H' : Hp), k < m → But p H H' → WellAt H' p → Q (.int k) H'
def spOne : Sp := fun vs H Q _ => ∃ (p l : Addr) (xs : List V), vs = [.ref p, .ref l] ∧ WellAt H p ∧ H l = some (.lst xs) ∧ l ≠ p ∧ 0 < xs.length ∧ xs.length ≤ 1000 ∧ ∀ (v : V) (H' : Hp), v ∈ xs → But p H H' → WellAt H' p → Q v H' 
theorem sc_L_well : FnScope ["_law_cell"] ["_law_cell"] (defScope s_L_well) := ⟨rfl, rfl, rfl, by decide +kernel, rfl, by decide +kernel, by decide +kernel⟩
theorem ok_L_well (T : Ctx w K mg) : Has P w K mg base 1 "_law_well" ["_law_cell"] spWell := by
  obtain ⟨fd, F⟩ := T.D_L_well
  refine ⟨⟨fd, F.ok sc_L_well (fun vs H Q E h => ?_) (fun cdv A outer s H vs Q E hr h => ?_), F.bindsN fun _ _ _ _ _ _ us hl => match us, hl with | [_], _ => rfl⟩, F.kp, T.g_L_well⟩
  · obtain ⟨c, rfl, k⟩ := h; rfl
  · obtain ⟨c, rfl, k⟩ := h
    have hu := hu_of hr
    refine ⟨_, PSs.nox (pss_one (ps_ret (pe_lst (pa_cons (pe_op op_mul (pv 0) (pe_callTy call_int1 (by rfl) T.f_int (by decide +kernel) (pa_cons (pe_cmpR op_ge (pv 0) (pe_op op_pow pe_int pe_int) (nomark _)) pa_nil))) (pa_cons (pe_op op_modN (pe_callTy call_int1 (by rfl) T.f_int (by decide +kernel) (pa_cons (pv 0) pa_nil)) pe_int) (pa_cons pe_int pa_nil)))))), ?_⟩
    refine ⟨_, rfl, _, rfl, _, _, rfl, rfl, ⟨by decide, by decide, by decide⟩, _, _, rfl, rfl, .inr ⟨_, rfl, _, _, rfl, rfl, .inr (bb _), ?_⟩⟩
    refine ⟨_, rfl, .inl ⟨_, rfl, _, _, rfl, rfl, (by show (2147483629 : Int) ≠ 0; decide), sz_of (by show 3 ≤ 100000; decide), fun l hl => k l _ (Same.new hl) hl ⟨_, _, _, upd_same⟩⟩⟩
theorem sc_L_draw : FnScope ["_law_well_here", "_law_many", "_law_mixed", "_law_figure"] ["_law_well_here", "_law_many"] (defScope s_L_draw) := ⟨rfl, rfl, rfl, by decide +kernel, rfl, by decide +kernel, by decide +kernel⟩
theorem ok_L_draw (T : Ctx w K mg) : Has P w K mg base 1 "_law_draw" ["_law_well_here", "_law_many"] spDraw := by
  obtain ⟨fd, F⟩ := T.D_L_draw
  refine ⟨⟨fd, F.ok sc_L_draw (fun vs H Q E h => ?_) (fun cdv A outer s H vs Q E hr h => ?_), F.bindsN fun _ _ _ _ _ _ us hl => match us, hl with | [_, _], _ => rfl⟩, F.kp, T.g_L_draw⟩
  · obtain ⟨p, m, rfl, hw, hm, hm2, k⟩ := h; rfl
  · obtain ⟨p, m, rfl, hw, hm, hm2, k⟩ := h
    have hu := hu_of hr
    refine ⟨_, PSs.nox (pss_cons (ps_if (pt_cmpR op_gt (pe_ix ix_list (pv 0) pe_int (fun _ _ => rfl)) pe_int (nomark _)) (pss_cons (ps_set (i := 3) sc_L_draw.nd rfl (Or.inl rfl) (pe_op op_modN (pe_callTy call_int1 (by rfl) T.f_int (by decide +kernel) (pa_cons (pe_ix ix_list (pv 0) pe_int (fun _ _ => rfl)) pa_nil)) (pv 1)))
      (pss_cons (ps_asg (pe_op op_fdivN (pe_ix ix_list (pv 0) pe_int (fun _ _ => rfl)) (pv 1)) (pg_sub (pv 0) pe_int set_list))
      (pss_one (ps_ret (pv 3))))) pss_nil)
      (pss_cons (ps_asg (pe_op op_add (pe_ix ix_list (pv 0) pe_int (fun _ _ => rfl)) pe_int) (pg_sub (pv 0) pe_int set_list))
      (pss_cons (ps_set (i := 2) sc_L_draw.nd rfl (Or.inl rfl) (pe_op op_modN (pe_callTy call_int1 (by rfl) T.f_int (by decide +kernel) (pa_cons (pe_op op_mul (pe_op op_add (pe_op op_add (pe_ix ix_list (pv 0) pe_int (fun _ _ => rfl)) (pe_op op_mul pe_int (pe_ix ix_list (pv 0) pe_int (fun _ _ => rfl)))) pe_int) pe_int) pa_nil)) pe_int))
      (pss_cons (ps_set (i := 2) sc_L_draw.nd rfl (Or.inl rfl) (pe_op op_modN (pe_callTy call_int1 (by rfl) T.f_int (by decide +kernel) (pa_cons (pe_op op_mul (pv 2) (pe_op op_add (pe_op op_fdivN (pv 2) pe_int) pe_int)) pa_nil)) pe_int))
      (pss_one (ps_ret (pe_op op_modN (pe_callTy call_int1 (by rfl) T.f_int (by decide +kernel) (pa_cons (pe_op op_fdivN (pe_op op_modN (pe_callTy call_int1 (by rfl) T.f_int (by decide +kernel) (pa_cons (pe_op op_mul (pv 2) (pe_op op_add (pe_op op_fdivN (pv 2) pe_int) pe_int)) pa_nil)) pe_int) pe_int) pa_nil)) (pv 1)))))))), ?_⟩
    obtain ⟨a, b, c, hp⟩ := hw
    have hm0 : (m : Int) ≠ 0 := by omega
    refine ⟨_, rfl, _, _, _, _, rfl, rfl, SqL.of hp, at0, _, _, rfl, rfl, _, rfl, ?_⟩
    by_cases ca : (0 : Int) < a
    · refine ifT (decide_eq_true ca) ?_
      obtain ⟨kk, hk, ek⟩ := fm (a := a) hm
      refine ⟨_, rfl, _, _, _, _, rfl, rfl, SqL.of hp, at0, .inl ⟨_, rfl, _, rfl, _, _, rfl, rfl, hm0, ?_⟩⟩
      refine ⟨_, rfl, _, _, _, _, rfl, rfl, SqL.of hp, at0, _, rfl, _, _, rfl, rfl, ⟨hm0, by omega⟩, _, rfl, p, _, 0, 0, rfl, rfl, hp, rfl, ?_⟩
      refine ⟨_, rfl, ?_⟩
      show Q (.int (a.fmod (m : Int))) _
      rw [ek]
      exact k kk _ hk But.upd ⟨_, _, _, upd_same⟩
    · refine ifF (decide_eq_false ca) ?_
      refine ⟨_, rfl, _, _, _, _, rfl, rfl, SqL.of hp, at2, _, _, rfl, rfl, _, rfl, p, _, 2, 2, rfl, rfl, hp, rfl, ?_⟩
      have hp2 : upd H p (.lst [.int a, .int b, .int (c + 1)]) p = some (.lst [.int a, .int b, .int (c + 1)]) := upd_same
      refine ⟨_, rfl, _, _, _, _, rfl, rfl, SqL.of hp2, at1, _, rfl, _, _, _, _, rfl, rfl, SqL.of hp2, at2, _, _, rfl, rfl, .inl ⟨by decide, by decide⟩, _, _, rfl, rfl, _, _, rfl, rfl, _, _, rfl, rfl, .inr ⟨by decide, by decide⟩, .inl ⟨_, rfl, _, _, rfl, rfl, (by show (2147483647 : Int) ≠ 0; decide), ?_⟩⟩
      refine ⟨_, rfl, _, rfl, _, _, rfl, rfl, ⟨by show (1021 : Int) ≠ 0; decide, by show (1021 : Int).natAbs < 1073741824; decide⟩, _, _, rfl, rfl, _, _, rfl, rfl, .inl (mb1 _), .inl ⟨_, rfl, _, _, rfl, rfl, (by show (2147483587 : Int) ≠ 0; decide), ?_⟩⟩
      refine ⟨_, rfl, _, rfl, _, _, rfl, rfl, ⟨by show (2011 : Int) ≠ 0; decide, by show (2011 : Int).natAbs < 1073741824; decide⟩, _, _, rfl, rfl, _, _, rfl, rfl, .inl (mb2 _), .inl ⟨_, rfl, _, _, rfl, rfl, (by show (2147483563 : Int) ≠ 0; decide), _, _, rfl, rfl, ⟨by show (11 : Int) ≠ 0; decide, by show (11 : Int).natAbs < 1073741824; decide⟩, .inl ⟨_, rfl, _, rfl, _, _, rfl, rfl, hm0, ?_⟩⟩⟩
      have fin : ∀ z : Int, Q (.int (z.fmod (m : Int))) (upd H p (.lst [.int a, .int b, .int (c + 1)])) := fun z => by
        obtain ⟨kk, hk, ek⟩ := fm (a := z) hm
        rw [ek]
        exact k kk _ hk But.upd ⟨_, _, _, upd_same⟩
      exact fin _
theorem sc_L_one : FnScope ["_law_well_here", "_law_some"] ["_law_well_here", "_law_some"] (defScope s_L_one) := ⟨rfl, rfl, rfl, by decide +kernel, rfl, by decide +kernel, by decide +kernel⟩
theorem ok_L_one (T : Ctx w K mg) (H_L_draw : Has P w K mg base 1 "_law_draw" ["_law_well_here", "_law_many"] spDraw) : Has P w K mg base 2 "_law_one" ["_law_well_here", "_law_some"] spOne := by
  obtain ⟨fd, F⟩ := T.D_L_one
  obtain ⟨fd_L_draw, G_L_draw, b_L_draw⟩ := H_L_draw.ex
  refine ⟨⟨fd, F.ok sc_L_one (fun vs H Q E h => ?_) (fun cdv A outer s H vs Q E hr h => ?_), F.bindsN fun _ _ _ _ _ _ us hl => match us, hl with | [_, _], _ => rfl⟩, F.kp, T.g_L_one⟩
  · obtain ⟨p, l, xs, rfl, hw, hl, hne, h0, h1, k⟩ := h; rfl
  · obtain ⟨p, l, xs, rfl, hw, hl, hne, h0, h1, k⟩ := h
    have hr_L_draw : Room 1 _ := hr.mono (by decide)
    have hu := hu_of hr
    refine ⟨_, PSs.nox (pss_one (ps_ret (pe_ix ix_list (pv 1) (pe_call G_L_draw hr_L_draw (by rfl) H_L_draw.gl H_L_draw.kp b_L_draw .nil pass0 (pa_cons (pv 0) (pa_cons (pe_callB call_len_seq (by rfl) T.f_len (by decide +kernel) (pa_cons (pv 1) pa_nil)) pa_nil))) (fun _ _ => rfl)))), ?_⟩
    refine ⟨_, rfl, _, rfl, _, rfl, _, _, rfl, .inl (SqL.of hl), p, xs.length, rfl, hw, h0, h1, fun kk H1 hk b1 w1 => ?_⟩
    have hl1 := b1 _ _ hl hne
    exact ⟨l, xs, kk, _, rfl, rfl, SqL.of hl1, atI_nat (List.getElem?_eq_getElem hk), k _ _ (List.getElem_mem hk) b1 w1⟩

end
end W16
set_option Elab.async false
set_option linter.all false
set_option maxRecDepth 100000
set_option maxHeartbeats 4000000
namespace W16
open PySem PySem.Spec PyProof.Rows L2 RZ
section
variable {P : Program} {w : World} {K : PySem.W.Frag} {mg : Str → Option Value} {base : Heap}

def numN : Nat → List Str
  | 0 => ["b", "ab", "abc"]
  | 1 => ["a", "b2", "c"]
  | _ => ["xy", "x", "abc"]
def objN : Nat → List Str
  | 0 => ["o", "b2"]
  | 1 => ["ab", "b"]
  | _ => ["xyz", "y"]
/-- the two lists of names -/
structure NamesAt (H : Hp) (k : Nat) (p a b : Addr) : Prop where
  t : H p = some (.tup [.ref a, .ref b])
  n : H a = some (.lst ((numN k).map V.str))
  o : H b = some (.lst ((objN k).map V.str))
theorem NamesAt.mono {H H' : Hp} {k : Nat} {p a b : Addr} (h : NamesAt H k p a b) (e : Same H H') : NamesAt H' k p a b := ⟨e _ _ h.t, e _ _ h.n, e _ _ h.o⟩
def spNamesK : Sp := fun vs H Q _ => ∃ k : Nat, vs = [.int k] ∧ k < 3 ∧ ∀ (p a b : Addr) (H' : Hp), Same H H' → NamesAt H' k p a b → Q (.ref p) H' 
theorem sc_L_names : FnScope ["_law_k", "_law_some"] ["_law_k"] (defScope s_L_names) := ⟨rfl, rfl, rfl, by decide +kernel, rfl, by decide +kernel, by decide +kernel⟩
theorem ok_L_names (T : Ctx w K mg) : Has P w K mg base 1 "_law_names" ["_law_k"] spNamesK := by
  obtain ⟨fd, F⟩ := T.D_L_names
  refine ⟨⟨fd, F.ok sc_L_names (fun vs H Q E h => ?_) (fun cdv A outer s H vs Q E hr h => ?_), F.bindsN fun _ _ _ _ _ _ us hl => match us, hl with | [_], _ => rfl⟩, F.kp, T.g_L_names⟩
  · obtain ⟨kk, rfl, hk, k⟩ := h; rfl
  · obtain ⟨kk, rfl, hk, k⟩ := h
    have hu := hu_of hr
    refine ⟨_, PSs.nox (pss_cons (ps_set (i := 1) sc_L_names.nd rfl (Or.inl rfl) (pe_lst (pa_cons (pe_tup (pa_cons (pe_lst (pa_cons pe_str (pa_cons pe_str (pa_cons pe_str pa_nil)))) (pa_cons (pe_lst (pa_cons pe_str (pa_cons pe_str pa_nil))) pa_nil))) (pa_cons (pe_tup (pa_cons (pe_lst (pa_cons pe_str (pa_cons pe_str (pa_cons pe_str pa_nil)))) (pa_cons (pe_lst (pa_cons pe_str (pa_cons pe_str pa_nil))) pa_nil))) (pa_cons (pe_tup (pa_cons (pe_lst (pa_cons pe_str (pa_cons pe_str (pa_cons pe_str pa_nil)))) (pa_cons (pe_lst (pa_cons pe_str (pa_cons pe_str pa_nil))) pa_nil))) pa_nil)))))
      (pss_one (ps_ret (pe_ix ix_list (pv 1) (pv 0) (fun _ _ => rfl))))), ?_⟩
    refine ⟨sz_of (by show 3 ≤ 100000; decide), fun a0 ha0 => ⟨sz_of (by show 2 ≤ 100000; decide), fun b0 hb0 => ⟨sz_of (by show 2 ≤ 100000; decide), fun t0 ht0 => ?_⟩⟩⟩
    refine ⟨sz_of (by show 3 ≤ 100000; decide), fun a1 ha1 => ⟨sz_of (by show 2 ≤ 100000; decide), fun b1 hb1 => ⟨sz_of (by show 2 ≤ 100000; decide), fun t1 ht1 => ?_⟩⟩⟩
    refine ⟨sz_of (by show 3 ≤ 100000; decide), fun a2 ha2 => ⟨sz_of (by show 2 ≤ 100000; decide), fun b2 hb2 => ⟨sz_of (by show 2 ≤ 100000; decide), fun t2 ht2 => ?_⟩⟩⟩
    refine ⟨sz_of (by show 3 ≤ 100000; decide), fun l hl => ?_⟩
    have s1 := Same.new (o := .lst ((numN 0).map V.str)) ha0
    have s2 := Same.new (o := .lst ((objN 0).map V.str)) hb0
    have s3 := Same.new (o := .tup [.ref a0, .ref b0]) ht0
    have s4 := Same.new (o := .lst ((numN 1).map V.str)) ha1
    have s5 := Same.new (o := .lst ((objN 1).map V.str)) hb1
    have s6 := Same.new (o := .tup [.ref a1, .ref b1]) ht1
    have s7 := Same.new (o := .lst ((numN 2).map V.str)) ha2
    have s8 := Same.new (o := .lst ((objN 2).map V.str)) hb2
    have s9 := Same.new (o := .tup [.ref a2, .ref b2]) ht2
    have s0 := Same.new (o := .lst [.ref t0, .ref t1, .ref t2]) hl
    have z8 := s9.trans s0
    have z7 := s8.trans z8
    have z6 := s7.trans z7
    have z5 := s6.trans z6
    have z4 := s5.trans z5
    have z3 := s4.trans z4
    have z2 := s3.trans z3
    have z1 := s2.trans z2
    match kk, hk with
    | 0, _ => exact ⟨_, rfl, _, rfl, l, _, _, _, rfl, rfl, SqL.of upd_same, at0, k t0 a0 b0 _ (s1.trans z1) ⟨z3 _ _ upd_same, z1 _ _ upd_same, z2 _ _ upd_same⟩⟩
    | 1, _ => exact ⟨_, rfl, _, rfl, l, _, _, _, rfl, rfl, SqL.of upd_same, at1, k t1 a1 b1 _ (s1.trans z1) ⟨z6 _ _ upd_same, z4 _ _ upd_same, z5 _ _ upd_same⟩⟩
    | 2, _ => exact ⟨_, rfl, _, rfl, l, _, _, _, rfl, rfl, SqL.of upd_same, at2, k t2 a2 b2 _ (s1.trans z1) ⟨s0 _ _ upd_same, z7 _ _ upd_same, z8 _ _ upd_same⟩⟩
/-- pairs of a permuted list -/
theorem PairsG.toP {H : Hp} : ∀ {ps : List Addr} {qs : List (Str × Str)}, PairsG H ps qs → Paired (fun p (q : Str × Str) => H p = some (.tup [.str q.1, .str q.2])) ps qs
  | [], [], _ => .nil
  | [], b :: ns, h => by have := h.len; simp at this
  | a :: qs, [], h => by have := h.len; simp at this
  | a :: qs, b :: ns, h => .cons (h.at_ 0 a b rfl rfl) (PairsG.toP (ps := qs) (qs := ns) ⟨by have := h.len; simpa using this, fun i p x e1 e2 => h.at_ (i + 1) p x (by simpa using e1) (by simpa using e2)⟩)
theorem pairsG_ofP {H : Hp} {ps : List Addr} {qs : List (Str × Str)} (h : Paired (fun p (q : Str × Str) => H p = some (.tup [.str q.1, .str q.2])) ps qs) : PairsG H ps qs := by
  induction h with
  | nil => exact ⟨rfl, fun i p q e _ => by simp at e⟩
  | cons h t ih =>
    refine ⟨congrArg Nat.succ ih.len, fun i p q e1 e2 => ?_⟩
    cases i with
    | zero =>
      rw [← Option.some.inj e1, ← Option.some.inj e2]
      exact h
    | succ i => exact ih.at_ i p q (by simpa using e1) (by simpa using e2)
theorem paired_perm {α β : Type} {R : α → β → Prop} {as ds : List α} (p : as.Perm ds) : ∀ {bs : List β}, Paired R as bs → ∃ cs, cs.Perm bs ∧ Paired R ds cs := by
  induction p with
  | nil =>
    intro bs h
    cases h
    exact ⟨[], .refl _, .nil⟩
  | cons x p ih =>
    intro bs h
    cases h with
    | cons h t =>
      obtain ⟨cs, q, r⟩ := ih t
      exact ⟨_, .cons _ q, .cons h r⟩
  | swap x y l =>
    intro bs h
    cases h with
    | cons h t =>
      cases t with
      | cons h2 t2 => exact ⟨_, .swap _ _ _, .cons h2 (.cons h t2)⟩
  | trans p1 p2 ih1 ih2 =>
    intro bs h
    obtain ⟨cs, q, r⟩ := ih1 h
    obtain ⟨ds, q2, r2⟩ := ih2 r
    exact ⟨ds, q2.trans q, r2⟩
theorem PairsG.perm {H : Hp} {ps ds : List Addr} {qs : List (Str × Str)} (h : PairsG H ps qs) (p : ds.Perm ps) : ∃ cs, cs.Perm qs ∧ PairsG H ds cs := by
  obtain ⟨cs, q, r⟩ := paired_perm p.symm h.toP
  exact ⟨cs, q, pairsG_ofP r⟩
theorem PairsG.take {H : Hp} {ps : List Addr} {qs : List (Str × Str)} (h : PairsG H ps qs) (n : Nat) : PairsG H (ps.take n) (qs.take n) :=
  ⟨by rw [List.length_take, List.length_take, h.len], fun i p q e1 e2 => by
    rw [List.getElem?_take] at e1 e2
    split at e1
    · rename_i c
      rw [if_pos c] at e2
      exact h.at_ i p q e1 e2
    · cases e1⟩
theorem PairsG.drop {H : Hp} {ps : List Addr} {qs : List (Str × Str)} (h : PairsG H ps qs) (n : Nat) : PairsG H (ps.drop n) (qs.drop n) :=
  ⟨by rw [List.length_drop, List.length_drop, h.len], fun i p q e1 e2 => by
    rw [List.getElem?_drop] at e1 e2
    exact h.at_ _ p q e1 e2⟩
/-- the variables of a function with their kinds -/
def pairN (k : Nat) : List (Str × Str) := (numN k).map (fun x => (x, ("number" : Str))) ++ (objN k).map fun x => (x, ("object" : Str))
theorem pair_len (k : Nat) : (pairN k).length = 5 := by
  match k with
  | 0 => rfl
  | 1 => rfl
  | n + 2 => rfl

end
end W16
set_option Elab.async false
set_option linter.all false
set_option maxRecDepth 100000
set_option maxHeartbeats 4000000
namespace W16
open PySem PySem.Spec PyProof.Rows L2 RZ
section
variable {P : Program} {w : World} {K : PySem.W.Frag} {mg : Str → Option Value} {base : Heap}

/-- a method's call, within a comprehension too -/
theorem pe_bmK {X : Cx} {K : PySem.W.Frag} {o e : Expr} {es : List Expr} {to : TE} {t : TA} {name : Str} {apos cpos : Pos} {T id : String} {r : V → List V → Hp → VK → Prop} (hk : X.K = K) (pa : PlainAttrs T) (slot : Slot T name id) (hty : typeOf (.builtin id) = pure (.type "method_descriptor")) (hm : MtR X id r) (ho : PE X o to) (ha : PA X (e :: es) t)
    (hbase : attributeBase o name X.env (eval o X.env) = eval o X.env := by rfl)
    (hfew : ((backTo cpos (starEach (e :: es) X.env)).all (fun x => !x.1) && (backToKw cpos (keywordEach [] X.env)).all (fun x => x.1.isSome)
      && decide ((e :: es).length + ([] : List Keyword).length + (if ([] : List Keyword).isEmpty then 0 else 1) < 30)) = true := by rfl)
    (hline : (apos.endLine == cpos.line) = true := by rfl) (hs : starEach (e :: es) X.env = (false, eval e X.env) :: starEach es X.env := by rfl) (hplain : (backTo cpos (starEach es X.env)).any (·.1) = false := by rfl) :
    PE X (.Call (.Attribute o name apos) (e :: es) [] cpos) (tBM K T r to t) := by
  subst hk
  exact pe_bm pa slot hty hm ho ha hbase hfew hline hs hplain
def rLenK (K : PySem.W.Frag) : List V → Hp → VK → Prop := fun vs H Q => ∃ (a : Addr) (xs : List V), vs = [.ref a] ∧ SqL K H a xs ∧ Q (.int xs.length) H
theorem call_lenK {X : Cx} {K : PySem.W.Frag} (hk : X.K = K) : CallR X (.builtin "len") (rLenK K) := by
  subst hk
  intro pins s σ H vs us Q I r h
  obtain ⟨a, xs, e, hs, q⟩ := h
  exact call_len_seq pins s σ H vs us Q I r ⟨a, xs, e, .inl hs, q⟩
theorem WellAt.mono {H H' : Hp} {p : Addr} (h : WellAt H p) (e : Same H H') : WellAt H' p := by
  obtain ⟨a, b, c, q⟩ := h
  exact ⟨a, b, c, e _ _ q⟩
theorem But.new {p q : Addr} {H : Hp} {o : HO} (h : H q = none) : But p H (L2.upd H q o) := But.of (Same.new h)
theorem But.mut {p R : Addr} {H H' : Hp} {o : HO} (b : But p H H') (h : H R = none) : But p H (L2.upd H' R o) := fun c u e n => by
  rw [upd_ne (ne_of_none e h)]
  exact b c u e n
theorem But.then {p : Addr} {H H' H2 : Hp} (b : But p H H') (e : Same H' H2) : But p H H2 := b.trans (But.of e)
theorem WellAt.nn {H : Hp} {p q : Addr} (h : WellAt H p) (hq : H q = none) : q ≠ p := by
  obtain ⟨_, _, _, e⟩ := h
  exact (ne_of_none e hq).symm
theorem WellAt.put {H : Hp} {p q : Addr} {o : HO} (h : WellAt H p) (hq : q ≠ p) : WellAt (upd H q o) p := by
  obtain ⟨a, b, c, e⟩ := h
  exact ⟨a, b, c, by rw [upd_ne hq.symm]; exact e⟩
theorem WellAt.neT {H : Hp} {p a : Addr} {xs : List V} (h : WellAt H p) (ha : H a = some (.tup xs)) : a ≠ p := by
  obtain ⟨_, _, _, q⟩ := h
  exact ne_of ha q (by intro z; cases z)
/-- a list whose first is no int is not the source of draws -/
theorem WellAt.neL {H : Hp} {p a : Addr} {xs : List V} (h : WellAt H p) (ha : H a = some (.lst xs)) (hx : ∀ n, xs.head? ≠ some (.int n)) : a ≠ p := by
  obtain ⟨n, _, _, q⟩ := h
  exact ne_of ha q (by
    intro z
    have e := HO.lst.inj z
    rw [e] at hx
    exact hx n rfl)
theorem head_refs {as : List Addr} : ∀ n, (as.map V.ref).head? ≠ some (.int n) := by
  intro n
  cases as <;> simp
theorem head_strs {as : List Str} : ∀ n, (as.map V.str).head? ≠ some (.int n) := by
  intro n
  cases as <;> simp
theorem WellAt.keepTL {H H' : Hp} {p : Addr} {a : Addr} {as : List Addr} (h : WellAt H p) (b : But p H H') (ha : H a = some (.lst (as.map V.ref))) : H' a = some (.lst (as.map V.ref)) := b _ _ ha (h.neL ha head_refs)
theorem PairsG.but {H H' : Hp} {p : Addr} {ps : List Addr} {qs : List (Str × Str)} (h : PairsG H ps qs) (w : WellAt H p) (b : But p H H') : PairsG H' ps qs := ⟨h.len, fun i a q e1 e2 => b _ _ (h.at_ i a q e1 e2) (w.neT (h.at_ i a q e1 e2))⟩
theorem walk_enumS {x : Str} : Walk (IteS x) x.cps.size (fun _ => True) (YPair (fun i => some (.int (i : Nat))) (fun i => (x.cps[i]?).map fun c => .str ⟨#[c]⟩)) := by
  refine ⟨fun i _ hi _ => hi, fun _ _ => rfl, fun i H v H' _ _ y => ?_⟩
  obtain ⟨T, c, h1, h2, h3, h4⟩ := y
  exact ⟨T, .int (i : Nat), .str ⟨#[c]⟩, h1, h2, h4, rfl, by show (x.cps[i]?).map _ = _; rw [h3]; rfl⟩
def tit : Nat → Str
  | 0 => "f"
  | 1 => "g"
  | _ => "h"
theorem fgh_at {i : Nat} (hi : i < 3) : ((("fgh" : Str).cps[i]?).map fun c => V.str ⟨#[c]⟩) = some (.str (tit i)) := by
  match i, hi with
  | 0, _ => decide +kernel
  | 1, _ => decide +kernel
  | 2, _ => decide +kernel
/-- a function's head, as it is handed on; its lists are not that at l -/
def HeadAt (H : Hp) (l e : Addr) (f : FdT) : Prop := ∃ (pa oa : Addr) (ps qs : List Addr), H e = some (.tup [.str f.nm, .ref pa, .ref oa, .str f.res]) ∧ H pa = some (.lst (ps.map V.ref)) ∧ PairsG H ps f.ns ∧ H oa = some (.lst (qs.map V.ref)) ∧ PairsG H qs f.ms ∧ pa ≠ l ∧ oa ≠ l
theorem HeadAt.mono {H H' : Hp} {l e : Addr} {f : FdT} (h : HeadAt H l e f) (s : Same H H') : HeadAt H' l e f := by
  obtain ⟨pa, oa, ps, qs, h1, h2, h3, h4, h5, h6⟩ := h
  exact ⟨pa, oa, ps, qs, s _ _ h1, s _ _ h2, h3.mono s, s _ _ h4, h5.mono s, h6⟩
theorem HeadAt.but {H H' : Hp} {p l e : Addr} {f : FdT} (h : HeadAt H l e f) (w : WellAt H p) (b : But p H H') : HeadAt H' l e f := by
  obtain ⟨pa, oa, ps, qs, h1, h2, h3, h4, h5, h6⟩ := h
  exact ⟨pa, oa, ps, qs, b _ _ h1 (w.neT h1), b _ _ h2 (w.neL h2 head_refs), h3.but w b, b _ _ h4 (w.neL h4 head_refs), h5.but w b, h6⟩
theorem HeadAt.put {H : Hp} {l e : Addr} {f : FdT} {xs ys : List V} (h : HeadAt H l e f) (hl : H l = some (.lst xs)) : HeadAt (L2.upd H l (.lst ys)) l e f := by
  obtain ⟨pa, oa, ps, qs, h1, h2, h3, h4, h5, h6, h7⟩ := h
  have nt : ∀ {b : Addr} {zs : List V}, H b = some (.tup zs) → L2.upd H l (.lst ys) b = some (.tup zs) := fun q => by
    rw [upd_ne (ne_of q hl (by intro z; cases z))]
    exact q
  exact ⟨pa, oa, ps, qs, nt h1, by rw [upd_ne h6]; exact h2, ⟨h3.len, fun i a q e1 e2 => nt (h3.at_ i a q e1 e2)⟩, by rw [upd_ne h7]; exact h4, ⟨h5.len, fun i a q e1 e2 => nt (h5.at_ i a q e1 e2)⟩, h6, h7⟩
/-- what the heads tell -/
structure HeadOk (k : Nat) (f : FdT) : Prop where
  nm : f.nm = tit k
  pm : (f.ns ++ f.ms).Perm (pairN k)
  l4 : f.ns.length ≤ 4
  kd : IsKind f.res
def HeadsAt (H : Hp) (l : Addr) (es : List Addr) (hs : List FdT) : Prop := es.length = hs.length ∧ ∀ (i : Nat) e f, es[i]? = some e → hs[i]? = some f → HeadAt H l e f
theorem HeadsAt.mono {H H' : Hp} {l : Addr} {es : List Addr} {hs : List FdT} (h : HeadsAt H l es hs) (s : Same H H') : HeadsAt H' l es hs := ⟨h.1, fun i e f a b => (h.2 i e f a b).mono s⟩
theorem HeadsAt.but {H H' : Hp} {p l : Addr} {es : List Addr} {hs : List FdT} (h : HeadsAt H l es hs) (w : WellAt H p) (b : But p H H') : HeadsAt H' l es hs := ⟨h.1, fun i e f a c => (h.2 i e f a c).but w b⟩
theorem HeadsAt.put {H : Hp} {l : Addr} {es : List Addr} {hs : List FdT} {xs ys : List V} (h : HeadsAt H l es hs) (hl : H l = some (.lst xs)) : HeadsAt (L2.upd H l (.lst ys)) l es hs := ⟨h.1, fun i e f a c => (h.2 i e f a c).put hl⟩
theorem HeadsAt.snoc {H : Hp} {l : Addr} {es : List Addr} {hs : List FdT} {e : Addr} {f : FdT} (h : HeadsAt H l es hs) (q : HeadAt H l e f) : HeadsAt H l (es ++ [e]) (hs ++ [f]) := by
  refine ⟨by rw [List.length_append, List.length_append, h.1]; rfl, fun i a g e1 e2 => ?_⟩
  by_cases c : i < es.length
  · rw [List.getElem?_append_left c] at e1
    rw [List.getElem?_append_left (by rw [← h.1]; exact c)] at e2
    exact h.2 i a g e1 e2
  · have ci : i = es.length := by
      have := (List.getElem?_eq_some_iff.mp e1).1
      rw [List.length_append, List.length_singleton] at this
      omega
    subst ci
    rw [List.getElem?_append_right (Nat.le_refl _), Nat.sub_self] at e1
    rw [h.1, List.getElem?_append_right (Nat.le_refl _), Nat.sub_self] at e2
    rw [← Option.some.inj e1, ← Option.some.inj e2]
    exact q
def spHeads : Sp := fun vs H Q _ => ∃ p, vs = [.ref p] ∧ WellAt H p ∧ ∀ (l : Addr) (es : List Addr) (hs : List FdT) (H' : Hp), But p H H' → WellAt H' p → H' l = some (.lst (es.map V.ref)) → HeadsAt H' l es hs → hs.length = 3 → (∀ (k : Nat) f, hs[k]? = some f → HeadOk k f) → Q (.ref l) H'
theorem cut_take {xs : List V} {n : Nat} : cutV xs none (some (n : Int)) = xs.take n := by
  unfold cutV
  rw [HT.sIx_none, HT.sIx_nat]
  simp
theorem cut_drop {xs : List V} {n : Nat} (h : n ≤ xs.length) : cutV xs (some (n : Int)) none = xs.drop n := by
  unfold cutV
  rw [HT.sIx_none, HT.sIx_nat, Nat.min_eq_left h]
  exact List.take_of_length_le (by rw [List.length_drop]; exact Nat.le_refl _)
theorem perm_erase {α : Type} {l : List α} {k : Nat} {x : α} (h : l[k]? = some x) : l.Perm (x :: l.eraseIdx k) := by
  induction l generalizing k with
  | nil => simp at h
  | cons a l ih =>
    cases k with
    | zero =>
      rw [← Option.some.inj h]
      exact .refl _
    | succ k =>
      have q := ih (k := k) (by simpa using h)
      exact (List.Perm.cons a q).trans (.swap _ _ _)
theorem erase_map {α β : Type} (f : α → β) : ∀ (l : List α) (k : Nat), (l.map f).eraseIdx k = (l.eraseIdx k).map f
  | [], k => rfl
  | a :: l, 0 => rfl
  | a :: l, k + 1 => congrArg (f a :: ·) (erase_map f l k)
theorem seqN {k n : Nat} (h : k < n) : seqIndex? (k : Int) n = some k := by
  have q := seqIndex_of (k := (k : Int)) (n := n) (by omega) (by omega)
  rw [q]
  simp
theorem sc_L_heads : FnScope ["_law_well_here", "_law_found", "_law_k", "_law_title", "_law_numbers", "_law_objects", "_law_left", "_law_drawn", "_law_many", "_law_turn", "_law_one_here"] ["_law_well_here"] (defScope s_L_heads) := ⟨rfl, rfl, rfl, by decide +kernel, rfl, by decide +kernel, by decide +kernel⟩
theorem ok_L_heads (T : Ctx w K mg) (H_L_draw : Has P w K mg base 1 "_law_draw" ["_law_well_here", "_law_many"] spDraw) (H_L_one : Has P w K mg base 2 "_law_one" ["_law_well_here", "_law_some"] spOne) (H_L_names : Has P w K mg base 1 "_law_names" ["_law_k"] spNamesK) : Has P w K mg base 3 "_law_heads" ["_law_well_here"] spHeads := by
  obtain ⟨fd, F⟩ := T.D_L_heads
  obtain ⟨fd_L_draw, G_L_draw, b_L_draw⟩ := H_L_draw.ex
  obtain ⟨fd_L_one, G_L_one, b_L_one⟩ := H_L_one.ex
  obtain ⟨fd_L_names, G_L_names, b_L_names⟩ := H_L_names.ex
  refine ⟨⟨fd, F.ok sc_L_heads (fun vs H Q E h => ?_) (fun cdv A outer s H vs Q E hr h => ?_), F.bindsN fun _ _ _ _ _ _ us hl => match us, hl with | [_], _ => rfl⟩, F.kp, T.g_L_heads⟩
  · obtain ⟨p, rfl, hw, k⟩ := h; rfl
  · obtain ⟨p, rfl, hw, k⟩ := h
    have hr_L_draw : Room 1 _ := hr.mono (by decide)
    have hr_L_one : Room 2 _ := hr.mono (by decide)
    have hr_L_names : Room 1 _ := hr.mono (by decide)
    have hu := hu_of hr
    refine ⟨_, PSs.nox (pss_cons (ps_set (i := 1) sc_L_heads.nd rfl (Or.inl rfl) (pe_lst pa_nil))
      (pss_cons (ps_for PassesOwn.never rfl (pi_enumS (by rfl) T.f_enumerate (pa_cons pe_str pa_nil)) (pg_tup rfl (pgs_cons (pg_name (i := 2) sc_L_heads.nd rfl (Or.inl rfl)) (pgs_cons (pg_name (i := 3) sc_L_heads.nd rfl (Or.inl rfl)) pgs_nil)))
      (pss_cons (ps_asg (pe_call G_L_names hr_L_names (by rfl) H_L_names.gl H_L_names.kp b_L_names .nil pass0 (pa_cons (pv 2) pa_nil)) (pg_tup rfl (pgs_cons (pg_name (i := 4) sc_L_heads.nd rfl (Or.inl rfl)) (pgs_cons (pg_name (i := 5) sc_L_heads.nd rfl (Or.inl rfl)) pgs_nil))))
      (pss_cons (ps_set (i := 6) sc_L_heads.nd rfl (Or.inr rfl) (pe_op op_cat (pe_lc (own := [("_law_one_here", 10)]) (g := gName 10) (tt := tYes) rfl sc_L_heads.nd (pi_list (pv 4)) (blkOk_by (N := ["_law_well_here", "_law_found", "_law_k", "_law_title", "_law_numbers", "_law_objects", "_law_left", "_law_drawn", "_law_many", "_law_turn", "_law_one_here"]) (sc := defScope s_L_heads) (by decide +kernel)) (fun _ _ _ _ _ => (pg_name (i := 10) sc_L_heads.nd rfl (Or.inl rfl))) (fun _ _ _ _ _ => pts_nil) (fun _ _ _ _ _ => (pe_tup (pa_cons (pv 10) (pa_cons pe_str pa_nil))))) (pe_lc (own := [("_law_one_here", 10)]) (g := gName 10) (tt := tYes) rfl sc_L_heads.nd (pi_list (pv 5)) (blkOk_by (N := ["_law_well_here", "_law_found", "_law_k", "_law_title", "_law_numbers", "_law_objects", "_law_left", "_law_drawn", "_law_many", "_law_turn", "_law_one_here"]) (sc := defScope s_L_heads) (by decide +kernel)) (fun _ _ _ _ _ => (pg_name (i := 10) sc_L_heads.nd rfl (Or.inl rfl))) (fun _ _ _ _ _ => pts_nil) (fun _ _ _ _ _ => (pe_tup (pa_cons (pv 10) (pa_cons pe_str pa_nil)))))))
      (pss_cons (ps_setLc (i := 7) (own := [("_law_turn", 9)]) (g := gName 9) (tt := tYes) rfl sc_L_heads.nd rfl rfl (sw_true rfl rfl rfl (by decide +kernel)) (pi_range1 (by rfl) T.f_range (pa_cons pe_int pa_nil)) (blkOk_by (N := ["_law_well_here", "_law_found", "_law_k", "_law_title", "_law_numbers", "_law_objects", "_law_left", "_law_drawn", "_law_many", "_law_turn", "_law_one_here"]) (sc := defScope s_L_heads) (by decide +kernel)) (fun _ _ _ _ _ => (pg_name (i := 9) sc_L_heads.nd rfl (Or.inl rfl))) (fun _ _ _ _ _ => pts_nil) (fun _ _ _ _ _ => (pe_bmK (K := K) rfl PySem.F.plainAttrs_list PySem.F.slot_list_pop PySem.F.type_list_pop mt_popAt (pv 6) (pa_cons (pe_call G_L_draw hr_L_draw (by rfl) H_L_draw.gl H_L_draw.kp b_L_draw .nil pass0 (pa_cons (pv 0) (pa_cons (pe_callB (call_lenK (K := K) rfl) (by rfl) T.f_len (by decide +kernel) (pa_cons (pv 6) pa_nil)) pa_nil))) pa_nil))))
      (pss_cons (ps_set (i := 8) sc_L_heads.nd rfl (Or.inl rfl) (pe_call G_L_draw hr_L_draw (by rfl) H_L_draw.gl H_L_draw.kp b_L_draw .nil pass0 (pa_cons (pv 0) (pa_cons pe_int pa_nil))))
      (pss_one (ps_expr (pe_bm PySem.F.plainAttrs_list PySem.F.slot_list_append PySem.F.type_list_append mt_append (pv 1) (pa_cons (pe_tup (pa_cons (pv 3) (pa_cons (pe_slice sl_list (pv 7) po_none (po_some (pv 8))) (pa_cons (pe_slice sl_list (pv 7) (po_some (pv 8)) po_none) (pa_cons (pe_call G_L_one hr_L_one (by rfl) H_L_one.gl H_L_one.kp b_L_one .nil pass0 (pa_cons (pv 0) (pa_cons (pe_lst (pa_cons pe_str (pa_cons pe_str pa_nil))) pa_nil))) pa_nil))))) pa_nil)))))))))
      (pss_one (ps_ret (pv 1))))), ?_⟩
    refine ⟨sz_of (by decide), fun l0 hl0 => ?_⟩
    have n0 : l0 ≠ p := hw.nn hl0
    refine ⟨_, rfl, ?_⟩
    refine for_it (walk_enumS (x := "fgh")) (fun i σ H1 => ∃ (v2 v3 v4 v5 v6 v7 v8 v9 v10 : Option V), σ = [some (.ref p), some (.ref l0), v2, v3, v4, v5, v6, v7, v8, v9, v10] ∧ But p H H1 ∧ WellAt H1 p ∧ ∃ (es : List Addr) (hs : List FdT), hs.length = i ∧ H1 l0 = some (.lst (es.map V.ref)) ∧ HeadsAt H1 l0 es hs ∧ ∀ (k : Nat) f, hs[k]? = some f → HeadOk k f) ⟨_, _, _, _, _, _, _, _, _, rfl, But.new hl0, hw.put n0, [], [], rfl, upd_same, ⟨rfl, fun i e f a _ => by simp at a⟩, fun k f e => by simp at e⟩ (fun _ _ _ _ _ => trivial) ?_ ?_
    · rintro i y σ H1 H2 hi ⟨v2, v3, v4, v5, v6, v7, v8, v9, v10, rfl, b1, w1, es, hs, hl, h1l, hE, hO⟩ ⟨u, a, b, rfl, hu0, rfl, e1, e2⟩
      have hi3 : i < 3 := hi
      obtain rfl : V.int (i : Nat) = a := Option.some.inj e1
      obtain rfl : V.str (tit i) = b := Option.some.inj ((fgh_at hi3).symm.trans e2)
      have s1 : Same H1 (upd H1 u (.tup [.int (i : Nat), .str (tit i)])) := Same.new hu0
      refine ⟨u, _, rfl, SqT.of upd_same, rfl, _, _, rfl, _, _, rfl, rfl, ?_⟩
      refine ⟨_, rfl, i, rfl, hi3, fun t a b H3 s3 N3 => ?_⟩
      refine ⟨t, _, rfl, SqT.of N3.t, rfl, _, _, rfl, _, _, rfl, rfl, ?_⟩
      refine ⟨_, rfl, a, rfl, ⟨_, SqL.of N3.n⟩, fun D1 hD1 => ?_⟩
      refine lc_tups (walk_list (K := K) (a := a) (xs := (numN i).map V.str)) hD1 (fun j => [.str ((numN i).getD j ""), .str "number"]) (by rw [List.length_map]; have := pair_len i; unfold pairN at this; rw [List.length_append, List.length_map] at this; omega) (fun H4 s4 => SqL.of (s4 _ _ N3.n)) (fun j H4 y H5 hj s4 hy Qe qe => ?_) (fun H4 qs1 s4 hq1 hqs1 h4 => ?_)
      · obtain ⟨rfl, hy⟩ := hy
        obtain ⟨x, hx, rfl⟩ := map_get hy
        have ex : (numN i).getD j "" = x := by
          rw [List.getD_eq_getElem?_getD, hx]
          rfl
        rw [ex] at qe
        exact ⟨rfl, _, rfl, sz_of (by show 2 ≤ 100000; decide), fun p hp => qe p _ (Same.new hp) upd_same⟩
      have N4 := N3.mono s4
      refine ⟨_, rfl, b, rfl, ⟨_, SqL.of N4.o⟩, fun D2 hD2 => ?_⟩
      refine lc_tups (walk_list (K := K) (a := b) (xs := (objN i).map V.str)) hD2 (fun j => [.str ((objN i).getD j ""), .str "object"]) (by rw [List.length_map]; have := pair_len i; unfold pairN at this; rw [List.length_append, List.length_map, List.length_map] at this; omega) (fun H5 s5 => SqL.of (s5 _ _ N4.o)) (fun j H5 y H6 hj s5 hy Qe qe => ?_) (fun H5 qs2 s5 hq2 hqs2 h5 => ?_)
      · obtain ⟨rfl, hy⟩ := hy
        obtain ⟨x, hx, rfl⟩ := map_get hy
        have ex : (objN i).getD j "" = x := by
          rw [List.getD_eq_getElem?_getD, hx]
          rfl
        rw [ex] at qe
        exact ⟨rfl, _, rfl, sz_of (by show 2 ≤ 100000; decide), fun p hp => qe p _ (Same.new hp) upd_same⟩
      rw [List.length_map] at hq1 hq2
      have h5a := s5 _ _ h4
      have P1 : PairsG H5 qs1 ((numN i).map fun x => (x, ("number" : Str))) := ⟨by rw [hq1, List.length_map], fun j a q e1 e2 => by
        rw [List.getElem?_map] at e2
        cases ej : (numN i)[j]? with
        | none => rw [ej] at e2; cases e2
        | some x =>
          rw [ej] at e2
          have k1 := hqs1 j a e1
          rw [List.getD_eq_getElem?_getD, ej] at k1
          rw [← Option.some.inj e2]
          exact s5 _ _ k1⟩
      have P2 : PairsG H5 qs2 ((objN i).map fun x => (x, ("object" : Str))) := ⟨by rw [hq2, List.length_map], fun j a q e1 e2 => by
        rw [List.getElem?_map] at e2
        cases ej : (objN i)[j]? with
        | none => rw [ej] at e2; cases e2
        | some x =>
          rw [ej] at e2
          have k1 := hqs2 j a e1
          rw [List.getD_eq_getElem?_getD, ej] at k1
          rw [← Option.some.inj e2]
          exact k1⟩
      have PP : PairsG H5 (qs1 ++ qs2) (pairN i) := P1.append P2
      have len5 : (qs1 ++ qs2).length = 5 := by rw [PP.len, pair_len]
      refine ⟨D1, D2, _, _, rfl, rfl, h5a, h5, sz_of (by rw [← List.length_append, ← List.map_append, List.length_map]; omega), fun lf hlf => ?_⟩
      have s15 := s1.trans (s3.trans (s4.trans s5))
      have s6 := Same.new (o := .lst (qs1.map V.ref ++ qs2.map V.ref)) hlf
      have w5 := w1.mono s15
      have nlf : lf ≠ p := w5.nn hlf
      have w6 : WellAt (upd H5 lf (.lst (qs1.map V.ref ++ qs2.map V.ref))) p := w5.put nlf
      have h6 : upd H5 lf (.lst (qs1.map V.ref ++ qs2.map V.ref)) lf = some (.lst ((qs1 ++ qs2).map V.ref)) := by rw [upd_same, List.map_append]
      have PP6 := PP.mono s6
      refine ⟨_, rfl, by decide, by decide, fun D hD => ?_⟩
      have nDl : D ≠ lf := (ne_of_none h6 hD).symm
      have nDp : D ≠ p := w6.nn hD
      refine lc_it (walk_range (lo := 0) (n := (5 : Int).toNat)) (fun j H7 => (∀ b u, upd H5 lf (.lst (qs1.map V.ref ++ qs2.map V.ref)) b = some u → b ≠ p → b ≠ lf → H7 b = some u) ∧ WellAt H7 p ∧ ∃ ds ls : List Addr, H7 D = some (.lst (ds.map V.ref)) ∧ H7 lf = some (.lst (ls.map V.ref)) ∧ ds.length = j ∧ (ds ++ ls).Perm (qs1 ++ qs2)) ⟨fun b u q _ _ => Same.new hD _ _ q, w6.put nDp, [], qs1 ++ qs2, upd_same, Same.new hD _ _ h6, rfl, .refl _⟩ (fun _ _ _ _ => trivial) (fun j y H7 H8 hj q hy => ?_) (fun H7 q => ?_)
      · obtain ⟨rfl, rfl⟩ := hy
        obtain ⟨k7, w7, ds, ls, hd7, hl7, hdl, hpm⟩ := q
        have hj5 : j < 5 := hj
        have hll : ls.length = 5 - j := by
          have := hpm.length_eq
          rw [List.length_append, len5, hdl] at this
          omega
        refine ⟨rfl, _, rfl, .inl ⟨rfl, _, SqL.of hl7⟩, _, rfl, _, rfl, _, _, rfl, SqL.of hl7, p, (ls.map V.ref).length, rfl, w7, by rw [List.length_map]; omega, by rw [List.length_map]; omega, fun kk H9 hk b9 w9 => ?_⟩
        have hl9 := w7.keepTL b9 hl7
        have hd9 := w7.keepTL b9 hd7
        rw [List.length_map] at hk
        have hx : ls[kk]? = some ls[kk] := List.getElem?_eq_getElem hk
        refine ⟨lf, _, _, kk, .ref ls[kk], rfl, rfl, hl9, by omega, by omega, seqN (by rw [List.length_map]; exact hk), by rw [List.getElem?_map, hx]; rfl, ?_⟩
        have nl9 : lf ≠ p := w9.neL hl9 head_refs
        refine ⟨_, by rw [upd_ne nDl]; exact hd9, sz_lt (by rw [List.length_map, hdl]; omega), fun b u q n1 n2 => ?_, (w9.put nl9).put nDp, ds ++ [ls[kk]], ls.eraseIdx kk, by rw [upd_same, List.map_append]; rfl, ?_, by rw [List.length_append, hdl]; rfl, ?_⟩
        · have nb : b ≠ D := ne_of_none q hD
          rw [upd_ne nb, upd_ne n2]
          exact b9 _ _ (k7 _ _ q n1 n2) n1
        · rw [upd_ne nDl.symm, upd_same, erase_map]
        · refine List.Perm.trans ?_ hpm
          rw [List.append_assoc]
          exact List.Perm.append_left ds (perm_erase hx).symm
      obtain ⟨k7, w7, ds, ls, hd7, hl7, hdl, hpm⟩ := q
      have hls : ls = [] := by
        have := hpm.length_eq
        rw [List.length_append, len5, hdl] at this
        have e5 : ((5 : Int).toNat : Nat) = 5 := rfl
        rw [e5] at this
        exact List.length_eq_zero_iff.mp (by omega)
      rw [hls, List.append_nil] at hpm
      have b7 : ∀ b u, H5 b = some u → b ≠ p → H7 b = some u := fun b u q n => k7 b u (s6 _ _ q) n (ne_of_none q hlf)
      have PP7 : PairsG H7 (qs1 ++ qs2) (pairN i) := ⟨PP.len, fun j a q e1 e2 => b7 _ _ (PP.at_ j a q e1 e2) (w5.neT (PP.at_ j a q e1 e2))⟩
      obtain ⟨cs, hcp, PC⟩ := PP7.perm hpm
      have hl57 : H7 l0 = some (.lst (es.map V.ref)) := b7 _ _ (s15 _ _ h1l) n0
      have hE7 : HeadsAt H7 l0 es hs := (hE.mono s15).but w5 b7
      refine ⟨_, rfl, p, 5, rfl, w7, by decide, by decide, fun mm H8 hmm b8 w8 => ?_⟩
      have hd8 := w7.keepTL b8 hd7
      have hl8 := w7.keepTL b8 hl57
      have PC8 := PC.but w7 b8
      have hE8 := hE7.but w7 b8
      have dl5 : (ds.map V.ref).length = 5 := by rw [List.length_map, hdl]; rfl
      refine ⟨_, rfl, .inl ⟨rfl, _, SqL.of hl8⟩, ?_⟩
      refine ⟨_, rfl, _, rfl, _, rfl, (mm : Int), rfl, D, _, rfl, SqL.of hd8, fun sa hsa => ?_⟩
      have s9 := Same.new (o := .lst (cutV (ds.map V.ref) none (some (mm : Int)))) hsa
      refine ⟨_, rfl, _, rfl, (mm : Int), rfl, D, _, rfl, SqL.of (s9 _ _ hd8), fun sb hsb => ?_⟩
      have s10 := Same.new (o := .lst (cutV (ds.map V.ref) (some (mm : Int)) none)) hsb
      refine ⟨_, rfl, sz_of (by show 2 ≤ 100000; decide), fun sk hsk => ?_⟩
      have s11 := Same.new (o := .lst [.str "number", .str "object"]) hsk
      have sx := s9.trans (s10.trans s11)
      have wx := w8.mono sx
      refine ⟨p, sk, _, rfl, wx, upd_same, (w8.mono (s9.trans s10)).nn hsk, by decide, by decide, fun v H9 hv b9 w9 => ?_⟩
      have nsa : sa ≠ l0 := (ne_of_none hl8 hsa).symm
      have nsb : sb ≠ l0 := (ne_of_none (s9 _ _ hl8) hsb).symm
      have ht1 := b9 _ _ ((s10.trans s11) _ _ upd_same) (by
        refine wx.neL ((s10.trans s11) _ _ upd_same) ?_
        rw [cut_take, ← List.map_take]
        exact head_refs)
      have ht2 := b9 _ _ (s11 _ _ upd_same) (by
        refine wx.neL (s11 _ _ upd_same) ?_
        rw [cut_drop (by rw [dl5]; omega), ← List.map_drop]
        exact head_refs)
      rw [cut_take, ← List.map_take] at ht1
      rw [cut_drop (by rw [dl5]; omega), ← List.map_drop] at ht2
      have hl9 := wx.keepTL b9 (sx _ _ hl8)
      have PC9 := (PC8.mono sx).but wx b9
      have hE9 := (hE8.mono sx).but wx b9
      obtain ⟨res, rfl, hres⟩ : ∃ res : Str, v = .str res ∧ IsKind res := by
        simp only [List.mem_cons, List.not_mem_nil, or_false] at hv
        rcases hv with rfl | rfl
        · exact ⟨_, rfl, .inl rfl⟩
        · exact ⟨_, rfl, .inr rfl⟩
      refine ⟨sz_of (by show 4 ≤ 100000; decide), fun e he => ?_⟩
      have s12 := Same.new (o := .tup [.str (tit i), .ref sa, .ref sb, .str res]) he
      have hl12 := s12 _ _ hl9
      have n12 : l0 ≠ p := n0
      refine ⟨l0, _, _, rfl, rfl, hl12, sz_lt (by rw [List.length_map, hE.1, hl]; omega), ?_⟩
      have hd : HeadAt (upd H9 e (.tup [.str (tit i), .ref sa, .ref sb, .str res])) l0 e ⟨tit i, res, cs.take mm, cs.drop mm, []⟩ := ⟨sa, sb, ds.take mm, ds.drop mm, upd_same, s12 _ _ ht1, (PC9.mono s12).take mm, s12 _ _ ht2, (PC9.mono s12).drop mm, nsa, nsb⟩
      have hnew : HeadsAt (upd H9 e (.tup [.str (tit i), .ref sa, .ref sb, .str res])) l0 (es ++ [e]) (hs ++ [⟨tit i, res, cs.take mm, cs.drop mm, []⟩]) := (hE9.mono s12).snoc hd
      refine ⟨_, _, _, _, _, _, _, _, _, rfl, ?_, (w9.mono s12).put n12, es ++ [e], hs ++ [⟨tit i, res, cs.take mm, cs.drop mm, []⟩], by rw [List.length_append, hl]; rfl, by rw [upd_same, List.map_append]; rfl, hnew.put hl12, fun j f q => ?_⟩
      · intro b u q n
        have n1 : b ≠ l0 := ne_of_none q hl0
        have q7 := b7 _ _ (s15 _ _ (b1 _ _ q n)) n
        rw [upd_ne n1]
        exact s12 _ _ (b9 _ _ (sx _ _ (b8 _ _ q7 n)) n)
      · by_cases c : j < hs.length
        · rw [List.getElem?_append_left c] at q
          exact hO j f q
        · have cj : j = hs.length := by
            have := (List.getElem?_eq_some_iff.mp q).1
            rw [List.length_append, List.length_singleton] at this
            omega
          subst cj
          rw [List.getElem?_append_right (Nat.le_refl _), Nat.sub_self] at q
          rw [← Option.some.inj q, hl]
          refine ⟨rfl, ?_, ?_, hres⟩
          · show (cs.take mm ++ cs.drop mm).Perm _
            rw [List.take_append_drop]
            exact hcp
          · show (cs.take mm).length ≤ 4
            rw [List.length_take]
            omega
    · rintro σ H1 ⟨v2, v3, v4, v5, v6, v7, v8, v9, v10, rfl, b1, w1, es, hs, hl, h1l, hE, hO⟩
      exact ⟨_, rfl, k l0 es hs H1 b1 w1 h1l hE hl hO⟩

end
end W16
set_option Elab.async false
set_option linter.all false
set_option maxRecDepth 100000
set_option maxHeartbeats 4000000
namespace W16
open PySem PySem.Spec PyProof.Rows L2 RZ
section
variable {P : Program} {w : World} {K : PySem.W.Frag} {mg : Str → Option Value} {base : Heap}

/-- a row as it is handed in -/
def RowR (H : Hp) (a : Addr) (r : Rx) : Prop := ∃ l, H a = some (.tup (.str r.word :: r.parts (.ref l))) ∧ ArgsAt H l r
theorem RowR.mono {H H' : Hp} {a : Addr} {r : Rx} (h : RowR H a r) (e : Same H H') : RowR H' a r := by
  obtain ⟨l, h1, h2⟩ := h
  exact ⟨l, e _ _ h1, h2.mono e⟩
theorem noArgs {H : Hp} {l : Addr} {r : Rx} (h : r.args = none) : ArgsAt H l r := fun bs e => by rw [h] at e; cases e
theorem RowR.of {H : Hp} {a : Addr} {r : Rx} (ha : r.args = none) (h : H a = some (.tup (.str r.word :: r.parts (.ref 0)))) : RowR H a r := ⟨0, h, noArgs ha⟩
theorem RowR.but {H H' : Hp} {p a : Addr} {r : Rx} (h : RowR H a r) (w : WellAt H p) (b : But p H H') : RowR H' a r := by
  obtain ⟨l, h1, h2⟩ := h
  exact ⟨l, b _ _ h1 (w.neT h1), fun bs e => ⟨b _ _ (h2 bs e).1 (w.neL (h2 bs e).1 head_strs), (h2 bs e).2⟩⟩
theorem NamesAt.but {H H' : Hp} {k : Nat} {p t a b : Addr} (h : NamesAt H k t a b) (w : WellAt H p) (e : But p H H') : NamesAt H' k t a b :=
  ⟨e _ _ h.t (w.neT h.t), e _ _ h.n (w.neL h.n head_strs), e _ _ h.o (w.neL h.o head_strs)⟩
theorem num_len {k : Nat} : 0 < ((numN k).map V.str).length ∧ ((numN k).map V.str).length ≤ 1000 ∧ (numN k).length = 3 := by
  match k with
  | 0 => decide
  | 1 => decide
  | n + 2 => exact ⟨by show 0 < 3; decide, by show 3 ≤ 1000; decide, rfl⟩
theorem obj_len {k : Nat} : 0 < ((objN k).map V.str).length ∧ ((objN k).map V.str).length ≤ 1000 ∧ (objN k).length = 2 := by
  match k with
  | 0 => decide
  | 1 => decide
  | n + 2 => exact ⟨by show 0 < 2; decide, by show 2 ≤ 1000; decide, rfl⟩
theorem num_in {k : Nat} {v : V} (h : v ∈ (numN k).map V.str) : ∃ x, v = .str x ∧ x ∈ numN k ∧ (x, ("number" : Str)) ∈ pairN k := by
  obtain ⟨x, hx, rfl⟩ := List.mem_map.mp h
  exact ⟨x, rfl, hx, List.mem_append_left _ (List.mem_map.mpr ⟨x, hx, rfl⟩)⟩
theorem obj_in {k : Nat} {v : V} (h : v ∈ (objN k).map V.str) : ∃ x, v = .str x ∧ x ∈ objN k ∧ (x, ("object" : Str)) ∈ pairN k := by
  obtain ⟨x, hx, rfl⟩ := List.mem_map.mp h
  exact ⟨x, rfl, hx, List.mem_append_right _ (List.mem_map.mpr ⟨x, hx, rfl⟩)⟩
def LastOk (size k : Nat) (q : Str) (r : Rx) : Prop := (∃ x, r = .ret x ∧ (x, q) ∈ pairN k) ∨ ∃ g, r = .jump g ∧ g < size
def spLast : Sp := fun vs H Q _ => ∃ (p : Addr) (size k : Nat) (q : Str), vs = [.ref p, .int size, .str q, .int k] ∧ WellAt H p ∧ 0 < size ∧ size ≤ 1000 ∧ IsKind q ∧ k < 3 ∧ ∀ (a : Addr) (r : Rx) (H' : Hp), But p H H' → WellAt H' p → RowR H' a r → LastOk size k q r → Q (.ref a) H' 
theorem sc_L_last : FnScope ["_law_well_here", "_law_size", "_law_kind", "_law_k", "_law_numbers", "_law_objects", "_law_back"] ["_law_well_here", "_law_size", "_law_kind", "_law_k"] (defScope s_L_last) := ⟨rfl, rfl, rfl, by decide +kernel, rfl, by decide +kernel, by decide +kernel⟩
theorem ok_L_last (T : Ctx w K mg) (H_L_draw : Has P w K mg base 1 "_law_draw" ["_law_well_here", "_law_many"] spDraw) (H_L_one : Has P w K mg base 2 "_law_one" ["_law_well_here", "_law_some"] spOne) (H_L_names : Has P w K mg base 1 "_law_names" ["_law_k"] spNamesK) : Has P w K mg base 3 "_law_last" ["_law_well_here", "_law_size", "_law_kind", "_law_k"] spLast := by
  obtain ⟨fd, F⟩ := T.D_L_last
  obtain ⟨fd_L_draw, G_L_draw, b_L_draw⟩ := H_L_draw.ex
  obtain ⟨fd_L_one, G_L_one, b_L_one⟩ := H_L_one.ex
  obtain ⟨fd_L_names, G_L_names, b_L_names⟩ := H_L_names.ex
  refine ⟨⟨fd, F.ok sc_L_last (fun vs H Q E h => ?_) (fun cdv A outer s H vs Q E hr h => ?_), F.bindsN fun _ _ _ _ _ _ us hl => match us, hl with | [_, _, _, _], _ => rfl⟩, F.kp, T.g_L_last⟩
  · obtain ⟨p, size, kk, q, rfl, hw, h0, h1, hq, hk, k⟩ := h; rfl
  · obtain ⟨p, size, kk, q, rfl, hw, h0, h1, hq, hk, k⟩ := h
    have hr_L_draw : Room 1 _ := hr.mono (by decide)
    have hr_L_one : Room 2 _ := hr.mono (by decide)
    have hr_L_names : Room 1 _ := hr.mono (by decide)
    have hu := hu_of hr
    refine ⟨_, PSs.nox (pss_cons (ps_asg (pe_call G_L_names hr_L_names (by rfl) H_L_names.gl H_L_names.kp b_L_names .nil pass0 (pa_cons (pv 3) pa_nil)) (pg_tup rfl (pgs_cons (pg_name (i := 4) sc_L_last.nd rfl (Or.inl rfl)) (pgs_cons (pg_name (i := 5) sc_L_last.nd rfl (Or.inl rfl)) pgs_nil))))
      (pss_cons (ps_set (i := 6) sc_L_last.nd rfl (Or.inl rfl) (pe_tup (pa_cons pe_str (pa_cons (pe_call G_L_one hr_L_one (by rfl) H_L_one.gl H_L_one.kp b_L_one .nil pass0 (pa_cons (pv 0) (pa_cons (pe_ifExp (pt_cmpR op_eq (pv 2) pe_str (nomark _)) (pv 4) (pv 5)) pa_nil))) pa_nil))))
      (pss_one (ps_ret (pe_call G_L_one hr_L_one (by rfl) H_L_one.gl H_L_one.kp b_L_one .nil pass0 (pa_cons (pv 0) (pa_cons (pe_lst (pa_cons (pv 6) (pa_cons (pv 6) (pa_cons (pe_tup (pa_cons pe_str (pa_cons (pe_call G_L_draw hr_L_draw (by rfl) H_L_draw.gl H_L_draw.kp b_L_draw .nil pass0 (pa_cons (pv 0) (pa_cons (pv 1) pa_nil))) pa_nil))) pa_nil)))) pa_nil))))))), ?_⟩
    refine ⟨_, rfl, kk, rfl, hk, fun t a b H1 s1 N1 => ?_⟩
    refine ⟨t, _, rfl, SqT.of N1.t, rfl, _, _, rfl, _, _, rfl, rfl, ?_⟩
    have w1 := hw.mono s1
    rcases hq with rfl | rfl
    · refine ⟨_, rfl, _, rfl, rfl, _, rfl, ifT rfl ⟨_, rfl, p, a, _, rfl, w1, N1.n, w1.neL N1.n head_strs, num_len.1, num_len.2.1, fun v H2 hv b2 w2 => ?_⟩⟩
      obtain ⟨x, rfl, _, hx⟩ := num_in hv
      refine ⟨sz_of (by show 2 ≤ 100000; decide), fun t2 ht2 => ?_⟩
      have s3 := Same.new (o := .tup [.str "return", .str x]) ht2
      have w3 := w2.mono s3
      refine ⟨_, rfl, _, rfl, _, rfl, _, rfl, _, rfl, p, size, rfl, w3, h0, h1, fun gg H4 hg b4 w4 => ?_⟩
      have ht4 := b4 _ _ (upd_same (H := H2) (a := t2) (o := .tup [.str "return", .str x])) (w3.neT upd_same)
      refine ⟨sz_of (by show 2 ≤ 100000; decide), fun t3 ht3 => ?_⟩
      have s5 := Same.new (o := .tup [.str "jump", .int gg]) ht3
      refine ⟨sz_of (by show 3 ≤ 100000; decide), fun l hl => ?_⟩
      have s6 := Same.new (o := .lst [.ref t2, .ref t2, .ref t3]) hl
      have w6 := w4.mono (s5.trans s6)
      refine ⟨p, l, _, rfl, w6, upd_same, (w4.mono s5).nn hl, by show 0 < 3; decide, by show 3 ≤ 1000; decide, fun v H7 hv b7 w7 => ?_⟩
      have bb := ((But.of s1).trans (b2.then s3)).trans ((b4.then (s5.trans s6)).trans b7)
      simp only [List.mem_cons, List.not_mem_nil, or_false] at hv
      rcases hv with rfl | rfl | rfl
      · exact k t2 (.ret x) H7 bb w7 (RowR.of rfl (b7 _ _ ((s5.trans s6) _ _ ht4) (w6.neT ((s5.trans s6) _ _ ht4)))) (.inl ⟨x, rfl, hx⟩)
      · exact k t2 (.ret x) H7 bb w7 (RowR.of rfl (b7 _ _ ((s5.trans s6) _ _ ht4) (w6.neT ((s5.trans s6) _ _ ht4)))) (.inl ⟨x, rfl, hx⟩)
      · exact k t3 (.jump gg) H7 bb w7 (RowR.of rfl (b7 _ _ (s6 _ _ upd_same) (w6.neT (s6 _ _ upd_same)))) (.inr ⟨gg, rfl, hg⟩)
    · refine ⟨_, rfl, _, rfl, rfl, _, rfl, ifF rfl ⟨_, rfl, p, b, _, rfl, w1, N1.o, w1.neL N1.o head_strs, obj_len.1, obj_len.2.1, fun v H2 hv b2 w2 => ?_⟩⟩
      obtain ⟨x, rfl, _, hx⟩ := obj_in hv
      refine ⟨sz_of (by show 2 ≤ 100000; decide), fun t2 ht2 => ?_⟩
      have s3 := Same.new (o := .tup [.str "return", .str x]) ht2
      have w3 := w2.mono s3
      refine ⟨_, rfl, _, rfl, _, rfl, _, rfl, _, rfl, p, size, rfl, w3, h0, h1, fun gg H4 hg b4 w4 => ?_⟩
      have ht4 := b4 _ _ (upd_same (H := H2) (a := t2) (o := .tup [.str "return", .str x])) (w3.neT upd_same)
      refine ⟨sz_of (by show 2 ≤ 100000; decide), fun t3 ht3 => ?_⟩
      have s5 := Same.new (o := .tup [.str "jump", .int gg]) ht3
      refine ⟨sz_of (by show 3 ≤ 100000; decide), fun l hl => ?_⟩
      have s6 := Same.new (o := .lst [.ref t2, .ref t2, .ref t3]) hl
      have w6 := w4.mono (s5.trans s6)
      refine ⟨p, l, _, rfl, w6, upd_same, (w4.mono s5).nn hl, by show 0 < 3; decide, by show 3 ≤ 1000; decide, fun v H7 hv b7 w7 => ?_⟩
      have bb := ((But.of s1).trans (b2.then s3)).trans ((b4.then (s5.trans s6)).trans b7)
      simp only [List.mem_cons, List.not_mem_nil, or_false] at hv
      rcases hv with rfl | rfl | rfl
      · exact k t2 (.ret x) H7 bb w7 (RowR.of rfl (b7 _ _ ((s5.trans s6) _ _ ht4) (w6.neT ((s5.trans s6) _ _ ht4)))) (.inl ⟨x, rfl, hx⟩)
      · exact k t2 (.ret x) H7 bb w7 (RowR.of rfl (b7 _ _ ((s5.trans s6) _ _ ht4) (w6.neT ((s5.trans s6) _ _ ht4)))) (.inl ⟨x, rfl, hx⟩)
      · exact k t3 (.jump gg) H7 bb w7 (RowR.of rfl (b7 _ _ (s6 _ _ upd_same) (w6.neT (s6 _ _ upd_same)))) (.inr ⟨gg, rfl, hg⟩)

end
end W16
set_option Elab.async false
set_option linter.all false
set_option maxRecDepth 100000
set_option maxHeartbeats 0
namespace W16
open PySem PySem.Spec PyProof.Rows L2 RZ
section
variable {P : Program} {w : World} {K : PySem.W.Frag} {mg : Str → Option Value} {base : Heap}

def fldC : List (Str × Str) := [("item", "number"), ("next", "object")]
/-- a row as it is handed in, the list of its arguments new since H -/
def RowF (H H' : Hp) (a : Addr) (r : Rx) : Prop := ∃ l, H' a = some (.tup (.str r.word :: r.parts (.ref l))) ∧ ArgsAt H' l r ∧ (r.args = none ∨ H l = none)
theorem RowR.f {H H' : Hp} {a : Addr} {r : Rx} (h : RowR H' a r) (e : r.args = none) : RowF H H' a r := by
  obtain ⟨l, h1, h2⟩ := h
  exact ⟨l, h1, h2, .inl e⟩
theorem RowF.of {H H' : Hp} {a : Addr} {r : Rx} (ha : r.args = none) (h : H' a = some (.tup (.str r.word :: r.parts (.ref 0)))) : RowF H H' a r := (RowR.of ha h).f ha
theorem RowF.as {H H' : Hp} {a : Addr} {r : Rx} {xs : List V} (ha : r.args = none) (e : V.str r.word :: r.parts (.ref 0) = xs) (h : H' a = some (.tup xs)) : RowF H H' a r := RowF.of ha (by rw [e]; exact h)
section
variable {x y z c f F : Str} {n : Int} {g : Nat} {l : V} {as : List Str}
theorem w_num : V.str (Rx.num x n).word :: (Rx.num x n).parts l = [.str "number", .str x, .int n] := rfl
theorem w_nil : V.str (Rx.nil x).word :: (Rx.nil x).parts l = [.str "nil", .str x] := rfl
theorem w_copy : V.str (Rx.copy x y).word :: (Rx.copy x y).parts l = [.str "copy", .str x, .str y] := rfl
theorem w_bin0 : V.str (Rx.bin 0 x y z).word :: (Rx.bin 0 x y z).parts l = [.str "add", .str x, .str y, .str z] := rfl
theorem w_bin1 : V.str (Rx.bin 1 x y z).word :: (Rx.bin 1 x y z).parts l = [.str "sub", .str x, .str y, .str z] := rfl
theorem w_bin2 : V.str (Rx.bin 2 x y z).word :: (Rx.bin 2 x y z).parts l = [.str "times", .str x, .str y, .str z] := rfl
theorem w_bin3 : V.str (Rx.bin 3 x y z).word :: (Rx.bin 3 x y z).parts l = [.str "less", .str x, .str y, .str z] := rfl
theorem w_same : V.str (Rx.same x y z).word :: (Rx.same x y z).parts l = [.str "same", .str x, .str y, .str z] := rfl
theorem w_new : V.str (Rx.new x c).word :: (Rx.new x c).parts l = [.str "new", .str x, .str c] := rfl
theorem w_get : V.str (Rx.get x y f).word :: (Rx.get x y f).parts l = [.str "get", .str x, .str y, .str f] := rfl
theorem w_put : V.str (Rx.put x f y).word :: (Rx.put x f y).parts l = [.str "put", .str x, .str f, .str y] := rfl
theorem w_call : V.str (Rx.call x F as).word :: (Rx.call x F as).parts l = [.str "call", .str x, .str F, l] := rfl
theorem w_see : V.str (Rx.see x).word :: (Rx.see x).parts l = [.str "see", .str x] := rfl
theorem w_ifz : V.str (Rx.ifz x g).word :: (Rx.ifz x g).parts l = [.str "if", .str x, .int g] := rfl
end
/-- what a drawn row tells -/
def PlainOk (hs : List FdT) (f : FdT) (size : Nat) (r : Rx) : Prop := RowOk "cell" fldC hs f r ∧ (∀ g, r.goal = some g → g < size) ∧ r.reads.length ≤ 4
theorem HeadOk.ko {k : Nat} {f : FdT} (h : HeadOk k f) {x q : Str} (m : (x, q) ∈ pairN k) : KO f x q := h.pm.mem_iff.mpr m
theorem LastOk.plain {hs : List FdT} {f : FdT} {size k : Nat} {r : Rx} (h : LastOk size k f.res r) (hf : HeadOk k f) : PlainOk hs f size r := by
  rcases h with ⟨x, rfl, hx⟩ | ⟨g, rfl, hg⟩
  · exact ⟨hf.ko hx, fun g e => (by cases e), by simp [Rx.reads]⟩
  · exact ⟨trivial, fun g' e => by rw [← Option.some.inj e]; exact hg, by simp [Rx.reads]⟩
theorem lc_but {J : It} {n : Nat} {G : Hp → Prop} {Y : Nat → Hp → V → Hp → Prop} (w : Walk J n G Y) {g : TG} {te : TE} {vs : List Nat} {σ : L2.St} {H0 : Hp} {D p : Addr} {Qd : Hp → Prop} (hD : H0 D = none) (w0 : WellAt H0 p) (P : V → Prop) (hn : n < 100000)
    (hG : ∀ H, But p H0 H → WellAt H p → G H)
    (hs : ∀ i H x H', i < n → But p H0 H → WellAt H p → Y i H x H' → ∀ Qe : VK, (∀ v H4, P v → But p H H4 → WellAt H4 p → Qe v H4) → g x (wipe σ vs) H' fun σ2 H2 => wipe σ2 vs = wipe σ vs ∧ te σ2 H2 Qe)
    (hd : ∀ (H : Hp) (xs : List V), But p H0 H → WellAt H p → xs.length = n → (∀ x ∈ xs, P x) → H D = some (.lst xs) → Qd H) :
    ∃ W : Nat → Nat → Hp → Prop, (∃ m, W 0 m (upd H0 D (.lst []))) ∧ ∀ i m H, W i m H →
      (J.stop i H ∧ Qd H) ∨ (J.go i H ∧ ∃ Nx : Hp → Prop, (∀ H', Nx H' → ∃ m', m' < m ∧ W (i + 1) m' H') ∧ ∀ x H', J.yld i H x H' → g x (wipe σ vs) H' fun σ2 H2 => wipe σ2 vs = wipe σ vs ∧ tYes σ2 H2 fun b H3 =>
        if b = true then te σ2 H3 fun y H4 => ∃ acc, H4 D = some (.lst acc) ∧ acc.length < sizeLine ∧ Nx (upd H4 D (.lst (acc ++ [y]))) else Nx H3) := by
  have nDp := w0.nn hD
  refine lc_it w (fun i H => But p H0 H ∧ WellAt H p ∧ ∃ xs : List V, xs.length = i ∧ (∀ x ∈ xs, P x) ∧ H D = some (.lst xs)) ⟨But.new hD, w0.put nDp, [], rfl, fun x m => by simp at m, upd_same⟩ (fun i H _ p => hG H p.1 p.2.1) (fun i x H H' hi q y => ?_) (fun H q => ?_)
  · obtain ⟨b1, w1, xs, hl, hx, hDD⟩ := q
    have q := hs i H x H' hi b1 w1 y (fun y H4 => ∃ acc, H4 D = some (.lst acc) ∧ acc.length < sizeLine ∧ (But p H0 (upd H4 D (.lst (acc ++ [y]))) ∧ WellAt (upd H4 D (.lst (acc ++ [y]))) p ∧ ∃ xs : List V, xs.length = i + 1 ∧ (∀ x ∈ xs, P x) ∧ upd H4 D (.lst (acc ++ [y])) D = some (.lst xs))) (fun v H4 pv b4 w4 => ?_)
    · exact q
    · refine ⟨xs, b4 _ _ hDD nDp, sz_lt (by omega), (b1.trans b4).mut hD, w4.put nDp, xs ++ [v], by rw [List.length_append, hl]; rfl, fun z m => ?_, upd_same⟩
      rcases List.mem_append.mp m with m | m
      · exact hx z m
      · rw [List.mem_singleton.mp m]
        exact pv
  · obtain ⟨b1, w1, xs, hl, hx, hDD⟩ := q
    exact hd H xs b1 w1 hl hx hDD
/-- texts, one for each turn -/
theorem lc_strs {J : It} {n : Nat} {G : Hp → Prop} {Y : Nat → Hp → V → Hp → Prop} (w : Walk J n G Y) {g : TG} {te : TE} {vs : List Nat} {σ : L2.St} {H0 : Hp} {D p : Addr} {Qd : Hp → Prop} (hD : H0 D = none) (w0 : WellAt H0 p) (P : Nat → Str → Prop) (hn : n < 100000)
    (hG : ∀ H, But p H0 H → WellAt H p → G H)
    (hs : ∀ i H x H', i < n → But p H0 H → WellAt H p → Y i H x H' → ∀ Qe : VK, (∀ y H4, P i y → But p H H4 → WellAt H4 p → Qe (.str y) H4) → g x (wipe σ vs) H' fun σ2 H2 => wipe σ2 vs = wipe σ vs ∧ te σ2 H2 Qe)
    (hd : ∀ (H : Hp) (ys : List Str), But p H0 H → WellAt H p → ys.length = n → (∀ (i : Nat) y, ys[i]? = some y → P i y) → H D = some (.lst (ys.map V.str)) → Qd H) :
    ∃ W : Nat → Nat → Hp → Prop, (∃ m, W 0 m (upd H0 D (.lst []))) ∧ ∀ i m H, W i m H →
      (J.stop i H ∧ Qd H) ∨ (J.go i H ∧ ∃ Nx : Hp → Prop, (∀ H', Nx H' → ∃ m', m' < m ∧ W (i + 1) m' H') ∧ ∀ x H', J.yld i H x H' → g x (wipe σ vs) H' fun σ2 H2 => wipe σ2 vs = wipe σ vs ∧ tYes σ2 H2 fun b H3 =>
        if b = true then te σ2 H3 fun y H4 => ∃ acc, H4 D = some (.lst acc) ∧ acc.length < sizeLine ∧ Nx (upd H4 D (.lst (acc ++ [y]))) else Nx H3) := by
  have nDp := w0.nn hD
  refine lc_it w (fun i H => But p H0 H ∧ WellAt H p ∧ ∃ ys : List Str, ys.length = i ∧ (∀ (j : Nat) y, ys[j]? = some y → P j y) ∧ H D = some (.lst (ys.map V.str))) ⟨But.new hD, w0.put nDp, [], rfl, fun j y e => by simp at e, upd_same⟩ (fun i H _ p => hG H p.1 p.2.1) (fun i x H H' hi q y => ?_) (fun H q => ?_)
  · obtain ⟨b1, w1, xs, hl, hx, hDD⟩ := q
    have q := hs i H x H' hi b1 w1 y (fun y H4 => ∃ acc, H4 D = some (.lst acc) ∧ acc.length < sizeLine ∧ (But p H0 (upd H4 D (.lst (acc ++ [y]))) ∧ WellAt (upd H4 D (.lst (acc ++ [y]))) p ∧ ∃ ys : List Str, ys.length = i + 1 ∧ (∀ (j : Nat) y, ys[j]? = some y → P j y) ∧ upd H4 D (.lst (acc ++ [y])) D = some (.lst (ys.map V.str)))) (fun v H4 pv b4 w4 => ?_)
    · exact q
    · refine ⟨xs.map V.str, b4 _ _ hDD nDp, sz_lt (by rw [List.length_map]; omega), (b1.trans b4).mut hD, w4.put nDp, xs ++ [v], by rw [List.length_append, hl]; rfl, fun j z m => ?_, by rw [upd_same, List.map_append]; rfl⟩
      by_cases c : j < xs.length
      · rw [List.getElem?_append_left c] at m
        exact hx j z m
      · have cj : j = xs.length := by
          have := (List.getElem?_eq_some_iff.mp m).1
          rw [List.length_append, List.length_singleton] at this
          omega
        subst cj
        rw [List.getElem?_append_right (Nat.le_refl _), Nat.sub_self] at m
        rw [← Option.some.inj m, hl]
        exact pv
  · obtain ⟨b1, w1, xs, hl, hx, hDD⟩ := q
    exact hd H xs b1 w1 hl hx hDD
theorem three {α : Type} : ∀ {l : List α}, l.length = 3 → ∃ x y z, l = [x, y, z]
  | [x, y, z], _ => ⟨x, y, z, rfl⟩
theorem two {α : Type} : ∀ {l : List α}, l.length = 2 → ∃ x y, l = [x, y]
  | [x, y], _ => ⟨x, y, rfl⟩
def spPlain : Sp := fun vs H Q _ => ∃ (p hl l : Addr) (size k : Nat) (es : List Addr) (hs : List FdT) (f : FdT), vs = [.ref p, .int size, .ref hl, .int k] ∧ WellAt H p ∧ 0 < size ∧ size ≤ 1000 ∧ k < 3 ∧ H hl = some (.lst (es.map V.ref)) ∧ HeadsAt H l es hs ∧ hs.length = 3 ∧ (∀ (k : Nat) f, hs[k]? = some f → HeadOk k f) ∧ hs[k]? = some f ∧
  ∀ (a : Addr) (r : Rx) (H' : Hp), But p H H' → WellAt H' p → RowF H H' a r → PlainOk hs f size r → Q (.ref a) H' 
theorem sc_L_plain : FnScope ["_law_well_here", "_law_size", "_law_heads_here", "_law_k", "_law_numbers", "_law_objects", "_law_x", "_law_y", "_law_z", "_law_one_here", "_law_other", "_law_way", "_law_some", "_law_title", "_law_inputs", "_law_others", "_law_kind", "_law_args", "_law_turn", "_law_slot", "_law_sort"] ["_law_well_here", "_law_size", "_law_heads_here", "_law_k"] (defScope s_L_plain) := ⟨rfl, rfl, rfl, by decide +kernel, rfl, by decide +kernel, by decide +kernel⟩
theorem ok_L_plain (T : Ctx w K mg) (H_L_draw : Has P w K mg base 1 "_law_draw" ["_law_well_here", "_law_many"] spDraw) (H_L_one : Has P w K mg base 2 "_law_one" ["_law_well_here", "_law_some"] spOne) (H_L_names : Has P w K mg base 1 "_law_names" ["_law_k"] spNamesK) (H_L_last : Has P w K mg base 3 "_law_last" ["_law_well_here", "_law_size", "_law_kind", "_law_k"] spLast) : Has P w K mg base 4 "_law_plain" ["_law_well_here", "_law_size", "_law_heads_here", "_law_k"] spPlain := by
  obtain ⟨fd, F⟩ := T.D_L_plain
  obtain ⟨fd_L_draw, G_L_draw, b_L_draw⟩ := H_L_draw.ex
  obtain ⟨fd_L_one, G_L_one, b_L_one⟩ := H_L_one.ex
  obtain ⟨fd_L_names, G_L_names, b_L_names⟩ := H_L_names.ex
  obtain ⟨fd_L_last, G_L_last, b_L_last⟩ := H_L_last.ex
  refine ⟨⟨fd, F.ok sc_L_plain (fun vs H Q E h => ?_) (fun cdv A outer s H vs Q E hr h => ?_), F.bindsN fun _ _ _ _ _ _ us hl => match us, hl with | [_, _, _, _], _ => rfl⟩, F.kp, T.g_L_plain⟩
  · obtain ⟨p, hl, l, size, kk, es, hs, f, rfl, hw, h0, h1, hk, hhl, hE, hs3, hO, hf, k⟩ := h; rfl
  · obtain ⟨p, hl, l, size, kk, es, hs, f, rfl, hw, h0, h1, hk, hhl, hE, hs3, hO, hf, k⟩ := h
    have hr_L_draw : Room 1 _ := hr.mono (by decide)
    have hr_L_one : Room 2 _ := hr.mono (by decide)
    have hr_L_names : Room 1 _ := hr.mono (by decide)
    have hr_L_last : Room 3 _ := hr.mono (by decide)
    have hu := hu_of hr
    refine ⟨_, PSs.nox (pss_cons (ps_asg (pe_call G_L_names hr_L_names (by rfl) H_L_names.gl H_L_names.kp b_L_names .nil pass0 (pa_cons (pv 3) pa_nil)) (pg_tup rfl (pgs_cons (pg_name (i := 4) sc_L_plain.nd rfl (Or.inr rfl)) (pgs_cons (pg_name (i := 5) sc_L_plain.nd rfl (Or.inr rfl)) pgs_nil))))
      (pss_cons (ps_asg (pe_lc (own := [("_law_turn", 18)]) (g := gName 18) (tt := tYes) rfl sc_L_plain.nd (pi_range1 (by rfl) T.f_range (pa_cons pe_int pa_nil)) (blkOk_by (N := ["_law_well_here", "_law_size", "_law_heads_here", "_law_k", "_law_numbers", "_law_objects", "_law_x", "_law_y", "_law_z", "_law_one_here", "_law_other", "_law_way", "_law_some", "_law_title", "_law_inputs", "_law_others", "_law_kind", "_law_args", "_law_turn", "_law_slot", "_law_sort"]) (sc := defScope s_L_plain) (by decide +kernel)) (fun _ _ _ _ _ => (pg_name (i := 18) sc_L_plain.nd rfl (Or.inl rfl))) (fun _ _ _ _ _ => pts_nil) (fun _ _ _ _ _ => (pe_call G_L_one hr_L_one (by rfl) H_L_one.gl H_L_one.kp b_L_one .nil pass0 (pa_cons (pv 0) (pa_cons (pv 4) pa_nil))))) (pg_unl rfl (pgs_cons (pg_name (i := 6) sc_L_plain.nd rfl (Or.inl rfl)) (pgs_cons (pg_name (i := 7) sc_L_plain.nd rfl (Or.inl rfl)) (pgs_cons (pg_name (i := 8) sc_L_plain.nd rfl (Or.inl rfl)) pgs_nil)))))
      (pss_cons (ps_asg (pe_lc (own := [("_law_turn", 18)]) (g := gName 18) (tt := tYes) rfl sc_L_plain.nd (pi_range1 (by rfl) T.f_range (pa_cons pe_int pa_nil)) (blkOk_by (N := ["_law_well_here", "_law_size", "_law_heads_here", "_law_k", "_law_numbers", "_law_objects", "_law_x", "_law_y", "_law_z", "_law_one_here", "_law_other", "_law_way", "_law_some", "_law_title", "_law_inputs", "_law_others", "_law_kind", "_law_args", "_law_turn", "_law_slot", "_law_sort"]) (sc := defScope s_L_plain) (by decide +kernel)) (fun _ _ _ _ _ => (pg_name (i := 18) sc_L_plain.nd rfl (Or.inl rfl))) (fun _ _ _ _ _ => pts_nil) (fun _ _ _ _ _ => (pe_call G_L_one hr_L_one (by rfl) H_L_one.gl H_L_one.kp b_L_one .nil pass0 (pa_cons (pv 0) (pa_cons (pv 5) pa_nil))))) (pg_unl rfl (pgs_cons (pg_name (i := 9) sc_L_plain.nd rfl (Or.inl rfl)) (pgs_cons (pg_name (i := 10) sc_L_plain.nd rfl (Or.inl rfl)) pgs_nil))))
      (pss_cons (ps_set (i := 11) sc_L_plain.nd rfl (Or.inl rfl) (pe_call G_L_draw hr_L_draw (by rfl) H_L_draw.gl H_L_draw.kp b_L_draw .nil pass0 (pa_cons (pv 0) (pa_cons pe_int pa_nil))))
      (pss_cons (ps_if (pt_cmpR op_lt (pv 11) pe_int (nomark _)) (pss_one (ps_ret (pe_ix ix_list (pe_lst (pa_cons (pe_tup (pa_cons pe_str (pa_cons (pv 6) (pa_cons pe_int pa_nil)))) (pa_cons (pe_tup (pa_cons pe_str (pa_cons (pv 6) (pa_cons (pv 7) pa_nil)))) (pa_cons (pe_tup (pa_cons pe_str (pa_cons (pv 6) (pa_cons (pv 7) (pa_cons (pv 8) pa_nil))))) (pa_cons (pe_tup (pa_cons pe_str (pa_cons (pv 6) (pa_cons (pv 7) (pa_cons (pv 8) pa_nil))))) (pa_cons (pe_tup (pa_cons pe_str (pa_cons (pv 6) (pa_cons (pv 7) (pa_cons (pv 8) pa_nil))))) pa_nil)))))) (pv 11) (fun _ _ => rfl)))) pss_nil)
      (pss_cons (ps_if (pt_cmpR op_lt (pv 11) pe_int (nomark _)) (pss_cons (ps_set (i := 12) sc_L_plain.nd rfl (Or.inl rfl) (pe_lst (pa_cons (pe_tup (pa_cons pe_str (pa_cons (pv 6) (pa_cons (pv 7) (pa_cons (pv 8) pa_nil))))) (pa_cons (pe_tup (pa_cons pe_str (pa_cons (pv 6) (pa_cons (pv 7) (pa_cons (pv 8) pa_nil))))) (pa_cons (pe_tup (pa_cons pe_str (pa_cons (pv 6) (pa_cons (pv 9) (pa_cons (pv 10) pa_nil))))) (pa_cons (pe_tup (pa_cons pe_str (pa_cons (pv 9) pa_nil))) (pa_cons (pe_tup (pa_cons pe_str (pa_cons (pv 9) (pa_cons (pv 10) pa_nil)))) pa_nil)))))))
      (pss_one (ps_ret (pe_ix ix_list (pv 12) (pe_op op_sub (pv 11) pe_int) (fun _ _ => rfl))))) pss_nil)
      (pss_cons (ps_if (pt_cmpR op_lt (pv 11) pe_int (nomark _)) (pss_cons (ps_set (i := 12) sc_L_plain.nd rfl (Or.inl rfl) (pe_lst (pa_cons (pe_tup (pa_cons pe_str (pa_cons (pv 9) (pa_cons pe_str pa_nil)))) (pa_cons (pe_tup (pa_cons pe_str (pa_cons (pv 6) (pa_cons (pv 9) (pa_cons pe_str pa_nil))))) (pa_cons (pe_tup (pa_cons pe_str (pa_cons (pv 9) (pa_cons pe_str (pa_cons (pv 7) pa_nil))))) (pa_cons (pe_tup (pa_cons pe_str (pa_cons (pv 9) (pa_cons (pv 10) (pa_cons pe_str pa_nil))))) pa_nil))))))
      (pss_one (ps_ret (pe_ix ix_list (pv 12) (pe_op op_sub (pv 11) pe_int) (fun _ _ => rfl))))) pss_nil)
      (pss_cons (ps_if (pt_cmpR op_lt (pv 11) pe_int (nomark _)) (pss_cons (ps_asg (pe_call G_L_one hr_L_one (by rfl) H_L_one.gl H_L_one.kp b_L_one .nil pass0 (pa_cons (pv 0) (pa_cons (pv 2) pa_nil))) (pg_tup rfl (pgs_cons (pg_name (i := 13) sc_L_plain.nd rfl (Or.inl rfl)) (pgs_cons (pg_name (i := 14) sc_L_plain.nd rfl (Or.inl rfl)) (pgs_cons (pg_name (i := 15) sc_L_plain.nd rfl (Or.inl rfl)) (pgs_cons (pg_name (i := 16) sc_L_plain.nd rfl (Or.inl rfl)) pgs_nil))))))
      (pss_cons (ps_setLc (i := 17) (own := [("_law_slot", 19), ("_law_sort", 20)]) (g := gTup K 2 (gCons (gName 19) (gCons (gName 20) (gNil)))) (tt := tYes) rfl sc_L_plain.nd rfl rfl (sw_true rfl rfl rfl (by decide +kernel)) (pi_list (pv 14)) (blkOk_by (N := ["_law_well_here", "_law_size", "_law_heads_here", "_law_k", "_law_numbers", "_law_objects", "_law_x", "_law_y", "_law_z", "_law_one_here", "_law_other", "_law_way", "_law_some", "_law_title", "_law_inputs", "_law_others", "_law_kind", "_law_args", "_law_turn", "_law_slot", "_law_sort"]) (sc := defScope s_L_plain) (by decide +kernel)) (fun _ _ _ _ _ => (pg_tup rfl (pgs_cons (pg_name (i := 19) sc_L_plain.nd rfl (Or.inl rfl)) (pgs_cons (pg_name (i := 20) sc_L_plain.nd rfl (Or.inl rfl)) pgs_nil)))) (fun _ _ _ _ _ => pts_nil) (fun _ _ _ _ _ => (pe_call G_L_one hr_L_one (by rfl) H_L_one.gl H_L_one.kp b_L_one .nil pass0 (pa_cons (pv 0) (pa_cons (pe_ifExp (pt_cmpR op_eq (pv 20) pe_str (nomark _)) (pv 4) (pv 5)) pa_nil)))))
      (pss_one (ps_ret (pe_tup (pa_cons pe_str (pa_cons (pe_ifExp (pt_cmpR op_eq (pv 16) pe_str (nomark _)) (pv 6) (pv 9)) (pa_cons (pv 13) (pa_cons (pv 17) pa_nil))))))))) pss_nil)
      (pss_cons (ps_set (i := 12) sc_L_plain.nd rfl (Or.inl rfl) (pe_lst (pa_cons (pe_tup (pa_cons pe_str (pa_cons (pv 9) (pa_cons pe_str (pa_cons (pv 10) pa_nil))))) (pa_cons (pe_tup (pa_cons pe_str (pa_cons (pe_call G_L_one hr_L_one (by rfl) H_L_one.gl H_L_one.kp b_L_one .nil pass0 (pa_cons (pv 0) (pa_cons (pe_lst (pa_cons (pv 6) (pa_cons (pv 9) pa_nil))) pa_nil))) pa_nil))) (pa_cons (pe_tup (pa_cons pe_str (pa_cons (pv 6) (pa_cons (pe_call G_L_draw hr_L_draw (by rfl) H_L_draw.gl H_L_draw.kp b_L_draw .nil pass0 (pa_cons (pv 0) (pa_cons (pv 1) pa_nil))) pa_nil)))) pa_nil)))))
      (pss_one (ps_ret (pe_ix ix_list (pe_op op_cat (pv 12) (pe_lst (pa_cons (pe_call G_L_last hr_L_last (by rfl) H_L_last.gl H_L_last.kp b_L_last .nil pass0 (pa_cons (pv 0) (pa_cons (pv 1) (pa_cons (pe_ix ix_tup (pe_ix ix_list (pv 2) (pv 3) (fun _ _ => rfl)) pe_int (fun _ _ => rfl)) (pa_cons (pv 3) pa_nil))))) pa_nil))) (pe_op op_sub (pv 11) pe_int) (fun _ _ => rfl))))))))))))), ?_⟩
    have hst : L2.start ["_law_well_here", "_law_size", "_law_heads_here", "_law_k", "_law_numbers", "_law_objects", "_law_x", "_law_y", "_law_z", "_law_one_here", "_law_other", "_law_way", "_law_some", "_law_title", "_law_inputs", "_law_others", "_law_kind", "_law_args", "_law_turn", "_law_slot", "_law_sort"] [V.ref p, V.int size, V.ref hl, V.int kk] = [some (.ref p), some (.int size), some (.ref hl), some (.int kk), none, none, none, none, none, none, none, none, none, none, none, none, none, none, none, none, none] := rfl
    rw [hst]
    clear hst
    obtain hfo := hO kk f hf
    refine ⟨_, rfl, kk, rfl, hk, fun t a b H1 s1 N1 => ?_⟩
    refine ⟨t, _, rfl, SqT.of N1.t, rfl, _, _, rfl, _, _, rfl, rfl, ?_⟩
    have w1 := hw.mono s1
    refine ⟨_, rfl, by decide, by decide, fun D1 hD1 => ?_⟩
    refine lc_strs (walk_range (lo := 0) (n := (3 : Int).toNat)) hD1 w1 (fun _ x => (x, ("number" : Str)) ∈ pairN kk) (by decide) (fun _ _ _ => trivial) (fun j Hy y Hy' hj by_ wy hy Qe qe => ?_) (fun H2 xs b2 w2 hxl hxs hDa => ?_)
    · obtain ⟨rfl, rfl⟩ := hy
      have Ny := N1.but w1 by_
      refine ⟨rfl, _, rfl, _, rfl, p, a, _, rfl, wy, Ny.n, wy.neL Ny.n head_strs, num_len.1, num_len.2.1, fun v H2 hv b2 w2 => ?_⟩
      obtain ⟨x, rfl, _, hx⟩ := num_in hv
      exact qe _ _ hx b2 w2
    obtain ⟨x, y, z, rfl⟩ : ∃ x y z, xs = [x, y, z] := three (show xs.length = 3 from hxl)
    have kx := hfo.ko (hxs 0 x rfl)
    have ky := hfo.ko (hxs 1 y rfl)
    have kz := hfo.ko (hxs 2 z rfl)
    refine ⟨D1, _, rfl, SqL.of hDa, rfl, _, _, rfl, _, _, rfl, _, _, rfl, rfl, ?_⟩
    have N2 := N1.but w1 b2
    refine ⟨_, rfl, by decide, by decide, fun D2 hD2 => ?_⟩
    refine lc_strs (walk_range (lo := 0) (n := (2 : Int).toNat)) hD2 w2 (fun _ x => (x, ("object" : Str)) ∈ pairN kk) (by decide) (fun _ _ _ => trivial) (fun j Hy y Hy' hj by_ wy hy Qe qe => ?_) (fun H3 os b3 w3 hol hos hDb => ?_)
    · obtain ⟨rfl, rfl⟩ := hy
      have Ny := N2.but w2 by_
      refine ⟨rfl, _, rfl, _, rfl, p, b, _, rfl, wy, Ny.o, wy.neL Ny.o head_strs, obj_len.1, obj_len.2.1, fun v H2 hv b2 w2 => ?_⟩
      obtain ⟨x, rfl, _, hx⟩ := obj_in hv
      exact qe _ _ hx b2 w2
    obtain ⟨u, v, rfl⟩ : ∃ u v, os = [u, v] := two (show os.length = 2 from hol)
    have ku := hfo.ko (hos 0 u rfl)
    have kv := hfo.ko (hos 1 v rfl)
    refine ⟨D2, _, rfl, SqL.of hDb, rfl, _, _, rfl, _, _, rfl, rfl, ?_⟩
    have N3 := N2.but w2 b3
    refine ⟨_, rfl, p, 21, rfl, w3, by decide, by decide, fun way H4 hway b4 w4 => ?_⟩
    have N4 := N3.but w3 b4
    have b14 : But p H H4 := ((But.of s1).trans b2).trans (b3.trans b4)

    refine ⟨_, rfl, _, _, rfl, rfl, _, rfl, ?_⟩
    by_cases c1 : way < 5
    · refine ifT (decide_eq_true (by omega)) ?_
      refine ⟨_, rfl, sz_of (by show 3 ≤ 100000; decide), fun t0 ht0 => ?_⟩
      refine ⟨_, rfl, _, rfl, sz_of (by show 3 ≤ 100000; decide), fun t1 ht1 => ?_⟩
      refine ⟨_, rfl, _, rfl, _, rfl, sz_of (by show 4 ≤ 100000; decide), fun t2 ht2 => ?_⟩
      refine ⟨_, rfl, _, rfl, _, rfl, sz_of (by show 4 ≤ 100000; decide), fun t3 ht3 => ?_⟩
      refine ⟨_, rfl, _, rfl, _, rfl, sz_of (by show 4 ≤ 100000; decide), fun t4 ht4 => ?_⟩
      refine ⟨sz_of (by show 5 ≤ 100000; decide), fun l hl => ?_⟩
      have q0 := Same.new (o := .tup [.str "number", .str x, .int 5]) ht0
      have q1 := Same.new (o := .tup [.str "copy", .str x, .str y]) ht1
      have q2 := Same.new (o := .tup [.str "add", .str x, .str y, .str z]) ht2
      have q3 := Same.new (o := .tup [.str "sub", .str x, .str y, .str z]) ht3
      have q4 := Same.new (o := .tup [.str "times", .str x, .str y, .str z]) ht4
      have ql := Same.new (o := .lst [.ref t0, .ref t1, .ref t2, .ref t3, .ref t4]) hl
      have z4 := ql
      have z3 := q4.trans z4
      have z2 := q3.trans z3
      have z1 := q2.trans z2
      have z0 := q1.trans z1
      have zz := q0.trans z0
      match way, c1 with
      | 0, _ => exact ⟨_, rfl, l, _, _, _, rfl, rfl, SqL.of upd_same, at0, k t0 (.num x 5) _ (b14.then zz) (w4.mono zz) (RowF.as rfl w_num (z0 _ _ upd_same)) ⟨⟨kx, by decide, by decide⟩, fun g e => (by cases e), by simp [Rx.reads]⟩⟩
      | 1, _ => exact ⟨_, rfl, l, _, _, _, rfl, rfl, SqL.of upd_same, at1, k t1 (.copy x y) _ (b14.then zz) (w4.mono zz) (RowF.as rfl w_copy (z1 _ _ upd_same)) ⟨⟨_, kx, ky⟩, fun g e => (by cases e), by simp [Rx.reads]⟩⟩
      | 2, _ => exact ⟨_, rfl, l, _, _, _, rfl, rfl, SqL.of upd_same, at2, k t2 (.bin 0 x y z) _ (b14.then zz) (w4.mono zz) (RowF.as rfl w_bin0 (z2 _ _ upd_same)) ⟨⟨kx, ky, kz⟩, fun g e => (by cases e), by simp [Rx.reads]⟩⟩
      | 3, _ => exact ⟨_, rfl, l, _, _, _, rfl, rfl, SqL.of upd_same, at3, k t3 (.bin 1 x y z) _ (b14.then zz) (w4.mono zz) (RowF.as rfl w_bin1 (z3 _ _ upd_same)) ⟨⟨kx, ky, kz⟩, fun g e => (by cases e), by simp [Rx.reads]⟩⟩
      | 4, _ => exact ⟨_, rfl, l, _, _, _, rfl, rfl, SqL.of upd_same, at4, k t4 (.bin 2 x y z) _ (b14.then zz) (w4.mono zz) (RowF.as rfl w_bin2 (z4 _ _ upd_same)) ⟨⟨kx, ky, kz⟩, fun g e => (by cases e), by simp [Rx.reads]⟩⟩
    refine ifF (decide_eq_false (by omega)) ?_
    refine ⟨_, rfl, _, _, rfl, rfl, _, rfl, ?_⟩
    by_cases c2 : way < 10
    · refine ifT (decide_eq_true (by omega)) ?_
      refine ⟨_, rfl, _, rfl, _, rfl, sz_of (by show 4 ≤ 100000; decide), fun t0 ht0 => ?_⟩
      refine ⟨_, rfl, _, rfl, _, rfl, sz_of (by show 4 ≤ 100000; decide), fun t1 ht1 => ?_⟩
      refine ⟨_, rfl, _, rfl, _, rfl, sz_of (by show 4 ≤ 100000; decide), fun t2 ht2 => ?_⟩
      refine ⟨_, rfl, sz_of (by show 2 ≤ 100000; decide), fun t3 ht3 => ?_⟩
      refine ⟨_, rfl, _, rfl, sz_of (by show 3 ≤ 100000; decide), fun t4 ht4 => ?_⟩
      refine ⟨sz_of (by show 5 ≤ 100000; decide), fun l hl => ?_⟩
      have q0 := Same.new (o := .tup [.str "less", .str x, .str y, .str z]) ht0
      have q1 := Same.new (o := .tup [.str "same", .str x, .str y, .str z]) ht1
      have q2 := Same.new (o := .tup [.str "same", .str x, .str u, .str v]) ht2
      have q3 := Same.new (o := .tup [.str "nil", .str u]) ht3
      have q4 := Same.new (o := .tup [.str "copy", .str u, .str v]) ht4
      have ql := Same.new (o := .lst [.ref t0, .ref t1, .ref t2, .ref t3, .ref t4]) hl
      have z4 := ql
      have z3 := q4.trans z4
      have z2 := q3.trans z3
      have z1 := q2.trans z2
      have z0 := q1.trans z1
      have zz := q0.trans z0
      obtain ⟨wy, rfl⟩ : ∃ wy, way = wy + 5 := ⟨way - 5, by omega⟩
      have c3 : wy < 5 := by omega
      match wy, c3 with
      | 0, _ => exact ⟨_, rfl, _, rfl, _, _, rfl, rfl, l, _, _, _, rfl, rfl, SqL.of upd_same, at0, k t0 (.bin 3 x y z) _ (b14.then zz) (w4.mono zz) (RowF.as rfl w_bin3 (z0 _ _ upd_same)) ⟨⟨kx, ky, kz⟩, fun g e => (by cases e), by simp [Rx.reads]⟩⟩
      | 1, _ => exact ⟨_, rfl, _, rfl, _, _, rfl, rfl, l, _, _, _, rfl, rfl, SqL.of upd_same, at1, k t1 (.same x y z) _ (b14.then zz) (w4.mono zz) (RowF.as rfl w_same (z1 _ _ upd_same)) ⟨⟨_, kx, ky, kz⟩, fun g e => (by cases e), by simp [Rx.reads]⟩⟩
      | 2, _ => exact ⟨_, rfl, _, rfl, _, _, rfl, rfl, l, _, _, _, rfl, rfl, SqL.of upd_same, at2, k t2 (.same x u v) _ (b14.then zz) (w4.mono zz) (RowF.as rfl w_same (z2 _ _ upd_same)) ⟨⟨_, kx, ku, kv⟩, fun g e => (by cases e), by simp [Rx.reads]⟩⟩
      | 3, _ => exact ⟨_, rfl, _, rfl, _, _, rfl, rfl, l, _, _, _, rfl, rfl, SqL.of upd_same, at3, k t3 (.nil u) _ (b14.then zz) (w4.mono zz) (RowF.as rfl w_nil (z3 _ _ upd_same)) ⟨ku, fun g e => (by cases e), by simp [Rx.reads]⟩⟩
      | 4, _ => exact ⟨_, rfl, _, rfl, _, _, rfl, rfl, l, _, _, _, rfl, rfl, SqL.of upd_same, at4, k t4 (.copy u v) _ (b14.then zz) (w4.mono zz) (RowF.as rfl w_copy (z4 _ _ upd_same)) ⟨⟨_, ku, kv⟩, fun g e => (by cases e), by simp [Rx.reads]⟩⟩
    refine ifF (decide_eq_false (by omega)) ?_
    refine ⟨_, rfl, _, _, rfl, rfl, _, rfl, ?_⟩
    by_cases c4 : way < 14
    · refine ifT (decide_eq_true (by omega)) ?_
      refine ⟨_, rfl, sz_of (by show 3 ≤ 100000; decide), fun t0 ht0 => ?_⟩
      refine ⟨_, rfl, _, rfl, sz_of (by show 4 ≤ 100000; decide), fun t1 ht1 => ?_⟩
      refine ⟨_, rfl, _, rfl, sz_of (by show 4 ≤ 100000; decide), fun t2 ht2 => ?_⟩
      refine ⟨_, rfl, _, rfl, sz_of (by show 4 ≤ 100000; decide), fun t3 ht3 => ?_⟩
      refine ⟨sz_of (by show 4 ≤ 100000; decide), fun l hl => ?_⟩
      have q0 := Same.new (o := .tup [.str "new", .str u, .str "cell"]) ht0
      have q1 := Same.new (o := .tup [.str "get", .str x, .str u, .str "item"]) ht1
      have q2 := Same.new (o := .tup [.str "put", .str u, .str "item", .str y]) ht2
      have q3 := Same.new (o := .tup [.str "get", .str u, .str v, .str "next"]) ht3
      have ql := Same.new (o := .lst [.ref t0, .ref t1, .ref t2, .ref t3]) hl
      have z3 := ql
      have z2 := q3.trans z3
      have z1 := q2.trans z2
      have z0 := q1.trans z1
      have zz := q0.trans z0
      obtain ⟨wy, rfl⟩ : ∃ wy, way = wy + 10 := ⟨way - 10, by omega⟩
      have c3 : wy < 4 := by omega
      match wy, c3 with
      | 0, _ => exact ⟨_, rfl, _, rfl, _, _, rfl, rfl, l, _, _, _, rfl, rfl, SqL.of upd_same, at0, k t0 (.new u "cell") _ (b14.then zz) (w4.mono zz) (RowF.as rfl w_new (z0 _ _ upd_same)) ⟨⟨ku, rfl⟩, fun g e => (by cases e), by simp [Rx.reads]⟩⟩
      | 1, _ => exact ⟨_, rfl, _, rfl, _, _, rfl, rfl, l, _, _, _, rfl, rfl, SqL.of upd_same, at1, k t1 (.get x u "item") _ (b14.then zz) (w4.mono zz) (RowF.as rfl w_get (z1 _ _ upd_same)) ⟨⟨_, ku, kx, List.mem_cons_self⟩, fun g e => (by cases e), by simp [Rx.reads]⟩⟩
      | 2, _ => exact ⟨_, rfl, _, rfl, _, _, rfl, rfl, l, _, _, _, rfl, rfl, SqL.of upd_same, at2, k t2 (.put u "item" y) _ (b14.then zz) (w4.mono zz) (RowF.as rfl w_put (z2 _ _ upd_same)) ⟨⟨_, ku, ky, List.mem_cons_self⟩, fun g e => (by cases e), by simp [Rx.reads]⟩⟩
      | 3, _ => exact ⟨_, rfl, _, rfl, _, _, rfl, rfl, l, _, _, _, rfl, rfl, SqL.of upd_same, at3, k t3 (.get u v "next") _ (b14.then zz) (w4.mono zz) (RowF.as rfl w_get (z3 _ _ upd_same)) ⟨⟨_, kv, ku, List.mem_cons_of_mem _ List.mem_cons_self⟩, fun g e => (by cases e), by simp [Rx.reads]⟩⟩
    refine ifF (decide_eq_false (by omega)) ?_
    have hhl4 : H4 hl = some (.lst (es.map V.ref)) := hw.keepTL b14 hhl
    have hE4 := hE.but hw b14
    have hel : es.length = 3 := by rw [hE.1, hs3]
    refine ⟨_, rfl, _, _, rfl, rfl, _, rfl, ?_⟩
    by_cases c5 : way < 17
    · refine ifT (decide_eq_true (by omega)) ?_
      refine ⟨_, rfl, _, rfl, p, hl, _, rfl, w4, hhl4, w4.neL hhl4 head_refs, by rw [List.length_map]; omega, by rw [List.length_map]; omega, fun vv H5 hv b5 w5 => ?_⟩
      obtain ⟨e, he, rfl⟩ := List.mem_map.mp hv
      obtain ⟨j, hj, ej⟩ := List.getElem_of_mem he
      have e1 : es[j]? = some e := by rw [List.getElem?_eq_getElem hj, ej]
      have hj2 : j < hs.length := by omega
      obtain ⟨gg, e2⟩ : ∃ gg, hs[j]? = some gg := ⟨hs[j], List.getElem?_eq_getElem hj2⟩
      have hgo := hO j _ e2
      have hE5 := hE4.but w4 b5
      obtain ⟨pa, oa, ps, qs, g1, g2, g3, g4, g5, g6, g7⟩ := hE5.2 j e _ e1 e2
      refine ⟨e, _, rfl, SqT.of g1, rfl, _, _, rfl, _, _, rfl, _, _, rfl, _, _, rfl, rfl, ?_⟩
      have N5 := N4.but w4 b5
      have g4l := hgo.l4
      refine ⟨_, rfl, pa, rfl, ⟨_, SqL.of g2⟩, fun D3 hD3 => ?_⟩
      refine lc_strs (σ := [some (.ref p), some (.int size), some (.ref hl), some (.int kk), some (.ref a), some (.ref b), some (.str x), some (.str y), some (.str z), some (.str u), some (.str v), some (.int way), none, some (.str gg.nm), some (.ref pa), some (.ref oa), some (.str gg.res), none, none, none, none]) (walk_list (K := K) (a := pa) (xs := ps.map V.ref)) hD3 w5 (fun i y => ∀ q, gg.ns[i]? = some q → (y, q.2) ∈ pairN kk) (by rw [List.length_map, g3.len]; omega) (fun H6 b6 w6 => SqL.of (w5.keepTL b6 g2)) (fun i H6 y H6' hi b6 w6 hy Qe qe => ?_) (fun H6 bs b6 w6 hbl hbs hDc => ?_)
      · obtain ⟨rfl, hy⟩ := hy
        obtain ⟨p1, hp1, rfl⟩ := map_get hy
        have hin : i < gg.ns.length := by
          rw [← g3.len]
          exact (List.getElem?_eq_some_iff.mp hp1).1
        obtain ⟨q0, hq⟩ : ∃ q, gg.ns[i]? = some q := ⟨gg.ns[i], List.getElem?_eq_getElem hin⟩
        have hpt := b6 _ _ (g3.at_ i p1 _ hp1 hq) (w5.neT (g3.at_ i p1 _ hp1 hq))
        have N6 := N5.but w5 b6
        have hkd : q0.2 = ("number" : Str) ∨ q0.2 = ("object" : Str) := by
          have m : q0 ∈ pairN j := hgo.pm.mem_iff.mp (List.mem_append_left _ (List.mem_of_getElem? hq))
          rcases List.mem_append.mp m with m | m
          · obtain ⟨z, _, ez⟩ := List.mem_map.mp m
            exact .inl (by rw [← ez])
          · obtain ⟨z, _, ez⟩ := List.mem_map.mp m
            exact .inr (by rw [← ez])
        obtain ⟨q1, q2⟩ := q0
        have hkd2 : q2 = ("number" : Str) ∨ q2 = ("object" : Str) := hkd
        refine ⟨p1, _, rfl, SqT.of hpt, rfl, _, _, rfl, _, _, rfl, rfl, rfl, ?_⟩
        rcases hkd2 with rfl | rfl
        · refine ⟨_, rfl, _, rfl, rfl, _, rfl, ifT rfl ⟨_, rfl, p, a, _, rfl, w6, N6.n, w6.neL N6.n head_strs, num_len.1, num_len.2.1, fun v H7 hv b7 w7 => ?_⟩⟩
          obtain ⟨x, rfl, _, hx⟩ := num_in hv
          exact qe _ _ (fun q eq => by rw [hq] at eq; rw [← Option.some.inj eq]; exact hx) b7 w7
        · refine ⟨_, rfl, _, rfl, rfl, _, rfl, ifF rfl ⟨_, rfl, p, b, _, rfl, w6, N6.o, w6.neL N6.o head_strs, obj_len.1, obj_len.2.1, fun v H7 hv b7 w7 => ?_⟩⟩
          obtain ⟨x, rfl, _, hx⟩ := obj_in hv
          exact qe _ _ (fun q eq => by rw [hq] at eq; rw [← Option.some.inj eq]; exact hx) b7 w7
      have hbl2 : bs.length = gg.ns.length := by
        rw [hbl, List.length_map, g3.len]
      have b16 : But p H H6 := b14.trans (b5.trans b6)
      have nD : H D3 = none := by
        cases z : H D3 with
        | none => rfl
        | some o => exact absurd ((b14.trans b5) _ _ z (fun w => by rw [w] at hD3; obtain ⟨_, _, _, q⟩ := w5; rw [q] at hD3; cases hD3)) (by rw [hD3]; intro z; cases z)
      have fin : ∀ (x : Str) (H7 : Hp) (t3 : Addr), KO f x gg.res → H6 t3 = none → Q (.ref t3) (upd H6 t3 (.tup [.str "call", .str x, .str gg.nm, .ref D3])) := fun x H7 t3 hx ht3 => by
        have q3 := Same.new (o := .tup [.str "call", .str x, .str gg.nm, .ref D3]) ht3
        refine k t3 (.call x gg.nm bs) _ (b16.then q3) (w6.mono q3) ⟨D3, (by rw [w_call]; exact upd_same), fun cs ec => ?_, .inr nD⟩ ⟨⟨j, _, e2, rfl, hbl2, fun i y q e3 e4 => hfo.ko (hbs i y e3 q e4), hx⟩, fun g e => (by cases e), ?_⟩
        · rw [← Option.some.inj ec]
          exact ⟨q3 _ _ hDc, by omega⟩
        · show bs.length ≤ 4
          omega
      rcases hgo.kd with hr | hr
      · refine ⟨_, rfl, rfl, _, rfl, ifT (by rw [hr]; rfl) ⟨_, rfl, _, rfl, _, rfl, sz_of (by show 4 ≤ 100000; decide), fun t3 ht3 => fin x H6 t3 (by rw [hr]; exact kx) ht3⟩⟩
      · refine ⟨_, rfl, rfl, _, rfl, ifF (by rw [hr]; rfl) ⟨_, rfl, _, rfl, _, rfl, sz_of (by show 4 ≤ 100000; decide), fun t3 ht3 => fin u H6 t3 (by rw [hr]; exact ku) ht3⟩⟩
    refine ifF (decide_eq_false (by omega)) ?_
    refine ⟨_, rfl, _, rfl, sz_of (by show 4 ≤ 100000; decide), fun t0 ht0 => ⟨_, rfl, _, rfl, _, rfl, sz_of (by show 2 ≤ 100000; decide), fun lk hlk => ?_⟩⟩
    have q0 := Same.new (o := .tup [.str "put", .str u, .str "next", .str v]) ht0
    have q1 := Same.new (o := .lst [.str x, .str u]) hlk
    have w41 := w4.mono (q0.trans q1)
    refine ⟨p, lk, _, rfl, w41, upd_same, (w4.mono q0).nn hlk, by show 0 < 2; decide, by show 2 ≤ 1000; decide, fun vv H5 hv b5 w5 => ?_⟩
    obtain ⟨sx, rfl, ksx⟩ : ∃ sx : Str, vv = .str sx ∧ ∃ q, KO f sx q := by
      simp only [List.mem_cons, List.not_mem_nil, or_false] at hv
      rcases hv with rfl | rfl
      · exact ⟨_, rfl, _, kx⟩
      · exact ⟨_, rfl, _, ku⟩
    have b15 : But p H H5 := (b14.then (q0.trans q1)).trans b5
    have p0 := b5 _ _ (q1 _ _ (upd_same (H := H4) (a := t0) (o := .tup [.str "put", .str u, .str "next", .str v]))) (w41.neT (q1 _ _ (upd_same (H := H4) (a := t0) (o := .tup [.str "put", .str u, .str "next", .str v]))))
    refine ⟨sz_of (by show 2 ≤ 100000; decide), fun t1 ht1 => ?_⟩
    have q2 := Same.new (o := .tup [.str "see", .str sx]) ht1
    have w51 := w5.mono q2
    refine ⟨_, rfl, _, rfl, _, rfl, p, size, rfl, w51, h0, h1, fun gg H6 hg b6 w6 => ?_⟩
    have p1 := b6 _ _ (upd_same (H := H5) (a := t1) (o := .tup [.str "see", .str sx])) (w51.neT upd_same)
    have p02 := b6 _ _ (q2 _ _ p0) (w51.neT (q2 _ _ p0))
    have b16 : But p H H6 := (b15.then q2).trans b6
    refine ⟨sz_of (by show 3 ≤ 100000; decide), fun t2 ht2 => ⟨sz_of (by show 3 ≤ 100000; decide), fun ls hls => ?_⟩⟩
    have q3 := Same.new (o := .tup [.str "if", .str x, .int gg]) ht2
    have q4 := Same.new (o := .lst [.ref t0, .ref t1, .ref t2]) hls
    have q34 := q3.trans q4
    have w61 := w6.mono q34
    have b17 := b16.then q34
    have hhl6 := hw.keepTL b17 hhl
    have hE6 := hE.but hw b17
    have e1 : kk < es.length := by omega
    obtain ⟨pa, oa, ps, qs, g1, g2, g3, g4, g5, g6, g7⟩ := hE6.2 kk _ _ (List.getElem?_eq_getElem e1) hf
    refine ⟨_, rfl, _, rfl, _, rfl, _, rfl, _, rfl, hl, _, _, _, rfl, rfl, SqL.of hhl6, at_refs (List.getElem?_eq_getElem e1), _, _, _, _, rfl, rfl, SqT.of g1, at3, _, rfl, ?_⟩
    refine ⟨p, size, kk, f.res, rfl, w61, h0, h1, hfo.kd, hk, fun ar r H8 b8 w8 hr hlast => ?_⟩
    have pls := b8 _ _ (upd_same (H := upd H6 t2 (.tup [.str "if", .str x, .int gg])) (a := ls) (o := .lst [.ref t0, .ref t1, .ref t2])) (by
      refine w61.neL (xs := [.ref t0, .ref t1, .ref t2]) upd_same ?_
      intro n
      simp)
    have r0 := b8 _ _ (q34 _ _ p02) (w61.neT (q34 _ _ p02))
    have r1 := b8 _ _ (q34 _ _ p1) (w61.neT (q34 _ _ p1))
    have r2 := b8 _ _ (q4 _ _ (upd_same (H := H6) (a := t2) (o := .tup [.str "if", .str x, .int gg]))) (w61.neT (q4 _ _ upd_same))
    refine ⟨sz_of (by show 1 ≤ 100000; decide), fun l2 hl2 => ?_⟩
    have q5 := Same.new (o := .lst [.ref ar]) hl2
    refine ⟨ls, l2, _, _, rfl, rfl, q5 _ _ pls, upd_same, sz_of (by show 4 ≤ 100000; decide), fun l3 hl3 => ?_⟩
    have q6 := Same.new (o := .lst ([.ref t0, .ref t1, .ref t2] ++ [.ref ar])) hl3
    have q56 := q5.trans q6
    have b18 := (b17.trans b8).then q56
    have w9 := w8.mono q56
    obtain ⟨wy, rfl⟩ : ∃ wy, way = wy + 17 := ⟨way - 17, by omega⟩
    have c3 : wy < 4 := by omega
    match wy, c3 with
    | 0, _ => exact ⟨_, rfl, _, _, rfl, rfl, l3, _, _, _, rfl, rfl, SqL.of upd_same, at0, k t0 (.put u "next" v) _ b18 w9 (RowF.as rfl w_put (q56 _ _ r0)) ⟨⟨_, ku, kv, List.mem_cons_of_mem _ List.mem_cons_self⟩, fun g e => (by cases e), by simp [Rx.reads]⟩⟩
    | 1, _ => exact ⟨_, rfl, _, _, rfl, rfl, l3, _, _, _, rfl, rfl, SqL.of upd_same, at1, k t1 (.see sx) _ b18 w9 (RowF.as rfl w_see (q56 _ _ r1)) ⟨ksx, fun g e => (by cases e), by simp [Rx.reads]⟩⟩
    | 2, _ => exact ⟨_, rfl, _, _, rfl, rfl, l3, _, _, _, rfl, rfl, SqL.of upd_same, at2, k t2 (.ifz x gg) _ b18 w9 (RowF.as rfl w_ifz (q56 _ _ r2)) ⟨kx, fun g e => (by rw [← Option.some.inj e]; exact hg), by simp [Rx.reads]⟩⟩
    | 3, _ => exact ⟨_, rfl, _, _, rfl, rfl, l3, _, _, _, rfl, rfl, SqL.of upd_same, at3, k ar r _ b18 w9 (RowR.f (hr.mono q56) (by rcases hlast with ⟨_, rfl, _⟩ | ⟨_, rfl, _⟩ <;> rfl)) (hlast.plain hfo)⟩

end
end W16
set_option Elab.async false
set_option linter.all false
set_option maxRecDepth 100000
set_option maxHeartbeats 4000000
namespace W16
open PySem PySem.Spec PyProof.Rows L2 RZ
section
variable {P : Program} {w : World} {K : PySem.W.Frag} {mg : Str → Option Value} {base : Heap}

/-- a row as it is handed in, the list of its arguments none of those at L -/
def RowX (L : List Addr) (H : Hp) (a : Addr) (r : Rx) : Prop := ∃ l, H a = some (.tup (.str r.word :: r.parts (.ref l))) ∧ ArgsAt H l r ∧ (r.args = none ∨ l ∉ L)
theorem RowX.mono {L : List Addr} {H H' : Hp} {a : Addr} {r : Rx} (h : RowX L H a r) (e : Same H H') : RowX L H' a r := by
  obtain ⟨l, h1, h2, h3⟩ := h
  exact ⟨l, e _ _ h1, h2.mono e, h3⟩
theorem RowX.but {L : List Addr} {H H' : Hp} {p a : Addr} {r : Rx} (h : RowX L H a r) (w : WellAt H p) (b : But p H H') : RowX L H' a r := by
  obtain ⟨l, h1, h2, h3⟩ := h
  exact ⟨l, b _ _ h1 (w.neT h1), fun bs e => ⟨b _ _ (h2 bs e).1 (w.neL (h2 bs e).1 head_strs), (h2 bs e).2⟩, h3⟩
theorem RowX.put {L : List Addr} {H : Hp} {a d : Addr} {r : Rx} {xs ys : List V} (h : RowX L H a r) (hd : H d = some (.lst xs)) (m : d ∈ L) : RowX L (L2.upd H d (.lst ys)) a r := by
  obtain ⟨l, h1, h2, h3⟩ := h
  refine ⟨l, by rw [upd_ne (ne_of h1 hd (by intro z; cases z))]; exact h1, fun bs e => ⟨?_, (h2 bs e).2⟩, h3⟩
  rcases h3 with h3 | h3
  · rw [h3] at e
    cases e
  · rw [upd_ne (fun z => h3 (by rw [z]; exact m))]
    exact (h2 bs e).1
theorem RowX.less {L M : List Addr} {H : Hp} {a : Addr} {r : Rx} (h : RowX L H a r) (m : ∀ x ∈ M, x ∈ L) : RowX M H a r := by
  obtain ⟨l, h1, h2, h3⟩ := h
  exact ⟨l, h1, h2, h3.imp id fun z y => z (m _ y)⟩
theorem RowF.x {L : List Addr} {H H' : Hp} {a : Addr} {r : Rx} (h : RowF H H' a r) (hL : ∀ d ∈ L, ∃ o, H d = some o) : RowX L H' a r := by
  obtain ⟨l, h1, h2, h3⟩ := h
  refine ⟨l, h1, h2, h3.imp id fun z m => ?_⟩
  obtain ⟨o, e⟩ := hL l m
  rw [z] at e
  cases e
/-- rows drawn one by one -/
theorem lc_rowsX {J : It} {n : Nat} {G : Hp → Prop} {Y : Nat → Hp → V → Hp → Prop} (w : Walk J n G Y) {g : TG} {te : TE} {vs : List Nat} {σ : L2.St} {H0 : Hp} {D p l1 : Addr} {zs : List Addr} {Qd : Hp → Prop} (hD : H0 D = none) (w0 : WellAt H0 p) (h1 : H0 l1 = some (.lst (zs.map V.ref))) (P : Rx → Prop) (hn : n < 100000)
    (hG : ∀ H, But p H0 H → WellAt H p → G H)
    (hs : ∀ i H x H', i < n → But p H0 H → WellAt H p → Y i H x H' → ∀ Qe : VK, (∀ a r H4, But p H H4 → WellAt H4 p → RowF H H4 a r → P r → Qe (.ref a) H4) → g x (wipe σ vs) H' fun σ2 H2 => wipe σ2 vs = wipe σ vs ∧ te σ2 H2 Qe)
    (hd : ∀ (H : Hp) (as : List Addr) (rws : List Rx), But p H0 H → WellAt H p → as.length = n → rws.length = n → (∀ (j : Nat) a r, as[j]? = some a → rws[j]? = some r → RowX [l1] H a r) → (∀ r ∈ rws, P r) → H D = some (.lst (as.map V.ref)) → Qd H) :
    ∃ W : Nat → Nat → Hp → Prop, (∃ m, W 0 m (upd H0 D (.lst []))) ∧ ∀ i m H, W i m H →
      (J.stop i H ∧ Qd H) ∨ (J.go i H ∧ ∃ Nx : Hp → Prop, (∀ H', Nx H' → ∃ m', m' < m ∧ W (i + 1) m' H') ∧ ∀ x H', J.yld i H x H' → g x (wipe σ vs) H' fun σ2 H2 => wipe σ2 vs = wipe σ vs ∧ tYes σ2 H2 fun b H3 =>
        if b = true then te σ2 H3 fun y H4 => ∃ acc, H4 D = some (.lst acc) ∧ acc.length < sizeLine ∧ Nx (upd H4 D (.lst (acc ++ [y]))) else Nx H3) := by
  have nDp := w0.nn hD
  have nDl : D ≠ l1 := (ne_of_none h1 hD).symm
  have nl1 : l1 ≠ p := w0.neL h1 head_refs
  refine lc_it w (fun i H => But p H0 H ∧ WellAt H p ∧ ∃ (as : List Addr) (rws : List Rx), as.length = i ∧ rws.length = i ∧ (∀ (j : Nat) a r, as[j]? = some a → rws[j]? = some r → RowX [D, l1] H a r) ∧ (∀ r ∈ rws, P r) ∧ H D = some (.lst (as.map V.ref))) ⟨But.new hD, w0.put nDp, [], [], rfl, rfl, fun j a r e => by simp at e, (fun r m => by cases m), upd_same⟩ (fun i H _ p => hG H p.1 p.2.1) (fun i x H H' hi q y => ?_) (fun H q => ?_)
  · obtain ⟨b1, w1, as, rws, hl, hl2, hx, hP, hDD⟩ := q
    have q := hs i H x H' hi b1 w1 y (fun y H4 => ∃ acc, H4 D = some (.lst acc) ∧ acc.length < sizeLine ∧ (But p H0 (upd H4 D (.lst (acc ++ [y]))) ∧ WellAt (upd H4 D (.lst (acc ++ [y]))) p ∧ ∃ (as : List Addr) (rws : List Rx), as.length = i + 1 ∧ rws.length = i + 1 ∧ (∀ (j : Nat) a r, as[j]? = some a → rws[j]? = some r → RowX [D, l1] (upd H4 D (.lst (acc ++ [y]))) a r) ∧ (∀ r ∈ rws, P r) ∧ upd H4 D (.lst (acc ++ [y])) D = some (.lst (as.map V.ref)))) (fun a r H4 b4 w4 hr pr => ?_)
    · exact q
    · have hDD4 := b4 _ _ hDD nDp
      have hl14 := b1 _ _ h1 nl1
      refine ⟨as.map V.ref, hDD4, sz_lt (by rw [List.length_map]; omega), (b1.trans b4).mut hD, w4.put nDp, as ++ [a], rws ++ [r], by rw [List.length_append, hl]; rfl, by rw [List.length_append, hl2]; rfl, fun j c s m1 m2 => ?_, fun s m => ?_, by rw [upd_same, List.map_append]; rfl⟩
      · by_cases c : j < as.length
        · rw [List.getElem?_append_left c] at m1
          rw [List.getElem?_append_left (by omega)] at m2
          exact ((hx j _ s m1 m2).but w1 b4).put hDD4 List.mem_cons_self
        · have cj : j = as.length := by
            have := (List.getElem?_eq_some_iff.mp m1).1
            rw [List.length_append, List.length_singleton] at this
            omega
          subst cj
          rw [List.getElem?_append_right (Nat.le_refl _), Nat.sub_self] at m1
          rw [List.getElem?_append_right (by omega), show as.length - rws.length = 0 by omega] at m2
          rw [← Option.some.inj m1, ← Option.some.inj m2]
          refine RowX.put (hr.x fun d md => ?_) hDD4 List.mem_cons_self
          rcases List.mem_cons.mp md with md | md
          · exact ⟨_, by rw [md]; exact hDD⟩
          · exact ⟨_, by rw [List.mem_singleton.mp md]; exact hl14⟩
      · rcases List.mem_append.mp m with m | m
        · exact hP s m
        · rw [List.mem_singleton.mp m]
          exact pr
  · obtain ⟨b1, w1, as, rws, hl, hl2, hx, hP, hDD⟩ := q
    exact hd H as rws b1 w1 hl hl2 (fun j a r e1 e2 => (hx j a r e1 e2).less fun x m => List.mem_cons_of_mem _ m) hP hDD
/-- a function as it is handed in, nothing of it at l -/
structure EntryX (l : Addr) (H : Hp) (e : Addr) (f : FdT) (pa oa ra : Addr) (ps qs rs : List Addr) : Prop where
  he : H e = some (.tup [.str f.nm, .ref pa, .ref oa, .str f.res, .ref ra])
  hpa : H pa = some (.lst (ps.map V.ref))
  p1 : PairsG H ps f.ns
  hoa : H oa = some (.lst (qs.map V.ref))
  p2 : PairsG H qs f.ms
  hra : H ra = some (.lst (rs.map V.ref))
  len : rs.length = f.rws.length
  rw : ∀ (j : Nat) a r, rs[j]? = some a → f.rws[j]? = some r → RowX [l] H a r
  n1 : pa ≠ l
  n2 : oa ≠ l
  n3 : ra ≠ l
theorem EntryX.mono {l e pa oa ra : Addr} {H H' : Hp} {f : FdT} {ps qs rs : List Addr} (h : EntryX l H e f pa oa ra ps qs rs) (s : Same H H') : EntryX l H' e f pa oa ra ps qs rs :=
  ⟨s _ _ h.he, s _ _ h.hpa, h.p1.mono s, s _ _ h.hoa, h.p2.mono s, s _ _ h.hra, h.len, fun j a r e1 e2 => (h.rw j a r e1 e2).mono s, h.n1, h.n2, h.n3⟩
theorem EntryX.but {l e pa oa ra p : Addr} {H H' : Hp} {f : FdT} {ps qs rs : List Addr} (h : EntryX l H e f pa oa ra ps qs rs) (w : WellAt H p) (b : But p H H') : EntryX l H' e f pa oa ra ps qs rs :=
  ⟨b _ _ h.he (w.neT h.he), w.keepTL b h.hpa, h.p1.but w b, w.keepTL b h.hoa, h.p2.but w b, w.keepTL b h.hra, h.len, fun j a r e1 e2 => (h.rw j a r e1 e2).but w b, h.n1, h.n2, h.n3⟩
theorem PairsG.put {H : Hp} {d : Addr} {ps : List Addr} {qs : List (Str × Str)} {xs ys : List V} (h : PairsG H ps qs) (hd : H d = some (.lst xs)) : PairsG (L2.upd H d (.lst ys)) ps qs :=
  ⟨h.len, fun i a q e1 e2 => by rw [upd_ne (ne_of (h.at_ i a q e1 e2) hd (by intro z; cases z))]; exact h.at_ i a q e1 e2⟩
theorem EntryX.put {l e pa oa ra : Addr} {H : Hp} {f : FdT} {ps qs rs : List Addr} {xs ys : List V} (h : EntryX l H e f pa oa ra ps qs rs) (hd : H l = some (.lst xs)) : EntryX l (L2.upd H l (.lst ys)) e f pa oa ra ps qs rs :=
  ⟨by rw [upd_ne (ne_of h.he hd (by intro z; cases z))]; exact h.he, by rw [upd_ne h.n1]; exact h.hpa, h.p1.put hd, by rw [upd_ne h.n2]; exact h.hoa, h.p2.put hd, by rw [upd_ne h.n3]; exact h.hra, h.len, fun j a r e1 e2 => (h.rw j a r e1 e2).put hd List.mem_cons_self, h.n1, h.n2, h.n3⟩
/-- a drawn function -/
structure FunOk (hs : List FdT) (h : FdT) (most : Nat) (f : FdT) : Prop where
  nm : f.nm = h.nm
  res : f.res = h.res
  ns : f.ns = h.ns
  ms : f.ms = h.ms
  rows : ∀ r ∈ f.rws, PlainOk hs h f.rws.length r
  last : ∃ r0 rl, f.rws = r0 ++ [rl] ∧ (rl.word = ("jump" : Str) ∨ rl.word = ("return" : Str))
  le : f.rws.length ≤ most
def spFuns : Sp := fun vs H Q _ => ∃ (p : Addr) (most : Nat), vs = [.ref p, .int most] ∧ WellAt H p ∧ 0 < most ∧ most ≤ 40 ∧ ∀ (l : Addr) (es : List Addr) (hs fds : List FdT) (H' : Hp), But p H H' → WellAt H' p → H' l = some (.lst (es.map V.ref)) → es.length = 3 → fds.length = 3 → hs.length = 3 → (∀ (k : Nat) f, hs[k]? = some f → HeadOk k f) →
  (∀ (k : Nat) h f, hs[k]? = some h → fds[k]? = some f → FunOk hs h most f) → (∀ (k : Nat) e f, es[k]? = some e → fds[k]? = some f → ∃ pa oa ra ps qs rs, EntryX l H' e f pa oa ra ps qs rs) → Q (.ref l) H' 
theorem sc_L_functions : FnScope ["_law_well_here", "_law_most", "_law_heads_here", "_law_found", "_law_k", "_law_title", "_law_inputs", "_law_others", "_law_kind", "_law_size", "_law_rows", "_law_turn"] ["_law_well_here", "_law_most"] (defScope s_L_functions) := ⟨rfl, rfl, rfl, by decide +kernel, rfl, by decide +kernel, by decide +kernel⟩
theorem ok_L_functions (T : Ctx w K mg) (H_L_draw : Has P w K mg base 1 "_law_draw" ["_law_well_here", "_law_many"] spDraw) (H_L_heads : Has P w K mg base 3 "_law_heads" ["_law_well_here"] spHeads) (H_L_last : Has P w K mg base 3 "_law_last" ["_law_well_here", "_law_size", "_law_kind", "_law_k"] spLast) (H_L_plain : Has P w K mg base 4 "_law_plain" ["_law_well_here", "_law_size", "_law_heads_here", "_law_k"] spPlain) : Has P w K mg base 5 "_law_functions" ["_law_well_here", "_law_most"] spFuns := by
  obtain ⟨fd, F⟩ := T.D_L_functions
  obtain ⟨fd_L_draw, G_L_draw, b_L_draw⟩ := H_L_draw.ex
  obtain ⟨fd_L_heads, G_L_heads, b_L_heads⟩ := H_L_heads.ex
  obtain ⟨fd_L_last, G_L_last, b_L_last⟩ := H_L_last.ex
  obtain ⟨fd_L_plain, G_L_plain, b_L_plain⟩ := H_L_plain.ex
  refine ⟨⟨fd, F.ok sc_L_functions (fun vs H Q E h => ?_) (fun cdv A outer s H vs Q E hr h => ?_), F.bindsN fun _ _ _ _ _ _ us hl => match us, hl with | [_, _], _ => rfl⟩, F.kp, T.g_L_functions⟩
  · obtain ⟨p, most, rfl, hw, hm0, hm1, k⟩ := h; rfl
  · obtain ⟨p, most, rfl, hw, hm0, hm1, k⟩ := h
    have hr_L_draw : Room 1 _ := hr.mono (by decide)
    have hr_L_heads : Room 3 _ := hr.mono (by decide)
    have hr_L_last : Room 3 _ := hr.mono (by decide)
    have hr_L_plain : Room 4 _ := hr.mono (by decide)
    have hu := hu_of hr
    refine ⟨_, PSs.nox (pss_cons (ps_asg (pe_tup (pa_cons (pe_call G_L_heads hr_L_heads (by rfl) H_L_heads.gl H_L_heads.kp b_L_heads .nil pass0 (pa_cons (pv 0) pa_nil)) (pa_cons (pe_lst pa_nil) pa_nil))) (pg_tup rfl (pgs_cons (pg_name (i := 2) sc_L_functions.nd rfl (Or.inr rfl)) (pgs_cons (pg_name (i := 3) sc_L_functions.nd rfl (Or.inl rfl)) pgs_nil))))
      (pss_cons (ps_for PassesOwn.never rfl (pi_enum (by rfl) T.f_enumerate (pa_cons (pv 2) pa_nil)) (pg_tup rfl (pgs_cons (pg_name (i := 4) sc_L_functions.nd rfl (Or.inr rfl)) (pgs_cons (pg_tup rfl (pgs_cons (pg_name (i := 5) sc_L_functions.nd rfl (Or.inl rfl)) (pgs_cons (pg_name (i := 6) sc_L_functions.nd rfl (Or.inl rfl)) (pgs_cons (pg_name (i := 7) sc_L_functions.nd rfl (Or.inl rfl)) (pgs_cons (pg_name (i := 8) sc_L_functions.nd rfl (Or.inl rfl)) pgs_nil))))) pgs_nil)))
      (pss_cons (ps_set (i := 9) sc_L_functions.nd rfl (Or.inr rfl) (pe_op op_add pe_int (pe_call G_L_draw hr_L_draw (by rfl) H_L_draw.gl H_L_draw.kp b_L_draw .nil pass0 (pa_cons (pv 0) (pa_cons (pv 1) pa_nil)))))
      (pss_cons (ps_setLc (i := 10) (own := [("_law_turn", 11)]) (g := gName 11) (tt := tYes) rfl sc_L_functions.nd rfl rfl (sw_true rfl rfl rfl (by decide +kernel)) (pi_range1 (by rfl) T.f_range (pa_cons (pe_op op_sub (pv 9) pe_int) pa_nil)) (blkOk_by (N := ["_law_well_here", "_law_most", "_law_heads_here", "_law_found", "_law_k", "_law_title", "_law_inputs", "_law_others", "_law_kind", "_law_size", "_law_rows", "_law_turn"]) (sc := defScope s_L_functions) (by decide +kernel)) (fun _ _ _ _ _ => (pg_name (i := 11) sc_L_functions.nd rfl (Or.inl rfl))) (fun _ _ _ _ _ => pts_nil) (fun _ _ _ _ _ => (pe_call G_L_plain hr_L_plain (by rfl) H_L_plain.gl H_L_plain.kp b_L_plain .nil pass0 (pa_cons (pv 0) (pa_cons (pv 9) (pa_cons (pv 2) (pa_cons (pv 4) pa_nil)))))))
      (pss_one (ps_expr (pe_bm PySem.F.plainAttrs_list PySem.F.slot_list_append PySem.F.type_list_append mt_append (pv 3) (pa_cons (pe_tup (pa_cons (pv 5) (pa_cons (pv 6) (pa_cons (pv 7) (pa_cons (pv 8) (pa_cons (pe_op op_cat (pv 10) (pe_lst (pa_cons (pe_call G_L_last hr_L_last (by rfl) H_L_last.gl H_L_last.kp b_L_last .nil pass0 (pa_cons (pv 0) (pa_cons (pv 9) (pa_cons (pv 8) (pa_cons (pv 4) pa_nil))))) pa_nil))) pa_nil)))))) pa_nil)))))))
      (pss_one (ps_ret (pv 3))))), ?_⟩
    refine ⟨_, rfl, p, rfl, hw, fun hl es hs H1 b1 w1 hhl hE hs3 hO => ?_⟩
    refine ⟨sz_of (by decide), fun l1 hl1 => ⟨sz_of (by show 2 ≤ 100000; decide), fun tt htt => ?_⟩⟩
    have s1 := Same.new (o := .lst []) hl1
    have s2 := Same.new (o := .tup [.ref hl, .ref l1]) htt
    refine ⟨tt, _, rfl, SqT.of upd_same, rfl, _, _, rfl, _, _, rfl, rfl, ?_⟩
    have w2 := w1.mono (s1.trans s2)
    have n1 : l1 ≠ p := w1.nn hl1
    have hel : es.length = 3 := by rw [hE.1, hs3]
    have hlr : (es.map V.ref).length = 3 := by rw [List.length_map, hel]
    have nhl : hl ≠ l1 := ne_of_none hhl hl1
    have avoid : ∀ (i : Nat) e f, es[i]? = some e → hs[i]? = some f → ∃ pa oa ps qs, H1 e = some (.tup [.str f.nm, .ref pa, .ref oa, .str f.res]) ∧ H1 pa = some (.lst (ps.map V.ref)) ∧ PairsG H1 ps f.ns ∧ H1 oa = some (.lst (qs.map V.ref)) ∧ PairsG H1 qs f.ms ∧ pa ≠ l1 ∧ oa ≠ l1 := fun i e f e1 e2 => by
      obtain ⟨pa, oa, ps, qs, g1, g2, g3, g4, g5, _, _⟩ := hE.2 i e f e1 e2
      exact ⟨pa, oa, ps, qs, g1, g2, g3, g4, g5, ne_of_none g2 hl1, ne_of_none g4 hl1⟩
    have hE1 : HeadsAt H1 l1 es hs := ⟨hE.1, avoid⟩
    refine ⟨_, rfl, hl, _, rfl, SqL.of ((s1.trans s2) _ _ hhl), ?_⟩
    refine for_it (walk_enum (K := K) (a := hl) (xs := es.map V.ref)) (fun i σ H3 => ∃ (v4 v5 v6 v7 v8 v9 v10 v11 : Option V), σ = [some (.ref p), some (.int most), some (.ref hl), some (.ref l1), v4, v5, v6, v7, v8, v9, v10, v11] ∧ But p H H3 ∧ WellAt H3 p ∧ H3 hl = some (.lst (es.map V.ref)) ∧ HeadsAt H3 l1 es hs ∧ ∃ (ns : List Addr) (fds : List FdT), ns.length = i ∧ fds.length = i ∧ H3 l1 = some (.lst (ns.map V.ref)) ∧ (∀ (k : Nat) h f, hs[k]? = some h → fds[k]? = some f → FunOk hs h most f) ∧ (∀ (k : Nat) e f, ns[k]? = some e → fds[k]? = some f → ∃ pa oa ra ps qs rs, EntryX l1 H3 e f pa oa ra ps qs rs)) ⟨_, _, _, _, _, _, _, _, rfl, b1.then (s1.trans s2), w2, (s1.trans s2) _ _ hhl, hE1.mono (s1.trans s2), [], [], rfl, rfl, s2 _ _ upd_same, fun k h f _ e => by simp at e, fun k e f e1 => by simp at e1⟩ (fun i σ H3 _ ⟨_, _, _, _, _, _, _, _, _, _, _, q, _⟩ => SqL.of q) ?_ ?_
    · rintro i y σ H3 H4 hi ⟨v4, v5, v6, v7, v8, v9, v10, v11, rfl, b3, w3, hhl3, hE3, ns, fds, hnl, hfl, h3l, hF, hX⟩ ⟨u, a, b, rfl, hu0, rfl, e1, e2⟩
      have e2 : (es.map V.ref)[i]? = some b := e2
      obtain rfl : V.int (i : Nat) = a := Option.some.inj e1
      obtain ⟨e, hc, rfl⟩ := map_get e2
      have hi3 : i < 3 := by rw [hlr] at hi; exact hi
      obtain ⟨h, hh⟩ : ∃ h, hs[i]? = some h := ⟨hs[i]'(by omega), List.getElem?_eq_getElem _⟩
      have hho := hO i h hh
      have s3 : Same H3 (upd H3 u (.tup [.int (i : Nat), .ref e])) := Same.new hu0
      obtain ⟨pa, oa, ps, qs, g1, g2, g3, g4, g5, g6, g7⟩ := (hE3.mono s3).2 i e h hc hh
      refine ⟨u, _, rfl, SqT.of upd_same, rfl, _, _, rfl, _, _, rfl, ⟨e, _, rfl, SqT.of g1, rfl, _, _, rfl, _, _, rfl, _, _, rfl, _, _, rfl, rfl, rfl, ?_⟩⟩
      have w4 := w3.mono s3
      refine ⟨_, rfl, _, rfl, p, most, rfl, w4, hm0, by omega, fun mm H5 hmm b5 w5 => ⟨_, _, rfl, rfl, ?_⟩⟩
      have esz : (1 : Int) + (mm : Int) = ((mm + 1 : Nat) : Int) := by omega
      dsimp only
      rw [esz]
      have b35 := (But.of s3).trans b5
      have w35 := w3
      have hl5 := w3.keepTL b35 h3l
      have hhl5 := w3.keepTL b35 hhl3
      have hE5 := hE3.but w3 b35
      refine ⟨_, rfl, _, _, rfl, rfl, _, rfl, by omega, by omega, fun D hD => ?_⟩
      have esub : (((mm + 1 : Nat) : Int) - 1).toNat = mm := by omega
      refine lc_rowsX (walk_range (lo := 0) (n := (((mm + 1 : Nat) : Int) - 1).toNat)) hD w5 hl5 (PlainOk hs h (mm + 1)) (by omega) (fun _ _ _ => trivial) (fun j Hy y Hy' hj by_ wy hy Qe qe => ?_) (fun H6 as rws b6 w6 hal hrl hrx hrp hDa => ?_)
      · obtain ⟨rfl, rfl⟩ := hy
        exact ⟨rfl, _, rfl, _, rfl, _, rfl, _, rfl, p, hl, l1, mm + 1, i, es, hs, h, rfl, wy, by omega, by omega, hi3, w5.keepTL by_ hhl5, hE5.but w5 by_, hs3, hO, hh, fun a r H7 b7 w7 hr hp => qe a r H7 b7 w7 hr hp⟩
      rw [esub] at hal hrl
      have hl6 := w5.keepTL b6 hl5
      have g26 := w5.keepTL b6 (w4.keepTL b5 g2)
      have g46 := w5.keepTL b6 (w4.keepTL b5 g4)
      have g36 := (g3.but w4 b5).but w5 b6
      have g56 := (g5.but w4 b5).but w5 b6
      refine ⟨_, rfl, .inl ⟨rfl, _, SqL.of hl6⟩, _, rfl, _, rfl, _, rfl, _, rfl, _, rfl, _, rfl, _, rfl, _, rfl, _, rfl, p, mm + 1, i, h.res, rfl, w6, by omega, by omega, hho.kd, hi3, fun ar rl H7 b7 w7 hrl7 hlast => ?_⟩
      have hl7 := w6.keepTL b7 hl6
      have hD7 := w6.keepTL b7 hDa
      refine ⟨sz_of (by show 1 ≤ 100000; decide), fun lb hlb => ?_⟩
      have s8 := Same.new (o := .lst [.ref ar]) hlb
      refine ⟨D, lb, _, _, rfl, rfl, s8 _ _ hD7, upd_same, sz_of (by rw [List.length_map]; show as.length + 1 ≤ 100000; omega), fun lr hlr2 => ?_⟩
      have s9 := Same.new (o := .lst (as.map V.ref ++ [.ref ar])) hlr2
      refine ⟨sz_of (by show 5 ≤ 100000; decide), fun te hte => ?_⟩
      have s10 := Same.new (o := .tup [.str h.nm, .ref pa, .ref oa, .str h.res, .ref lr]) hte
      have s810 := s8.trans (s9.trans s10)
      have hl10 := s810 _ _ hl7
      refine ⟨l1, _, _, rfl, rfl, hl10, sz_lt (by rw [List.length_map]; omega), ?_⟩
      have g27 := s810 _ _ (w6.keepTL b7 g26)
      have g47 := s810 _ _ (w6.keepTL b7 g46)
      have g37 := (g36.but w6 b7).mono s810
      have g57 := (g56.but w6 b7).mono s810
      have nlr : lr ≠ l1 := (ne_of_none (s8 _ _ hl7) hlr2).symm
      have hxa : ∀ (j : Nat) a r, (as ++ [ar])[j]? = some a → (rws ++ [rl])[j]? = some r → RowX [l1] (upd (upd (upd H7 lb (.lst [.ref ar])) lr (.lst (as.map V.ref ++ [.ref ar]))) te (.tup [.str h.nm, .ref pa, .ref oa, .str h.res, .ref lr])) a r := fun j a r e3 e4 => by
        by_cases c : j < as.length
        · rw [List.getElem?_append_left c] at e3
          rw [List.getElem?_append_left (by omega)] at e4
          exact ((hrx j a r e3 e4).but w6 b7).mono s810
        · have cj : j = as.length := by
            have := (List.getElem?_eq_some_iff.mp e3).1
            rw [List.length_append, List.length_singleton] at this
            omega
          subst cj
          rw [List.getElem?_append_right (Nat.le_refl _), Nat.sub_self] at e3
          rw [List.getElem?_append_right (by omega), show as.length - rws.length = 0 by omega] at e4
          rw [← Option.some.inj e3, ← Option.some.inj e4]
          have ea : rl.args = none := by rcases hlast with ⟨_, rfl, _⟩ | ⟨_, rfl, _⟩ <;> rfl
          obtain ⟨l, q1, q2⟩ := hrl7.mono s810
          exact ⟨l, q1, q2, .inl ea⟩
      have ent : EntryX l1 (upd (upd (upd H7 lb (.lst [.ref ar])) lr (.lst (as.map V.ref ++ [.ref ar]))) te (.tup [.str h.nm, .ref pa, .ref oa, .str h.res, .ref lr])) te ⟨h.nm, h.res, h.ns, h.ms, rws ++ [rl]⟩ pa oa lr ps qs (as ++ [ar]) :=
        ⟨upd_same, g27, g37, g47, g57, by rw [List.map_append]; exact s10 _ _ upd_same, by rw [List.length_append, List.length_append, hal, hrl]; rfl, hxa, g6, g7, nlr⟩
      have hrlen : (rws ++ [rl]).length = mm + 1 := by rw [List.length_append, hrl]; rfl
      have hword : rl.word = ("jump" : Str) ∨ rl.word = ("return" : Str) := by
        rcases hlast with ⟨_, rfl, _⟩ | ⟨_, rfl, _⟩
        · exact .inr rfl
        · exact .inl rfl
      have fok : FunOk hs h most ⟨h.nm, h.res, h.ns, h.ms, rws ++ [rl]⟩ := ⟨rfl, rfl, rfl, rfl, fun r m => by
        show PlainOk hs h (rws ++ [rl]).length r
        rw [hrlen]
        rcases List.mem_append.mp m with m | m
        · exact hrp r m
        · rw [List.mem_singleton.mp m]
          exact hlast.plain hho, ⟨rws, rl, rfl, hword⟩, by show (rws ++ [rl]).length ≤ most; rw [hrlen]; omega⟩
      have bb := ((b35.trans b6).trans b7).then s810
      refine ⟨_, _, _, _, _, _, _, _, rfl, fun c o q n => ?_, (w7.mono s810).put n1, ?_, ((hE3.but w3 bb)).put hl10, ns ++ [te], fds ++ [⟨h.nm, h.res, h.ns, h.ms, rws ++ [rl]⟩], by rw [List.length_append, hnl]; rfl, by rw [List.length_append, hfl]; rfl, by rw [upd_same, List.map_append]; rfl, fun k h' f e3 e4 => ?_, fun k e' f e3 e4 => ?_⟩
      · have n2 : c ≠ l1 := fun z => by
          have q1 := b1 _ _ q n
          rw [z, hl1] at q1
          cases q1
        rw [upd_ne n2]
        exact bb _ _ (b3 _ _ q n) n
      · rw [upd_ne nhl]
        exact w3.keepTL bb hhl3
      · by_cases c : k < fds.length
        · rw [List.getElem?_append_left c] at e4
          exact hF k h' f e3 e4
        · have ck : k = fds.length := by
            have := (List.getElem?_eq_some_iff.mp e4).1
            rw [List.length_append, List.length_singleton] at this
            omega
          rw [ck, hfl, hh] at e3
          rw [ck, List.getElem?_append_right (Nat.le_refl _), Nat.sub_self] at e4
          rw [← Option.some.inj e3, ← Option.some.inj e4]
          exact fok
      · by_cases c : k < ns.length
        · rw [List.getElem?_append_left c] at e3
          rw [List.getElem?_append_left (by omega)] at e4
          obtain ⟨pa', oa', ra', ps', qs', rs', E⟩ := hX k e' f e3 e4
          exact ⟨pa', oa', ra', ps', qs', rs', (E.but w3 bb).put hl10⟩
        · have ck : k = ns.length := by
            have := (List.getElem?_eq_some_iff.mp e3).1
            rw [List.length_append, List.length_singleton] at this
            omega
          rw [ck, List.getElem?_append_right (Nat.le_refl _), Nat.sub_self] at e3
          rw [ck, List.getElem?_append_right (by omega), show ns.length - fds.length = 0 by omega] at e4
          rw [← Option.some.inj e3, ← Option.some.inj e4]
          exact ⟨_, _, _, _, _, _, ent.put hl10⟩
    · rintro σ H3 ⟨v4, v5, v6, v7, v8, v9, v10, v11, rfl, b3, w3, hhl3, hE3, ns, fds, hnl, hfl, h3l, hF, hX⟩
      rw [hlr] at hnl hfl
      exact ⟨_, rfl, k l1 ns hs fds H3 b3 w3 h3l hnl hfl hs3 hO hF hX⟩

end
end W16
set_option Elab.async false
set_option linter.all false
set_option maxRecDepth 100000
set_option maxHeartbeats 4000000
namespace W16
open PySem PySem.Spec PyProof.Rows L2 RZ
section
variable {P : Program} {w : World} {K : PySem.W.Frag} {mg : Str → Option Value} {base : Heap}

def W5 : List V := [.str "put", .str "see", .str "if", .str "jump", .str "return"]
theorem sets_word (r : Rx) : inV (V.str r.word) W5 = r.sets.isNone := by
  have key : ∀ kk : Fin 4, inV (V.str (binW kk)) W5 = false := by decide +kernel
  cases r with
  | bin kk x y z => exact key kk
  | _ => rfl
theorem sets_part {r : Rx} {l : V} {x : Str} (h : r.sets = some x) : ∃ ps, r.parts l = .str x :: ps := by
  cases r <;> first | (cases h; done) | exact ⟨_, by rw [← Option.some.inj h]; rfl⟩
def spSetsL : Sp := fun vs H Q _ => ∃ (a : Addr) (r : Rx), vs = [.ref a] ∧ RowR H a r ∧ ∀ H', Same H H' → Q (oS r.sets) H'
def spReadsL : Sp := fun vs H Q _ => ∃ (a : Addr) (r : Rx), vs = [.ref a] ∧ RowR H a r ∧ ∀ (q : Addr) (H' : Hp), Same H H' → H' q = some (.lst (r.reads.map V.str)) → Q (.ref q) H'
/-- the rows behind, as the law tells them -/
def rawNext (rws : List Rx) (i : Nat) : List Nat := match rws[i]? with
  | none => []
  | some (.ret _) => []
  | some (.jump r) => [r]
  | some (.ifz _ r) => [i + 1, r]
  | some _ => [i + 1]
def spNextL : Sp := fun vs H Q _ => ∃ (ra : Addr) (i : Nat) (rs : List Addr) (rws : List Rx), vs = [.ref ra, .int i] ∧ H ra = some (.lst (rs.map V.ref)) ∧ RawRows H rs rws ∧ i < rws.length ∧ ∀ (q : Addr) (H' : Hp), Same H H' → H' q = some (.lst ((rawNext rws i).map nI)) → Q (.ref q) H'
def R1 (r : Rx) : Bool := inV (V.str r.word) [.str "get", .str "put"]
def R2 (r : Rx) : Bool := inV (V.str r.word) [.str "number", .str "nil", .str "new", .str "jump"]
def R3 (r : Rx) : Bool := inV (V.str r.word) [.str "see", .str "if", .str "return"]
theorem binR : ∀ kk : Fin 4, inV (V.str (binW kk)) [.str "get", .str "put"] = false ∧ inV (V.str (binW kk)) [.str "number", .str "nil", .str "new", .str "jump"] = false ∧ inV (V.str (binW kk)) [.str "see", .str "if", .str "return"] = false ∧ decide (V.str (binW kk) = V.str "call") = false := by decide +kernel
theorem slice2 {a b : V} {xs : List V} : cutV (a :: b :: xs) (some 2) none = xs ∧ ¬ (HT.sIx (a :: b :: xs).length 0 (some 2) = 0 ∧ HT.sIx (a :: b :: xs).length (a :: b :: xs).length none = (a :: b :: xs).length) := by
  have e1 : HT.sIx (a :: b :: xs).length 0 (some 2) = 2 := by
    unfold HT.sIx
    simp
    try omega
  constructor
  · unfold cutV
    rw [e1, HT.sIx_none]
    simp
  · rw [e1]
    simp
theorem sc_L_sets : FnScope ["_law_step"] ["_law_step"] (defScope s_L_sets) := ⟨rfl, rfl, rfl, by decide +kernel, rfl, by decide +kernel, by decide +kernel⟩
theorem ok_L_sets (T : Ctx w K mg) : Has P w K mg base 1 "_law_sets" ["_law_step"] spSetsL := by
  obtain ⟨fd, F⟩ := T.D_L_sets
  refine ⟨⟨fd, F.ok sc_L_sets (fun vs H Q E h => ?_) (fun cdv A outer s H vs Q E hr h => ?_), F.bindsN fun _ _ _ _ _ _ us hl => match us, hl with | [_], _ => rfl⟩, F.kp, T.g_L_sets⟩
  · obtain ⟨a, r, rfl, hR, k⟩ := h; rfl
  · obtain ⟨a, r, rfl, hR, k⟩ := h
    have hu := hu_of hr
    refine ⟨_, PSs.nox (pss_one (ps_ret (pe_ifExp (pt_cmpR op_in_seq (pe_ix ix_tup (pv 0) pe_int (fun _ _ => rfl)) (pe_tup (pa_cons pe_str (pa_cons pe_str (pa_cons pe_str (pa_cons pe_str (pa_cons pe_str pa_nil)))))) rfl) pe_non (pe_ix ix_tup (pv 0) pe_int (fun _ _ => rfl))))), ?_⟩
    obtain ⟨l, ha, hl⟩ := hR
    refine ⟨_, rfl, _, _, _, _, rfl, rfl, SqT.of ha, at0, sz_of (by show 5 ≤ 100000; decide), fun t ht => ⟨t, _, rfl, .inr (SqT.of upd_same), rfl, rfl, _, rfl, ?_⟩⟩
    have s1 := Same.new (o := .tup [.str "put", .str "see", .str "if", .str "jump", .str "return"]) ht
    have e := sets_word r
    cases hs : r.sets with
    | none =>
      rw [hs] at e
      exact ifT e (by rw [hs] at k; exact k _ s1)
    | some x =>
      rw [hs] at e
      obtain ⟨ps, hp⟩ := sets_part (l := .ref l) hs
      rw [hp] at ha
      refine ifF e ⟨_, rfl, _, _, _, _, rfl, rfl, SqT.of (s1 _ _ ha), at1, ?_⟩
      rw [hs] at k
      exact k _ s1
theorem sc_L_next : FnScope ["_law_rows", "_law_at"] ["_law_rows", "_law_at"] (defScope s_L_next) := ⟨rfl, rfl, rfl, by decide +kernel, rfl, by decide +kernel, by decide +kernel⟩
theorem ok_L_next (T : Ctx w K mg) : Has P w K mg base 1 "_law_next" ["_law_rows", "_law_at"] spNextL := by
  obtain ⟨fd, F⟩ := T.D_L_next
  refine ⟨⟨fd, F.ok sc_L_next (fun vs H Q E h => ?_) (fun cdv A outer s H vs Q E hr h => ?_), F.bindsN fun _ _ _ _ _ _ us hl => match us, hl with | [_, _], _ => rfl⟩, F.kp, T.g_L_next⟩
  · obtain ⟨ra, i, rs, rws, rfl, hra, hR, hi, k⟩ := h; rfl
  · obtain ⟨ra, i, rs, rws, rfl, hra, hR, hi, k⟩ := h
    have hu := hu_of hr
    refine ⟨_, PSs.nox (pss_cons (ps_if (pt_cmpR op_eq (pe_ix ix_tup (pe_ix ix_list (pv 0) (pv 1) (fun _ _ => rfl)) pe_int (fun _ _ => rfl)) pe_str (nomark _)) (pss_one (ps_ret (pe_lst pa_nil))) pss_nil)
      (pss_cons (ps_if (pt_cmpR op_eq (pe_ix ix_tup (pe_ix ix_list (pv 0) (pv 1) (fun _ _ => rfl)) pe_int (fun _ _ => rfl)) pe_str (nomark _)) (pss_one (ps_ret (pe_lst (pa_cons (pe_ix ix_tup (pe_ix ix_list (pv 0) (pv 1) (fun _ _ => rfl)) pe_int (fun _ _ => rfl)) pa_nil)))) pss_nil)
      (pss_one (ps_ret (pe_op op_cat (pe_lst (pa_cons (pe_op op_add (pv 1) pe_int) pa_nil)) (pe_ifExp (pt_cmpR op_eq (pe_ix ix_tup (pe_ix ix_list (pv 0) (pv 1) (fun _ _ => rfl)) pe_int (fun _ _ => rfl)) pe_str (nomark _)) (pe_lst (pa_cons (pe_ix ix_tup (pe_ix ix_list (pv 0) (pv 1) (fun _ _ => rfl)) pe_int (fun _ _ => rfl)) pa_nil)) (pe_lst pa_nil))))))), ?_⟩
    have hx : rws[i]? = some rws[i] := List.getElem?_eq_getElem hi
    have hil : i < rs.length := by rw [hR.len]; exact hi
    have hia : rs[i]? = some rs[i] := List.getElem?_eq_getElem hil
    obtain ⟨l, ha, _⟩ := hR.at_ i _ _ hia hx
    cases hr : rws[i] with
    | ret x =>
      rw [hr] at ha
      refine ⟨_, rfl, _, rfl, _, _, _, _, rfl, rfl, SqL.of hra, at_refs hia, _, _, _, _, rfl, rfl, SqT.of ha, at0, rfl, _, rfl, ifT rfl ⟨sz_of (by decide), fun q hq => k q _ (Same.new hq) ?_⟩⟩
      rw [upd_same]
      unfold rawNext
      rw [hx, hr]
      rfl
    | jump g =>
      rw [hr] at ha
      refine ⟨_, rfl, _, rfl, _, _, _, _, rfl, rfl, SqL.of hra, at_refs hia, _, _, _, _, rfl, rfl, SqT.of ha, at0, rfl, _, rfl, ifF rfl ⟨_, rfl, _, rfl, _, _, _, _, rfl, rfl, SqL.of hra, at_refs hia, _, _, _, _, rfl, rfl, SqT.of ha, at0, rfl, _, rfl, ifT rfl ?_⟩⟩
      refine ⟨_, rfl, _, rfl, _, _, _, _, rfl, rfl, SqL.of hra, at_refs hia, _, _, _, _, rfl, rfl, SqT.of ha, at1, sz_of (by show 1 ≤ 100000; decide), fun q hq => k q _ (Same.new hq) ?_⟩
      rw [upd_same]
      unfold rawNext
      rw [hx, hr]
      rfl
    | ifz x g =>
      rw [hr] at ha
      refine ⟨_, rfl, _, rfl, _, _, _, _, rfl, rfl, SqL.of hra, at_refs hia, _, _, _, _, rfl, rfl, SqT.of ha, at0, rfl, _, rfl, ifF rfl ⟨_, rfl, _, rfl, _, _, _, _, rfl, rfl, SqL.of hra, at_refs hia, _, _, _, _, rfl, rfl, SqT.of ha, at0, rfl, _, rfl, ifF rfl ?_⟩⟩
      refine ⟨_, rfl, _, _, rfl, rfl, sz_of (by show 1 ≤ 100000; decide), fun l1 hl1 => ?_⟩
      have s1 := Same.new (o := .lst [.int ((i : Int) + 1)]) hl1
      have ha1 := s1 _ _ ha
      have hra1 := s1 _ _ hra
      refine ⟨_, rfl, _, rfl, _, _, _, _, rfl, rfl, SqL.of hra1, at_refs hia, _, _, _, _, rfl, rfl, SqT.of ha1, at0, rfl, _, rfl, ifT rfl ?_⟩
      refine ⟨_, rfl, _, rfl, _, _, _, _, rfl, rfl, SqL.of hra1, at_refs hia, _, _, _, _, rfl, rfl, SqT.of ha1, at2, sz_of (by show 1 ≤ 100000; decide), fun l2 hl2 => ?_⟩
      have s2 := Same.new (o := .lst [.int (g : Int)]) hl2
      refine ⟨l1, l2, _, _, rfl, rfl, s2 _ _ upd_same, upd_same, sz_of (by show 2 ≤ 100000; decide), fun l3 hl3 => k l3 _ (s1.trans (s2.trans (Same.new hl3))) ?_⟩
      rw [upd_same]
      unfold rawNext
      rw [hx, hr]
      rfl
    | num x n =>
      rw [hr] at ha
      refine ⟨_, rfl, _, rfl, _, _, _, _, rfl, rfl, SqL.of hra, at_refs hia, _, _, _, _, rfl, rfl, SqT.of ha, at0, rfl, _, rfl, ifF rfl ⟨_, rfl, _, rfl, _, _, _, _, rfl, rfl, SqL.of hra, at_refs hia, _, _, _, _, rfl, rfl, SqT.of ha, at0, rfl, _, rfl, ifF rfl ?_⟩⟩
      refine ⟨_, rfl, _, _, rfl, rfl, sz_of (by show 1 ≤ 100000; decide), fun l1 hl1 => ?_⟩
      have s1 := Same.new (o := .lst [.int ((i : Int) + 1)]) hl1
      have ha1 := s1 _ _ ha
      have hra1 := s1 _ _ hra
      refine ⟨_, rfl, _, rfl, _, _, _, _, rfl, rfl, SqL.of hra1, at_refs hia, _, _, _, _, rfl, rfl, SqT.of ha1, at0, rfl, _, rfl, ifF rfl ⟨sz_of (by decide), fun l2 hl2 => ?_⟩⟩
      have s2 := Same.new (o := .lst []) hl2
      refine ⟨l1, l2, _, _, rfl, rfl, s2 _ _ upd_same, upd_same, sz_of (by show 1 ≤ 100000; decide), fun l3 hl3 => k l3 _ (s1.trans (s2.trans (Same.new hl3))) ?_⟩
      rw [upd_same]
      unfold rawNext
      rw [hx, hr]
      rfl
    | nil x =>
      rw [hr] at ha
      refine ⟨_, rfl, _, rfl, _, _, _, _, rfl, rfl, SqL.of hra, at_refs hia, _, _, _, _, rfl, rfl, SqT.of ha, at0, rfl, _, rfl, ifF rfl ⟨_, rfl, _, rfl, _, _, _, _, rfl, rfl, SqL.of hra, at_refs hia, _, _, _, _, rfl, rfl, SqT.of ha, at0, rfl, _, rfl, ifF rfl ?_⟩⟩
      refine ⟨_, rfl, _, _, rfl, rfl, sz_of (by show 1 ≤ 100000; decide), fun l1 hl1 => ?_⟩
      have s1 := Same.new (o := .lst [.int ((i : Int) + 1)]) hl1
      have ha1 := s1 _ _ ha
      have hra1 := s1 _ _ hra
      refine ⟨_, rfl, _, rfl, _, _, _, _, rfl, rfl, SqL.of hra1, at_refs hia, _, _, _, _, rfl, rfl, SqT.of ha1, at0, rfl, _, rfl, ifF rfl ⟨sz_of (by decide), fun l2 hl2 => ?_⟩⟩
      have s2 := Same.new (o := .lst []) hl2
      refine ⟨l1, l2, _, _, rfl, rfl, s2 _ _ upd_same, upd_same, sz_of (by show 1 ≤ 100000; decide), fun l3 hl3 => k l3 _ (s1.trans (s2.trans (Same.new hl3))) ?_⟩
      rw [upd_same]
      unfold rawNext
      rw [hx, hr]
      rfl
    | copy x y =>
      rw [hr] at ha
      refine ⟨_, rfl, _, rfl, _, _, _, _, rfl, rfl, SqL.of hra, at_refs hia, _, _, _, _, rfl, rfl, SqT.of ha, at0, rfl, _, rfl, ifF rfl ⟨_, rfl, _, rfl, _, _, _, _, rfl, rfl, SqL.of hra, at_refs hia, _, _, _, _, rfl, rfl, SqT.of ha, at0, rfl, _, rfl, ifF rfl ?_⟩⟩
      refine ⟨_, rfl, _, _, rfl, rfl, sz_of (by show 1 ≤ 100000; decide), fun l1 hl1 => ?_⟩
      have s1 := Same.new (o := .lst [.int ((i : Int) + 1)]) hl1
      have ha1 := s1 _ _ ha
      have hra1 := s1 _ _ hra
      refine ⟨_, rfl, _, rfl, _, _, _, _, rfl, rfl, SqL.of hra1, at_refs hia, _, _, _, _, rfl, rfl, SqT.of ha1, at0, rfl, _, rfl, ifF rfl ⟨sz_of (by decide), fun l2 hl2 => ?_⟩⟩
      have s2 := Same.new (o := .lst []) hl2
      refine ⟨l1, l2, _, _, rfl, rfl, s2 _ _ upd_same, upd_same, sz_of (by show 1 ≤ 100000; decide), fun l3 hl3 => k l3 _ (s1.trans (s2.trans (Same.new hl3))) ?_⟩
      rw [upd_same]
      unfold rawNext
      rw [hx, hr]
      rfl
    | same x y z =>
      rw [hr] at ha
      refine ⟨_, rfl, _, rfl, _, _, _, _, rfl, rfl, SqL.of hra, at_refs hia, _, _, _, _, rfl, rfl, SqT.of ha, at0, rfl, _, rfl, ifF rfl ⟨_, rfl, _, rfl, _, _, _, _, rfl, rfl, SqL.of hra, at_refs hia, _, _, _, _, rfl, rfl, SqT.of ha, at0, rfl, _, rfl, ifF rfl ?_⟩⟩
      refine ⟨_, rfl, _, _, rfl, rfl, sz_of (by show 1 ≤ 100000; decide), fun l1 hl1 => ?_⟩
      have s1 := Same.new (o := .lst [.int ((i : Int) + 1)]) hl1
      have ha1 := s1 _ _ ha
      have hra1 := s1 _ _ hra
      refine ⟨_, rfl, _, rfl, _, _, _, _, rfl, rfl, SqL.of hra1, at_refs hia, _, _, _, _, rfl, rfl, SqT.of ha1, at0, rfl, _, rfl, ifF rfl ⟨sz_of (by decide), fun l2 hl2 => ?_⟩⟩
      have s2 := Same.new (o := .lst []) hl2
      refine ⟨l1, l2, _, _, rfl, rfl, s2 _ _ upd_same, upd_same, sz_of (by show 1 ≤ 100000; decide), fun l3 hl3 => k l3 _ (s1.trans (s2.trans (Same.new hl3))) ?_⟩
      rw [upd_same]
      unfold rawNext
      rw [hx, hr]
      rfl
    | new x c =>
      rw [hr] at ha
      refine ⟨_, rfl, _, rfl, _, _, _, _, rfl, rfl, SqL.of hra, at_refs hia, _, _, _, _, rfl, rfl, SqT.of ha, at0, rfl, _, rfl, ifF rfl ⟨_, rfl, _, rfl, _, _, _, _, rfl, rfl, SqL.of hra, at_refs hia, _, _, _, _, rfl, rfl, SqT.of ha, at0, rfl, _, rfl, ifF rfl ?_⟩⟩
      refine ⟨_, rfl, _, _, rfl, rfl, sz_of (by show 1 ≤ 100000; decide), fun l1 hl1 => ?_⟩
      have s1 := Same.new (o := .lst [.int ((i : Int) + 1)]) hl1
      have ha1 := s1 _ _ ha
      have hra1 := s1 _ _ hra
      refine ⟨_, rfl, _, rfl, _, _, _, _, rfl, rfl, SqL.of hra1, at_refs hia, _, _, _, _, rfl, rfl, SqT.of ha1, at0, rfl, _, rfl, ifF rfl ⟨sz_of (by decide), fun l2 hl2 => ?_⟩⟩
      have s2 := Same.new (o := .lst []) hl2
      refine ⟨l1, l2, _, _, rfl, rfl, s2 _ _ upd_same, upd_same, sz_of (by show 1 ≤ 100000; decide), fun l3 hl3 => k l3 _ (s1.trans (s2.trans (Same.new hl3))) ?_⟩
      rw [upd_same]
      unfold rawNext
      rw [hx, hr]
      rfl
    | get x y f =>
      rw [hr] at ha
      refine ⟨_, rfl, _, rfl, _, _, _, _, rfl, rfl, SqL.of hra, at_refs hia, _, _, _, _, rfl, rfl, SqT.of ha, at0, rfl, _, rfl, ifF rfl ⟨_, rfl, _, rfl, _, _, _, _, rfl, rfl, SqL.of hra, at_refs hia, _, _, _, _, rfl, rfl, SqT.of ha, at0, rfl, _, rfl, ifF rfl ?_⟩⟩
      refine ⟨_, rfl, _, _, rfl, rfl, sz_of (by show 1 ≤ 100000; decide), fun l1 hl1 => ?_⟩
      have s1 := Same.new (o := .lst [.int ((i : Int) + 1)]) hl1
      have ha1 := s1 _ _ ha
      have hra1 := s1 _ _ hra
      refine ⟨_, rfl, _, rfl, _, _, _, _, rfl, rfl, SqL.of hra1, at_refs hia, _, _, _, _, rfl, rfl, SqT.of ha1, at0, rfl, _, rfl, ifF rfl ⟨sz_of (by decide), fun l2 hl2 => ?_⟩⟩
      have s2 := Same.new (o := .lst []) hl2
      refine ⟨l1, l2, _, _, rfl, rfl, s2 _ _ upd_same, upd_same, sz_of (by show 1 ≤ 100000; decide), fun l3 hl3 => k l3 _ (s1.trans (s2.trans (Same.new hl3))) ?_⟩
      rw [upd_same]
      unfold rawNext
      rw [hx, hr]
      rfl
    | put x f y =>
      rw [hr] at ha
      refine ⟨_, rfl, _, rfl, _, _, _, _, rfl, rfl, SqL.of hra, at_refs hia, _, _, _, _, rfl, rfl, SqT.of ha, at0, rfl, _, rfl, ifF rfl ⟨_, rfl, _, rfl, _, _, _, _, rfl, rfl, SqL.of hra, at_refs hia, _, _, _, _, rfl, rfl, SqT.of ha, at0, rfl, _, rfl, ifF rfl ?_⟩⟩
      refine ⟨_, rfl, _, _, rfl, rfl, sz_of (by show 1 ≤ 100000; decide), fun l1 hl1 => ?_⟩
      have s1 := Same.new (o := .lst [.int ((i : Int) + 1)]) hl1
      have ha1 := s1 _ _ ha
      have hra1 := s1 _ _ hra
      refine ⟨_, rfl, _, rfl, _, _, _, _, rfl, rfl, SqL.of hra1, at_refs hia, _, _, _, _, rfl, rfl, SqT.of ha1, at0, rfl, _, rfl, ifF rfl ⟨sz_of (by decide), fun l2 hl2 => ?_⟩⟩
      have s2 := Same.new (o := .lst []) hl2
      refine ⟨l1, l2, _, _, rfl, rfl, s2 _ _ upd_same, upd_same, sz_of (by show 1 ≤ 100000; decide), fun l3 hl3 => k l3 _ (s1.trans (s2.trans (Same.new hl3))) ?_⟩
      rw [upd_same]
      unfold rawNext
      rw [hx, hr]
      rfl
    | call x F bs =>
      rw [hr] at ha
      refine ⟨_, rfl, _, rfl, _, _, _, _, rfl, rfl, SqL.of hra, at_refs hia, _, _, _, _, rfl, rfl, SqT.of ha, at0, rfl, _, rfl, ifF rfl ⟨_, rfl, _, rfl, _, _, _, _, rfl, rfl, SqL.of hra, at_refs hia, _, _, _, _, rfl, rfl, SqT.of ha, at0, rfl, _, rfl, ifF rfl ?_⟩⟩
      refine ⟨_, rfl, _, _, rfl, rfl, sz_of (by show 1 ≤ 100000; decide), fun l1 hl1 => ?_⟩
      have s1 := Same.new (o := .lst [.int ((i : Int) + 1)]) hl1
      have ha1 := s1 _ _ ha
      have hra1 := s1 _ _ hra
      refine ⟨_, rfl, _, rfl, _, _, _, _, rfl, rfl, SqL.of hra1, at_refs hia, _, _, _, _, rfl, rfl, SqT.of ha1, at0, rfl, _, rfl, ifF rfl ⟨sz_of (by decide), fun l2 hl2 => ?_⟩⟩
      have s2 := Same.new (o := .lst []) hl2
      refine ⟨l1, l2, _, _, rfl, rfl, s2 _ _ upd_same, upd_same, sz_of (by show 1 ≤ 100000; decide), fun l3 hl3 => k l3 _ (s1.trans (s2.trans (Same.new hl3))) ?_⟩
      rw [upd_same]
      unfold rawNext
      rw [hx, hr]
      rfl
    | see x =>
      rw [hr] at ha
      refine ⟨_, rfl, _, rfl, _, _, _, _, rfl, rfl, SqL.of hra, at_refs hia, _, _, _, _, rfl, rfl, SqT.of ha, at0, rfl, _, rfl, ifF rfl ⟨_, rfl, _, rfl, _, _, _, _, rfl, rfl, SqL.of hra, at_refs hia, _, _, _, _, rfl, rfl, SqT.of ha, at0, rfl, _, rfl, ifF rfl ?_⟩⟩
      refine ⟨_, rfl, _, _, rfl, rfl, sz_of (by show 1 ≤ 100000; decide), fun l1 hl1 => ?_⟩
      have s1 := Same.new (o := .lst [.int ((i : Int) + 1)]) hl1
      have ha1 := s1 _ _ ha
      have hra1 := s1 _ _ hra
      refine ⟨_, rfl, _, rfl, _, _, _, _, rfl, rfl, SqL.of hra1, at_refs hia, _, _, _, _, rfl, rfl, SqT.of ha1, at0, rfl, _, rfl, ifF rfl ⟨sz_of (by decide), fun l2 hl2 => ?_⟩⟩
      have s2 := Same.new (o := .lst []) hl2
      refine ⟨l1, l2, _, _, rfl, rfl, s2 _ _ upd_same, upd_same, sz_of (by show 1 ≤ 100000; decide), fun l3 hl3 => k l3 _ (s1.trans (s2.trans (Same.new hl3))) ?_⟩
      rw [upd_same]
      unfold rawNext
      rw [hx, hr]
      rfl
    | bin kk x y z =>
      rw [hr] at ha
      refine ⟨_, rfl, _, rfl, _, _, _, _, rfl, rfl, SqL.of hra, at_refs hia, _, _, _, _, rfl, rfl, SqT.of ha, at0, rfl, _, rfl, ifF (binNe kk).1 ⟨_, rfl, _, rfl, _, _, _, _, rfl, rfl, SqL.of hra, at_refs hia, _, _, _, _, rfl, rfl, SqT.of ha, at0, rfl, _, rfl, ifF (binNe kk).2.1 ?_⟩⟩
      refine ⟨_, rfl, _, _, rfl, rfl, sz_of (by show 1 ≤ 100000; decide), fun l1 hl1 => ?_⟩
      have s1 := Same.new (o := .lst [.int ((i : Int) + 1)]) hl1
      have ha1 := s1 _ _ ha
      have hra1 := s1 _ _ hra
      refine ⟨_, rfl, _, rfl, _, _, _, _, rfl, rfl, SqL.of hra1, at_refs hia, _, _, _, _, rfl, rfl, SqT.of ha1, at0, rfl, _, rfl, ifF (binNe kk).2.2 ⟨sz_of (by decide), fun l2 hl2 => ?_⟩⟩
      have s2 := Same.new (o := .lst []) hl2
      refine ⟨l1, l2, _, _, rfl, rfl, s2 _ _ upd_same, upd_same, sz_of (by show 1 ≤ 100000; decide), fun l3 hl3 => k l3 _ (s1.trans (s2.trans (Same.new hl3))) ?_⟩
      rw [upd_same]
      unfold rawNext
      rw [hx, hr]
      rfl
theorem sc_L_reads : FnScope ["_law_step"] ["_law_step"] (defScope s_L_reads) := ⟨rfl, rfl, rfl, by decide +kernel, rfl, by decide +kernel, by decide +kernel⟩
theorem ok_L_reads (T : Ctx w K mg) : Has P w K mg base 1 "_law_reads" ["_law_step"] spReadsL := by
  obtain ⟨fd, F⟩ := T.D_L_reads
  refine ⟨⟨fd, F.ok sc_L_reads (fun vs H Q E h => ?_) (fun cdv A outer s H vs Q E hr h => ?_), F.bindsN fun _ _ _ _ _ _ us hl => match us, hl with | [_], _ => rfl⟩, F.kp, T.g_L_reads⟩
  · obtain ⟨a, r, rfl, hR, k⟩ := h; rfl
  · obtain ⟨a, r, rfl, hR, k⟩ := h
    have hu := hu_of hr
    refine ⟨_, PSs.nox (pss_cons (ps_if (pt_cmpR op_in_seq (pe_ix ix_tup (pv 0) pe_int (fun _ _ => rfl)) (pe_tup (pa_cons pe_str (pa_cons pe_str pa_nil))) rfl) (pss_one (ps_ret (pe_ifExp (pt_cmpR op_eq (pe_ix ix_tup (pv 0) pe_int (fun _ _ => rfl)) pe_str (nomark _)) (pe_lst (pa_cons (pe_ix ix_tup (pv 0) pe_int (fun _ _ => rfl)) pa_nil)) (pe_lst (pa_cons (pe_ix ix_tup (pv 0) pe_int (fun _ _ => rfl)) (pa_cons (pe_ix ix_tup (pv 0) pe_int (fun _ _ => rfl)) pa_nil)))))) pss_nil)
      (pss_cons (ps_if (pt_cmpR op_in_seq (pe_ix ix_tup (pv 0) pe_int (fun _ _ => rfl)) (pe_tup (pa_cons pe_str (pa_cons pe_str (pa_cons pe_str (pa_cons pe_str pa_nil))))) rfl) (pss_one (ps_ret (pe_lst pa_nil))) pss_nil)
      (pss_cons (ps_if (pt_cmpR op_eq (pe_ix ix_tup (pv 0) pe_int (fun _ _ => rfl)) pe_str (nomark _)) (pss_one (ps_ret (pe_ix ix_tup (pv 0) pe_int (fun _ _ => rfl)))) pss_nil)
      (pss_one (ps_ret (pe_ifExp (pt_cmpR op_in_seq (pe_ix ix_tup (pv 0) pe_int (fun _ _ => rfl)) (pe_tup (pa_cons pe_str (pa_cons pe_str (pa_cons pe_str pa_nil)))) rfl) (pe_lst (pa_cons (pe_ix ix_tup (pv 0) pe_int (fun _ _ => rfl)) pa_nil)) (pe_callTy call_list_of (by rfl) T.f_list (by decide +kernel) (pa_cons (pe_slice sl_tup (pv 0) (po_some pe_int) po_none) pa_nil)))))))), ?_⟩
    obtain ⟨l, ha, hm⟩ := hR
    cases r with
    | get x y f =>
      refine ⟨_, rfl, _, _, _, _, rfl, rfl, SqT.of ha, at0, sz_of (by show 2 ≤ 100000; decide), fun t1 ht1 => ⟨t1, _, rfl, .inr (SqT.of upd_same), rfl, rfl, _, rfl, ?_⟩⟩
      have s1 := Same.new (o := .tup [.str "get", .str "put"]) ht1
      have ha1 := s1 _ _ ha
      refine ifT rfl ⟨_, rfl, _, _, _, _, rfl, rfl, SqT.of ha1, at0, rfl, _, rfl, ifT rfl ⟨_, rfl, _, _, _, _, rfl, rfl, SqT.of ha1, at2, sz_of (by show 1 ≤ 100000; decide), fun q hq => k q _ (s1.trans (Same.new hq)) upd_same⟩⟩
    | put x f y =>
      refine ⟨_, rfl, _, _, _, _, rfl, rfl, SqT.of ha, at0, sz_of (by show 2 ≤ 100000; decide), fun t1 ht1 => ⟨t1, _, rfl, .inr (SqT.of upd_same), rfl, rfl, _, rfl, ?_⟩⟩
      have s1 := Same.new (o := .tup [.str "get", .str "put"]) ht1
      have ha1 := s1 _ _ ha
      refine ifT rfl ⟨_, rfl, _, _, _, _, rfl, rfl, SqT.of ha1, at0, rfl, _, rfl, ifF rfl ⟨_, rfl, _, _, _, _, rfl, rfl, SqT.of ha1, at1, _, rfl, _, _, _, _, rfl, rfl, SqT.of ha1, at3, sz_of (by show 2 ≤ 100000; decide), fun q hq => k q _ (s1.trans (Same.new hq)) upd_same⟩⟩
    | num x n =>
      refine ⟨_, rfl, _, _, _, _, rfl, rfl, SqT.of ha, at0, sz_of (by show 2 ≤ 100000; decide), fun t1 ht1 => ⟨t1, _, rfl, .inr (SqT.of upd_same), rfl, rfl, _, rfl, ?_⟩⟩
      have s1 := Same.new (o := .tup [.str "get", .str "put"]) ht1
      have ha1 := s1 _ _ ha
      refine ifF (rfl) ⟨_, rfl, _, _, _, _, rfl, rfl, SqT.of ha1, at0, sz_of (by show 4 ≤ 100000; decide), fun t2 ht2 => ⟨t2, _, rfl, .inr (SqT.of upd_same), rfl, rfl, _, rfl, ?_⟩⟩
      have s2 := Same.new (o := .tup [.str "number", .str "nil", .str "new", .str "jump"]) ht2
      have ha2 := s2 _ _ ha1
      have s12 := s1.trans s2
      refine ifT rfl ⟨sz_of (by decide), fun q hq => k q _ (s12.trans (Same.new hq)) upd_same⟩
    | nil x =>
      refine ⟨_, rfl, _, _, _, _, rfl, rfl, SqT.of ha, at0, sz_of (by show 2 ≤ 100000; decide), fun t1 ht1 => ⟨t1, _, rfl, .inr (SqT.of upd_same), rfl, rfl, _, rfl, ?_⟩⟩
      have s1 := Same.new (o := .tup [.str "get", .str "put"]) ht1
      have ha1 := s1 _ _ ha
      refine ifF (rfl) ⟨_, rfl, _, _, _, _, rfl, rfl, SqT.of ha1, at0, sz_of (by show 4 ≤ 100000; decide), fun t2 ht2 => ⟨t2, _, rfl, .inr (SqT.of upd_same), rfl, rfl, _, rfl, ?_⟩⟩
      have s2 := Same.new (o := .tup [.str "number", .str "nil", .str "new", .str "jump"]) ht2
      have ha2 := s2 _ _ ha1
      have s12 := s1.trans s2
      refine ifT rfl ⟨sz_of (by decide), fun q hq => k q _ (s12.trans (Same.new hq)) upd_same⟩
    | new x c =>
      refine ⟨_, rfl, _, _, _, _, rfl, rfl, SqT.of ha, at0, sz_of (by show 2 ≤ 100000; decide), fun t1 ht1 => ⟨t1, _, rfl, .inr (SqT.of upd_same), rfl, rfl, _, rfl, ?_⟩⟩
      have s1 := Same.new (o := .tup [.str "get", .str "put"]) ht1
      have ha1 := s1 _ _ ha
      refine ifF (rfl) ⟨_, rfl, _, _, _, _, rfl, rfl, SqT.of ha1, at0, sz_of (by show 4 ≤ 100000; decide), fun t2 ht2 => ⟨t2, _, rfl, .inr (SqT.of upd_same), rfl, rfl, _, rfl, ?_⟩⟩
      have s2 := Same.new (o := .tup [.str "number", .str "nil", .str "new", .str "jump"]) ht2
      have ha2 := s2 _ _ ha1
      have s12 := s1.trans s2
      refine ifT rfl ⟨sz_of (by decide), fun q hq => k q _ (s12.trans (Same.new hq)) upd_same⟩
    | jump g =>
      refine ⟨_, rfl, _, _, _, _, rfl, rfl, SqT.of ha, at0, sz_of (by show 2 ≤ 100000; decide), fun t1 ht1 => ⟨t1, _, rfl, .inr (SqT.of upd_same), rfl, rfl, _, rfl, ?_⟩⟩
      have s1 := Same.new (o := .tup [.str "get", .str "put"]) ht1
      have ha1 := s1 _ _ ha
      refine ifF (rfl) ⟨_, rfl, _, _, _, _, rfl, rfl, SqT.of ha1, at0, sz_of (by show 4 ≤ 100000; decide), fun t2 ht2 => ⟨t2, _, rfl, .inr (SqT.of upd_same), rfl, rfl, _, rfl, ?_⟩⟩
      have s2 := Same.new (o := .tup [.str "number", .str "nil", .str "new", .str "jump"]) ht2
      have ha2 := s2 _ _ ha1
      have s12 := s1.trans s2
      refine ifT rfl ⟨sz_of (by decide), fun q hq => k q _ (s12.trans (Same.new hq)) upd_same⟩
    | call x F bs =>
      refine ⟨_, rfl, _, _, _, _, rfl, rfl, SqT.of ha, at0, sz_of (by show 2 ≤ 100000; decide), fun t1 ht1 => ⟨t1, _, rfl, .inr (SqT.of upd_same), rfl, rfl, _, rfl, ?_⟩⟩
      have s1 := Same.new (o := .tup [.str "get", .str "put"]) ht1
      have ha1 := s1 _ _ ha
      refine ifF (rfl) ⟨_, rfl, _, _, _, _, rfl, rfl, SqT.of ha1, at0, sz_of (by show 4 ≤ 100000; decide), fun t2 ht2 => ⟨t2, _, rfl, .inr (SqT.of upd_same), rfl, rfl, _, rfl, ?_⟩⟩
      have s2 := Same.new (o := .tup [.str "number", .str "nil", .str "new", .str "jump"]) ht2
      have ha2 := s2 _ _ ha1
      have s12 := s1.trans s2
      refine ifF (rfl) ⟨_, rfl, _, _, _, _, rfl, rfl, SqT.of ha2, at0, rfl, _, rfl, ?_⟩
      refine ifT rfl ⟨_, rfl, _, _, _, _, rfl, rfl, SqT.of ha2, at3, k l _ s12 (s12 _ _ (hm bs rfl).1)⟩
    | see x =>
      refine ⟨_, rfl, _, _, _, _, rfl, rfl, SqT.of ha, at0, sz_of (by show 2 ≤ 100000; decide), fun t1 ht1 => ⟨t1, _, rfl, .inr (SqT.of upd_same), rfl, rfl, _, rfl, ?_⟩⟩
      have s1 := Same.new (o := .tup [.str "get", .str "put"]) ht1
      have ha1 := s1 _ _ ha
      refine ifF (rfl) ⟨_, rfl, _, _, _, _, rfl, rfl, SqT.of ha1, at0, sz_of (by show 4 ≤ 100000; decide), fun t2 ht2 => ⟨t2, _, rfl, .inr (SqT.of upd_same), rfl, rfl, _, rfl, ?_⟩⟩
      have s2 := Same.new (o := .tup [.str "number", .str "nil", .str "new", .str "jump"]) ht2
      have ha2 := s2 _ _ ha1
      have s12 := s1.trans s2
      refine ifF (rfl) ⟨_, rfl, _, _, _, _, rfl, rfl, SqT.of ha2, at0, rfl, _, rfl, ?_⟩
      refine ifF (rfl) ⟨_, rfl, _, _, _, _, rfl, rfl, SqT.of ha2, at0, sz_of (by show 3 ≤ 100000; decide), fun t3 ht3 => ⟨t3, _, rfl, .inr (SqT.of upd_same), rfl, rfl, _, rfl, ?_⟩⟩
      have s3 := Same.new (o := .tup [.str "see", .str "if", .str "return"]) ht3
      have ha3 := s3 _ _ ha2
      have s13 := s12.trans s3
      refine ifT rfl ⟨_, rfl, _, _, _, _, rfl, rfl, SqT.of ha3, at1, sz_of (by show 1 ≤ 100000; decide), fun q hq => k q _ (s13.trans (Same.new hq)) upd_same⟩
    | ifz x g =>
      refine ⟨_, rfl, _, _, _, _, rfl, rfl, SqT.of ha, at0, sz_of (by show 2 ≤ 100000; decide), fun t1 ht1 => ⟨t1, _, rfl, .inr (SqT.of upd_same), rfl, rfl, _, rfl, ?_⟩⟩
      have s1 := Same.new (o := .tup [.str "get", .str "put"]) ht1
      have ha1 := s1 _ _ ha
      refine ifF (rfl) ⟨_, rfl, _, _, _, _, rfl, rfl, SqT.of ha1, at0, sz_of (by show 4 ≤ 100000; decide), fun t2 ht2 => ⟨t2, _, rfl, .inr (SqT.of upd_same), rfl, rfl, _, rfl, ?_⟩⟩
      have s2 := Same.new (o := .tup [.str "number", .str "nil", .str "new", .str "jump"]) ht2
      have ha2 := s2 _ _ ha1
      have s12 := s1.trans s2
      refine ifF (rfl) ⟨_, rfl, _, _, _, _, rfl, rfl, SqT.of ha2, at0, rfl, _, rfl, ?_⟩
      refine ifF (rfl) ⟨_, rfl, _, _, _, _, rfl, rfl, SqT.of ha2, at0, sz_of (by show 3 ≤ 100000; decide), fun t3 ht3 => ⟨t3, _, rfl, .inr (SqT.of upd_same), rfl, rfl, _, rfl, ?_⟩⟩
      have s3 := Same.new (o := .tup [.str "see", .str "if", .str "return"]) ht3
      have ha3 := s3 _ _ ha2
      have s13 := s12.trans s3
      refine ifT rfl ⟨_, rfl, _, _, _, _, rfl, rfl, SqT.of ha3, at1, sz_of (by show 1 ≤ 100000; decide), fun q hq => k q _ (s13.trans (Same.new hq)) upd_same⟩
    | ret x =>
      refine ⟨_, rfl, _, _, _, _, rfl, rfl, SqT.of ha, at0, sz_of (by show 2 ≤ 100000; decide), fun t1 ht1 => ⟨t1, _, rfl, .inr (SqT.of upd_same), rfl, rfl, _, rfl, ?_⟩⟩
      have s1 := Same.new (o := .tup [.str "get", .str "put"]) ht1
      have ha1 := s1 _ _ ha
      refine ifF (rfl) ⟨_, rfl, _, _, _, _, rfl, rfl, SqT.of ha1, at0, sz_of (by show 4 ≤ 100000; decide), fun t2 ht2 => ⟨t2, _, rfl, .inr (SqT.of upd_same), rfl, rfl, _, rfl, ?_⟩⟩
      have s2 := Same.new (o := .tup [.str "number", .str "nil", .str "new", .str "jump"]) ht2
      have ha2 := s2 _ _ ha1
      have s12 := s1.trans s2
      refine ifF (rfl) ⟨_, rfl, _, _, _, _, rfl, rfl, SqT.of ha2, at0, rfl, _, rfl, ?_⟩
      refine ifF (rfl) ⟨_, rfl, _, _, _, _, rfl, rfl, SqT.of ha2, at0, sz_of (by show 3 ≤ 100000; decide), fun t3 ht3 => ⟨t3, _, rfl, .inr (SqT.of upd_same), rfl, rfl, _, rfl, ?_⟩⟩
      have s3 := Same.new (o := .tup [.str "see", .str "if", .str "return"]) ht3
      have ha3 := s3 _ _ ha2
      have s13 := s12.trans s3
      refine ifT rfl ⟨_, rfl, _, _, _, _, rfl, rfl, SqT.of ha3, at1, sz_of (by show 1 ≤ 100000; decide), fun q hq => k q _ (s13.trans (Same.new hq)) upd_same⟩
    | copy x y =>
      refine ⟨_, rfl, _, _, _, _, rfl, rfl, SqT.of ha, at0, sz_of (by show 2 ≤ 100000; decide), fun t1 ht1 => ⟨t1, _, rfl, .inr (SqT.of upd_same), rfl, rfl, _, rfl, ?_⟩⟩
      have s1 := Same.new (o := .tup [.str "get", .str "put"]) ht1
      have ha1 := s1 _ _ ha
      refine ifF (rfl) ⟨_, rfl, _, _, _, _, rfl, rfl, SqT.of ha1, at0, sz_of (by show 4 ≤ 100000; decide), fun t2 ht2 => ⟨t2, _, rfl, .inr (SqT.of upd_same), rfl, rfl, _, rfl, ?_⟩⟩
      have s2 := Same.new (o := .tup [.str "number", .str "nil", .str "new", .str "jump"]) ht2
      have ha2 := s2 _ _ ha1
      have s12 := s1.trans s2
      refine ifF (rfl) ⟨_, rfl, _, _, _, _, rfl, rfl, SqT.of ha2, at0, rfl, _, rfl, ?_⟩
      refine ifF (rfl) ⟨_, rfl, _, _, _, _, rfl, rfl, SqT.of ha2, at0, sz_of (by show 3 ≤ 100000; decide), fun t3 ht3 => ⟨t3, _, rfl, .inr (SqT.of upd_same), rfl, rfl, _, rfl, ?_⟩⟩
      have s3 := Same.new (o := .tup [.str "see", .str "if", .str "return"]) ht3
      have ha3 := s3 _ _ ha2
      have s13 := s12.trans s3
      refine ifF (rfl) ⟨_, rfl, 2, rfl, _, _, rfl, SqT.of ha3, slice2.2, fun t4 ht4 => ?_⟩
      have s4 := Same.new (o := .tup (cutV [.str "copy", .str x, .str y] (some 2) none)) ht4
      refine ⟨t4, _, rfl, .inr (SqT.of upd_same), fun q hq => k q _ ((s13.trans s4).trans (Same.new hq)) ?_⟩
      rw [upd_same]
      exact congrArg (fun l => some (HO.lst l)) slice2.1
    | same x y z =>
      refine ⟨_, rfl, _, _, _, _, rfl, rfl, SqT.of ha, at0, sz_of (by show 2 ≤ 100000; decide), fun t1 ht1 => ⟨t1, _, rfl, .inr (SqT.of upd_same), rfl, rfl, _, rfl, ?_⟩⟩
      have s1 := Same.new (o := .tup [.str "get", .str "put"]) ht1
      have ha1 := s1 _ _ ha
      refine ifF (rfl) ⟨_, rfl, _, _, _, _, rfl, rfl, SqT.of ha1, at0, sz_of (by show 4 ≤ 100000; decide), fun t2 ht2 => ⟨t2, _, rfl, .inr (SqT.of upd_same), rfl, rfl, _, rfl, ?_⟩⟩
      have s2 := Same.new (o := .tup [.str "number", .str "nil", .str "new", .str "jump"]) ht2
      have ha2 := s2 _ _ ha1
      have s12 := s1.trans s2
      refine ifF (rfl) ⟨_, rfl, _, _, _, _, rfl, rfl, SqT.of ha2, at0, rfl, _, rfl, ?_⟩
      refine ifF (rfl) ⟨_, rfl, _, _, _, _, rfl, rfl, SqT.of ha2, at0, sz_of (by show 3 ≤ 100000; decide), fun t3 ht3 => ⟨t3, _, rfl, .inr (SqT.of upd_same), rfl, rfl, _, rfl, ?_⟩⟩
      have s3 := Same.new (o := .tup [.str "see", .str "if", .str "return"]) ht3
      have ha3 := s3 _ _ ha2
      have s13 := s12.trans s3
      refine ifF (rfl) ⟨_, rfl, 2, rfl, _, _, rfl, SqT.of ha3, slice2.2, fun t4 ht4 => ?_⟩
      have s4 := Same.new (o := .tup (cutV [.str "same", .str x, .str y, .str z] (some 2) none)) ht4
      refine ⟨t4, _, rfl, .inr (SqT.of upd_same), fun q hq => k q _ ((s13.trans s4).trans (Same.new hq)) ?_⟩
      rw [upd_same]
      exact congrArg (fun l => some (HO.lst l)) slice2.1
    | bin kk x y z =>
      refine ⟨_, rfl, _, _, _, _, rfl, rfl, SqT.of ha, at0, sz_of (by show 2 ≤ 100000; decide), fun t1 ht1 => ⟨t1, _, rfl, .inr (SqT.of upd_same), rfl, rfl, _, rfl, ?_⟩⟩
      have s1 := Same.new (o := .tup [.str "get", .str "put"]) ht1
      have ha1 := s1 _ _ ha
      refine ifF ((binR kk).1) ⟨_, rfl, _, _, _, _, rfl, rfl, SqT.of ha1, at0, sz_of (by show 4 ≤ 100000; decide), fun t2 ht2 => ⟨t2, _, rfl, .inr (SqT.of upd_same), rfl, rfl, _, rfl, ?_⟩⟩
      have s2 := Same.new (o := .tup [.str "number", .str "nil", .str "new", .str "jump"]) ht2
      have ha2 := s2 _ _ ha1
      have s12 := s1.trans s2
      refine ifF ((binR kk).2.1) ⟨_, rfl, _, _, _, _, rfl, rfl, SqT.of ha2, at0, rfl, _, rfl, ?_⟩
      refine ifF ((binR kk).2.2.2) ⟨_, rfl, _, _, _, _, rfl, rfl, SqT.of ha2, at0, sz_of (by show 3 ≤ 100000; decide), fun t3 ht3 => ⟨t3, _, rfl, .inr (SqT.of upd_same), rfl, rfl, _, rfl, ?_⟩⟩
      have s3 := Same.new (o := .tup [.str "see", .str "if", .str "return"]) ht3
      have ha3 := s3 _ _ ha2
      have s13 := s12.trans s3
      refine ifF ((binR kk).2.2.1) ⟨_, rfl, 2, rfl, _, _, rfl, SqT.of ha3, slice2.2, fun t4 ht4 => ?_⟩
      have s4 := Same.new (o := .tup (cutV [.str (binW kk), .str x, .str y, .str z] (some 2) none)) ht4
      refine ⟨t4, _, rfl, .inr (SqT.of upd_same), fun q hq => k q _ ((s13.trans s4).trans (Same.new hq)) ?_⟩
      rw [upd_same]
      exact congrArg (fun l => some (HO.lst l)) slice2.1

end
end W16
set_option Elab.async false
set_option linter.all false
set_option maxRecDepth 100000
set_option maxHeartbeats 4000000
namespace W16
open PySem PySem.Spec PyProof.Rows L2 RZ
section
variable {P : Program} {w : World} {K : PySem.W.Frag} {mg : Str → Option Value} {base : Heap}

theorem ix_listK {X : Cx} {K : PySem.W.Frag} (hk : X.K = K) : IxR X (rIxL K) := by
  subst hk
  exact ix_list
theorem op_in_seqK {X : Cx} {K : PySem.W.Frag} (hk : X.K = K) : OpR X (compareOp .In) (rIn K false) := by
  subst hk
  exact op_in_seq
/-! ### lists of lists of ints, compared with the empty list -/
def rowsD (ns : List (List Int)) : PyData := .list (ns.map fun n => .list (n.map .int))
theorem intsL_lay : ∀ {l : List Int}, PyData.canLayAll0 (l.map PyData.int) = true ∧ PyData.depthAll (l.map PyData.int) = 0
  | [] => ⟨rfl, rfl⟩
  | a :: l => by
    obtain ⟨h1, h2⟩ := intsL_lay (l := l)
    rw [List.map_cons, PyData.canLayAll0, PyData.depthAll, h1, h2, PyData.canLay0, PyData.depth]
    exact ⟨rfl, rfl⟩
theorem rowsL_lay : ∀ {ns : List (List Int)}, PyData.canLayAll0 (ns.map fun n => PyData.list (n.map .int)) = true ∧ PyData.depthAll (ns.map fun n => PyData.list (n.map .int)) ≤ 1
  | [] => ⟨rfl, by simp [PyData.depthAll]⟩
  | a :: l => by
    obtain ⟨h1, h2⟩ := rowsL_lay (ns := l)
    obtain ⟨h3, h4⟩ := intsL_lay (l := a)
    rw [List.map_cons, PyData.canLayAll0, PyData.depthAll, h1, PyData.canLay0, PyData.depth, h3, h4]
    exact ⟨rfl, by omega⟩
theorem rowsD_ok (ns : List (List Int)) : SeqAt.shaped (rowsD ns) = true := by
  obtain ⟨h1, h2⟩ := rowsL_lay (ns := ns)
  unfold SeqAt.shaped rowsD
  rw [PyData.canLay0, PyData.depth, h1]
  simp
  omega
theorem dpInts {H : Hp} {a : Addr} {n : List Int} (h : H a = some (.lst (n.map V.int))) : Dp K H (.ref a) (.list (n.map .int)) := by
  refine .lst (SqL.of h) ?_
  clear h
  induction n with
  | nil => exact .nil
  | cons x l ih => exact .cons (.int _) ih
theorem dpRows {H : Hp} {a : Addr} {ps : List Addr} {ns : List (List Int)} (h : H a = some (.lst (ps.map V.ref))) (hr : RowsI H ps ns) : Dp K H (.ref a) (rowsD ns) := by
  refine .lst (SqL.of h) ?_
  clear h
  induction hr with
  | nil => exact .nil
  | cons h t ih => exact .cons (dpInts h) ih
theorem eqv_nil : ∀ ns : List (List Int), PyData.eqv (rowsD ns) (rowsD []) = ns.isEmpty
  | [] => by simp [rowsD, PyData.eqv, PyData.eqvAll]
  | a :: l => by simp [rowsD, PyData.eqv, PyData.eqvAll]
theorem neNil {H : Hp} {Q : VK} {a b : Addr} {ps : List Addr} {ns : List (List Int)} (h : H a = some (.lst (ps.map V.ref))) (hr : RowsI H ps ns) (hb : H b = some (.lst [])) (q : Q (.bl (!ns.isEmpty)) H) : rNeD K (.ref a) (.ref b) H Q :=
  ⟨_, _, dpRows h hr, dpRows (ps := []) hb .nil, rowsD_ok _, rowsD_ok _, by rw [eqv_nil]; exact q⟩
theorem RowsI.mono {H H' : Hp} (e : Same H H') : ∀ {ps : List Addr} {ns : List (List Int)}, RowsI H ps ns → RowsI H' ps ns
  | _, _, .nil => .nil
  | _, _, .cons h t => .cons (e _ _ h) (t.mono e)
theorem rowsI_map {H : Hp} {f : Nat → Addr} {g : Nat → List Int} : ∀ {js : List Nat}, (∀ j ∈ js, H (f j) = some (.lst ((g j).map V.int))) → RowsI H (js.map f) (js.map g)
  | [], _ => .nil
  | j :: js, h => .cons (h j List.mem_cons_self) (rowsI_map fun i m => h i (List.mem_cons_of_mem _ m))
theorem nI_pints (w : List Nat) : w.map nI = (pints w).map V.int := by
  unfold pints
  rw [List.map_map]
  rfl
/-- the ways of a layer where they stand; their lists are not that at S -/
structure LayAt (F H : Hp) (S : Addr) (ps : List Addr) (L : List (List Nat)) : Prop where
  len : ps.length = L.length
  at_ : ∀ (j : Nat) a w, ps[j]? = some a → L[j]? = some w → H a = some (.lst (w.map nI)) ∧ a ≠ S ∧ F a = none
theorem LayAt.mono {F H H' : Hp} {S : Addr} {ps : List Addr} {L : List (List Nat)} (h : LayAt F H S ps L) (e : Same H H') : LayAt F H' S ps L := ⟨h.len, fun j a w e1 e2 => ⟨e _ _ (h.at_ j a w e1 e2).1, (h.at_ j a w e1 e2).2⟩⟩
theorem LayAt.rows {F H : Hp} {S : Addr} {ps : List Addr} {L : List (List Nat)} (h : LayAt F H S ps L) : RowsI H ps (L.map pints) := by
  have e1 : ps = (List.range L.length).map fun j => ps.getD j 0 := by
    apply List.ext_getElem
    · simp [h.len]
    · intro i h1 h2
      simp [h1]
  have e2 : L.map pints = (List.range L.length).map fun j => pints (L.getD j []) := by
    apply List.ext_getElem
    · simp
    · intro i h1 h2
      simp at h1
      simp [h1]
  rw [e1, e2]
  refine rowsI_map fun j m => ?_
  have hj := List.mem_range.mp m
  have hj2 : j < ps.length := by rw [h.len]; exact hj
  rw [List.getD_eq_getElem?_getD, List.getD_eq_getElem?_getD, List.getElem?_eq_getElem hj, List.getElem?_eq_getElem hj2]
  have q := (h.at_ j _ _ (List.getElem?_eq_getElem hj2) (List.getElem?_eq_getElem hj)).1
  rw [nI_pints] at q
  exact q
theorem grow_snoc {stop : List Nat → Bool} {nx : List Nat → List Nat} {p : List Nat} : ∀ (A : List (List Nat)) (s : List (List Nat) × List Nat), grow stop nx (A ++ [p]) s = (if stop p = true then grow stop nx A s else push p (nx p) (grow stop nx A s))
  | [], s => rfl
  | a :: A, s => grow_snoc A _
theorem scal_oS {s : Option Str} {x : Str} : scal (oS s) (.str x) = true := by cases s <;> rfl
theorem all_flatI (l : List Nat) : (l.map nI).all flatV = true := by
  rw [List.all_map]
  exact List.all_eq_true.mpr fun k _ => rfl
theorem inV_nI {g : Nat} : ∀ {l : List Nat}, inV (nI g) (l.map nI) = decide (g ∈ l)
  | [] => rfl
  | a :: l => by
    have ih := inV_nI (g := g) (l := l)
    have e : inV (nI g) ((a :: l).map nI) = (eqV (nI a) (nI g) || inV (nI g) (l.map nI)) := rfl
    rw [e, ih]
    by_cases c : a = g
    · subst c
      simp [eqV, nI]
    · have c3 : ¬ g = a := fun z => c z.symm
      have c4 : ¬ ((a : Int) = (g : Int)) := fun z => c (Int.ofNat.inj z)
      simp [eqV, nI, c, c3, c4]
theorem raw_perm {rws : List Rx} {i : Nat} : (rawNext rws i).Perm (nextOf rws i) := by
  unfold rawNext nextOf
  cases rws[i]? with
  | none => exact .refl _
  | some r =>
    cases r with
    | ifz x g =>
      show List.Perm [i + 1, g] (if i + 1 ≤ g then [i + 1, g] else [g, i + 1])
      split
      · exact .refl _
      · exact .swap _ _ _
    | _ => exact .refl _
theorem nextOf_asc (rws : List Rx) (i : Nat) : (nextOf rws i).Pairwise (· ≤ ·) := by
  have q := nx_asc rws [i]
  exact q
theorem int_sorted {ns : List Int} {l l' : List Nat} (p : ns.Perm (l.map fun (k : Nat) => (k : Int))) (s : ns.Pairwise (· ≤ ·)) (hl : l.Perm l') (hs : l'.Pairwise (· ≤ ·)) : ns = l'.map fun (k : Nat) => (k : Int) := by
  refine List.Perm.eq_of_pairwise (fun x y _ _ h1 h2 => Int.le_antisymm h1 h2) s ?_ (p.trans (hl.map _))
  rw [List.pairwise_map]
  exact hs.imp fun h => by omega
def spPathL : Sp := fun vs H Q _ => ∃ (ra : Addr) (i : Nat) (x : Str) (rs : List Addr) (rws : List Rx), vs = [.ref ra, .int i, .str x] ∧ H ra = some (.lst (rs.map V.ref)) ∧ RawRows H rs rws ∧ i < rws.length ∧ OkG rws ∧ (∀ r ∈ rws, r.reads.length ≤ 1000) ∧ ∀ v H', Same H H' → WayN H (wayOf rws x i) v H' → Q v H'
/-- at the head of the law's loop -/
def PathInv (H : Hp) (ra : Addr) (i : Nat) (x : Str) (rws : List Rx) (done : List (List Nat)) (σ : L2.St) (H1 : Hp) : Prop :=
  ∃ (L : List (List Nat)) (m : List Nat) (ps : List Addr) (La S : Addr) (v5 v6 v7 v8 : Option V), σ = [some (.ref ra), some (.int i), some (.str x), some (.ref La), some (.ref S), v5, v6, v7, v8] ∧ Same H H1 ∧ H S = none ∧ La ≠ S ∧ H1 La = some (.lst (ps.map V.ref)) ∧ LayAt H H1 S ps L ∧ H1 S = some (.lst (m.map nI)) ∧ Front rws x i done L m
theorem sc_L_path : FnScope ["_law_rows", "_law_at", "_law_title", "_law_layer", "_law_seen", "_law_hits", "_law_longer", "_law_path_here", "_law_later"] ["_law_rows", "_law_at", "_law_title"] (defScope s_L_path) := ⟨rfl, rfl, rfl, by decide +kernel, rfl, by decide +kernel, by decide +kernel⟩
theorem ok_L_path (T : Ctx w K mg) (H_L_sets : Has P w K mg base 1 "_law_sets" ["_law_step"] spSetsL) (H_L_reads : Has P w K mg base 1 "_law_reads" ["_law_step"] spReadsL) (H_L_next : Has P w K mg base 1 "_law_next" ["_law_rows", "_law_at"] spNextL) : Has P w K mg base 2 "_law_path" ["_law_rows", "_law_at", "_law_title"] spPathL := by
  obtain ⟨fd, F⟩ := T.D_L_path
  obtain ⟨fd_L_sets, G_L_sets, b_L_sets⟩ := H_L_sets.ex
  obtain ⟨fd_L_reads, G_L_reads, b_L_reads⟩ := H_L_reads.ex
  obtain ⟨fd_L_next, G_L_next, b_L_next⟩ := H_L_next.ex
  refine ⟨⟨fd, F.ok sc_L_path (fun vs H Q E h => ?_) (fun cdv A outer s H vs Q E hr h => ?_), F.bindsN fun _ _ _ _ _ _ us hl => match us, hl with | [_, _, _], _ => rfl⟩, F.kp, T.g_L_path⟩
  · obtain ⟨ra, i, x, rs, rws, rfl, hra, hR, hi, hO, hrd, k⟩ := h; rfl
  · obtain ⟨ra, i, x, rs, rws, rfl, hra, hR, hi, hO, hrd, k⟩ := h
    have hr_L_sets : Room 1 _ := hr.mono (by decide)
    have hr_L_reads : Room 1 _ := hr.mono (by decide)
    have hr_L_next : Room 1 _ := hr.mono (by decide)
    have hu := hu_of hr
    refine ⟨_, PSs.nox (pss_cons (ps_par (i := 3) (j := 4) (by rfl) sc_L_path.nd rfl rfl (by decide) rfl rfl (pa_cons (pe_lst (pa_cons (pe_lst (pa_cons (pv 1) pa_nil)) pa_nil)) (pa_cons (pe_lst (pa_cons (pv 1) pa_nil)) pa_nil)) (by rfl))
      (pss_cons (ps_while PassesOwn.never (pt_cmpR (op_neD hr.units) (pv 3) (pe_lst pa_nil) (nomark _))
      (pss_cons (ps_setLc (i := 5) (own := [("_law_path_here", 7)]) (g := gName 7) rfl sc_L_path.nd rfl rfl (sw_true rfl rfl rfl (by decide +kernel)) (pi_list (pv 3)) (blkOk_by (N := ["_law_rows", "_law_at", "_law_title", "_law_layer", "_law_seen", "_law_hits", "_law_longer", "_law_path_here", "_law_later"]) (sc := defScope s_L_path) (by decide +kernel)) (fun _ _ _ _ _ => (pg_name (i := 7) sc_L_path.nd rfl (Or.inl rfl))) (fun _ _ _ _ _ => (pts_one (pt_cmpR (op_in_seqK (K := K) rfl) (pv 2) (pe_call G_L_reads hr_L_reads (by rfl) H_L_reads.gl H_L_reads.kp b_L_reads .nil pass0 (pa_cons (pe_ix (ix_listK (K := K) rfl) (pv 0) (pe_ix (ix_listK (K := K) rfl) (pv 7) (pe_un un_neg pe_int) (fun _ _ => rfl)) (fun _ _ => rfl)) pa_nil)) rfl))) (fun _ _ _ _ _ => (pv 7)))
      (pss_cons (ps_if (pt_cmpR (op_neD hr.units) (pv 5) (pe_lst pa_nil) (nomark _)) (pss_one (ps_ret (pe_callB (cr_minRows rfl hr.units) (by rfl) T.f_min (by decide +kernel) (pa_cons (pv 5) pa_nil)))) pss_nil)
      (pss_cons (ps_set (i := 6) sc_L_path.nd rfl (Or.inl rfl) (pe_lst pa_nil))
      (pss_cons (ps_for PassesOwn.never rfl (pi_list (pe_callB (cr_sortedRows hr.units) (by rfl) T.f_sorted (by decide +kernel) (pa_cons (pv 3) pa_nil))) (pg_name (i := 7) sc_L_path.nd rfl (Or.inl rfl))
      (pss_one (ps_for PassesOwn.never rfl (pi_list (pe_callB cr_sorted (by rfl) T.f_sorted (by decide +kernel) (pa_cons (pe_call G_L_next hr_L_next (by rfl) H_L_next.gl H_L_next.kp b_L_next .nil pass0 (pa_cons (pv 0) (pa_cons (pe_ix (ix_listK (K := K) rfl) (pv 7) (pe_un un_neg pe_int) (fun _ _ => rfl)) pa_nil))) pa_nil))) (pg_name (i := 8) sc_L_path.nd rfl (Or.inl rfl))
      (pss_one (ps_if (PW.pt (pw_and (pt_cmpR op_ne (pe_call G_L_sets hr_L_sets (by rfl) H_L_sets.gl H_L_sets.kp b_L_sets .nil pass0 (pa_cons (pe_ix (ix_listK (K := K) rfl) (pv 0) (pe_ix (ix_listK (K := K) rfl) (pv 7) (pe_un un_neg pe_int) (fun _ _ => rfl)) (fun _ _ => rfl)) pa_nil)) (pv 2) (nomark _)) (pw_and1 (pt_cmpR op_notIn_seq (pv 8) (pv 4) rfl)))) (pss_cons (ps_expr (pe_bm PySem.F.plainAttrs_list PySem.F.slot_list_append PySem.F.type_list_append mt_append (pv 4) (pa_cons (pv 8) pa_nil)))
      (pss_one (ps_expr (pe_bm PySem.F.plainAttrs_list PySem.F.slot_list_append PySem.F.type_list_append mt_append (pv 6) (pa_cons (pe_op op_cat (pv 7) (pe_lst (pa_cons (pv 8) pa_nil))) pa_nil))))) pss_nil)))))
      (pss_one (ps_set (i := 3) sc_L_path.nd rfl (Or.inl rfl) (pv 6))))))))
      (pss_one (ps_ret pe_non)))), ?_⟩
    refine ⟨_, rfl, sz_of (by show 1 ≤ 100000; decide), fun w0 hw0 => ⟨sz_of (by show 1 ≤ 100000; decide), fun La hLa => ⟨_, rfl, sz_of (by show 1 ≤ 100000; decide), fun S hS => ?_⟩⟩⟩
    have q1 := Same.new (o := .lst [.int (i : Int)]) hw0
    have q2 := Same.new (o := .lst [.ref w0]) hLa
    have q3 := Same.new (o := .lst [.int (i : Int)]) hS
    have nLS : La ≠ S := ne_of_none upd_same hS
    have nwS : w0 ≠ S := ne_of_none (q2 _ _ upd_same) hS
    have hSH : H S = none := by
      cases z : H S with
      | none => rfl
      | some o => exact absurd ((q1.trans q2) _ _ z) (by rw [hS]; intro z; cases z)
    refine ⟨_, _, rfl, fun m σ H1 => ∃ done, m = rws.length + 1 - done.length ∧ PathInv H ra i x rws done σ H1, ⟨_, [], rfl, [[i]], [i], [w0], La, S, _, _, _, _, rfl, q1.trans (q2.trans q3), hSH, nLS, q3 _ _ upd_same, ⟨rfl, fun j a w e1 e2 => ?_⟩, upd_same, Front.start hO hi⟩, fun m σ H1 hinv => ?_⟩
    · cases j with
      | zero =>
        rw [← Option.some.inj e1, ← Option.some.inj e2]
        exact ⟨(q2.trans q3) _ _ upd_same, nwS, hw0⟩
      | succ j => simp at e1
    obtain ⟨done, rfl, L, mm, ps, La, S, v5, v6, v7, v8, rfl, s1, hSH, nLS, hLa1, LA, hS1, Fr⟩ := hinv
    have fits := Fr.fits
    have h40 := hO.le
    refine ⟨_, rfl, sz_of (by decide), fun e he => neNil (Same.new he _ _ hLa1) (LA.mono (Same.new he)).rows upd_same ⟨_, rfl, ?_⟩⟩
    have se := Same.new (o := .lst []) he
    cases L with
    | nil =>
      exact ifF rfl (k .non _ (s1.trans se) (by rw [Fr.nil]; rfl))
    | cons w0 L0 =>
      refine ifT rfl ?_
      refine ⟨PathInv H ra i x rws (done ++ w0 :: L0), fun σ' H' inv => ⟨_, ?_, _, rfl, inv⟩, ?_⟩
      · rw [List.length_append, List.length_cons]
        rw [List.length_cons] at fits
        omega
      generalize hLL : w0 :: L0 = L at *
      have hLne : L ≠ [] := by rw [← hLL]; exact List.cons_ne_nil _ _
      have sE := s1.trans se
      have LAe := LA.mono se
      have hLae := se _ _ hLa1
      have hSe := se _ _ hS1
      have hpl : ps.length = L.length := LA.len
      have seen := Fr.seen
      have lastOf : ∀ (j : Nat) w, L[j]? = some w → w ≠ [] ∧ w.getLastD 0 < rws.length := fun j w ej => by
        have m : w ∈ done ++ L := List.mem_append_right _ (List.mem_of_getElem? ej)
        exact ⟨seen.ne w m, seen.last w m⟩
      have wayAt : ∀ (j : Nat) a, ps[j]? = some a → ∃ w, L[j]? = some w := fun j a ej => by
        have hj : j < L.length := by
          rw [← hpl]
          exact (List.getElem?_eq_some_iff.mp ej).1
        exact ⟨_, List.getElem?_eq_getElem hj⟩
      refine ⟨_, rfl, La, rfl, ⟨_, SqL.of hLae⟩, fun D hD => ?_⟩
      refine lc_filt (walk_list (K := K) (a := La) (xs := ps.map V.ref)) hD (fun j => .ref (ps.getD j 0)) (fun j => rdW rws x (L.getD j [])) (by rw [List.length_map]; omega) (fun H2 s2 => SqL.of (s2 _ _ hLae)) (fun j H2 y H2' hj s2 hy Qe Qn qe qn => ?_) (fun H2 s2 hD2 => ?_)
      · obtain ⟨rfl, hy⟩ := hy
        obtain ⟨pa, hpa, rfl⟩ := map_get hy
        obtain ⟨w, hw⟩ := wayAt j pa hpa
        obtain ⟨hpw, _⟩ := (LAe.mono s2).at_ j pa w hpa hw
        obtain ⟨hne, hlt⟩ := lastOf j w hw
        have s02 := sE.trans s2
        have hra2 := s02 _ _ hra
        have hil : w.getLastD 0 < rs.length := by rw [hR.len]; exact hlt
        obtain ⟨l, hrow, hargs⟩ := (hR.mono s02).at_ _ _ _ (List.getElem?_eq_getElem hil) (List.getElem?_eq_getElem hlt)
        have e1 : ps.getD j 0 = pa := by
          rw [List.getD_eq_getElem?_getD, hpa]
          rfl
        have e2 : L.getD j [] = w := by
          rw [List.getD_eq_getElem?_getD, hw]
          rfl
        rw [e1, e2] at qe
        rw [e2] at qn
        refine ⟨rfl, _, rfl, _, rfl, _, rfl, 1, rfl, _, _, _, _, rfl, rfl, SqL.of hpw, getLast_at hne, _, _, _, _, rfl, rfl, SqL.of hra2, at_refs (List.getElem?_eq_getElem hil), _, _, rfl, ⟨l, hrow, hargs⟩, fun q H3 s3 hq => ?_⟩
        have er : rdW rws x w = decide (x ∈ rws[w.getLastD 0].reads) := by
          unfold rdW
          rw [List.getElem?_eq_getElem hlt]
        refine ⟨q, _, rfl, .inl (SqL.of hq), rfl, all_flat _, _, rfl, ?_⟩
        by_cases c : x ∈ rws[w.getLastD 0].reads
        · refine ifT (show (if false = true then !inV (.str x) (rws[w.getLastD 0].reads.map V.str) else inV (.str x) (rws[w.getLastD 0].reads.map V.str)) = true by rw [inV_str, decide_eq_true c]; rfl) ⟨_, rfl, qe _ s3 (by rw [er]; exact decide_eq_true c)⟩
        · exact ifF (show (if false = true then !inV (.str x) (rws[w.getLastD 0].reads.map V.str) else inV (.str x) (rws[w.getLastD 0].reads.map V.str)) = false by rw [inV_str, decide_eq_false c]; rfl) (qn _ s3 (by rw [er]; exact decide_eq_false c))
      rw [List.length_map, hpl] at hD2
      have s02 := sE.trans s2
      have LA2 := LAe.mono s2
      have hLa2 := s2 _ _ hLae
      have hS2 := s2 _ _ hSe
      have hitE : ((List.range L.length).filter fun j => rdW rws x (L.getD j [])).map (fun j => L.getD j []) = L.filter (rdW rws x) := filt_range [] (rdW rws x) L
      generalize hjs : ((List.range L.length).filter fun j => rdW rws x (L.getD j [])) = js at *
      have hjl : ∀ j ∈ js, j < L.length := fun j m => by
        rw [← hjs] at m
        exact List.mem_range.mp (List.mem_filter.mp m).1
      have hDm : H2 D = some (.lst ((js.map fun j => ps.getD j 0).map V.ref)) := by
        rw [hD2, List.map_map]
        rfl
      have hRI : RowsI H2 (js.map fun j => ps.getD j 0) (js.map fun j => pints (L.getD j [])) := rowsI_map fun j m => by
        have hj := hjl j m
        have hj2 : j < ps.length := by omega
        rw [List.getD_eq_getElem?_getD, List.getD_eq_getElem?_getD, List.getElem?_eq_getElem hj, List.getElem?_eq_getElem hj2]
        have q := (LA2.at_ j _ _ (List.getElem?_eq_getElem hj2) (List.getElem?_eq_getElem hj)).1
        rw [nI_pints] at q
        exact q
      have hRE : (js.map fun j => pints (L.getD j [])) = (L.filter (rdW rws x)).map pints := by
        rw [← hitE, List.map_map]
        rfl
      rw [hRE] at hRI
      obtain ⟨nl, Ly⟩ := Fr.lay
      have asc : (L.map pints).Pairwise (fun p q => p < q) := by
        rw [List.pairwise_map]
        exact Ly.asc
      refine ⟨_, rfl, sz_of (by decide), fun e2 he2 => neNil (Same.new he2 _ _ hDm) (hRI.mono (Same.new he2)) upd_same ⟨_, rfl, ?_⟩⟩
      have se2 := Same.new (o := .lst []) he2
      cases hits : L.filter (rdW rws x) with
      | cons wq wr =>
        rw [hits] at hRI
        refine ifT rfl ?_
        have hasc : ((wq :: wr).map pints).Pairwise (fun p q => p < q) := by
          rw [← hits, List.pairwise_map]
          exact Ly.asc.filter _
        cases hjj : js.map (fun j => ps.getD j 0) with
        | nil =>
          rw [hjj] at hRI
          cases hRI
        | cons pq pr =>
          rw [hjj] at hRI hDm
          refine ⟨_, rfl, D, pq, pr, pints wq, wr.map pints, rfl, SqL.of (se2 _ _ hDm), hRI.mono se2, (List.pairwise_cons.mp hasc).1, fun p hp hpn => ?_⟩
          refine k (.ref p) _ (s02.trans se2) ?_
          rw [Fr.hit hits]
          have hpF : H p = none := by
            have hp2 : p ∈ js.map fun j => ps.getD j 0 := by rw [hjj]; exact hp
            obtain ⟨j, mj, ej⟩ := List.mem_map.mp hp2
            have hj := hjl j mj
            have hj2 : j < ps.length := by omega
            have q := (LA2.at_ j _ _ (List.getElem?_eq_getElem hj2) (List.getElem?_eq_getElem hj)).2.2
            rw [List.getD_eq_getElem?_getD, List.getElem?_eq_getElem hj2] at ej
            rw [← ej]
            exact q
          exact ⟨p, rfl, hpF, by rw [nI_pints]; exact hpn⟩
      | nil =>
        refine ifF rfl ?_
        refine ⟨sz_of (by decide), fun Lo hLo => ?_⟩
        have sLo := Same.new (o := .lst []) hLo
        have s3 := se2.trans sLo
        have s03 := s02.trans s3
        have nLoS : Lo ≠ S := (ne_of_none (se2 _ _ hS2) hLo).symm
        have hLoH : H Lo = none := by
          cases z : H Lo with
          | none => rfl
          | some o => exact absurd ((s02.trans se2) _ _ z) (by rw [hLo]; intro z; cases z)
        have LA3 := LA2.mono s3
        have hLa3 := s3 _ _ hLa2
        have hS3 := s3 _ _ hS2
        refine ⟨_, rfl, La, ps, L.map pints, rfl, SqL.of hLa3, LA3.rows, asc, fun P hP => ?_⟩
        have sP := Same.new (o := .lst (ps.map V.ref)) hP
        have nPS : P ≠ S := (ne_of_none hS3 hP).symm
        have nPLo : P ≠ Lo := (ne_of_none upd_same hP).symm
        have LAP := LA3.mono sP
        have npLo : ∀ (j : Nat) a, ps[j]? = some a → a ≠ Lo := fun j a ej => by
          obtain ⟨w, hw⟩ := wayAt j a ej
          exact ne_of_none (se2 _ _ (LA2.at_ j a w ej hw).1) hLo
        have hSH3 := hSH
        refine ⟨P, rfl, ⟨_, SqL.of upd_same⟩, ?_⟩
        generalize hHP : upd (upd (upd H2 e2 (.lst [])) Lo (.lst [])) P (.lst (ps.map V.ref)) = HP at *
        have hPP : HP P = some (.lst (ps.map V.ref)) := by rw [← hHP, upd_same]
        have hSP : HP S = some (.lst (mm.map nI)) := sP _ _ hS3
        have hLoP : HP Lo = some (.lst []) := sP _ _ (by rw [upd_same])
        have s0P := s03.trans sP
        clear hHP
        refine for_it (walk_list (K := K) (a := P) (xs := ps.map V.ref)) (fun j σ H4 => ∃ (v7 v8 : Option V) (lps : List Addr), σ = [some (.ref ra), some (.int i), some (.str x), some (.ref La), some (.ref S), some (.ref D), some (.ref Lo), v7, v8] ∧ (∀ b u, HP b = some u → b ≠ S → b ≠ Lo → H4 b = some u) ∧ H4 Lo = some (.lst (lps.map V.ref)) ∧ LayAt H H4 S lps (grow (stopW rws x) (nxW rws) (L.take j) ([], mm)).1 ∧ (∀ a ∈ lps, a ≠ Lo) ∧ H4 S = some (.lst ((grow (stopW rws x) (nxW rws) (L.take j) ([], mm)).2.map nI))) ⟨_, _, [], rfl, fun b u q _ _ => q, hLoP, ⟨rfl, fun j a w e1 => by simp at e1⟩, (fun a m => by cases m), hSP⟩ (fun j σ H4 _ ⟨_, _, _, _, kp, _⟩ => SqL.of (kp _ _ hPP nPS nPLo)) ?_ ?_
        · rintro j y σ H4x H4 hj ⟨v7, v8, lps, rfl, kp, hLo4, LX, nLX, hS4⟩ ⟨rfl, hy⟩
          obtain ⟨pa, hpa, rfl⟩ := map_get hy
          obtain ⟨w, hw⟩ := wayAt j pa hpa
          obtain ⟨hpwP, npS, _⟩ := LAP.at_ j pa w hpa hw
          have hpw := kp _ _ hpwP npS (npLo j pa hpa)
          obtain ⟨hne, hlt⟩ := lastOf j w hw
          have neH : ∀ {b : Addr} {u : HO}, H b = some u → b ≠ S ∧ b ≠ Lo := fun q => ⟨ne_of_none q hSH, ne_of_none q hLoH⟩
          have sH4 : Same H H4 := fun b u q => kp _ _ (s0P _ _ q) (neH q).1 (neH q).2
          have hra4 := sH4 _ _ hra
          have hil : w.getLastD 0 < rs.length := by rw [hR.len]; exact hlt
          have hia := List.getElem?_eq_getElem hil
          have hix := List.getElem?_eq_getElem hlt
          have et : L.take (j + 1) = L.take j ++ [w] := take_snoc hw
          rw [et, grow_snoc]
          generalize hgg : grow (stopW rws x) (nxW rws) (L.take j) ([], mm) = s at *
          have est : stopW rws x w = decide (rws[w.getLastD 0].sets = some x) := by
            unfold stopW
            rw [hix]
          have hseen : Seen rws.length ((done ++ L) ++ s.1, s.2) := by
            have q := grow_seen (x := x) hO (done ++ L) (L.take j) [] mm (fun p mp => List.mem_append_right _ (List.mem_of_mem_take mp)) (by rw [List.append_nil]; exact Fr.seen)
            rw [hgg] at q
            exact q
          refine ⟨_, rfl, _, rfl, 1, rfl, _, _, _, _, rfl, rfl, SqL.of hpw, getLast_at hne, ?_⟩
          refine ⟨ra, w.getLastD 0, rs, rws, rfl, hra4, hR.mono sH4, hlt, fun q H5 s5 hq => ?_⟩
          have hrl : (rawNext rws (w.getLastD 0)).length < 64 := by
            unfold rawNext
            split <;> simp
          refine ⟨q, (rawNext rws (w.getLastD 0)).map fun (k : Nat) => (k : Int), rfl, SqL.of (by rw [hq, List.map_map]; rfl), by rw [List.length_map]; exact hrl, fun ns' P2 pm pso hP2 => ?_⟩
          have ens := int_sorted pm pso raw_perm (nextOf_asc rws _)
          subst ens
          have sP2 := s5.trans (Same.new (o := .lst (((nextOf rws (w.getLastD 0)).map fun (k : Nat) => (k : Int)).map V.int)) hP2)
          have hS5 := s5 _ _ hS4
          have hLo5 := s5 _ _ hLo4
          have nP2S : P2 ≠ S := (ne_of_none hS5 hP2).symm
          have nP2L : P2 ≠ Lo := (ne_of_none hLo5 hP2).symm
          have sH5 := sH4.trans sP2
          have hpw5 := sP2 _ _ hpw
          have LX5 := LX.mono sP2
          refine ⟨P2, rfl, ⟨_, SqL.of upd_same⟩, ?_⟩
          generalize hH6 : upd H5 P2 (.lst (((nextOf rws (w.getLastD 0)).map fun (k : Nat) => (k : Int)).map V.int)) = H6 at *
          have hP26 : H6 P2 = some (.lst ((nextOf rws (w.getLastD 0)).map nI)) := by
            rw [← hH6, upd_same, List.map_map]
            rfl
          have hS6 := sP2 _ _ hS4
          have hLo6 := sP2 _ _ hLo4
          clear hH6
          have npaLo := npLo j pa hpa
          have exs : (((nextOf rws (w.getLastD 0)).map fun (k : Nat) => (k : Int)).map V.int) = (nextOf rws (w.getLastD 0)).map nI := by
            rw [List.map_map]
            rfl
          refine for_it (walk_list (K := K) (a := P2) (xs := (nextOf rws (w.getLastD 0)).map nI)) (fun t σ H7 => ∃ (v8 : Option V) (lps : List Addr), σ = [some (.ref ra), some (.int i), some (.str x), some (.ref La), some (.ref S), some (.ref D), some (.ref Lo), some (.ref pa), v8] ∧ (∀ b u, H6 b = some u → b ≠ S → b ≠ Lo → H7 b = some u) ∧ H7 Lo = some (.lst (lps.map V.ref)) ∧ LayAt H H7 S lps (if stopW rws x w = true then s else push w ((nextOf rws (w.getLastD 0)).take t) s).1 ∧ (∀ a ∈ lps, a ≠ Lo) ∧ H7 S = some (.lst ((if stopW rws x w = true then s else push w ((nextOf rws (w.getLastD 0)).take t) s).2.map nI))) ⟨_, lps, rfl, fun b u q _ _ => q, hLo6, by simpa [push] using LX5, nLX, by simpa [push] using hS6⟩ (fun t σ H7 _ ⟨_, _, _, kq, _⟩ => SqL.of (kq _ _ hP26 nP2S nP2L)) ?_ ?_
          · rintro t y σ H7x H7 ht ⟨v8, lps, rfl, kq, hLo7, LY, nLY, hS7⟩ ⟨rfl, hy⟩
            obtain ⟨g, hg, rfl⟩ := map_get hy
            have sH7 : Same H H7 := fun b u q => kq _ _ (sH5 _ _ q) (neH q).1 (neH q).2
            have hra7 := sH7 _ _ hra
            have hpw7 := kq _ _ hpw5 npS npaLo
            obtain ⟨l, hrow, hargs⟩ := (hR.mono sH7).at_ _ _ _ hia hix
            have etk : (nextOf rws (w.getLastD 0)).take (t + 1) = (nextOf rws (w.getLastD 0)).take t ++ [g] := take_snoc hg
            refine ⟨_, rfl, _, rfl, 1, rfl, _, _, _, _, rfl, rfl, SqL.of hpw7, getLast_at hne, _, _, _, _, rfl, rfl, SqL.of hra7, at_refs hia, _, _, rfl, ⟨l, hrow, hargs⟩, fun H8 s8 => ?_⟩
            rw [etk]
            by_cases cs : rws[w.getLastD 0].sets = some x
            · have est2 : stopW rws x w = true := by rw [est]; exact decide_eq_true cs
              rw [if_pos est2] at LY hS7 ⊢
              rw [if_pos est2]
              refine ⟨_, rfl, scal_oS, _, rfl, ifF (by rw [cs]; simp [oS]) ?_⟩
              exact ⟨_, lps, rfl, fun b u q n1 n2 => s8 _ _ (kq b u q n1 n2), s8 _ _ hLo7, LY.mono s8, nLY, s8 _ _ hS7⟩
            · have est2 : stopW rws x w = false := by rw [est]; exact decide_eq_false cs
              have ne2 : ¬ stopW rws x w = true := by rw [est2]; decide
              rw [if_neg ne2] at LY hS7 ⊢
              rw [if_neg ne2, push_snoc]
              generalize huu : push w ((nextOf rws (w.getLastD 0)).take t) s = u at *
              have hS8 := s8 _ _ hS7
              have hLo8 := s8 _ _ hLo7
              have hpw8 := s8 _ _ hpw7
              have LY8 := LY.mono s8
              have kq8 : ∀ b v, H6 b = some v → b ≠ S → b ≠ Lo → H8 b = some v := fun b v q n1 n2 => s8 _ _ (kq b v q n1 n2)
              have useen : Seen rws.length ((done ++ L) ++ u.1, u.2) := by
                have wm : w ∈ done ++ L := List.mem_append_right _ (List.mem_of_getElem? hw)
                have q := push_seen (way := w) ((nextOf rws (w.getLastD 0)).take t) ((done ++ L) ++ s.1, s.2) (fun g m => next_lt hO hlt g (List.mem_of_mem_take m)) (hseen.short w (List.mem_append_left _ wm)) hseen
                rw [push_app, huu] at q
                exact q
              have ulen : ((done ++ L) ++ u.1).length ≤ rws.length := useen.le
              have ulen2 : ((done ++ L) ++ u.1).length = u.2.length := useen.len
              refine ⟨_, rfl, scal_oS, _, rfl, ifT (by
                cases hset : rws[w.getLastD 0].sets with
                | none => rfl
                | some z =>
                  rw [hset] at cs
                  simp [oS]
                  exact fun e => cs (by rw [e])) ?_⟩
              refine ⟨_, rfl, _, rfl, S, _, rfl, .inl (SqL.of hS8), rfl, all_flatI _, _, rfl, ?_⟩
              by_cases cm : g ∈ u.2
              · rw [if_pos cm]
                refine ifF (by rw [inV_nI, decide_eq_true cm]; rfl) ?_
                exact ⟨_, lps, rfl, kq8, hLo8, LY8, nLY, hS8⟩
              · rw [if_neg cm]
                refine ifT (by rw [inV_nI, decide_eq_false cm]; rfl) ?_
                refine ⟨_, rfl, .inl ⟨rfl, _, SqL.of hS8⟩, _, rfl, S, _, _, rfl, rfl, hS8, sz_lt (by rw [List.length_map]; omega), ?_⟩
                have hLo9 : upd H8 S (.lst (u.2.map nI ++ [nI g])) Lo = some (.lst (lps.map V.ref)) := by
                  rw [upd_ne nLoS]
                  exact hLo8
                have hpw9 : upd H8 S (.lst (u.2.map nI ++ [nI g])) pa = some (.lst (w.map nI)) := by
                  rw [upd_ne npS]
                  exact hpw8
                refine ⟨_, rfl, .inl ⟨rfl, _, SqL.of hLo9⟩, _, rfl, _, rfl, sz_of (by show 1 ≤ 100000; decide), fun l1 hl1 => ?_⟩
                have t1 := Same.new (o := .lst [.int (g : Int)]) hl1
                refine ⟨pa, l1, _, _, rfl, rfl, t1 _ _ hpw9, upd_same, ?_, fun np hnp => ?_⟩
                · have m1 : w.length ≤ ((done ++ L) ++ u.1).length := useen.short w (List.mem_append_left _ (List.mem_append_right _ (List.mem_of_getElem? hw)))
                  rw [List.length_map]
                  show w.length + 1 ≤ _
                  exact sz_of (by omega)
                have t2 := Same.new (o := .lst (w.map nI ++ [.int (g : Int)])) hnp
                have t12 := t1.trans t2
                have hLo11 := t12 _ _ hLo9
                have hnF : H np = none := by
                  cases z : H np with
                  | none => rfl
                  | some o =>
                    have z1 := s8 _ _ (sH7 _ _ z)
                    have z2 : np ≠ S := ne_of_none z hSH
                    have z3 : upd H8 S (.lst (u.2.map nI ++ [nI g])) np = some o := by rw [upd_ne z2]; exact z1
                    have z4 := t1 _ _ z3
                    exact absurd (hnp.symm.trans z4) (by intro y; cases y)
                have nnL : np ≠ Lo := (ne_of_none (t1 _ _ hLo9) hnp).symm
                have nnS : np ≠ S := (ne_of_none (t1 _ _ upd_same) hnp).symm
                have hlp : lps.length = u.1.length := LY8.len
                refine ⟨Lo, _, _, rfl, rfl, hLo11, sz_lt (by rw [List.length_map, hlp]; rw [List.length_append] at ulen; omega), ?_⟩
                refine ⟨_, lps ++ [np], rfl, fun b v q n1 n2 => ?_, by rw [upd_same, List.map_append]; rfl, ⟨by rw [List.length_append, List.length_append, hlp]; rfl, fun j2 a w2 e3 e4 => ?_⟩, fun a m => ?_, ?_⟩
                · rw [upd_ne n2]
                  refine t12 _ _ ?_
                  rw [upd_ne n1]
                  exact kq8 b v q n1 n2
                · by_cases c2 : j2 < lps.length
                  · rw [List.getElem?_append_left c2] at e3
                    rw [List.getElem?_append_left (by omega)] at e4
                    obtain ⟨z1, z2, z3⟩ := LY8.at_ j2 a w2 e3 e4
                    refine ⟨?_, z2, z3⟩
                    rw [upd_ne (nLY a (List.mem_of_getElem? e3))]
                    refine t12 _ _ ?_
                    rw [upd_ne z2]
                    exact z1
                  · have cj : j2 = lps.length := by
                      have := (List.getElem?_eq_some_iff.mp e3).1
                      rw [List.length_append, List.length_singleton] at this
                      omega
                    subst cj
                    rw [List.getElem?_append_right (Nat.le_refl _), Nat.sub_self] at e3
                    rw [List.getElem?_append_right (by omega), show lps.length - u.1.length = 0 by omega] at e4
                    rw [← Option.some.inj e3, ← Option.some.inj e4]
                    refine ⟨?_, nnS, hnF⟩
                    rw [upd_ne nnL, upd_same, List.map_append]
                    rfl
                · rcases List.mem_append.mp m with m | m
                  · exact nLY a m
                  · rw [List.mem_singleton.mp m]
                    exact nnL
                · rw [upd_ne nLoS.symm]
                  refine t12 _ _ ?_
                  rw [upd_same, List.map_append]
                  rfl
          · rintro σ H7 ⟨v8, lps, rfl, kq, hLo7, LY, nLY, hS7⟩
            rw [List.length_map, List.take_length] at LY hS7
            refine ⟨_, _, lps, rfl, fun b u q n1 n2 => kq _ _ (sP2 _ _ (kp b u q n1 n2)) n1 n2, hLo7, LY, nLY, hS7⟩
        · rintro σ H4 ⟨v7, v8, lps, rfl, kp, hLo4, LX, nLX, hS4⟩
          rw [List.length_map, hpl, List.take_length] at LX hS4
          refine ⟨_, rfl, ?_⟩
          refine ⟨_, _, lps, Lo, S, _, _, _, _, rfl, fun b u q => kp _ _ (s0P _ _ q) (ne_of_none q hSH) (ne_of_none q hLoH), hSH, nLoS, hLo4, LX, hS4, Fr.next hO hits⟩

end
end W16
set_option Elab.async false
set_option linter.all false
set_option maxRecDepth 100000
set_option maxHeartbeats 4000000
namespace W16
open PySem PySem.Spec PyProof.Rows L2 RZ
section
variable {P : Program} {w : World} {K : PySem.W.Frag} {mg : Str → Option Value} {base : Heap}

def namB (x : Str) : Bool := decide (0 < x.cps.size) && (decide (x.cps.size ≤ 8) && ((x.cps[0]?.any fun c => decide (c ∈ LETS.cps.toList)) && (x.cps.toList.all fun c => decide (c ∈ MRKS.cps.toList))))
theorem namB_ok {x : Str} (h : namB x = true) : Nam x := by
  unfold namB at h
  simp only [Bool.and_eq_true, decide_eq_true_eq] at h
  obtain ⟨h1, h2, h3, h4⟩ := h
  refine ⟨h1, h2, ?_, fun i c e => ?_⟩
  · cases e : x.cps[0]? with
    | none =>
      rw [e] at h3
      cases h3
    | some c =>
      rw [e] at h3
      exact ⟨c, rfl, of_decide_eq_true h3⟩
  · have m : c ∈ x.cps.toList := Array.mem_toList_iff.mpr (Array.mem_of_getElem? e)
    exact of_decide_eq_true (List.all_eq_true.mp h4 c m)
def kindB (q : Str) : Bool := decide (q = "number") || decide (q = "object")
theorem kindB_ok {q : Str} (h : kindB q = true) : IsKind q := by
  unfold kindB at h
  simp only [Bool.or_eq_true, decide_eq_true_eq] at h
  exact h
theorem pair_all (k : Nat) : ((pairN k).all fun q => namB q.1 && kindB q.2 && PyData.strOk q.1) = true := by
  match k with
  | 0 => decide +kernel
  | 1 => decide +kernel
  | n + 2 =>
    show ((pairN 2).all fun q => namB q.1 && kindB q.2 && PyData.strOk q.1) = true
    decide +kernel
theorem pair_ok {k : Nat} {q : Str × Str} (m : q ∈ pairN k) : Nam q.1 ∧ IsKind q.2 ∧ PyData.strOk q.1 = true := by
  have h := List.all_eq_true.mp (pair_all k) q m
  simp only [Bool.and_eq_true] at h
  exact ⟨namB_ok h.1.1, kindB_ok h.1.2, h.2⟩
theorem pair_nd (k : Nat) : ((pairN k).map Prod.fst).Nodup := by
  match k with
  | 0 => decide +kernel
  | 1 => decide +kernel
  | n + 2 =>
    show ((pairN 2).map Prod.fst).Nodup
    decide +kernel
theorem pair_fst (k : Nat) : (pairN k).map Prod.fst = numN k ++ objN k := by
  unfold pairN
  rw [List.map_append, List.map_map, List.map_map]
  congr 1 <;> exact List.map_id _
theorem tit_nam (k : Nat) : Nam (tit k) := by
  match k with
  | 0 => exact namB_ok (by decide +kernel)
  | 1 => exact namB_ok (by decide +kernel)
  | n + 2 => exact namB_ok (x := "h") (by decide +kernel)
theorem RowOk.swap {c : Str} {fl : List (Str × Str)} {fds fds' : List FdT} {f f' : FdT} (e1 : f'.ns = f.ns) (e2 : f'.ms = f.ms) (e3 : f'.res = f.res) (h : ∀ (j : Nat) g, fds[j]? = some g → ∃ g', fds'[j]? = some g' ∧ g'.nm = g.nm ∧ g'.ns = g.ns ∧ g'.res = g.res) {r : Rx} (hr : RowOk c fl fds f r) : RowOk c fl fds' f' r := by
  have ko : ∀ {x q : Str}, KO f x q → KO f' x q := fun m => by
    unfold KO at m ⊢
    rw [e1, e2]
    exact m
  cases r with
  | num x n => exact ⟨ko hr.1, hr.2⟩
  | nil x => exact ko hr
  | copy x y =>
    obtain ⟨q, h1, h2⟩ := hr
    exact ⟨q, ko h1, ko h2⟩
  | bin kk x y z => exact ⟨ko hr.1, ko hr.2.1, ko hr.2.2⟩
  | same x y z =>
    obtain ⟨q, h1, h2, h3⟩ := hr
    exact ⟨q, ko h1, ko h2, ko h3⟩
  | new x d => exact ⟨ko hr.1, hr.2⟩
  | get x y g =>
    obtain ⟨q, h1, h2, h3⟩ := hr
    exact ⟨q, ko h1, ko h2, h3⟩
  | put x g y =>
    obtain ⟨q, h1, h2, h3⟩ := hr
    exact ⟨q, ko h1, ko h2, h3⟩
  | call x F as =>
    obtain ⟨j, g, h1, h2, h3, h4, h5⟩ := hr
    obtain ⟨g', k1, k2, k3, k4⟩ := h j g h1
    exact ⟨j, g', k1, by rw [k2, h2], by rw [k3, h3], fun i y q a b => ko (h4 i y q a (by rw [← k3]; exact b)), by rw [k4]; exact ko h5⟩
  | see x =>
    obtain ⟨q, h1⟩ := hr
    exact ⟨q, ko h1⟩
  | ifz x g => exact ko hr
  | jump g => trivial
  | ret x =>
    show KO f' x f'.res
    rw [e3]
    exact ko hr
theorem FunOk.nam {hs : List FdT} {h f : FdT} {most k : Nat} (F : FunOk hs h most f) (O : HeadOk k h) : ∀ q ∈ f.ns ++ f.ms, Nam q.1 ∧ IsKind q.2 := fun q m => by
  rw [F.ns, F.ms] at m
  have z := pair_ok (O.pm.mem_iff.mp m)
  exact ⟨z.1, z.2.1⟩
theorem FunOk.nd {hs : List FdT} {h f : FdT} {most k : Nat} (F : FunOk hs h most f) (O : HeadOk k h) : ((f.ns ++ f.ms).map Prod.fst).Nodup := by
  rw [F.ns, F.ms]
  exact ((O.pm.map Prod.fst).nodup_iff).mpr (pair_nd k)
theorem FunOk.len {hs : List FdT} {h f : FdT} {most k : Nat} (F : FunOk hs h most f) (O : HeadOk k h) : f.ns.length ≤ 4 ∧ f.ms.length ≤ 8 ∧ f.vars.length = 5 := by
  have q := O.pm.length_eq
  rw [List.length_append, pair_len] at q
  unfold FdT.vars
  rw [F.ns, F.ms, List.length_map, List.length_append]
  have := O.l4
  omega
theorem FunOk.perm {hs : List FdT} {h f : FdT} {most k : Nat} (F : FunOk hs h most f) (O : HeadOk k h) : f.vars.Perm (numN k ++ objN k) := by
  unfold FdT.vars
  rw [F.ns, F.ms, ← pair_fst]
  exact O.pm.map _
theorem FunOk.okG {hs : List FdT} {h f : FdT} {most : Nat} (F : FunOk hs h most f) (hm : most ≤ 40) : OkG f.rws := ⟨fun r m => (F.rows r m).2.1, F.last, Nat.le_trans F.le hm⟩
theorem FunOk.fine {hs : List FdT} {h f : FdT} {most k : Nat} (F : FunOk hs h most f) (O : HeadOk k h) (hm : most ≤ 40) : Fine f := ⟨F.okG hm, fun r m => Nat.le_trans (F.rows r m).2.2 (by decide), by rw [(F.len O).2.2]; decide⟩
theorem FunOk.fd {hs fds : List FdT} {h f : FdT} {most k : Nat} (F : FunOk hs h most f) (O : HeadOk k h) (hm : most ≤ 40) (hh : ∀ (j : Nat) g, hs[j]? = some g → ∃ g', fds[j]? = some g' ∧ g'.nm = g.nm ∧ g'.ns = g.ns ∧ g'.res = g.res) : FdOk "cell" fldC fds f :=
  ⟨by rw [F.nm, O.nm]; exact tit_nam k, by rw [F.res]; exact O.kd, F.nam O, F.nd O, (F.len O).1, (F.len O).2.1, fun r m => (F.rows r m).1.swap F.ns F.ms F.res hh, F.okG hm⟩
theorem FunOk.pos {hs : List FdT} {h f : FdT} {most : Nat} (F : FunOk hs h most f) : 1 ≤ f.rws.length := by
  obtain ⟨r0, rl, e, _⟩ := F.last
  rw [e]
  simp
theorem EntryX.entry {l e pa oa ra : Addr} {H : Hp} {hs : List FdT} {h f : FdT} {ps qs rs : List Addr} {most k : Nat} (E : EntryX l H e f pa oa ra ps qs rs) (F : FunOk hs h most f) (O : HeadOk k h) (hm : most ≤ 40) : EntryR H e f := by
  have hl := E.len
  have h1 := F.pos
  have h2 := F.le
  refine ⟨pa, oa, ra, ps, qs, rs, ⟨E.he, by rw [F.nm, O.nm]; exact tit_nam k, by rw [F.res]; exact O.kd, E.hpa, E.p1, E.hoa, E.p2, F.nam O, F.nd O, (F.len O).1, (F.len O).2.1, E.hra, by rw [List.length_map]; omega, by rw [List.length_map]; omega⟩, E.len, fun i a r e1 e2 => ?_⟩
  obtain ⟨l, q1, q2, _⟩ := E.rw i a r e1 e2
  exact ⟨l, q1, q2⟩
theorem EntryX.raw {l e pa oa ra : Addr} {H : Hp} {f : FdT} {ps qs rs : List Addr} (E : EntryX l H e f pa oa ra ps qs rs) : RawRows H rs f.rws := ⟨E.len, fun i a r e1 e2 => by
  obtain ⟨l, q1, q2, _⟩ := E.rw i a r e1 e2
  exact ⟨l, q1, q2⟩⟩
def spClasses : Sp := fun vs H Q _ => vs = [] ∧ ∀ (ca e la : Addr) (ps : List Addr) (H' : Hp), Same H H' → H' ca = some (.lst [.ref e]) → H' e = some (.tup [.str "cell", .ref la]) → H' la = some (.lst (ps.map V.ref)) → PairsG H' ps fldC → Q (.ref ca) H'
def spRight : Sp := fun vs H Q _ => ∃ p : Addr, vs = [.ref p] ∧ WellAt H p ∧ ∀ H', But p H H' → WellAt H' p → Q (.bl true) H'
theorem mergeK_new : ∀ (l2 l1 : List (Key × V)), ((l1 ++ l2).map Prod.fst).Nodup → mergeK l1 l2 = l1 ++ l2
  | [], l1, _ => by
    rw [List.append_nil]
    rfl
  | a :: r, l1, h => by
    have e : l1 ++ a :: r = (l1 ++ [a]) ++ r := by simp
    have h1 : ∀ q ∈ l1, q.1 ≠ a.1 := fun q m z => by
      rw [List.map_append, List.map_cons] at h
      exact (List.nodup_append.mp h).2.2 q.1 (List.mem_map.mpr ⟨q, m, rfl⟩) a.1 List.mem_cons_self z
    show mergeK (putK l1 a.1 a.2) r = _
    rw [putK_new h1, e]
    exact mergeK_new r (l1 ++ [a]) (by rw [← e]; exact h)
/-- names with values -/
def kvZ (ys : List Str) (vs : List V) : List (Key × V) := (ys.zip vs).map fun q => (Sum.inr q.1, q.2)
theorem kvZ_keys : ∀ {ys : List Str} {vs : List V}, ys.length = vs.length → (kvZ ys vs).map Prod.fst = ys.map fun y => (Sum.inr y : Key)
  | [], [], _ => rfl
  | [], _ :: _, h => by cases h
  | _ :: _, [], h => by cases h
  | y :: ys, v :: vs, h => congrArg (_ :: ·) (kvZ_keys (ys := ys) (vs := vs) (by simpa using h))
theorem kvZ_at {ys : List Str} {vs : List V} {i : Nat} {y : Str} {v : V} (nd : ys.Nodup) (h1 : ys[i]? = some y) (h2 : vs[i]? = some v) : valV (kvZ ys vs) (Sum.inr y : Key) = some v := by
  induction ys generalizing vs i with
  | nil => simp at h1
  | cons a l ih =>
    cases vs with
    | nil => simp at h2
    | cons b vs =>
      obtain ⟨n1, n2⟩ := List.nodup_cons.mp nd
      cases i with
      | zero =>
        have e1 : a = y := Option.some.inj h1
        have e2 : b = v := Option.some.inj h2
        unfold kvZ valV
        rw [List.zip_cons_cons, List.map_cons, List.find?_cons_of_pos (by simp [e1]), e2]
        rfl
      | succ i =>
        have h1' : l[i]? = some y := by simpa using h1
        have k := ih n2 h1' (vs := vs) (by simpa using h2)
        have c : ¬ a = y := fun z => n1 (by rw [z]; exact List.mem_of_getElem? h1')
        unfold kvZ valV at k ⊢
        rw [List.zip_cons_cons, List.map_cons, List.find?_cons_of_neg (by simpa using c)]
        exact k
/-- elements of which something is known that lasts -/
theorem lc_exP {J : It} {n : Nat} {G : Hp → Prop} {Y : Nat → Hp → V → Hp → Prop} (w : Walk J n G Y) {g : TG} {te : TE} {vs : List Nat} {σ : L2.St} {H0 : Hp} {D : Addr} {Qd : Hp → Prop} (hD : H0 D = none) (P : Nat → V → Hp → Prop) (hm : ∀ i v H H', (∀ b u, H b = some u → b ≠ D → H' b = some u) → H D ≠ none → P i v H → P i v H') (hn : n < 100000)
    (hG : ∀ H, Same H0 H → G H)
    (hs : ∀ i H x H', i < n → Same H0 H → H D ≠ none → Y i H x H' → ∀ Qe : VK, (∀ v H4, Same H H4 → P i v H4 → Qe v H4) → g x (wipe σ vs) H' fun σ2 H2 => wipe σ2 vs = wipe σ vs ∧ te σ2 H2 Qe)
    (hd : ∀ (H : Hp) (xs : List V), Same H0 H → xs.length = n → (∀ (i : Nat) v, xs[i]? = some v → P i v H) → H D = some (.lst xs) → Qd H) :
    ∃ W : Nat → Nat → Hp → Prop, (∃ m, W 0 m (upd H0 D (.lst []))) ∧ ∀ i m H, W i m H →
      (J.stop i H ∧ Qd H) ∨ (J.go i H ∧ ∃ Nx : Hp → Prop, (∀ H', Nx H' → ∃ m', m' < m ∧ W (i + 1) m' H') ∧ ∀ x H', J.yld i H x H' → g x (wipe σ vs) H' fun σ2 H2 => wipe σ2 vs = wipe σ vs ∧ tYes σ2 H2 fun b H3 =>
        if b = true then te σ2 H3 fun y H4 => ∃ acc, H4 D = some (.lst acc) ∧ acc.length < sizeLine ∧ Nx (upd H4 D (.lst (acc ++ [y]))) else Nx H3) := by
  refine lc_it w (fun i H => Same H0 H ∧ ∃ xs : List V, xs.length = i ∧ (∀ (j : Nat) v, xs[j]? = some v → P j v H) ∧ H D = some (.lst xs)) ⟨Same.new hD, [], rfl, fun j v e => by simp at e, upd_same⟩ (fun i H _ p => hG H p.1) (fun i x H H' hi q y => ?_) (fun H q => ?_)
  · obtain ⟨s1, xs, hl, hx, hDD⟩ := q
    have q := hs i H x H' hi s1 (by rw [hDD]; intro z; cases z) y (fun y H4 => ∃ acc, H4 D = some (.lst acc) ∧ acc.length < sizeLine ∧ (Same H0 (upd H4 D (.lst (acc ++ [y]))) ∧ ∃ xs : List V, xs.length = i + 1 ∧ (∀ (j : Nat) v, xs[j]? = some v → P j v (upd H4 D (.lst (acc ++ [y])))) ∧ upd H4 D (.lst (acc ++ [y])) D = some (.lst xs))) (fun v H4 s4 pv => ?_)
    · exact q
    · have hD4 := s4 _ _ hDD
      refine ⟨xs, hD4, sz_lt (by omega), Same.mut (s1.trans s4) hD, xs ++ [v], by rw [List.length_append, hl]; rfl, fun j z m => ?_, upd_same⟩
      have kp : ∀ b u, H4 b = some u → b ≠ D → upd H4 D (.lst (xs ++ [v])) b = some u := fun b u q n => by
        rw [upd_ne n]
        exact q
      by_cases c : j < xs.length
      · rw [List.getElem?_append_left c] at m
        refine hm j z H4 _ kp (by rw [hD4]; intro z; cases z) (hm j z H H4 (fun b u q _ => s4 _ _ q) (by rw [hDD]; intro z; cases z) (hx j z m))
      · have cj : j = xs.length := by
          have := (List.getElem?_eq_some_iff.mp m).1
          rw [List.length_append, List.length_singleton] at this
          omega
        subst cj
        rw [List.getElem?_append_right (Nat.le_refl _), Nat.sub_self] at m
        rw [← Option.some.inj m, hl]
        exact hm i v H4 _ kp (by rw [hD4]; intro z; cases z) pv
  · obtain ⟨s1, xs, hl, hx, hDD⟩ := q
    exact hd H xs s1 hl hx hDD
theorem sc_L_classes : FnScope [] [] (defScope s_L_classes) := ⟨rfl, rfl, rfl, by decide +kernel, rfl, by decide +kernel, by decide +kernel⟩
theorem ok_L_classes (T : Ctx w K mg) : Has P w K mg base 1 "_law_classes" [] spClasses := by
  obtain ⟨fd, F⟩ := T.D_L_classes
  refine ⟨⟨fd, F.ok sc_L_classes (fun vs H Q E h => ?_) (fun cdv A outer s H vs Q E hr h => ?_), F.bindsN fun _ _ _ _ _ _ us hl => match us, hl with | [], _ => rfl⟩, F.kp, T.g_L_classes⟩
  · obtain ⟨rfl, k⟩ := h; rfl
  · obtain ⟨rfl, k⟩ := h
    have hu := hu_of hr
    refine ⟨_, PSs.nox (pss_one (ps_ret (pe_lst (pa_cons (pe_tup (pa_cons pe_str (pa_cons (pe_lst (pa_cons (pe_tup (pa_cons pe_str (pa_cons pe_str pa_nil))) (pa_cons (pe_tup (pa_cons pe_str (pa_cons pe_str pa_nil))) pa_nil))) pa_nil))) pa_nil)))), ?_⟩
    refine ⟨sz_of (by show 2 ≤ 100000; decide), fun t1 h1 => ⟨sz_of (by show 2 ≤ 100000; decide), fun t2 h2 => ⟨sz_of (by show 2 ≤ 100000; decide), fun la h3 => ⟨sz_of (by show 2 ≤ 100000; decide), fun e h4 => ⟨sz_of (by show 1 ≤ 100000; decide), fun ca h5 => ?_⟩⟩⟩⟩⟩
    have s1 := Same.new (o := .tup [.str "item", .str "number"]) h1
    have s2 := Same.new (o := .tup [.str "next", .str "object"]) h2
    have s3 := Same.new (o := .lst [.ref t1, .ref t2]) h3
    have s4 := Same.new (o := .tup [.str "cell", .ref la]) h4
    have s5 := Same.new (o := .lst [.ref e]) h5
    have z2 := s3.trans (s4.trans s5)
    have z1 := s2.trans z2
    refine k ca e la [t1, t2] _ (s1.trans z1) upd_same (s5 _ _ upd_same) ((s4.trans s5) _ _ upd_same) ⟨rfl, fun i a q e1 e2 => ?_⟩
    match i, e1, e2 with
    | 0, e1, e2 =>
      rw [← Option.some.inj e1, ← Option.some.inj e2]
      exact z1 _ _ upd_same
    | 1, e1, e2 =>
      rw [← Option.some.inj e1, ← Option.some.inj e2]
      exact z2 _ _ upd_same

end
end W16
set_option Elab.async false
set_option linter.all false
set_option maxRecDepth 100000
set_option maxHeartbeats 4000000
namespace W16
open PySem PySem.Spec PyProof.Rows L2 RZ
section
variable {P : Program} {w : World} {K : PySem.W.Frag} {mg : Str → Option Value} {base : Heap}

theorem threeF {α : Type} : ∀ {l : List α}, l.length = 3 → ∃ x y z, l = [x, y, z]
  | [x, y, z], _ => ⟨x, y, z, rfl⟩
theorem self_eq {d : PyData} (h : SeqAt.shaped d = true) : PyData.eqv d d = true := SeqAt.eqv_refl d (SeqAt.canLay_of_shaped h)
theorem neStr {H : Hp} {Q : VK} {a b : Addr} {l : List Str} (h : ∀ x ∈ l, PyData.strOk x = true) (ha : H a = some (.lst (l.map V.str))) (hb : H b = some (.lst (l.map V.str))) (q : Q (.bl false) H) : rNeD K (.ref a) (.ref b) H Q :=
  ⟨_, _, dpStr ha, dpStr hb, strs_ok h, strs_ok h, by rw [self_eq (strs_ok h)]; exact q⟩
theorem intsS_ok (n : List Int) : SeqAt.shaped (.list (n.map PyData.int)) = true := by
  obtain ⟨h1, h2⟩ := intsL_lay (l := n)
  unfold SeqAt.shaped
  rw [PyData.canLay0, PyData.depth, h1, h2]
  rfl
theorem neWay {H F : Hp} {Q : VK} {o : Option (List Nat)} {u v : V} (hu : WayN F o u H) (hv : WayV o v H) (q : Q (.bl false) H) : rNeD K u v H Q := by
  cases o with
  | none =>
    have e1 : u = .non := hu
    have e2 : v = .non := hv
    rw [e1, e2]
    exact ⟨_, _, .non, .non, by decide, by decide, by rw [self_eq (by decide)]; exact q⟩
  | some w =>
    obtain ⟨a, rfl, _, ha⟩ := hu
    obtain ⟨b, rfl, hb⟩ := hv
    rw [nI_pints] at ha hb
    exact ⟨_, _, dpInts ha, dpInts hb, intsS_ok _, intsS_ok _, by rw [self_eq (intsS_ok _)]; exact q⟩
theorem WayV.mono {o : Option (List Nat)} {v : V} {H H' : Hp} (h : WayV o v H) (e : Same H H') : WayV o v H' := by
  cases o with
  | none => exact h
  | some w =>
    obtain ⟨a, h1, h2⟩ := h
    exact ⟨a, h1, e _ _ h2⟩
/-- a way in a list other than D -/
def WayD (D : Addr) (o : Option (List Nat)) (v : V) (H : Hp) : Prop := WayN (upd (fun _ => none) D (.lst [])) o v H
theorem WayN.toD {F H : Hp} {D : Addr} {o : Option (List Nat)} {v : V} (h : WayN F o v H) (d : F D ≠ none) : WayD D o v H := by
  cases o with
  | none => exact h
  | some w =>
    obtain ⟨a, h1, h2, h3⟩ := h
    exact ⟨a, h1, by rw [upd_ne (fun z => d (by rw [← z]; exact h2))], h3⟩
theorem WayN.fwd {F H H' : Hp} {o : Option (List Nat)} {v : V} (h : WayN F o v H) (e : Same H H') : WayN F o v H' := by
  cases o with
  | none => exact h
  | some w =>
    obtain ⟨a, h1, h2, h3⟩ := h
    exact ⟨a, h1, h2, e _ _ h3⟩
theorem WayD.keep {D : Addr} {o : Option (List Nat)} {v : V} {H H' : Hp} (h : WayD D o v H) (k : ∀ b u, H b = some u → b ≠ D → H' b = some u) : WayD D o v H' := by
  cases o with
  | none => exact h
  | some w =>
    obtain ⟨a, h1, h2, h3⟩ := h
    exact ⟨a, h1, h2, k _ _ h3 (fun z => by rw [z, upd_same] at h2; cases h2)⟩
theorem WayD.way {D : Addr} {o : Option (List Nat)} {v : V} {H : Hp} (h : WayD D o v H) : WayV o v H := by
  cases o with
  | none => exact h
  | some w =>
    obtain ⟨a, h1, _, h3⟩ := h
    exact ⟨a, h1, h3⟩
/-- what stands in the list of pairs that the law's dict is made of -/
def CellP (D : Addr) (ys : List Str) (o : Str → Option (List Nat)) (t : Nat) (v : V) (H : Hp) : Prop := ∀ z, ys[t]? = some z → ∃ (q : Addr) (u : V), v = .ref q ∧ q ≠ D ∧ H q = some (.tup [.str z, u]) ∧ WayD D (o z) u H
theorem CellP.keep {D : Addr} {ys : List Str} {o : Str → Option (List Nat)} {t : Nat} {v : V} {H H' : Hp} (h : CellP D ys o t v H) (k : ∀ b u, H b = some u → b ≠ D → H' b = some u) : CellP D ys o t v H' := fun z ez => by
  obtain ⟨q, u, h1, h2, h3, h4⟩ := h z ez
  exact ⟨q, u, h1, h2, k _ _ h3 h2, h4.keep k⟩
theorem cells {D : Addr} {o : Str → Option (List Nat)} {H : Hp} : ∀ (ys : List Str) (xs : List V), xs.length = ys.length → (∀ (i : Nat) v, xs[i]? = some v → CellP D ys o i v H) → ∃ (qs : List Addr) (us : List V), xs = qs.map V.ref ∧ us.length = ys.length ∧ Paired (fun (p : Addr) (kv : Key × V) => SqT K H p [kV kv.1, kv.2]) qs (kvZ ys us) ∧ ∀ (i : Nat) y, ys[i]? = some y → ∃ u, us[i]? = some u ∧ WayV (o y) u H
  | [], [], _, _ => ⟨[], [], rfl, rfl, .nil, fun i y e => by simp at e⟩
  | [], _ :: _, hl, _ => by cases hl
  | _ :: _, [], hl, _ => by cases hl
  | y :: ys, x :: xs, hl, h => by
    obtain ⟨q, u, h1, _, h3, h4⟩ := h 0 x rfl y rfl
    obtain ⟨qs, us, e1, e2, e3, e4⟩ := cells ys xs (by simpa using hl) (fun i v e z ez => h (i + 1) v (by simpa using e) z (by simpa using ez))
    refine ⟨q :: qs, u :: us, by rw [h1, e1]; rfl, by rw [List.length_cons, List.length_cons, e2], .cons (SqT.of h3) e3, fun i z ez => ?_⟩
    cases i with
    | zero =>
      have e : y = z := Option.some.inj ez
      rw [← e]
      exact ⟨u, rfl, h4.way⟩
    | succ i =>
      obtain ⟨u2, a, b⟩ := e4 i z (by simpa using ez)
      exact ⟨u2, by simpa using a, b⟩
theorem look_len {rws : List Rx} {x : Str} (hO : OkG rws) : ∀ (f : Nat) (s : List (List Nat) × List Nat) (i : Nat) (w : List Nat), Seen rws.length s → look rws x f s i = some w → w.length ≤ rws.length
  | 0, _, _, _, _, e => by cases e
  | f + 1, s, i, w, hs, e => by
    unfold look at e
    cases e1 : s.1[i]? with
    | none => rw [e1] at e; cases e
    | some way =>
      rw [e1] at e
      dsimp only at e
      have hm := List.mem_of_getElem? e1
      cases e2 : rws[way.getLastD 0]? with
      | none => rw [e2] at e; cases e
      | some r =>
        rw [e2] at e
        dsimp only at e
        by_cases c1 : x ∈ r.reads
        · rw [if_pos c1] at e
          rw [← Option.some.inj e]
          exact Nat.le_trans (hs.short _ hm) hs.le
        · rw [if_neg c1] at e
          by_cases c2 : r.sets = some x
          · rw [if_pos c2] at e
            exact look_len hO f _ _ w hs e
          · rw [if_neg c2] at e
            exact look_len hO f _ _ w (push_seen _ _ (next_lt hO (hs.last _ hm)) (hs.short _ hm) hs) e
theorem wayOf_len {rws : List Rx} {x : Str} {i : Nat} {w : List Nat} (hO : OkG rws) (hi : i < rws.length) (e : wayOf rws x i = some w) : w.length ≤ rws.length := look_len hO _ _ _ w (Seen.one hi) e
theorem keys_nd {ys : List Str} (nd : ys.Nodup) : (ys.map fun y => (Sum.inr y : Key)).Nodup := by
  induction ys with
  | nil => exact List.nodup_nil
  | cons a l ih =>
    obtain ⟨n1, n2⟩ := List.nodup_cons.mp nd
    refine List.nodup_cons.mpr ⟨fun m => ?_, ih n2⟩
    obtain ⟨b, mb, e⟩ := List.mem_map.mp m
    exact n1 (by rw [← Sum.inr.inj e]; exact mb)
theorem passNo {X : Cx} : Passes (L2.CX X.prog X.w) X (fun _ _ _ => False) := fun _ _ _ _ _ _ _ ⟨_, _, _, _, _, _, _, _, _, _, _, _, h⟩ => h.elim
theorem ix_tupK {X : Cx} {K : PySem.W.Frag} (hk : X.K = K) : IxR X (rIxT K) := by
  subst hk
  exact ix_tup
theorem dpNum {H : Hp} {a : Addr} {i : Int} (h : H a = some (.tup [.str "number", .int i])) : Dp K H (.ref a) (.tuple [.str "number", .int i]) := .tup (SqT.of h) (.cons (.str _) (.cons (.int _) .nil))
theorem numS_ok : PyData.strOk "number" = true := by decide +kernel
theorem num_ok (i : Int) : SeqAt.shaped (.tuple [.str "number", .int i]) = true := by
  unfold SeqAt.shaped
  simp [PyData.canLay0, PyData.canLayAll0, PyData.depth, PyData.depthAll, numS_ok]
theorem num2_ok (i k : Int) : SeqAt.shaped (.list [.tuple [.str "number", .int i], .tuple [.str "number", .int k]]) = true := by
  unfold SeqAt.shaped
  simp [PyData.canLay0, PyData.canLayAll0, PyData.depth, PyData.depthAll, numS_ok]
theorem neNum {H : Hp} {Q : VK} {a b : Addr} {i : Int} (ha : H a = some (.tup [.str "number", .int i])) (hb : H b = some (.tup [.str "number", .int i])) (q : Q (.bl false) H) : rNeD K (.ref a) (.ref b) H Q :=
  ⟨_, _, dpNum ha, dpNum hb, num_ok i, num_ok i, by rw [self_eq (num_ok i)]; exact q⟩
theorem neNum2 {H : Hp} {Q : VK} {l m a b c d : Addr} {i k : Int} (hl : H l = some (.lst [.ref a, .ref b])) (hm : H m = some (.lst [.ref c, .ref d])) (ha : H a = some (.tup [.str "number", .int i])) (hb : H b = some (.tup [.str "number", .int k])) (hc : H c = some (.tup [.str "number", .int i])) (hd : H d = some (.tup [.str "number", .int k])) (q : Q (.bl false) H) : rNeD K (.ref l) (.ref m) H Q :=
  ⟨_, _, .lst (SqL.of hl) (.cons (dpNum ha) (.cons (dpNum hb) .nil)), .lst (SqL.of hm) (.cons (dpNum hc) (.cons (dpNum hd) .nil)), num2_ok i k, num2_ok i k, by rw [self_eq (num2_ok i k)]; exact q⟩
theorem sc_L_right : FnScope ["_law_well_here", "_law_some", "_law_prog", "_law_k", "_law_title", "_law_inputs", "_law_others", "_law_kind", "_law_rows", "_law_slots", "_law_at", "_law_step", "_law_due", "_law_one_here"] ["_law_well_here"] (defScope s_L_right) := ⟨rfl, rfl, rfl, by decide +kernel, rfl, by decide +kernel, by decide +kernel⟩
theorem ok_L_right (T : Ctx w K mg) (H_L_functions : Has P w K mg base 5 "_law_functions" ["_law_well_here", "_law_most"] spFuns) (H_L_classes : Has P w K mg base 1 "_law_classes" [] spClasses) (H_Source_init : HasM P w K mg base 8 "Source" "__init__" ["self", "classes", "functions"] (spSrcInitG K)) (H_L_names : Has P w K mg base 1 "_law_names" ["_law_k"] spNamesK) (H_L_path : Has P w K mg base 2 "_law_path" ["_law_rows", "_law_at", "_law_title"] spPathL) (H_wanted_at_call : HasXK P w K mg base 6 "wanted_at_call" ["source", "name", "row"] (spAtCall K)) (H_L_said : Has P w K mg base 7 "_law_said" ["_law_prog", "_law_title", "_law_at"] (spSaid K)) : Has P w K mg base 10 "_law_right" ["_law_well_here"] spRight := by
  obtain ⟨fd, F⟩ := T.D_L_right
  obtain ⟨fd_L_functions, G_L_functions, b_L_functions⟩ := H_L_functions.ex
  obtain ⟨fd_L_classes, G_L_classes, b_L_classes⟩ := H_L_classes.ex
  obtain ⟨fd_Source_init, G_Source_init, b_Source_init⟩ := H_Source_init.ex
  obtain ⟨fd_L_names, G_L_names, b_L_names⟩ := H_L_names.ex
  obtain ⟨fd_L_path, G_L_path, b_L_path⟩ := H_L_path.ex
  obtain ⟨fd_wanted_at_call, G_wanted_at_call, b_wanted_at_call, k_wanted_at_call⟩ := H_wanted_at_call.ex
  obtain ⟨fd_L_said, G_L_said, b_L_said⟩ := H_L_said.ex
  refine ⟨⟨fd, F.ok sc_L_right (fun vs H Q E h => ?_) (fun cdv A outer s H vs Q E hr h => ?_), F.bindsN fun _ _ _ _ _ _ us hl => match us, hl with | [_], _ => rfl⟩, F.kp, T.g_L_right⟩
  · obtain ⟨p, rfl, hw, k⟩ := h; rfl
  · obtain ⟨p, rfl, hw, k⟩ := h
    have hr_L_functions : Room 5 _ := hr.mono (by decide)
    have hr_L_classes : Room 1 _ := hr.mono (by decide)
    have hr_Source_init : Room 9 _ := hr.mono (by decide)
    have hr_L_names : Room 1 _ := hr.mono (by decide)
    have hr_L_path : Room 2 _ := hr.mono (by decide)
    have hr_wanted_at_call : Room 6 _ := hr.mono (by decide)
    have hr_L_said : Room 7 _ := hr.mono (by decide)
    have hu := hu_of hr
    refine ⟨_, PSs.nox (pss_cons (ps_set (i := 1) sc_L_right.nd rfl (Or.inl rfl) (pe_call G_L_functions hr_L_functions (by rfl) H_L_functions.gl H_L_functions.kp b_L_functions .nil pass0 (pa_cons (pv 0) (pa_cons pe_int pa_nil))))
      (pss_cons (ps_set (i := 2) sc_L_right.nd rfl (Or.inr rfl) (pe_make T.k_Source G_Source_init hr_Source_init rfl T.g_Source b_Source_init .nil pass0 (pa_cons (pe_call0 G_L_classes hr_L_classes (by rfl) H_L_classes.gl H_L_classes.kp b_L_classes .nil pass0) (pa_cons (pv 1) pa_nil))))
      (pss_cons (ps_for PassesOwn.never rfl (pi_enum (by rfl) T.f_enumerate (pa_cons (pv 1) pa_nil)) (pg_tup rfl (pgs_cons (pg_name (i := 3) sc_L_right.nd rfl (Or.inl rfl)) (pgs_cons (pg_tup rfl (pgs_cons (pg_name (i := 4) sc_L_right.nd rfl (Or.inr rfl)) (pgs_cons (pg_name (i := 5) sc_L_right.nd rfl (Or.inl rfl)) (pgs_cons (pg_name (i := 6) sc_L_right.nd rfl (Or.inl rfl)) (pgs_cons (pg_name (i := 7) sc_L_right.nd rfl (Or.inl rfl)) (pgs_cons (pg_name (i := 8) sc_L_right.nd rfl (Or.inr rfl)) pgs_nil)))))) pgs_nil)))
      (pss_cons (ps_set (i := 9) sc_L_right.nd rfl (Or.inl rfl) (pe_callB cr_sortedS (by rfl) T.f_sorted (by decide +kernel) (pa_cons (pe_op op_cat (pe_ix ix_tup (pe_call G_L_names hr_L_names (by rfl) H_L_names.gl H_L_names.kp b_L_names .nil pass0 (pa_cons (pv 3) pa_nil)) pe_int (fun _ _ => rfl)) (pe_ix ix_tup (pe_call G_L_names hr_L_names (by rfl) H_L_names.gl H_L_names.kp b_L_names .nil pass0 (pa_cons (pv 3) pa_nil)) pe_int (fun _ _ => rfl))) pa_nil)))
      (pss_cons (ps_for PassesOwn.never rfl (pi_enum (by rfl) T.f_enumerate (pa_cons (pv 8) pa_nil)) (pg_tup rfl (pgs_cons (pg_name (i := 10) sc_L_right.nd rfl (Or.inr rfl)) (pgs_cons (pg_name (i := 11) sc_L_right.nd rfl (Or.inr rfl)) pgs_nil)))
      (pss_cons (ps_set (i := 12) sc_L_right.nd rfl (Or.inl rfl) (pe_tup (pa_cons pe_str (pa_cons (pv 10) pa_nil))))
      (pss_cons (ps_if (pt_cmpR op_eq (pe_ix ix_tup (pv 11) pe_int (fun _ _ => rfl)) pe_str (nomark _)) (pss_cons (ps_setLc (i := 12) (own := [("_law_one_here", 13)]) (g := gName 13) rfl sc_L_right.nd rfl rfl (sw_true rfl rfl rfl (by decide +kernel)) (pi_list (pv 9)) (blkOk_by (N := ["_law_well_here", "_law_some", "_law_prog", "_law_k", "_law_title", "_law_inputs", "_law_others", "_law_kind", "_law_rows", "_law_slots", "_law_at", "_law_step", "_law_due", "_law_one_here"]) (sc := defScope s_L_right) (by decide +kernel)) (fun _ _ _ _ _ => (pg_name (i := 13) sc_L_right.nd rfl (Or.inl rfl))) (fun _ _ _ _ _ => (pts_one (PW.pt (pw_and (pt_cmpR op_notN (pe_call G_L_path hr_L_path (by rfl) H_L_path.gl H_L_path.kp b_L_path .nil pass0 (pa_cons (pv 8) (pa_cons (pe_op op_add (pv 10) pe_int) (pa_cons (pv 13) pa_nil)))) pe_non (nomark _)) (pw_and1 (pt_cmpR op_ne (pv 13) (pe_ix (ix_tupK (K := K) rfl) (pv 11) pe_int (fun _ _ => rfl)) (nomark _))))))) (fun _ _ _ _ _ => (pv 13)))
      (pss_cons (ps_expr (pe_bm PySem.F.plainAttrs_list PySem.F.slot_list_append PySem.F.type_list_append mt_append (pe_callS G_wanted_at_call hr_wanted_at_call rfl H_wanted_at_call.gl H_wanted_at_call.kp b_wanted_at_call (fun σ => passAt takesNo σ) (pa_cons (pv 2) (pa_cons (pv 4) (pa_cons (pv 10) pa_nil)))) (pa_cons pe_non pa_nil)))
      (pss_one (ps_if (pt_cmpR (op_neD hr.units) (pe_callKO G_wanted_at_call hr_wanted_at_call (by rfl) H_wanted_at_call.gl H_wanted_at_call.kp k_wanted_at_call passNo (pk_cons (pv 10) (pk_cons (pv 4) (pk_cons (pv 2) pk_nil)))) (pv 12) (nomark _)) (pss_one (ps_ret pe_bl)) pss_nil)))) pss_nil)
      (pss_one (ps_if (pt_cmpR (op_neD hr.units) (pe_call G_L_said hr_L_said (by rfl) H_L_said.gl H_L_said.kp b_L_said .nil pass0 (pa_cons (pv 2) (pa_cons (pv 4) (pa_cons (pv 10) pa_nil)))) (pv 12) (nomark _)) (pss_one (ps_ret pe_bl)) pss_nil)))))
      (pss_one (ps_if (pt_cmpR (op_neD hr.units) (pe_lc (own := [("_law_at", 10)]) (g := gName 10) (tt := tYes) rfl sc_L_right.nd (pi_tup (pe_tup (pa_cons (pe_un un_neg pe_int) (pa_cons (pe_callB (call_lenK (K := K) rfl) (by rfl) T.f_len (by decide +kernel) (pa_cons (pv 8) pa_nil)) pa_nil)))) (blkOk_by (N := ["_law_well_here", "_law_some", "_law_prog", "_law_k", "_law_title", "_law_inputs", "_law_others", "_law_kind", "_law_rows", "_law_slots", "_law_at", "_law_step", "_law_due", "_law_one_here"]) (sc := defScope s_L_right) (by decide +kernel)) (fun _ _ _ _ _ => (pg_name (i := 10) sc_L_right.nd rfl (Or.inl rfl))) (fun _ _ _ _ _ => pts_nil) (fun _ _ _ _ _ => (pe_call G_L_said hr_L_said (by rfl) H_L_said.gl H_L_said.kp b_L_said .nil pass0 (pa_cons (pv 2) (pa_cons (pv 4) (pa_cons (pv 10) pa_nil)))))) (pe_lst (pa_cons (pe_tup (pa_cons pe_str (pa_cons (pe_un un_neg pe_int) pa_nil))) (pa_cons (pe_tup (pa_cons pe_str (pa_cons (pe_callB (call_lenK (K := K) rfl) (by rfl) T.f_len (by decide +kernel) (pa_cons (pv 8) pa_nil)) pa_nil))) pa_nil))) (nomark _)) (pss_one (ps_ret pe_bl)) pss_nil)))))
      (pss_one (ps_ret pe_bl))))), ?_⟩
    have hst : L2.start ["_law_well_here", "_law_some", "_law_prog", "_law_k", "_law_title", "_law_inputs", "_law_others", "_law_kind", "_law_rows", "_law_slots", "_law_at", "_law_step", "_law_due", "_law_one_here"] [V.ref p] = [some (.ref p), none, none, none, none, none, none, none, none, none, none, none, none, none] := rfl
    rw [hst]
    clear hst
    refine ⟨_, rfl, p, 9, rfl, hw, by decide, by decide, fun l1 es hs fds H1 b1 w1 hl1 hes hfl hhl hO hF hX => ?_⟩
    refine ⟨rfl, fun ca e0 la cps H2 s2 c1 c2 c3 c4 => ⟨_, rfl, ?_⟩⟩
    intro x dx nx ndx nxd
    have q1 := Same.new (o := .own x) ndx
    have q2 := Same.new (o := .ins (He.ga K "Source") dx []) (show upd H2 dx (.own x) x = none by rw [upd_ne nxd.symm]; exact nx)
    have s7 : Same H2 (upd (upd H2 dx (.own x)) x (.ins (He.ga K "Source") dx [])) := q1.trans q2
    have s27 := s2.trans s7
    have hswap : ∀ (j : Nat) g, hs[j]? = some g → ∃ g', fds[j]? = some g' ∧ g'.nm = g.nm ∧ g'.ns = g.ns ∧ g'.res = g.res := fun j g e => by
      have hj : j < fds.length := by
        have := (List.getElem?_eq_some_iff.mp e).1
        omega
      have e2 := List.getElem?_eq_getElem hj
      have F := hF j g _ e e2
      exact ⟨_, e2, F.nm, F.ns, F.res⟩
    have headOf : ∀ (j : Nat) f, fds[j]? = some f → ∃ h, hs[j]? = some h ∧ HeadOk j h ∧ FunOk hs h 9 f := fun j f e => by
      have hj : j < hs.length := by
        have := (List.getElem?_eq_some_iff.mp e).1
        omega
      have e2 := List.getElem?_eq_getElem hj
      exact ⟨_, e2, hO j _ e2, hF j _ f e2 e⟩
    have names3 : fds.map FdT.nm = (["f", "g", "h"] : List Str) := by
      have key : ∀ (j : Nat) f, fds[j]? = some f → f.nm = tit j := fun j f e => by
        obtain ⟨h, _, O, F⟩ := headOf j f e
        rw [F.nm, O.nm]
      obtain ⟨f0, f1, f2, rfl⟩ := threeF hfl
      show [f0.nm, f1.nm, f2.nm] = _
      rw [key 0 f0 rfl, key 1 f1 rfl, key 2 f2 rfl]
      rfl
    have hnn : (fds.map FdT.nm).Nodup := by
      rw [names3]
      decide +kernel
    have raw : RawSrc (upd (upd H2 dx (.own x)) x (.ins (He.ga K "Source") dx [])) ca l1 "cell" fldC fds := by
      refine ⟨⟨e0, la, cps, s7 _ _ c1, s7 _ _ c2, s7 _ _ c3, c4.mono s7⟩, namB_ok (by decide +kernel), fun q m => ?_, by decide +kernel, by decide, ⟨es, s27 _ _ hl1, by rw [hes, hfl], fun i e f a b => ?_⟩, hnn, by omega, by omega, fun f m => ?_⟩
      · simp only [fldC, List.mem_cons, List.not_mem_nil, or_false] at m
        rcases m with rfl | rfl
        · exact ⟨namB_ok (by decide +kernel), .inl rfl⟩
        · exact ⟨namB_ok (by decide +kernel), .inr rfl⟩
      · obtain ⟨h, _, O, F⟩ := headOf i f b
        obtain ⟨pa, oa, ra, ps, qs, rs, E⟩ := hX i e f a b
        exact (E.mono s27).entry F O (by decide)
      · obtain ⟨j, hj, ej⟩ := List.getElem_of_mem m
        obtain ⟨h, _, O, F⟩ := headOf j f (by rw [List.getElem?_eq_getElem hj, ej])
        exact F.fd O (by decide) hswap
    refine ⟨x, dx, ca, l1, "cell", fldC, fds, rfl, upd_same, raw, fun H3 b3 SX => ⟨rfl, ?_⟩⟩
    have s23 : Same H2 H3 := fun b u q => b3 _ _ (s7 _ _ q) (ne_of_none q nx)
    have s13 : Same H1 H3 := s2.trans s23
    have hl3 := s13 _ _ hl1
    have b03 : But p H H3 := b1.then s13
    have w3 := w1.mono s13
    have hlr : (es.map V.ref).length = 3 := by rw [List.length_map, hes]
    clear raw q1 q2
    refine ⟨_, rfl, l1, _, rfl, SqL.of hl3, ?_⟩
    refine for_it (walk_enum (K := K) (a := l1) (xs := es.map V.ref)) (fun i σ H4 => ∃ (v3 v4 v5 v6 v7 v8 v9 v10 v11 v12 v13 : Option V), σ = [some (.ref p), some (.ref l1), some (.ref x), v3, v4, v5, v6, v7, v8, v9, v10, v11, v12, v13] ∧ Same H3 H4) ⟨_, _, _, _, _, _, _, _, _, _, _, rfl, Same.refl H3⟩ (fun i σ H4 _ ⟨_, _, _, _, _, _, _, _, _, _, _, _, q⟩ => SqL.of (q _ _ hl3)) ?_ ?_
    · rintro i y σ H4x H4 hi ⟨v3, v4, v5, v6, v7, v8, v9, v10, v11, v12, v13, rfl, s4⟩ ⟨u, a, b, rfl, hu0, rfl, e1, e2⟩
      have e2 : (es.map V.ref)[i]? = some b := e2
      obtain rfl : V.int (i : Nat) = a := Option.some.inj e1
      obtain ⟨e, hc, rfl⟩ := map_get e2
      have hi3 : i < 3 := by rw [hlr] at hi; exact hi
      obtain ⟨f, hf⟩ : ∃ f, fds[i]? = some f := ⟨fds[i]'(by omega), List.getElem?_eq_getElem _⟩
      obtain ⟨h, hh, O, F⟩ := headOf i f hf
      obtain ⟨pa, oa, ra, ps, qs, rs, E⟩ := hX i e f hc hf
      have s45 : Same H4x (upd H4x u (.tup [.int (i : Nat), .ref e])) := Same.new hu0
      have s34 := s4.trans s45
      have E4 := (E.mono s13).mono s34
      refine ⟨u, _, rfl, SqT.of upd_same, rfl, _, _, rfl, _, _, rfl, ⟨e, _, rfl, SqT.of E4.he, rfl, _, _, rfl, _, _, rfl, _, _, rfl, _, _, rfl, _, _, rfl, rfl, rfl, ?_⟩⟩
      refine ⟨_, rfl, i, rfl, hi3, fun t1 a1 b1' H5 s5 N5 => ?_⟩
      refine ⟨_, _, _, _, rfl, rfl, SqT.of N5.t, at0, ?_⟩
      refine ⟨_, rfl, i, rfl, hi3, fun t2 a2 b2 H6 s6 N6 => ?_⟩
      refine ⟨_, _, _, _, rfl, rfl, SqT.of N6.t, at1, ?_⟩
      have nlen := num_len (k := i)
      have olen := obj_len (k := i)
      refine ⟨a1, b2, _, _, rfl, rfl, (s6 _ _ N5.n), N6.o, sz_of (by rw [List.length_map, List.length_map]; omega), fun l hl => ?_⟩
      have ec : (numN i).map V.str ++ (objN i).map V.str = (numN i ++ objN i).map V.str := by rw [List.map_append]
      refine ⟨l, numN i ++ objN i, rfl, SqL.of (by rw [upd_same, ec]), by rw [List.length_append]; omega, fun ys sl py sy hsl => ?_⟩
      have sall := ((s34.trans s5).trans s6).trans ((Same.new hl).trans (Same.new (o := .lst (ys.map V.str)) hsl))
      have E7 := (E.mono s13).mono sall
      have SX7 := SX.mono sall
      have hsl7 : upd (upd H6 l (.lst ((numN i).map V.str ++ (objN i).map V.str))) sl (.lst (ys.map V.str)) sl = some (.lst (ys.map V.str)) := upd_same
      generalize hH7 : upd (upd H6 l (.lst ((numN i).map V.str ++ (objN i).map V.str))) sl (.lst (ys.map V.str)) = H7 at *
      have Fi := F.fine O (by decide)
      have pv : ys.Perm f.vars := py.trans (F.perm O).symm
      have nd := F.nd O
      have ndv : f.vars.Nodup := nd
      have ndy : ys.Nodup := (pv.nodup_iff).mpr ndv
      have okS : ∀ z ∈ ys, PyData.strOk z = true := fun z m => by
        have m2 := py.mem_iff.mp m
        rw [← pair_fst] at m2
        obtain ⟨q, mq, rfl⟩ := List.mem_map.mp m2
        exact (pair_ok mq).2.2
      have yl : ys.length = 5 := by rw [pv.length_eq]; exact (F.len O).2.2
      have hrl : rs.length = f.rws.length := E.len
      have fle := F.le
      have h40 : f.rws.length ≤ 40 := by omega
      have hra7 := E7.hra
      have hraw7 := E7.raw
      refine ⟨_, rfl, ra, _, rfl, SqL.of hra7, ?_⟩
      refine for_it (walk_enum (K := K) (a := ra) (xs := rs.map V.ref)) (fun j σ H8 => ∃ (w10 w11 w12 w13 : Option V), σ = [some (.ref p), some (.ref l1), some (.ref x), some (.int (i : Nat)), some (.str f.nm), some (.ref pa), some (.ref oa), some (.str f.res), some (.ref ra), some (.ref sl), w10, w11, w12, w13] ∧ Same H7 H8) ⟨_, _, _, _, rfl, Same.refl H7⟩ (fun j σ H8 _ ⟨_, _, _, _, _, q⟩ => SqL.of (q _ _ hra7)) ?_ ?_
      · rintro j yv σ H8x H8y hj ⟨w10, w11, w12, w13, rfl, s8x⟩ ⟨u2, a3, b3, rfl, hu3, rfl, e1, e2⟩
        have e2 : (rs.map V.ref)[j]? = some b3 := e2
        obtain rfl : V.int (j : Nat) = a3 := Option.some.inj e1
        obtain ⟨rj, hrj, rfl⟩ := map_get e2
        have hjr : j < f.rws.length := by
          rw [List.length_map] at hj
          omega
        have s8y : Same H8x (upd H8x u2 (.tup [.int (j : Nat), .ref rj])) := Same.new hu3
        have s8 := s8x.trans s8y
        have hx : f.rws[j]? = some f.rws[j] := List.getElem?_eq_getElem hjr
        obtain ⟨la, hrow, _⟩ := hraw7.at_ j rj _ hrj hx
        have hrow8 := s8 _ _ hrow
        generalize hr0 : f.rws[j] = r0 at *
        refine ⟨u2, _, rfl, SqT.of upd_same, rfl, _, _, rfl, _, _, rfl, rfl, ?_⟩
        generalize upd H8x u2 (.tup [.int (j : Nat), .ref rj]) = H8 at *
        refine ⟨_, rfl, sz_of (by show 2 ≤ 100000; decide), fun tq htq => ?_⟩
        have stq : Same H8 (upd H8 tq (.tup [.str "number", .int (j : Nat)])) := Same.new htq
        have htq9 : upd H8 tq (.tup [.str "number", .int (j : Nat)]) tq = some (.tup [.str "number", .int (j : Nat)]) := upd_same
        generalize upd H8 tq (.tup [.str "number", .int (j : Nat)]) = H9 at *
        have s9 := s8.trans stq
        refine ⟨_, rfl, rj, _, _, _, rfl, rfl, SqT.of (stq _ _ hrow8), at0, rfl, ?_⟩
        by_cases c : ∃ y F bs, r0 = .call y F bs
        · obtain ⟨y, F2, bs, rfl⟩ := c
          have hj1 : j + 1 < f.rws.length := next_lt (F.okG (by decide)) hjr (j + 1) (by unfold nextOf; rw [hx]; exact List.mem_cons_self)
          refine ⟨_, rfl, ifT rfl ?_⟩
          refine ⟨_, rfl, sl, rfl, ⟨_, SqL.of (s9 _ _ hsl7)⟩, fun Du hDu => ?_⟩
          refine lc_filt (walk_list (K := K) (a := sl) (xs := ys.map V.str)) hDu (fun t => .str (ys.getD t "")) (fun t => decide (ys.getD t "" ≠ y) && (wayOf f.rws (ys.getD t "") (j + 1)).isSome) (by rw [List.length_map]; omega) (fun Ha sa => SqL.of (sa _ _ (s9 _ _ hsl7))) (fun t Ha xa Hb ht sa hya Qe Qn qe qn => ?_) (fun Hd sd hdu => ?_)
          · obtain ⟨rfl, hya⟩ := hya
            obtain ⟨z, hz, rfl⟩ := map_get hya
            have ex : ys.getD t "" = z := by
              rw [List.getD_eq_getElem?_getD, hz]
              rfl
            rw [ex] at qe qn
            have sa9 := s9.trans sa
            refine ⟨rfl, _, rfl, _, rfl, _, _, rfl, rfl, _, rfl, ra, j + 1, z, rs, f.rws, rfl, sa9 _ _ hra7, hraw7.mono sa9, hj1, F.okG (by decide), fun r m => Nat.le_trans (F.rows r m).2.2 (by decide), fun v He se hv => ⟨rfl, _, rfl, ?_⟩⟩
            cases e : wayOf f.rws z (j + 1) with
            | none =>
              rw [e] at hv
              have hv2 : v = .non := hv
              subst hv2
              exact ifF rfl (iteF (qn _ se (by rw [e]; simp)))
            | some w =>
              rw [e] at hv
              obtain ⟨a, rfl, _⟩ := hv
              refine ifT rfl ⟨_, rfl, _, rfl, rj, _, _, _, rfl, rfl, SqT.of (((stq.trans sa).trans se) _ _ hrow8), at1, rfl, _, rfl, ?_⟩
              by_cases cz : z = y
              · exact ifF (by rw [cz]; simp) (qn _ se (by simp [cz]))
              · exact ifT (by simp [cz]) ⟨_, rfl, qe _ se (by rw [e]; simp [cz])⟩
          have hdu2 : Hd Du = some (.lst ((ys.filter fun z => decide (z ≠ y) && (wayOf f.rws z (j + 1)).isSome).map V.str)) := by
            rw [hdu, List.length_map]
            have q := filt_range ("" : Str) (fun z => decide (z ≠ y) && (wayOf f.rws z (j + 1)).isSome) ys
            rw [← q, List.map_map]
            rfl
          have okF : ∀ z ∈ ys.filter fun z => decide (z ≠ y) && (wayOf f.rws z (j + 1)).isSome, PyData.strOk z = true := fun z m => okS z (List.mem_filter.mp m).1
          have flen : (ys.filter fun z => decide (z ≠ y) && (wayOf f.rws z (j + 1)).isSome).length ≤ 5 := by
            have := List.length_filter_le (fun z => decide (z ≠ y) && (wayOf f.rws z (j + 1)).isSome) ys
            omega
          have sd7 := s9.trans sd
          have same_ : ∀ (n : Nat) x2 F3 bs2, ((j : Nat) : Int) = (n : Int) → f.rws[n]? = some (.call x2 F3 bs2) → n = j ∧ x2 = y := fun n x2 F3 bs2 e3 e4 => by
            have e5 : j = n := Int.ofNat.inj e3
            rw [← e5, hx] at e4
            have e6 := Option.some.inj e4
            injection e6 with e7
            exact ⟨e5.symm, e7.symm⟩
          have noE : ∀ {Z : Prop}, (∀ (n : Nat) x2 F3 bs2, ((j : Nat) : Int) = (n : Int) → f.rws[n]? ≠ some (.call x2 F3 bs2)) → Z := fun h => absurd hx (h j y F2 bs rfl)
          refine ⟨_, rfl, _, rfl, _, rfl, x, _, fldC, fds, i, j, f, rfl, SX7.mono sd7, hnn, hf, Fi, h40, fun n x2 F3 bs2 e3 e4 q1 Hq ys1 sq hq1 p1 o1 hql => ?_, fun h => noE h⟩
          obtain ⟨en, ex2⟩ := same_ n x2 F3 bs2 e3 e4
          generalize hds : (ys.filter fun z => decide (z ≠ y) && (wayOf f.rws z (j + 1)).isSome) = dues at *
          rw [en, ex2, sortedS_one (p1.trans pv.symm) o1 sy, hds] at hql
          refine ⟨.inl ⟨rfl, _, SqL.of hql⟩, q1, _, _, rfl, rfl, hql, sz_lt (by rw [List.length_map]; omega), ?_⟩
          have sm : Same Hd (upd Hq q1 (.lst (dues.map V.str ++ [.non]))) := Same.mut sq hq1
          generalize upd Hq q1 (.lst (dues.map V.str ++ [.non])) = He at *
          refine ⟨_, rfl, _, rfl, _, rfl, rfl, rfl, x, _, fldC, fds, i, j, f, rfl, SX7.mono (sd7.trans sm), hnn, hf, Fi, h40, fun n x2 F3 bs2 e3 e4 q2 Hr ys2 sr hq2 p2 o2 hrl => ?_, fun h => noE h⟩
          obtain ⟨en, ex2⟩ := same_ n x2 F3 bs2 e3 e4
          rw [en, ex2, sortedS_one (p2.trans pv.symm) o2 sy, hds] at hrl
          refine ⟨_, rfl, neStr okF hrl ((sm.trans sr) _ _ hdu2) ⟨_, rfl, ifF rfl ?_⟩⟩
          refine ⟨_, rfl, _, rfl, _, rfl, x, _, fldC, fds, i, j, f, rfl, SX7.mono (sd7.trans (sm.trans sr)), hnn, hf, Fi, h40, fun n x2 F3 bs2 e3 e4 q3 Ht ys3 st hq3 p3 o3 htl => ?_, fun h => noE h⟩
          obtain ⟨en, ex2⟩ := same_ n x2 F3 bs2 e3 e4
          rw [en, ex2, sortedS_one (p3.trans pv.symm) o3 sy, hds] at htl
          refine ⟨_, rfl, neStr okF htl (((sm.trans sr).trans st) _ _ hdu2) ⟨_, rfl, ifF rfl ?_⟩⟩
          exact ⟨_, _, _, _, rfl, sd7.trans ((sm.trans sr).trans st)⟩
        · have ew : decide (V.str r0.word = V.str "call") = false := by
            cases r0 <;> first | rfl | exact binNc _ | exact absurd ⟨_, _, _, rfl⟩ c
          have noC : ∀ (n : Nat) x2 F3 bs2, ((j : Nat) : Int) = (n : Int) → f.rws[n]? ≠ some (.call x2 F3 bs2) := fun n x2 F3 bs2 e3 e4 => by
            have e5 : j = n := Int.ofNat.inj e3
            rw [← e5, hx] at e4
            exact c ⟨_, _, _, Option.some.inj e4⟩
          refine ⟨_, rfl, ifF ew ?_⟩
          refine ⟨_, rfl, _, rfl, _, rfl, x, _, fldC, fds, i, j, f, rfl, SX7.mono s9, hnn, hf, Fi, h40, fun n x2 F3 bs2 e3 e4 => absurd e4 (noC n x2 F3 bs2 e3), fun _ q Hq sq hq1 hqt => ?_⟩
          refine ⟨_, rfl, neNum hqt (sq _ _ htq9) ⟨_, rfl, ifF rfl ?_⟩⟩
          exact ⟨_, _, _, _, rfl, s9.trans sq⟩
      · rintro σ H8 ⟨w10, w11, w12, w13, rfl, s8⟩
        have hN0 : ((rs.map V.ref).length : Int) = (f.rws.length : Int) := by rw [List.length_map, hrl]
        refine ⟨_, rfl, _, rfl, ra, _, rfl, SqL.of (s8 _ _ hra7), sz_of (by show 2 ≤ 100000; decide), fun tp htp => ?_⟩
        rw [hN0]
        have s8t : Same H8 (upd H8 tp (.tup [.int (-1), .int (f.rws.length : Int)])) := Same.new htp
        have htp9 : upd H8 tp (.tup [.int (-1), .int (f.rws.length : Int)]) tp = some (.tup [.int (-1), .int (f.rws.length : Int)]) := upd_same
        generalize upd H8 tp (.tup [.int (-1), .int (f.rws.length : Int)]) = H9 at *
        have s9 := s8.trans s8t
        refine ⟨tp, rfl, ⟨_, SqT.of htp9⟩, fun D hD => ?_⟩
        have beyond : ∀ (iv : Int), (iv = -1 ∨ iv = (f.rws.length : Int)) → ∀ (n : Nat) x2 F3 bs2, iv = (n : Int) → f.rws[n]? ≠ some (.call x2 F3 bs2) := fun iv h n x2 F3 bs2 e3 e4 => by
          have := (List.getElem?_eq_some_iff.mp e4).1
          omega
        refine lc_tups (walk_tup (K := K) (a := tp) (xs := [.int (-1), .int (f.rws.length : Int)])) hD (fun t => [.str "number", .int (if t = 0 then -1 else (f.rws.length : Int))]) (by show 2 < 100000; decide) (fun Ha sa => SqT.of (sa _ _ htp9)) (fun t Ha xa Hb ht sa hya Qe qe => ?_) (fun Hc qs sc hql hq hDc => ?_)
        · obtain ⟨rfl, hya⟩ := hya
          have ht2 : t < 2 := ht
          have hxa : xa = .int (if t = 0 then -1 else (f.rws.length : Int)) := by
            match t, ht2, hya with
            | 0, _, hya => exact (Option.some.inj hya).symm
            | 1, _, hya => exact (Option.some.inj hya).symm
          subst hxa
          have hiv : (if t = 0 then (-1 : Int) else (f.rws.length : Int)) = -1 ∨ (if t = 0 then (-1 : Int) else (f.rws.length : Int)) = (f.rws.length : Int) := by
            by_cases c : t = 0
            · exact .inl (if_pos c)
            · exact .inr (if_neg c)
          have bb := beyond _ hiv
          refine ⟨rfl, _, rfl, _, rfl, _, rfl, x, _, fldC, fds, i, _, f, rfl, SX7.mono (s9.trans sa), hnn, hf, Fi, h40, fun n x2 F3 bs2 e3 e4 => absurd e4 (bb n x2 F3 bs2 e3), fun _ q Hq sq hq hqt => qe q Hq sq hqt⟩
        · have hql2 : qs.length = 2 := hql
          obtain ⟨qa, qb, rfl⟩ : ∃ qa qb, qs = [qa, qb] := by
            match qs, hql2 with
            | [a, b], _ => exact ⟨a, b, rfl⟩
          have ha := hq 0 qa rfl
          have hb := hq 1 qb rfl
          have s9c := s9.trans sc
          refine ⟨_, rfl, sz_of (by show 2 ≤ 100000; decide), fun t1 h1 => ?_⟩
          have s1 : Same Hc _ := Same.new (o := .tup [.str "number", .int (-1)]) h1
          refine ⟨_, rfl, ra, _, rfl, SqL.of (s1 _ _ (s9c _ _ hra7)), sz_of (by show 2 ≤ 100000; decide), fun t2 h2 => ?_⟩
          rw [hN0]
          have s2' := Same.new (o := .tup [.str "number", .int (f.rws.length : Int)]) h2
          refine ⟨sz_of (by show 2 ≤ 100000; decide), fun lr hlr => ?_⟩
          have s3' := Same.new (o := .lst [.ref t1, .ref t2]) hlr
          have s123 := (s1.trans s2').trans s3'
          refine neNum2 (s123 _ _ hDc) upd_same (s123 _ _ ha) (s123 _ _ hb) ((s2'.trans s3') _ _ upd_same) (s3' _ _ upd_same) ⟨_, rfl, ifF rfl ?_⟩
          exact ⟨_, _, _, _, _, _, _, _, _, _, _, rfl, sall.trans (s9c.trans s123)⟩
    · rintro σ H4 ⟨v3, v4, v5, v6, v7, v8, v9, v10, v11, v12, v13, rfl, s4⟩
      exact k _ (b03.then s4) (w3.mono s4)

end
end W16
set_option Elab.async false
set_option linter.all false
set_option maxRecDepth 100000
set_option maxHeartbeats 4000000
namespace W16
open PySem PySem.Spec PyProof.Rows L2 RZ
section
variable {P : Program} {w : World} {K : PySem.W.Frag} {mg : Str → Option Value} {base : Heap}

def spLaw (K : PySem.W.Frag) : Sp := fun vs H Q _ => ∃ (a : Addr) (ns : List Int), vs = [.ref a] ∧ SqL K H a (ns.map V.int) ∧ ns.length ≤ 63 ∧ ∀ H', Q (.bl true) H'
theorem cell_int {ns : List Int} {i : Nat} {y : V} (h : (cutV (ns.map V.int) none (some (3 : Int)) ++ [V.int 0])[i]? = some y) : ∃ c, y = .int c := by
  have m := List.mem_of_getElem? h
  rcases List.mem_append.mp m with m | m
  · unfold cutV at m
    obtain ⟨c, _, rfl⟩ := List.mem_map.mp (List.mem_of_mem_drop (List.mem_of_mem_take m))
    exact ⟨c, rfl⟩
  · exact ⟨0, List.mem_singleton.mp m⟩
theorem sc_law : FnScope ["_law_script", "_law_cell", "_law_well_here", "_law_turn"] ["_law_script"] (defScope s_law) := ⟨rfl, rfl, rfl, by decide +kernel, rfl, by decide +kernel, by decide +kernel⟩
theorem ok_law {fd : FuncData} (T : Ctx w K mg) (F : FunD K "law" "law" (defArgs s_law) (defBody s_law) (defScope s_law) [] [] (He.ga K "law") fd) (H_L_well : Has P w K mg base 1 "_law_well" ["_law_cell"] spWell) (H_L_right : Has P w K mg base 10 "_law_right" ["_law_well_here"] spRight) : FnOk P w K mg base CX0 11 (He.ga K "law") fd ["_law_script"] (spLaw K) := by
  obtain ⟨fd_L_well, G_L_well, b_L_well⟩ := H_L_well.ex
  obtain ⟨fd_L_right, G_L_right, b_L_right⟩ := H_L_right.ex
  refine F.ok sc_law (fun vs H Q E h => ?_) (fun cdv A outer s H vs Q E hr h => ?_)
  · obtain ⟨a, ns, rfl, hS, hl, k⟩ := h; rfl
  · obtain ⟨a, ns, rfl, hS, hl, k⟩ := h
    have hr_L_well : Room 1 _ := hr.mono (by decide)
    have hr_L_right : Room 10 _ := hr.mono (by decide)
    have hu := hu_of hr
    refine ⟨_, PSs.nox (pss_cons (ps_for PassesOwn.never rfl (pi_list (pe_op op_cat (pe_slice sl_list (pv 0) po_none (po_some pe_int)) (pe_lst (pa_cons pe_int pa_nil)))) (pg_name (i := 1) sc_law.nd rfl (Or.inl rfl))
      (pss_cons (ps_set (i := 2) sc_law.nd rfl (Or.inl rfl) (pe_call G_L_well hr_L_well (by rfl) H_L_well.gl H_L_well.kp b_L_well .nil pass0 (pa_cons (pv 1) pa_nil)))
      (pss_one (ps_for PassesOwn.never rfl (pi_range1 (by rfl) T.f_range (pa_cons pe_int pa_nil)) (pg_name (i := 3) sc_law.nd rfl (Or.inl rfl))
      (pss_one (ps_if (pt_not (pt_val (pe_call G_L_right hr_L_right (by rfl) H_L_right.gl H_L_right.kp b_L_right .nil pass0 (pa_cons (pv 2) pa_nil)))) (pss_one (ps_ret pe_bl)) pss_nil))))))
      (pss_one (ps_ret pe_bl))), ?_⟩
    have hcl : (cutV (ns.map V.int) none (some (3 : Int))).length ≤ 63 := Nat.le_trans (cutV_length _ _ _) (by rw [List.length_map]; exact hl)
    refine ⟨_, rfl, 3, rfl, a, _, rfl, hS, fun l1 hl1 => ⟨sz_of (by show 1 ≤ 100000; decide), fun l2 hl2 => ⟨l1, l2, _, _, rfl, rfl, Same.new hl2 _ _ upd_same, upd_same, sz_of (by show _ + 1 ≤ _; omega), fun L hL => ⟨L, rfl, ⟨_, SqL.of upd_same⟩, ?_⟩⟩⟩⟩
    refine for_it (walk_list (K := K) (a := L) (xs := cutV (ns.map V.int) none (some (3 : Int)) ++ [V.int 0])) (fun i σ H1 => H1 L = some (.lst (cutV (ns.map V.int) none (some (3 : Int)) ++ [V.int 0])) ∧ ∃ v1 v2 v3 : Option V, σ = [some (.ref a), v1, v2, v3]) ⟨upd_same, _, _, _, rfl⟩ (fun i σ H1 _ q => SqL.of q.1) ?_ (fun σ H1 _ => k _)
    rintro i y σ H1' H1 hi ⟨hLL, v1, v2, v3, rfl⟩ ⟨rfl, hy⟩
    obtain ⟨c, rfl⟩ := cell_int hy
    refine ⟨_, rfl, c, rfl, fun p H2 s2 hp w2 => ?_⟩
    have nLp : L ≠ p := ne_of_none hLL hp
    have hL2 := s2 _ _ hLL
    refine ⟨_, rfl, by decide, by decide, ?_⟩
    refine for_it (walk_range (lo := 0) (n := (3 : Int).toNat)) (fun j σ H6 => H6 L = some (.lst (cutV (ns.map V.int) none (some (3 : Int)) ++ [V.int 0])) ∧ WellAt H6 p ∧ ∃ v1 v3 : Option V, σ = [some (.ref a), v1, some (.ref p), v3]) ⟨hL2, w2, _, _, rfl⟩ (fun _ _ _ _ _ => trivial) ?_ (fun σ H6 q => ?_)
    · rintro j y σ H6' H6 hj ⟨h6, w6, v1, v3, rfl⟩ ⟨rfl, rfl⟩
      exact ⟨_, rfl, p, rfl, w6, fun H7 b7 w7 => ⟨_, rfl, ifF rfl ⟨b7 _ _ h6 nLp, w7, _, _, rfl⟩⟩⟩
    · obtain ⟨h6, _, v1, v3, rfl⟩ := q
      exact ⟨h6, _, _, _, rfl⟩

end
end W16
set_option Elab.async false
set_option linter.all false
set_option maxRecDepth 100000
set_option maxHeartbeats 4000000
namespace W16
open PySem PySem.Spec PyProof.Rows L2 RZ
theorem law_has {P : Program} {w : World} {K : PySem.W.Frag} {mg : Str → Option Value} {base : Heap} {fd : FuncData} (T : Ctx w K mg) (F : FunD K "law" "law" (defArgs s_law) (defBody s_law) (defScope s_law) [] [] (He.ga K "law") fd) : FnOk P w K mg base CX0 11 (He.ga K "law") fd ["_law_script"] (spLaw K) := by
  have h_is_integer := ok_is_integer (P := P) (base := base) T
  have h_is_integer_in := ok_is_integer_in (P := P) (base := base) T (H_is_integer := h_is_integer)
  have h_is_written_number := ok_is_written_number (P := P) (base := base) T (H_is_integer_in := h_is_integer_in)
  have h_is_name := ok_is_name (P := P) (base := base) T
  have h_is_kind := ok_is_kind (P := P) (base := base) T
  have h_is_tuple_of := ok_is_tuple_of (P := P) (base := base) T
  have h_is_list_of := ok_is_list_of (P := P) (base := base) T
  have h_is_word_tuple := ok_is_word_tuple (P := P) (base := base) T
  have h_frozen0 := ok_frozen0 (P := P) (base := base) T
  have h_frozen1 := ok_frozen1 (P := P) (base := base) T (H_frozen := h_frozen0)
  have h_frozen2 := ok_frozen2 (P := P) (base := base) T (H_frozen := h_frozen1)
  have h_are_named_kinds := ok_are_named_kinds (P := P) (base := base) T (H_is_list_of := h_is_list_of) (H_is_tuple_of := h_is_tuple_of) (H_is_name := h_is_name) (H_is_kind := h_is_kind)
  have h_Source_fields_of := ok_Source_fields_of (P := P) (base := base) T
  have h_Source_field_kind := ok_Source_field_kind (P := P) (base := base) T
  have h_Source_function_at := ok_Source_function_at (P := P) (base := base) T
  have h_is_list_of_names := ok_is_list_of_names (P := P) (base := base) T (H_is_name := h_is_name)
  have h_fills := ok_fills (P := P) (base := base) T (H_is_name := h_is_name) (H_is_written_number := h_is_written_number) (H_is_integer := h_is_integer) (H_Source_fields_of := h_Source_fields_of) (H_Source_field_kind := h_Source_field_kind) (H_Source_function_at := h_Source_function_at) (H_is_list_of_names := h_is_list_of_names)
  have h_is_row := ok_is_row (P := P) (base := base) T (H_is_word_tuple := h_is_word_tuple) (H_fills := h_fills)
  have h_row_sets := ok_row_sets (P := P) (base := base) T
  have h_row_reads := ok_row_reads (P := P) (base := base) T
  have h_names_in := ok_names_in (P := P) (base := base) T (H_row_reads := h_row_reads) (H_row_sets := h_row_sets)
  have h_call_fits := ok_call_fits (P := P) (base := base) T
  have h_row_kinds_fit := ok_row_kinds_fit (P := P) (base := base) T (H_names_in := h_names_in) (H_call_fits := h_call_fits) (H_Source_field_kind := h_Source_field_kind) (H_Source_function_at := h_Source_function_at)
  have h_frozenM := ok_frozenM (P := P) (base := base) T (H_frozen := h_frozen0)
  have h_frozenR := ok_frozenR (P := P) (base := base) T (H_frozen := h_frozenM)
  have h_frozenW := ok_frozenW (P := P) (base := base) T (H_frozen := h_frozenR)
  have h_row_readsK := ok_row_readsK (P := P) (base := base) T
  have h_Source_is_row_of := ok_Source_is_row_of (P := P) (base := base) T (H_is_row := h_is_row) (H_row_sets := h_row_sets) (H_row_reads := h_row_reads) (H_row_kinds_fit := h_row_kinds_fit)
  have h_Source_take_rows := ok_Source_take_rows (P := P) (base := base) T (H_Source_is_row_of := h_Source_is_row_of) (H_frozen := h_frozenW)
  have h_rows_behind := ok_rows_behind (P := P) (base := base) T
  have h_way_to_reader := ok_way_to_reader (P := P) (base := base) T (H_row_reads := h_row_readsK) (H_row_sets := h_row_sets) (H_rows_behind := h_rows_behind)
  have h_is_kindG := ok_is_kindG (P := P) (base := base) T
  have h_are_named_kindsG := ok_are_named_kindsG (P := P) (base := base) T (H_is_list_of := h_is_list_of) (H_is_tuple_of := h_is_tuple_of) (H_is_name := h_is_name) (H_is_kind := h_is_kindG)
  have h_is_head := ok_is_head (P := P) (base := base) T (H_is_tuple_of := h_is_tuple_of) (H_is_name := h_is_name) (H_is_kind := h_is_kindG) (H_are_named_kinds := h_are_named_kindsG) (H_is_list_of := h_is_list_of)
  have h_is_class := ok_is_class (P := P) (base := base) T (H_is_tuple_of := h_is_tuple_of) (H_is_name := h_is_name) (H_are_named_kinds := h_are_named_kindsG)
  have h_Source_kinds_differ := ok_Source_kinds_differ (P := P) (base := base) T
  have h_Source_take_classes := ok_Source_take_classes (P := P) (base := base) T (H_is_list_of := h_is_list_of) (H_is_class := h_is_class) (H_Source_kinds_differ := h_Source_kinds_differ) (H_frozen := h_frozen2)
  have h_Function_init := ok_Function_init (P := P) (base := base) T (H_frozen := h_frozen2)
  have h_Source_take_heads := ok_Source_take_heads (P := P) (base := base) T (H_is_list_of := h_is_list_of) (H_is_head := h_is_head) (H_Function_init := h_Function_init)
  have h_Source_init := ok_Source_init (P := P) (base := base) T (H_Source_take_classes := h_Source_take_classes) (H_Source_take_heads := h_Source_take_heads) (H_Source_take_rows := h_Source_take_rows)
  have h_Function_has_row := ok_Function_has_row (P := P) (base := base) T (H_is_integer_in := h_is_integer_in)
  have h_wanted_in := ok_wanted_in (P := P) (base := base) T (H_way_to_reader := h_way_to_reader)
  have h_num_init := ok_num_init (P := P) (base := base) T
  have h_Function_called_at := ok_Function_called_at (P := P) (base := base) T
  have h_is_integer_inB := ok_is_integer_inB (P := P) (base := base) T (H_is_integer := h_is_integer)
  have h_Function_has_rowB := ok_Function_has_rowB (P := P) (base := base) T (H_is_integer_in := h_is_integer_inB)
  have h_function_withX := ok_function_withX (P := P) (base := base) T (H_num := h_num_init) (H_Source_function_at := h_Source_function_at) (H_Function_has_row := h_Function_has_rowB)
  have h_wanted_at_call := ok_wanted_at_call (P := P) (base := base) T (H_num := h_num_init) (H_function_with := h_function_withX) (H_wanted_in := h_wanted_in) (H_row_sets := h_row_sets) (H_Function_called_at := h_Function_called_at)
  have h_L_said := ok_L_said (P := P) (base := base) T (H_wanted_at_call := h_wanted_at_call)
  have h_L_well := ok_L_well (P := P) (base := base) T
  have h_L_draw := ok_L_draw (P := P) (base := base) T
  have h_L_one := ok_L_one (P := P) (base := base) T (H_L_draw := h_L_draw)
  have h_L_names := ok_L_names (P := P) (base := base) T
  have h_L_heads := ok_L_heads (P := P) (base := base) T (H_L_draw := h_L_draw) (H_L_one := h_L_one) (H_L_names := h_L_names)
  have h_L_last := ok_L_last (P := P) (base := base) T (H_L_draw := h_L_draw) (H_L_one := h_L_one) (H_L_names := h_L_names)
  have h_L_plain := ok_L_plain (P := P) (base := base) T (H_L_draw := h_L_draw) (H_L_one := h_L_one) (H_L_names := h_L_names) (H_L_last := h_L_last)
  have h_L_functions := ok_L_functions (P := P) (base := base) T (H_L_draw := h_L_draw) (H_L_heads := h_L_heads) (H_L_last := h_L_last) (H_L_plain := h_L_plain)
  have h_L_sets := ok_L_sets (P := P) (base := base) T
  have h_L_next := ok_L_next (P := P) (base := base) T
  have h_L_reads := ok_L_reads (P := P) (base := base) T
  have h_L_path := ok_L_path (P := P) (base := base) T (H_L_sets := h_L_sets) (H_L_reads := h_L_reads) (H_L_next := h_L_next)
  have h_L_classes := ok_L_classes (P := P) (base := base) T
  have h_L_right := ok_L_right (P := P) (base := base) T (H_L_functions := h_L_functions) (H_L_classes := h_L_classes) (H_Source_init := h_Source_init) (H_L_names := h_L_names) (H_L_path := h_L_path) (H_wanted_at_call := h_wanted_at_call) (H_L_said := h_L_said)
  have h_law := ok_law (P := P) (base := base) (fd := fd) T F (H_L_well := h_L_well) (H_L_right := h_L_right)
  exact h_law
theorem facts {P : Program} {w : World} {K : PySem.W.Frag} {h : Heap} {mg : Str → Option Value} {f : Addr} (X : K.In h) (G : h.Ns mainGlobals mg) (hfa : mg ("law" : Str) = some (.ref f)) (c : He.SaysX fa fn ts [] ex w h K) :
    ∃ fd : FuncData, (∀ (s : Shared) (v : Value), BindsTo s fd ⟨[v], []⟩ [("_law_script", v)]) ∧ ∀ base : Heap, K.In base → base.Ns mainGlobals mg → FnOk P w K mg base CX0 11 f fd ["_law_script"] (spLaw K) := by
  have T : Ctx w K mg := ⟨⟨h, X, G⟩, c.t, c.more⟩
  obtain ⟨fd, F⟩ := T.D_law
  have e := hfa.symm.trans T.g_law
  cases e
  have b := FunD.bindsA (ps := ["_law_script"]) F fun _ _ _ _ _ _ us hl => match us, hl with | [_], _ => rfl
  exact ⟨fd, fun s v => b s [v] rfl, fun base _ _ => law_has T F⟩
end W16
set_option Elab.async false
set_option linter.all false
set_option maxRecDepth 100000
set_option maxHeartbeats 0
open PySem PySem.W PySem.Calls PyProof.Rows
theorem PySem.Challenge.cw_backframes_k16_wanted_at_calls_holds : PySem.Challenge.rw_backframes_k16_wanted_at_calls.Holds := by
  w_on; o_law
  refine HandSHeadRun.head_any (r := OpenLaw.row PySem.Challenge.rw_backframes_k16_wanted_at_calls) (q := view (OpenLaw.row PySem.Challenge.rw_backframes_k16_wanted_at_calls).prog [68]) (H := W16.hk) (ob := W16.ob) (M := 4200) (loose := W16.nms) (d := HandSHeadRun.topDef (OpenLaw.row PySem.Challenge.rw_backframes_k16_wanted_at_calls).prog 68) (kwd := []) W16.ob_eq
    (by kernel_rfl) (fun s => by kernel_rfl) W16.run (by kernel_rfl) (by kernel_rfl) (by kernel_rfl) (by rfl) (by first | assumption | decide +kernel) (by decide +kernel) ⟨rfl, rfl, rfl, rfl, rfl, by decide +kernel⟩ ?hw ?hc
  case hw => w_witness2
  case hc =>
    refine L2.walk_ofE (l := PySem.Challenge.rw_backframes_k16_wanted_at_calls) (n := 63) (k := 11) (x := "_law_script") (CX := L2.CX0) rfl (by decide) (by kernel_rfl) ⟨rfl, by decide, by decide⟩ ?F (fun _ _ _ _ z => z)
    intro w mg fa h Y G hmg0
    obtain ⟨K, KX, c⟩ := Y
    have hmg : mg ("law" : PySem.Str) = some (.ref fa) := by
      have e : (HandSHeadRun.topDef (OpenLaw.row PySem.Challenge.rw_backframes_k16_wanted_at_calls).prog 68).name = ("law" : PySem.Str) := by kernel_rfl
      rw [← e]
      exact hmg0
    obtain ⟨fd, hb, hF⟩ := W16.facts (P := (PySem.Challenge.rw_backframes_k16_wanted_at_calls).prog) (w := w) KX G hmg c
    exact ⟨K, fd, W16.spLaw K, KX, hb, fun H a ns hl _ hS => ⟨a, ns, rfl, hS, hl, fun _ => rfl⟩, hF⟩
