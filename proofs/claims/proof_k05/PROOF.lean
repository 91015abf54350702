import PyProof.Rows.All
import Wide.All
import OpenK.AllK
import Wide.FinOn
import HandS.ExcInit
import HandS.ExcField
import KE.KExcInit
import HandS.TryMany
import HandS.ExcIs
import HandS.IsInst
import HandS.List
import HandS.Iter
import PyProof.AutoSeq1
import PyProof.ListOps
import KE.KStateDown
import HandS.ForMost
import HandS.More
import HandS.Words
import HandS.Defaults
import HandS.Head0
import HandS.Head1
import HandS.Head2
import HandS.HeadEnd
import HandS.HeadHook1
import HandS.HeadHook2
import HandS.HeadHook3
import HandS.HeadHook4
import HandS.Zip
import HandS.Conv
import HandS.Evl
import HandS.Wide
import HandS.WrittenGet
import HandS.Walk
import KE.KDictPairs
import HandS.Star
import HandS.TupAny
import HandS.NoneIn
import PySem.Challenge.RW_backframes_k05_what_is_no_text_of_source
set_option Elab.async false
set_option linter.all false
set_option maxRecDepth 100000
set_option maxHeartbeats 4000000
namespace AE
open PySem PySem.Spec PyProof.Rows PySem.W PySem.Calls PySem.HandSPX
open Builtin Builtin.ObjectAttr
/-- the built-in classes below an error of the program -/
def low : List Value := [.type "ArithmeticError", .type "Exception", .type "BaseException", .type "object"]
/-- what is asked of an error's class whose __init__ is its own -/
structure AeC (K : Frag) (C : Addr) : Prop where
  cls : excInitIn K C low "ArithmeticError.__new__" = true
  ov : excOver K C low = true
  sa : findIn K (.ref C) "__setattr__" = some (some (.builtin "object.__setattr__"))
  exC : subIn K (.ref C) (.type "BaseException") = some true
  tyC : typeIn K (.ref C) = some (.type "type")
  kC : keepIn K (.ref C) = true
  hd : hasDictIn K C = true
def aeB (K : Frag) (C : Addr) : Bool := excInitIn K C low "ArithmeticError.__new__" && (excOver K C low && (decide (findIn K (.ref C) "__setattr__" = some (some (.builtin "object.__setattr__"))) && (decide (subIn K (.ref C) (.type "BaseException") = some true) && (decide (typeIn K (.ref C) = some (.type "type")) && (keepIn K (.ref C) && hasDictIn K C)))))
theorem aeB_ok {K : Frag} {C : Addr} (h : aeB K C = true) : AeC K C := by
  unfold aeB at h
  simp only [Bool.and_eq_true, decide_eq_true_eq] at h
  exact ⟨h.1, h.2.1, h.2.2.1, h.2.2.2.1, h.2.2.2.2.1, h.2.2.2.2.2.1, h.2.2.2.2.2.2⟩
section
variable {prog : Program} {w : World} {A : Around} {E : Value → Shared → Prop} {R : Result → Shared → Prop} {hp : Heap} {g : Array GenState} {d : Drawn} {t : Nat} {os : OsState}
/-- the first field of such an error: its dict is made -/
theorem ae_osa {K : Frag} {name : Str} {tk : Tok} {v : Value} {x C : Addr} {fv : Array Value} (T : AeC K C) (X : K.In hp)
    (hx : hp.get? x = some { cls := .ref C, data := .fields fv }) (ha : findIn K (.ref C) name = some none)
    (k : ∀ (G : Heap) (tk' : Nat) (y : Addr), (∀ b o, b ≠ x → hp.get? b = some o → G.get? b = some o) → hp.objs.size ≤ y → y ≠ x →
      G.get? x = some { cls := .ref C, dict := some y, data := .fields fv } → G.Ns1 y (fun z => if z = name then some v else none) → R (.ok (.ret .none)) ⟨G, g, d, tk', os⟩) :
    codeAny (model prog w) A (.call (.builtin "object.__setattr__") ⟨[.ref x, .str name tk, v], []⟩) R ⟨hp, g, d, t, os⟩ := by
  have I : InstAt hp x { cls := .ref C, data := .fields fv } C none := ⟨hx, rfl, rfl, trivial⟩
  obtain ⟨cd, hcd, hh⟩ := any_some T.hd
  have Lc : Looks (model prog w) hp (classData C) cd := looks_clsIn X hcd
  have nx : x ≠ hp.objs.size := Nat.ne_of_lt (Heap.lt_size hx)
  refine osa_openX F.store_ArithmeticError X I T.ov (r := none) (by unfold takerIn; rw [ha]; rfl) fun b => ?_
  show wpAny _ _ (storeInOwnDict (.ref x) (.ref C) (.str name tk) name v b) _ _ _
  obtain ⟨nm, bs, mro, ns, qn, hd, sn, sb, ab, col, del⟩ := cd
  have hh : hd = true := hh
  subst hh
  unfold storeInOwnDict ownDictForStores
  repeat first
    | with_reducible refine store_in_new ?_ ?_
    | with_reducible refine wpAny_loadPart_at hx ?_
    | with_reducible refine Lc.at ?_
    | wp_step
  · have made : ∀ o : Obj → Obj, ((hp.push { cls := .type "dict", data := .dict #[] }).update x o).get? hp.objs.size = some { cls := .type "dict", data := .dict #[] } := fun o => by
      rw [Heap.get?_update_ne _ _ _ _ nx.symm]
      exact Heap.get?_push_at rfl rfl
    exact ⟨_, #[], _, made _, rfl, fun e m => by simp at m, fun _ => rfl⟩
  · intro G t2 hG hs
    have hx2 : (hp.push { cls := .type "dict", data := .dict #[] }).get? x = some { cls := .ref C, data := .fields fv } := Heap.get?_push_of_some _ hx
    have keep : ∀ b o, b ≠ x → hp.get? b = some o → G.get? b = some o := fun b o nb q =>
      (hs.2 b (Nat.ne_of_lt (Heap.lt_size q))).trans ((Heap.get?_update_ne _ _ _ _ nb).trans (Heap.get?_push_of_some _ q))
    exact k G t2 hp.objs.size keep (Nat.le_refl _) nx.symm ((hs.2 x nx).trans (Heap.get?_update_self _ hx2 rfl)) hG
end
end AE
set_option Elab.async false
set_option linter.all false
set_option maxRecDepth 100000
set_option maxHeartbeats 4000000
namespace AE
open PySem PySem.Spec PyProof.Rows L2
section
variable {X : Cx} {pins : List (Addr × Obj)} {σ : L2.St} {H : Hp} {s : Shared} {a C dx : Addr} {f : Str} {y : V} {u : Value} {Q : Unit → Shared → Prop} {E : Value → Shared → Prop} {A : Around}
/-- two places of a heap with unlike things are two -/
theorem apart {b c : Addr} {o v : HO} (h1 : H b = some o) (h2 : H c = some v) (n : o ≠ v) : c ≠ b := at_ne h1 h2 n
theorem ae_new (T : AeC X.K C) (I : Inv X pins σ H s) (e : H a = some (exo a C none)) (hno : PySem.W.findIn X.K (.ref C) f = some none) (ry : RelV y u)
    (k : ∀ dx s', H dx = none → dx ≠ a → Inv X pins σ (upd (upd H dx (exd dx [(f, y)])) a (exo a C (some dx))) s' → Q () s') : wpAny (model X.prog X.w) A (setAttr (.ref a) f u) Q E s := by
  obtain ⟨t1, ho⟩ := exo_at I.hok e
  obtain ⟨hp, g, d, t, os⟩ := s
  refine PySem.W.set_plain I.kIn (od := none) ⟨ho, rfl, rfl, trivial⟩ T.sa (ae_osa T I.kIn ho hno fun G t2 dx keep new ne hx hns => ?_)
  have hd : H dx = none := I.hok.fresh new
  have nd : ∀ {b o}, hp.get? b = some o → b ≠ dx := fun q => Nat.ne_of_lt (Nat.lt_of_lt_of_le (Heap.lt_size q) new)
  have na : ∀ {b}, H b = none → b ≠ a := fun n z => by
    rw [z, e] at n
    cases n
  have same : ∀ {b o}, b ≠ a → b ≠ dx → (upd (upd H dx (exd dx [(f, y)])) a (exo a C (some dx))) b = o → H b = o := fun n1 n2 q => by
    rw [upd_ne n1, upd_ne n2] at q
    exact q
  have put : ∀ {b o}, b ≠ a → H b = some o → (upd (upd H dx (exd dx [(f, y)])) a (exo a C (some dx))) b = some o := fun {b o} n q => by
    rw [upd_ne n, upd_ne (ne_of_none q hd)]
    exact q
  have U : Un X.fs [] H (upd (upd H dx (exd dx [(f, y)])) a (exo a C (some dx))) hp G := by
    refine ⟨?_, ?_, ?_, ?_, ?_, ?_, ?_⟩
    · intro b o q n _ _
      exact keep b o (na n) q
    · intro b o q n _ _
      exact ⟨o.slots, keep b o (na n) q⟩
    · intro b o q n _
      rw [upd_ne (na n), upd_ne (nd q)]
      exact n
    · intro b o q _
      by_cases z : b = a
      · exact ⟨_, by rw [z]; exact hx⟩
      · exact ⟨o, keep b o z q⟩
    · intro b xs q
      exact put (apart e q exo_tup) q
    · intro b o v q
      exact put (apart e q exo_frz) q
    · intro b ps q
      exact ⟨#[], by rw [put (apart e q exo_tbl) q]; simp⟩
  refine k dx _ hd ne (I.un (t' := t2) U fun b o q => ?_)
  by_cases z : b = a
  · subst z
    rw [upd_same] at q
    cases q
    exact exo_ok hx
  · by_cases w : b = dx
    · subst w
      rw [upd_ne z, upd_same] at q
      cases q
      exact exd_ok hns (relO_put (fs := []) ry fun _ => True.intro)
    · refine (I.hok b o (same z w q)).stay (fun c v hc m => keep c v ?_ m) (fun c hc => put (apart e hc exo_own) hc) (fun c xs hc => put (apart e hc exo_tup) hc)
      rcases hc with rfl | hc
      · exact z
      · exact apart e hc exo_own
end
/-- self.f = e, the first field of an error that is made -/
def tAst (K : PySem.W.Frag) (f : Str) (to te : TE) : TS := fun D σ H => te σ H fun y H1 => to σ H1 fun x H2 => ∃ a C : Addr, x = .ref a ∧ AeC K C ∧ PySem.W.findIn K (.ref C) f = some none ∧ H2 a = some (exo a C none) ∧
  ∀ dx, H2 dx = none → dx ≠ a → D.nx σ (upd (upd H2 dx (exd dx [(f, y)])) a (exo a C (some dx)))
theorem ps_ast {X : Cx} {o e : Expr} {to te : TE} {f : Str} {p pos : Pos} (ho : PE X o to) (he : PE X e te) (hs : swapsWith e (some (.Attribute o f p)) pos.line X.env = pure false := by rfl) : PS X (.Assign [.Attribute o f p] e pos) (tAst X.K f to te) := by
  refine ⟨fun pins s σ H D I h => plainObj_wpAny_Assign_Attribute (thn (he.run pins s σ H _ I h) fun v s1 ⟨y, H1, I1, r1, q1⟩ => thn (ho.run pins s1 σ H1 _ I1 q1) fun u s2 q2 => ?_) hs⟩
  obtain ⟨x, H2, I2, r2, a, C, rfl, T, hno, ea, q⟩ := q2
  obtain rfl : u = Value.ref a := r2
  exact ae_new T I2 ea hno r1 fun dx s' n ne J => ⟨σ, _, J, q dx n ne⟩
end AE
set_option Elab.async false
set_option linter.all false
set_option maxRecDepth 100000
set_option maxHeartbeats 4000000
namespace AE
open PySem PySem.Spec PyProof.Rows L2
/-- an error of such a class is made by its own __init__ -/
theorem pmk_ae {X : Cx} {CX : CXT} {e : Expr} {es : List Expr} {ta : TA} {p pos : Pos} {x : Str} {C fI : Addr} {k : Nat} {fd : FuncData} {ps : List Str} {sp : Sp} (T : AeC X.K C)
    (iC : PySem.W.findIn X.K (.ref C) "__init__" = some (some (.ref fI))) (tI : PySem.W.typeIn X.K (.ref fI) = some (.type "function")) (F1 : FnOk X.prog X.w X.K X.mg X.base CX k fI fd ps sp)
    (hr : Room (k + 1) X.A) (hb : Binds X.K fd ps []) (hx : Passes CX X (fun _ _ _ => False)) (hg : Gl X x) (hm : X.mg x = some (.ref C)) (ha : PA X (e :: es) ta)
    (hdb : (x == ("__debug__" : Str)) = false := by decide) (he : starEach (e :: es) X.env = (false, eval e X.env) :: starEach es X.env := by rfl) (hpl : (backTo pos (starEach es X.env)).any (·.1) = false := by rfl) :
    PMk X (.Call (.Name x p) (e :: es) [] pos) (tMkO C sp [] ta) := by
  intro pins s σ H Q I h
  refine wpAny_Call_Name_kw (ld_glob I hg hm ?_ hdb)
  refine PySem.W.callWith_K (h₀ := X.base) I.ok.mod.kin T.kC (thn (ha.run pos pins s σ H _ I h) fun us s1 q1 => ?_) he hpl
  obtain ⟨vs, H1, I1, r1, hz, q1⟩ := q1
  refine ⟨I1.kIn, ?_⟩
  show wpAny _ _ (call (.ref C) us) _ _ _
  obtain ⟨hp, g, dr, tk, os⟩ := s1
  obtain ⟨nm, N, qn, bs, bm, hd, sn, sub, ab, col, dd, k0, k1, k2, k3, k5, hC, hbm⟩ := PySem.W.excInit_of I1.kIn T.cls
  generalize hG : (hp.push (PySem.W.kdv_tup us)).push (PySem.HandSPX.excO C hp.objs.size) = G
  have new : hp.objs.size ≤ hp.objs.size + 1 := Nat.le_succ _
  have hn : H1 (hp.objs.size + 1) = none := I1.hok.fresh new
  have keep : ∀ b o, hp.get? b = some o → G.get? b = some o := fun b o q => by
    rw [← hG]
    exact Heap.get?_push_of_some _ (Heap.get?_push_of_some _ q)
  have there : G.get? (hp.objs.size + 1) = some (PySem.HandSPX.excO C hp.objs.size) := by
    rw [← hG]
    heap_get
  have I2 : Inv X pins σ (upd H1 (hp.objs.size + 1) (exo (hp.objs.size + 1) C none)) ⟨G, g, dr, tk, os⟩ := I1.laid (t' := tk) (a := hp.objs.size + 1) keep new (exo_ok there)
  have hq := q1 (hp.objs.size + 1) hn
  rw [List.append_nil] at hq
  have r2 : Vals (V.ref (hp.objs.size + 1) :: vs) (Value.ref (hp.objs.size + 1) :: us) := .cons rfl r1
  have len : (Value.ref (hp.objs.size + 1) :: us ++ []).length = ps.length := by
    rw [List.append_nil, ← r2.length, F1.len _ _ _ _ hq]
  have few : us.length ≤ sizeLine := by
    rw [← Paired.length r1, sizeLine_eq]
    omega
  have run := F1.run _ X.stack _ _ ⟨Value.ref (hp.objs.size + 1) :: us, []⟩ (Value.ref (hp.objs.size + 1) :: us) _ _ (fun _ _ _ => False) (hr.make C us []) (I2.env0.make C us []) (by
    have z := hb _ (Value.ref (hp.objs.size + 1) :: us) I2.kIn len
    rw [List.append_nil] at z
    exact z) r2 hq
  refine wpAny_call (PySem.HandSPX.call_own F.excBase_ArithmeticError hbm hC (PySem.W.looks_findIn I1.kIn iC) (fun self => PySem.W.bind_fn I1.kIn self tI) few ?_)
  rw [hG]
  refine codeAny_mono run fun r s' z => ?_
  match r, z with
  | .error er, z => exact hx pins σ _ _ er s' I2 z
  | .ok (.ret v), z =>
    obtain ⟨y, H2, os2, bare2, un2, hok2, rv, ev, d, fs, ea, ed, hd1, q2⟩ := z
    subst ev
    obtain ⟨h2, g2, d2, t2, os'⟩ := s'
    exact ⟨rv, mk_end (raises_own T.exC T.tyC) I1 new keep un2 hok2 os2 bare2 ea ed hd1 q2⟩
  | .ok .next, z => exact z.elim
  | .ok .brk, z => exact z.elim
  | .ok .cont, z => exact z.elim
end AE
set_option Elab.async false
set_option linter.all false
set_option maxRecDepth 100000
set_option maxHeartbeats 4000000
namespace TR
open PySem PySem.Spec PyProof.Rows L2
/-- an error that a frame has in hand, noted and on the ground; sI is the state without it -/
structure Hand (X : Cx) (pins : List (Addr × Obj)) (B : Heap) (sI : Shared) (a : Addr) (cls : Value) (d : Option Addr) (σ : L2.St) (H : Hp) (s : Shared) : Prop where
  inv : Inv X pins σ H sI
  gr : ∀ b o, sI.heap.get? b = some o → b ∉ frs X.stack → B.get? b = some o
  up : sI.heap.UpToSlots s.heap
  fl : HandSPX.FlyingZ B X.stack a (Zc cls d) s.heap
  na : H a = none
  os : s.os = sI.os
  ag : AllBare s.gens
section
variable {X : Cx} {pins : List (Addr × Obj)} {B : Heap} {sI s : Shared} {a : Addr} {cls c : Value} {d : Option Addr} {σ : L2.St} {H : Hp} {x n : Str} {np : Pos}
theorem Hand.here (h : Hand X pins B sI a cls d σ H s) : Inv X pins σ H s := Inv.landed h.inv h.gr h.fl.1 h.up h.os h.ag
theorem Hand.off (h : Hand X pins B sI a cls d σ H s) : a ∉ frs X.stack := fun m => by
  obtain ⟨oe, vs, e1, _, e2⟩ := HandSPX.FlyingZ.there h.fl
  obtain ⟨_, o, e3, nf⟩ := Heap.FunFrames.mem h.fl.2.2.1 m
  exact nf vs (by rw [Option.some.inj (e3.symm.trans e1)]; exact e2)
theorem Hand.suite (h : Hand X pins B sI a cls d σ H s) (hs : X.stack = X.env :: X.outer) (hf : X.env.frame = some X.env.locals) :
    ∃ oe : Obj, Zc cls d oe ∧ (∃ vs, oe.data = .fields vs) ∧ s.heap.get? a = some oe ∧ Inv (X.suite a ((a, oe) :: (X.pn ++ pins))) [] σ H s := by
  obtain ⟨oe, vs, e1, z, e2⟩ := HandSPX.FlyingZ.there h.fl
  have off := h.off
  rw [hs] at off
  refine ⟨oe, z, ⟨vs, e2⟩, e1, Inv.suite h.here e1 e2 h.na (fun w => off ?_) (fun m => off ?_)⟩
  · rw [w]
    exact List.mem_filterMap.mpr ⟨X.env, List.mem_cons_self, hf⟩
  · obtain ⟨e, m1, m2⟩ := List.mem_filterMap.mp m
    exact List.mem_filterMap.mpr ⟨e, List.mem_cons_of_mem _ m1, m2⟩
/-- the test of a clause -/
theorem Hand.test (h : Hand X pins B sI a cls d σ H s) (hs : X.stack = X.env :: X.outer) (hf : X.env.frame = some X.env.locals) (hc : Names X x c) {b : Bool} (hb : PySem.W.exmOne X.K cls c = some b) {pos : Pos} {R : Result → Shared → Prop}
    (q : R (.ok (if b then .brk else .next)) s) : codeAny (model X.prog X.w) (X.A.mark (some (.ref a))) (.handlers (.ref a) [.ExceptHandler (some (.Name x np)) none [] pos] X.env) R s := by
  obtain ⟨oe, z, _, e1, S⟩ := h.suite hs hf
  have ty : PySem.W.Looks (model X.prog X.w) s.heap (typeOf (.ref a)) cls := fun _ _ _ _ k r => wpAny_typeOf_ref (k _ _ e1) (by rw [z.1]; exact r)
  have hit := PySem.W.exm_one (M := model X.prog X.w) S.kIn ty hb
  refine codeAny_handlers_test ?_
  obtain ⟨g, nd, m | ⟨m, v, nn⟩⟩ := hc
  · exact ld_glob S g m (hit.here q) nd
  · exact ld_blt S g m v (hit.here q) nn nd
theorem Hand.again (h : Hand X pins B sI a cls d σ H s) {A : Around} {E : Value → Shared → Prop} {Q : Unit → Shared → Prop} (k : ∀ s', Hand X pins B sI a cls d σ H s' → Q () s') : wpAny (model X.prog X.w) A (setFlight (.ref a) none) Q E s :=
  HandSPX.lands_againZ h.fl fun h' f u => k _ ⟨h.inv, h.gr, h.up.trans u, f, h.na, h.os, h.ag⟩
/-- no clause takes it -/
theorem Hand.pass (h : Hand X pins B sI a cls d σ H s) (hs : X.stack = X.env :: X.outer) (hf : X.env.frame = some X.env.locals) {W : WX} (tk : Takes X W) (w : W cls d σ H) {Q : Flow → Shared → Prop} : wpAny (model X.prog X.w) X.A (handleBy (.ref a) X.env []) Q X.xe s := by
  have last : wpAny (model X.prog X.w) X.A (setFlight (.ref a) X.env.frame) (fun _ s4 => wpAny (model X.prog X.w) X.A (throw (.ref a) : Sem Flow) Q X.xe s4) X.xe s := by
    rw [hf]
    refine HandSPX.setFlight_upZ h.fl fun h' hh u => wpAny_throw (tk _ _ ⟨a, B, sI, pins, σ, H, cls, d, rfl, h.inv, h.gr, h.up.trans u, .inr (.inr hh), h.na, h.os, h.ag, w⟩)
  obtain ⟨_, _, _, oe, vs, t, ot, ts, e1, _, e2, e3, _⟩ := h.fl
  refine wpAny_handleBy_nil ?_
  unfold PySem.passOn
  refine wpAny_bind (wpAny_field e1 e2 e3 ?_)
  have ne : ¬ ((Value.ref t == Value.none) = true) := by simp
  rw [if_neg ne]
  first
    | exact wpAny_bind (wpAny_pure (wpAny_bind last))
    | exact wpAny_bind last
end
/-- a clause: the class, the slot of its name (if it has one), and what its suite says -/
structure Clause where
  cls : Value
  slot : Option Nat
  ts : Addr → Value → Option Addr → TS
def Clause.ends (q : Clause) (D : Ends) : Ends := match q.slot with
  | none => D
  | some i => { nx := fun σ H => D.nx (σ.set i none) H, rt := D.rt, bk := fun σ H => D.bk (σ.set i none) H, ct := fun σ H => D.ct (σ.set i none) H }
def Clause.at_ (q : Clause) (a : Addr) (σ : L2.St) : L2.St := match q.slot with
  | none => σ
  | some i => σ.set i (some (.ref a))
/-- what the clauses wish of an error of the body -/
def wish (K : PySem.W.Frag) (W : WX) (D : Ends) : List Clause → WX
  | [] => W
  | q :: r => fun cls d σ H => ∃ b, PySem.W.exmOne K cls q.cls = some b ∧ (b = true → ∀ a, H a = none → q.ts a cls d (q.ends D) (q.at_ a σ) H) ∧ (b = false → wish K W D r cls d σ H)
/-- the clauses of a try, one by one -/
inductive Cls (X : Cx) : List ExceptHandler → List Clause → Prop
  | nil : Cls X [] []
  | bare {x : Str} {q : Clause} {b₀ : Stmt} {suite : List Stmt} {np p : Pos} {hds : List ExceptHandler} {l : List Clause} (hn : Names X x q.cls) (e : q.slot = none)
      (hsu : ∀ (a : Addr) (oe : Obj) (cls : Value) (d : Option Addr) (pn : List (Addr × Obj)), Zc cls d oe → (∃ vs, oe.data = .fields vs) → PSs (X.suite a ((a, oe) :: pn)) (b₀ :: suite) (q.ts a cls d))
      (r : Cls X hds l) : Cls X (.ExceptHandler (some (.Name x np)) none (b₀ :: suite) p :: hds) (q :: l)
  | as {x n : Str} {i : Nat} {q : Clause} {b₀ : Stmt} {suite : List Stmt} {np p : Pos} {hds : List ExceptHandler} {l : List Clause} (hn : Names X x q.cls) (e : q.slot = some i) (hi : X.N[i]? = some n) (hk : X.env.kindOf n = some .local)
      (hsu : ∀ (a : Addr) (oe : Obj) (cls : Value) (d : Option Addr) (pn : List (Addr × Obj)), Zc cls d oe → (∃ vs, oe.data = .fields vs) → PSs (X.suite a ((a, oe) :: pn)) (b₀ :: suite) (q.ts a cls d))
      (r : Cls X hds l) : Cls X (.ExceptHandler (some (.Name x np)) (some n) (b₀ :: suite) p :: hds) (q :: l)
section
variable {X : Cx} {pins : List (Addr × Obj)} {B : Heap} {sI s : Shared} {a : Addr} {cls : Value} {d : Option Addr} {σ : L2.St} {H : Hp} {D : Ends} {W : WX}
/-- what ran in a suite with a name: the name goes -/
theorem ended_as {oe : Obj} {i : Nat} {n : Str} {pos : Pos} {f : Flow} {E : Value → Shared → Prop} {e : Ends} (ok : X.Ok) (hN : X.N.Nodup) (hi : X.N[i]? = some n) (hk : X.env.kindOf n = some .local)
    (he : e = { nx := fun σ H => D.nx (σ.set i none) H, rt := D.rt, bk := fun σ H => D.bk (σ.set i none) H, ct := fun σ H => D.ct (σ.set i none) H })
    (h : SP (X.suite a ((a, oe) :: (X.pn ++ pins))) [] e f s) : wpAny (model X.prog X.w) X.A (do bindName X.env n .none; unbindBehindTheSuite X.env n pos) (fun _ s' => SP X pins D f s') E s := by
  subst he
  cases f with
  | ret u =>
    obtain ⟨v, σ1, H1, I1, r, q⟩ := h
    exact gone_ok (Inv.unsuite I1 ok) hN hi hk fun _ J => ⟨v, _, H1, J, r, q⟩
  | next =>
    obtain ⟨σ1, H1, I1, q⟩ := h
    exact gone_ok (Inv.unsuite I1 ok) hN hi hk fun _ J => ⟨_, H1, J, q⟩
  | brk =>
    obtain ⟨σ1, H1, I1, q⟩ := h
    exact gone_ok (Inv.unsuite I1 ok) hN hi hk fun _ J => ⟨_, H1, J, q⟩
  | cont =>
    obtain ⟨σ1, H1, I1, q⟩ := h
    exact gone_ok (Inv.unsuite I1 ok) hN hi hk fun _ J => ⟨_, H1, J, q⟩
theorem ended_bare {oe : Obj} {f : Flow} (ok : X.Ok) (h : SP (X.suite a ((a, oe) :: (X.pn ++ pins))) [] D f s) : SP X pins D f s := by
  cases f with
  | ret u =>
    obtain ⟨v, σ1, H1, I1, q⟩ := h
    exact ⟨v, σ1, H1, Inv.unsuite I1 ok, q⟩
  | next =>
    obtain ⟨σ1, H1, I1, q⟩ := h
    exact ⟨σ1, H1, Inv.unsuite I1 ok, q⟩
  | brk =>
    obtain ⟨σ1, H1, I1, q⟩ := h
    exact ⟨σ1, H1, Inv.unsuite I1 ok, q⟩
  | cont =>
    obtain ⟨σ1, H1, I1, q⟩ := h
    exact ⟨σ1, H1, Inv.unsuite I1 ok, q⟩
/-- an error in hand goes through the clauses -/
theorem Hand.through {hds : List ExceptHandler} {l : List Clause} (k : Cls X hds l) (hs : X.stack = X.env :: X.outer) (hf : X.env.frame = some X.env.locals) (hN : X.N.Nodup) (tk : Takes X W) (h : Hand X pins B sI a cls d σ H s) (w : wish X.K W D l cls d σ H) :
    wpAny (model X.prog X.w) X.A (handleBy (.ref a) X.env hds) (SP X pins D) X.xe s := by
  have ok := h.inv.ok
  induction k generalizing s with
  | nil => exact h.pass hs hf tk w
  | @bare x q b₀ suite np p hds l hn e hsu r ih =>
    obtain ⟨b, hb, yes, no⟩ := w
    refine wpAny_handleBy_cons (h.test hs hf hn hb ?_) (fun z => by cases z)
    cases b with
    | false => exact ih h (no rfl)
    | true =>
      refine codeAny_handlers_suite (h.again fun s1 h1 => ?_)
      obtain ⟨oe, z, vs, _, S⟩ := h1.suite hs hf
      have go := yes rfl a h.na
      unfold Clause.ends Clause.at_ at go
      rw [e] at go
      exact wpAny_mono ((hsu a oe cls d _ z vs).run [] _ _ _ _ S go) (fun f s2 q2 => ended_bare ok q2) (fun _ _ z => z.elim)
  | @as x n i q b₀ suite np p hds l hn e hi hk hsu r ih =>
    obtain ⟨b, hb, yes, no⟩ := w
    refine wpAny_handleBy_cons (h.test hs hf hn hb ?_) (fun z => by cases z)
    cases b with
    | false => exact ih h (no rfl)
    | true =>
      refine codeAny_handlers_suite_as (h.again fun s1 h1 => ?_)
      obtain ⟨oe, z, vs, _, S⟩ := h1.suite hs hf
      have go := yes rfl a h.na
      unfold Clause.ends Clause.at_ at go
      rw [e] at go
      refine store_ok (X := X.suite a (((a, oe) : Addr × Obj) :: (X.pn ++ pins))) (v := V.ref a) S hN hi (.inl hk) rfl (fun s2 S2 => ?_) (.inr hk)
      exact wpAny_mono ((hsu a oe cls d _ z vs).run [] _ _ _ _ S2 go) (fun f s3 q3 => ended_as ok hN hi hk rfl q3) (fun _ _ z => z.elim)
/-- an error of the body comes into the frame's hand -/
theorem caught {xe : Value → Shared → Prop} {u : Value} {W' : WX} {E : Value → Shared → Prop} {Q : Unit → Shared → Prop} (ok : X.Ok) (hs : X.stack = X.env :: X.outer) (hf : X.env.frame = some X.env.locals) (x : XE (X.tr (X.pn ++ pins) xe) W' u s)
    (k : ∀ a B sI cls d σ H s', u = .ref a → Hand X pins B sI a cls d σ H s' → W' cls d σ H → Q () s') :
    wpAny (model X.prog X.w) X.A (noteFrame u X.env) (fun _ s2 => wpAny (model X.prog X.w) X.A (setFlight u none) Q E s2) E s := by
  obtain ⟨a, B, sI, ps, σ, H, cls, d, rfl, I, gr, up, sky, na, os, ag, w⟩ := x
  have J : Inv X pins σ H sI := Inv.ofTry I ok
  have fr : X.A.frames = some (X.env :: X.outer) := by rw [ok.frames, hs]
  have sk : Sky B (X.env :: X.outer) a (Zc cls d) X.env.locals s.heap := by rw [← hs]; exact sky
  refine Sky.land Zc.steady fr hf sk fun h' f u => k a B sI cls d σ H _ rfl ⟨J, gr, up.trans u, ?_, na, os, ag⟩ w
  rw [hs]
  exact f
end
/-- try with any clauses -/
theorem ps_try {X : Cx} {body : List Stmt} {h₀ : ExceptHandler} {hds : List ExceptHandler} {l : List Clause} {pos : Pos} {tb : WX → TS} {W : WX} (hs : X.stack = X.env :: X.outer) (hf : X.env.frame = some X.env.locals) (hN : X.N.Nodup) (tk : Takes X W)
    (hb : ∀ (W' : WX) (pn : List (Addr × Obj)) (xe : Value → Shared → Prop), Takes (X.tr pn xe) W' → PassesOwn (model X.prog X.w) X.A X.env xe → PSs (X.tr pn xe) body (tb W'))
    (k : Cls X (h₀ :: hds) l) : PS X (.Try body (h₀ :: hds) [] [] pos) (fun D σ H => tb (wish X.K W D l) D σ H) := by
  refine ⟨fun pins s σ H D I h => wpAny_Try_except ?_⟩
  have ok := I.ok
  have run := hb (wish X.K W D l) (X.pn ++ pins) _ (fun u s1 x => caught (E := X.xe) (Q := fun _ s3 => wpAny (model X.prog X.w) X.A (handleBy u X.env (h₀ :: hds)) (SP X pins D) X.xe s3) ok hs hf x fun a B sI cls d σ H s' e g w => by rw [e]; exact Hand.through k hs hf hN tk g w) PassesOwn.looking
  refine wpAny_mono (run.run [] s σ H D (I.toTry _) h) (fun f s1 q => ?_) (fun _ _ z => z)
  cases f with
  | ret u =>
    obtain ⟨v, σ1, H1, J, q⟩ := q
    exact ⟨v, σ1, H1, Inv.ofTry J ok, q⟩
  | next =>
    obtain ⟨σ1, H1, J, q⟩ := q
    exact wpAny_execs_nil ⟨σ1, H1, Inv.ofTry J ok, q⟩
  | brk =>
    obtain ⟨σ1, H1, J, q⟩ := q
    exact ⟨σ1, H1, Inv.ofTry J ok, q⟩
  | cont =>
    obtain ⟨σ1, H1, J, q⟩ := q
    exact ⟨σ1, H1, Inv.ofTry J ok, q⟩
end TR
set_option Elab.async false
set_option linter.all false
set_option maxRecDepth 100000
set_option maxHeartbeats 4000000
namespace AE
open PySem PySem.Spec PyProof.Rows PySem.W PySem.Calls PySem.HandSPX
open Builtin Builtin.ObjectAttr
section
variable {prog : Program} {w : World} {A : Around} {E : Value → Shared → Prop} {R : Result → Shared → Prop} {hp : Heap} {g : Array GenState} {d : Drawn} {t : Nat} {os : OsState}
/-- a further field of such an error: its dict is there -/
theorem ae_osa2 {K : Frag} {name : Str} {tk : Tok} {v : Value} {x C dx : Addr} {fv : Array Value} {m0 : Str → Option Value} {nl : List Str} (T : AeC K C) (X : K.In hp)
    (hx : hp.get? x = some { cls := .ref C, dict := some dx, data := .fields fv }) (hns : hp.Ns1 dx m0) (hw : Within m0 nl) (hz : nl.length ≤ 1000) (ha : findIn K (.ref C) name = some none)
    (k : ∀ (G : Heap) (tk' : Nat), (∀ b o, b ≠ dx → hp.get? b = some o → G.get? b = some o) → G.Ns1 dx (fun z => if z = name then some v else m0 z) → R (.ok (.ret .none)) ⟨G, g, d, tk', os⟩) :
    codeAny (model prog w) A (.call (.builtin "object.__setattr__") ⟨[.ref x, .str name tk, v], []⟩) R ⟨hp, g, d, t, os⟩ := by
  obtain ⟨oD, _, _, hoD, _, _⟩ := hns.count hw
  have I : InstAt hp x { cls := .ref C, dict := some dx, data := .fields fv } C (some oD) := ⟨hx, rfl, rfl, hoD⟩
  obtain ⟨cd, hcd, hh⟩ := any_some T.hd
  have Lc : Looks (model prog w) hp (classData C) cd := looks_clsIn X hcd
  refine osa_openX F.store_ArithmeticError X I T.ov (r := none) (by unfold takerIn; rw [ha]; rfl) fun b => ?_
  show wpAny _ _ (storeInOwnDict (.ref x) (.ref C) (.str name tk) name v b) _ _ _
  obtain ⟨nm, bs, mro, ns, qn, hd, sn, sb, ab, col, del⟩ := cd
  have hh : hd = true := hh
  subst hh
  unfold storeInOwnDict ownDictForStores
  repeat first
    | with_reducible refine PySem.OEX.store_in_old hns hw hz ?_
    | with_reducible refine wpAny_loadPart_at hx ?_
    | with_reducible refine Lc.at ?_
    | wp_step
  intro G t2 hG hs
  exact k G t2 (fun b o nb q => (hs.2 b nb).trans q) hG
end
end AE
namespace AE
open PySem PySem.Spec PyProof.Rows L2
section
variable {X : Cx} {pins : List (Addr × Obj)} {σ : L2.St} {H : Hp} {s : Shared} {a C dx : Addr} {f : Str} {y : V} {u : Value} {Q : Unit → Shared → Prop} {E : Value → Shared → Prop} {A : Around} {fs : List (Str × V)}
theorem ae_more (T : AeC X.K C) (I : Inv X pins σ H s) (e : H a = some (exo a C (some dx))) (ed : H dx = some (exd dx fs)) (hl : fs.length ≤ 900) (hno : PySem.W.findIn X.K (.ref C) f = some none) (ry : RelV y u)
    (k : ∀ s', Inv X pins σ (upd H dx (exd dx ((f, y) :: fs))) s' → Q () s') : wpAny (model X.prog X.w) A (setAttr (.ref a) f u) Q E s := by
  obtain ⟨t1, ho⟩ := exo_at I.hok e
  obtain ⟨mA, hns, rel⟩ := exd_at I.hok ed
  have hw := within_of rel
  obtain ⟨hp, g, d, t, os⟩ := s
  obtain ⟨oD, _, _, hoD, _, _⟩ := hns.count hw
  refine PySem.W.set_plain I.kIn (od := some oD) ⟨ho, rfl, rfl, hoD⟩ T.sa (ae_osa2 T I.kIn ho hns hw (by rw [List.length_map]; omega) hno fun G t2 keep hn => ?_)
  have there : ∃ o, G.get? dx = some o := by
    obtain ⟨o, _, _, z, _⟩ := hn
    exact ⟨o, z⟩
  refine k _ (I.write (t' := t2) (x := dx) (e := dx) (o := exd dx ((f, y) :: fs)) ?_ (.inl rfl) keep there (exd_ok hn (relO_put ry rel)))
  rw [ed]
  exact True.intro
end
/-- self.f = e, a further field of an error that is made -/
def tAst2 (K : PySem.W.Frag) (f : Str) (to te : TE) : TS := fun D σ H => te σ H fun y H1 => to σ H1 fun x H2 => ∃ (a C dx : Addr) (fs : List (Str × V)), x = .ref a ∧ AeC K C ∧ PySem.W.findIn K (.ref C) f = some none ∧ H2 a = some (exo a C (some dx)) ∧ H2 dx = some (exd dx fs) ∧ fs.length ≤ 900 ∧
  D.nx σ (upd H2 dx (exd dx ((f, y) :: fs)))
theorem ps_ast2 {X : Cx} {o e : Expr} {to te : TE} {f : Str} {p pos : Pos} (ho : PE X o to) (he : PE X e te) (hs : swapsWith e (some (.Attribute o f p)) pos.line X.env = pure false := by rfl) : PS X (.Assign [.Attribute o f p] e pos) (tAst2 X.K f to te) := by
  refine ⟨fun pins s σ H D I h => plainObj_wpAny_Assign_Attribute (thn (he.run pins s σ H _ I h) fun v s1 ⟨y, H1, I1, r1, q1⟩ => thn (ho.run pins s1 σ H1 _ I1 q1) fun u s2 q2 => ?_) hs⟩
  obtain ⟨x, H2, I2, r2, a, C, dx, fs, rfl, T, hno, ea, ed, hl, q⟩ := q2
  obtain rfl : u = Value.ref a := r2
  exact ae_more T I2 ea ed hl hno r1 fun s' J => ⟨σ, _, J, q⟩
end AE
/-! isinstance of a caught error that has its dict -/
namespace AE
open PySem PySem.Spec PySem.Calls PyProof.Rows PySem.W
section
variable {prog : Program} {w : World} {A : Around} {E : Value → Shared → Prop} {s : Shared} {K : Frag} {x D : Addr} {ox od : Obj}
theorem cls_of (C : L2.ExcC K D) (X : K.In s.heap) (I : InstAt s.heap x ox D (some od)) {Q : Option Value → Shared → Prop} (h : Q (some (.ref D)) { s with toks := s.toks + 1 }) : wpAny (model prog w) A (getAttr? (.ref x) "__class__") Q E s := by
  have fo : findObj K D (some od) "__class__" = some (.bind (.builtin "getset_descriptor.__get__") (.builtin "object.__class__")) := by
    obtain ⟨cd, hc, _⟩ := any_some C.hd
    exact findObj_data (by rw [hc]; rfl) C.ha C.hn C.ht
  obtain ⟨hp, g, d, t, os⟩ := s
  have ty := I.type (M := model prog w)
  have l1 := looks_findIn (M := model prog w) X C.hg
  have l2 := looks_findIn (M := model prog w) X C.hk
  have l3 := looks_find (M := model prog w) X I fo
  have sub : Looks (model prog w) hp (isInstance (.ref x) (.type "BaseException")) true := ty.andThen (looks_subIn X C.hs)
  have n0 : (false && onTheHeap (Value.builtin "BaseException.__getattribute__")) = false := rfl
  have n2 : (Value.builtin "BaseException.__getattribute__" == Value.builtin "object.__getattribute__") = false := by decide +kernel
  have n1 : ¬ (onTheHeap (Value.ref D) && Value.builtin "BaseException.__getattribute__" == Value.builtin "object.__getattribute__") = true := by
    rw [n2]
    exact Bool.false_ne_true
  unfold getAttr? getAttrBy? getAttrBy
  refine wpAny_bind (wpAny_mkText (wpAny_bind (wpAny_attempt (wpAny_holding (wpAny_bind (ty.at (wpAny_bind (l1.at ?_))))))))
  show wpAny _ _ (if (onTheHeap (Value.ref D) && Value.builtin "BaseException.__getattribute__" == Value.builtin "object.__getattribute__") = true then _ else _) _ _ _
  rw [if_neg n1]
  unfold getAttrByItsOwn hookBefore
  refine wpAny_bind ?_
  have on : onTheHeap (Value.ref D) = true := rfl
  rw [if_pos on]
  refine l2.at (wpAny_bind (wpAny_attempt (wpAny_holding ?_)))
  unfold callGetattribute
  rw [n0, if_neg Bool.false_ne_true]
  unfold boundAndCalled
  rw [PySem.F.excAttr_ValueError.ga.bind (.ref x)]
  refine wpAny_bind (wpAny_pure ?_)
  show wpAny _ _ (call (.builtin "BaseException.__getattribute__") [.ref x, .str "__class__" t]) _ _ _
  refine wpAny_call (codeAny_call_builtin PySem.F.excAttr_ValueError.ga.plain PySem.F.entry_bexc_ga (@check_slot (model prog w) _ _ ⟨hp, g, d, t + 1, os⟩ "BaseException.__getattribute__" "BaseException" "__getattribute__" (.ref x) [.str "__class__" t] [] _ (by decide +kernel) (by decide +kernel) sub (PySem.F.args_bexc_ga (.ref x) (.str "__class__" t)) ?_))
  unfold Builtin.«object.__getattribute__»
  refine wpAny_bind (wpAny_of_eq (a := ((Value.ref x : Value), [Value.str "__class__" t])) (by first | rfl | (simp only [slotArgs]; rfl)) (wpAny_bind (wpAny_pure (wpAny_bind (ty.at (wpAny_bind (l3.at ?_)))))))
  show wpAny _ _ (holding [Value.builtin "object.__class__"] (call (.builtin "getset_descriptor.__get__") [.builtin "object.__class__", .ref x, .ref D]) >>= ret) _ _ _
  refine wpAny_bind (wpAny_holding (wpAny_call (class_get (s := ⟨hp, g, d, t + 1, os⟩) (ox := ox) (od := some od) X I C.hm (wpAny_pure ?_))))
  show wpAny _ _ (handedOut (.ref D)) _ _ _
  rw [handedOut_of (v := .ref D) rfl]
  first
    | exact wpAny_pure (wpAny_pure h)
    | exact wpAny_pure h
    | exact wpAny_pure (wpAny_bind (wpAny_pure (wpAny_pure h)))
theorem kit_of (C : L2.ExcC K D) : KitX K (.ref x) (.ref D) (fun h => InstAt h x ox D (some od)) where
  ty := fun _ _ _ I => I.type
  it := fun _ _ X _ => by
    obtain ⟨cd, hc, _⟩ := any_some C.hd
    unfold clsIn at hc
    split at hc
    · rename_i ho
      intro A' Q' E' s' k q
      unfold isType loadHead
      exact wpAny_bind (wpAny_loadPart (k _ _ (X _ _ ho)) (wpAny_pure q))
    · cases hc
  ne := fun h tp dd its n sl X htp => by
    obtain ⟨cd, hc, _⟩ := any_some C.hd
    refine Bool.eq_false_iff.mpr fun q => ?_
    have e : D = tp := Value.ref.inj (beq_iff_eq.mp q)
    subst e
    unfold clsIn at hc
    split at hc
    · rename_i ho
      exact nomatch (X _ _ ho).symm.trans htp
    · cases hc
  ca := fun X I k => cls_of C X I k
end
end AE
namespace AE
open PySem PySem.Spec PyProof.Rows L2
/-- isinstance(e, c) in a suite that holds the error e with its dict -/
theorem call_isD {X : Cx} {a D dd : Addr} {oe : Obj} {pn : List (Addr × Obj)} {fs : List (Str × V)} (C : ExcC X.K D) (hz : Zc (.ref D) (some dd) oe) (hf : ∃ vs, oe.data = .fields vs) :
    CallR (X.suite a ((a, oe) :: pn)) (.builtin "isinstance") (fun xs H Q => H dd = some (.xd fs) ∧ rIsE X.K D a xs H Q) := by
  intro pins s σ H xs us Q I r h
  obtain ⟨hd, c, cv, b, rfl, hcv, e, q⟩ := h
  have ha := I.hok dd _ hd
  obtain ⟨mA, hns, hr⟩ := ha
  obtain ⟨od, ho, _⟩ := lookIn_ns hns
  match us, r with
  | [_, _], .cons rx (.cons rt .nil) =>
    cases rx
    have ec := hcv _ rt
    subst ec
    obtain ⟨hget, _⟩ := I.pin (a, oe) (List.mem_append_left _ List.mem_cons_self)
    obtain ⟨vs, hv⟩ := hf
    have J : PySem.W.InstAt s.heap a oe D (some od) := ⟨hget, hz.1, by unfold PySem.W.notCls; rw [hv] <;> rfl, by rw [hz.2]; exact ho⟩
    exact PySem.W.kia_one (kit_of C) I.kIn J e (fun z => nomatch z) fun tk => ⟨.bl b, H, I.kept (t' := tk) fun _ _ z => z, rfl, q⟩
end AE
set_option Elab.async false
set_option linter.all false
set_option maxRecDepth 100000
set_option maxHeartbeats 4000000
namespace CA
open PySem PySem.Spec PyProof.Rows L2 AutoSeq1
theorem add_any (l : Addr) (ol ob : Obj) (items : Array Value) (n : Nat) (b : Addr) (items2 : Array Value) (n2 : Nat) (cl : ol.cls = .type "list") (dl : ol.data = .seq items n) (cb : ob.cls = .type "list") (db : ob.data = .seq items2 n2) (hc0 : items.size + items2.size ≤ sizeLine) :
    Meets (Builtin.«list.__add__» ⟨[.ref l, .ref b], []⟩) (fun _ R s => s.heap.get? l = some ol ∧ s.heap.get? b = some ob ∧ R (.ok (.ret (Value.ref s.heap.objs.size))) { s with heap := s.heap.push { cls := Value.type "list", data := Data.seq (items ++ items2) }, toks := s.toks }) :=
  .of_wp fun prog w A R s h => by
    obtain ⟨c1, d1, dt1, s1⟩ := ol
    obtain ⟨c2, d2, dt2, s2⟩ := ob
    obtain rfl : c1 = .type "list" := cl
    obtain rfl : c2 = .type "list" := cb
    obtain rfl : dt1 = .seq items n := dl
    obtain rfl : dt2 = .seq items2 n2 := db
    obtain ⟨hp, g, d, tk, os⟩ := s; obtain ⟨hl, hb, h⟩ := h; have f1 := idx_int; have f2 := AutoSeq1.sub_tuple_tuple; have f3 := AutoSeq1.sub_list_list; have f4 := AutoSeq1.sub_tuple_list; have f5 := AutoSeq1.sub_list_tuple; wp_walk using wpAny_loadPart' hl, wpAny_loadPart' hb; exact ⟨_, rfl, h⟩
def rCatL (K : PySem.W.Frag) : R2 := fun x y H Q => ∃ l b xs zs, x = .ref l ∧ y = .ref b ∧ SqL K H l xs ∧ SqL K H b zs ∧ xs.length + zs.length ≤ sizeLine ∧ ∀ p, H p = none → Q (.ref p) (upd H p (.lst (xs ++ zs)))
theorem op_catL {X : Cx} : OpR X (binaryOp .Add) (rCatL X.K) := by
  intro pins s σ H x y v u Q I rx ry h
  obtain ⟨l, b, xs, zs, rfl, rfl, hH, hB, hz, q⟩ := h
  cases rx
  cases ry
  obtain ⟨its, r, ⟨o, n, ho, hc, hd, hs⟩, hl⟩ := I.list hH
  obtain ⟨its2, r2, ⟨o2, n2, ho2, hc2, hd2, hs2⟩, hl2⟩ := I.list hB
  have e1 := r.length
  have e2 := r2.length
  refine concat_meets ⟨_, ho, hc⟩ ⟨_, ho2, hc2⟩ noFill_list_add seq_list_add F.slot_list_add F.entry_list_add (F.args_list_add_2 _ _) (add_any l o o2 its.toArray n b its2.toArray n2 hc hs hc2 hs2 (by rw [List.size_toArray, List.size_toArray]; omega)) ⟨ho, ho2, ?_⟩
  have ea : its.toArray ++ its2.toArray = (its ++ its2).toArray := by simp
  rw [ea]
  exact ⟨.ref _, _, I.lnew (t' := s.toks) (r.append r2) (by rw [List.length_append]; omega), rfl, q _ I.fresh⟩
def ones : Str := ⟨(List.replicate 31 ("1" : Str).cps).foldl (· ++ ·) #[]⟩
/-- "1" * 31 -/
def rOnes : R2 := fun x y H Q => x = .str "1" ∧ y = .int 31 ∧ Q (.str ones) H
theorem op_ones {X : Cx} : OpR X (binaryOp .Mult) rOnes := by
  intro pins s σ H x y v u Q I rx ry h
  obtain ⟨rfl, rfl, q⟩ := h
  obtain ⟨t, rfl⟩ := rx
  obtain ⟨t2, rfl⟩ := ry
  refine PySem.P.mul_str (by decide +kernel) (fun _ _ => by decide +kernel) (fun _ _ => by decide +kernel) ?_
  rw [if_neg (by decide), if_neg (by decide +kernel)]
  exact ⟨by decide +kernel, .str ones, H, I.tok _, ⟨_, rfl⟩, q⟩
end CA
set_option Elab.async false
set_option linter.all false
set_option maxRecDepth 100000
set_option maxHeartbeats 4000000
namespace CA
open PySem PySem.Spec PyProof.Rows L2
def strsOf : List Expr → Option (List Str)
  | [] => some []
  | .Constant (.str x) _ _ :: r => (strsOf r).map (x :: ·)
  | _ => none
def tStrs (ss : List Str) : TA := fun _ H Q => Q (ss.map V.str) H
theorem pa_strs {X : Cx} : ∀ {es : List Expr} {ss : List Str}, strsOf es = some ss → PA X es (tStrs ss)
  | [], ss, h => by
    obtain rfl : ([] : List Str) = ss := Option.some.inj h
    exact (pa_nil : PA X [] tNil)
  | .Constant (.str x) j p :: es, ss, h => by
    obtain ⟨r, h1, rfl⟩ := Option.map_eq_some_iff.mp (show (strsOf es).map (x :: ·) = some ss from h)
    exact (pa_cons pe_str (pa_strs h1) : PA X (.Constant (.str x) j p :: es) (tCons (tC (.str x)) (tStrs r)))
end CA
set_option Elab.async false
set_option linter.all false
set_option maxRecDepth 100000
set_option maxHeartbeats 0
namespace W5
open PySem PySem.Spec PyProof.Rows L2
def top (i : Nat) : Stmt := PySem.Challenge.pw_backframes_k05_what_is_no_text_of_source.main.body.getD i (.Pass ⟨0, 0, 0, 0⟩)
abbrev s_is_integer : Stmt := top 10
def d_is_integer : He.DefD := ⟨("is_integer", none), "is_integer", "is_integer", defArgs s_is_integer, defBody s_is_integer, defScope s_is_integer, [], []⟩
abbrev s_is_integer_in : Stmt := top 11
def d_is_integer_in : He.DefD := ⟨("is_integer_in", none), "is_integer_in", "is_integer_in", defArgs s_is_integer_in, defBody s_is_integer_in, defScope s_is_integer_in, [], []⟩
abbrev s_is_written_number : Stmt := top 12
def d_is_written_number : He.DefD := ⟨("is_written_number", none), "is_written_number", "is_written_number", defArgs s_is_written_number, defBody s_is_written_number, defScope s_is_written_number, [], []⟩
abbrev s_is_name : Stmt := top 13
def d_is_name : He.DefD := ⟨("is_name", none), "is_name", "is_name", defArgs s_is_name, defBody s_is_name, defScope s_is_name, [], []⟩
abbrev s_is_kind : Stmt := top 14
def d_is_kind : He.DefD := ⟨("is_kind", none), "is_kind", "is_kind", defArgs s_is_kind, defBody s_is_kind, defScope s_is_kind, [], []⟩
abbrev s_is_tuple_of : Stmt := top 15
def d_is_tuple_of : He.DefD := ⟨("is_tuple_of", none), "is_tuple_of", "is_tuple_of", defArgs s_is_tuple_of, defBody s_is_tuple_of, defScope s_is_tuple_of, [], []⟩
abbrev s_is_list_of : Stmt := top 16
def d_is_list_of : He.DefD := ⟨("is_list_of", none), "is_list_of", "is_list_of", defArgs s_is_list_of, defBody s_is_list_of, defScope s_is_list_of, [], []⟩
abbrev s_is_list_of_names : Stmt := top 17
def d_is_list_of_names : He.DefD := ⟨("is_list_of_names", none), "is_list_of_names", "is_list_of_names", defArgs s_is_list_of_names, defBody s_is_list_of_names, defScope s_is_list_of_names, [], []⟩
abbrev s_is_word_tuple : Stmt := top 18
def d_is_word_tuple : He.DefD := ⟨("is_word_tuple", none), "is_word_tuple", "is_word_tuple", defArgs s_is_word_tuple, defBody s_is_word_tuple, defScope s_is_word_tuple, [], []⟩
abbrev s_frozen : Stmt := top 19
def d_frozen : He.DefD := ⟨("frozen", none), "frozen", "frozen", defArgs s_frozen, defBody s_frozen, defScope s_frozen, [], []⟩
abbrev s_are_named_kinds : Stmt := top 20
def d_are_named_kinds : He.DefD := ⟨("are_named_kinds", none), "are_named_kinds", "are_named_kinds", defArgs s_are_named_kinds, defBody s_are_named_kinds, defScope s_are_named_kinds, [], []⟩
abbrev s_is_row : Stmt := top 25
def d_is_row : He.DefD := ⟨("is_row", none), "is_row", "is_row", defArgs s_is_row, defBody s_is_row, defScope s_is_row, [], []⟩
abbrev s_fills : Stmt := top 26
def d_fills : He.DefD := ⟨("_fills", none), "_fills", "_fills", defArgs s_fills, defBody s_fills, defScope s_fills, [], []⟩
abbrev s_row_sets : Stmt := top 27
def d_row_sets : He.DefD := ⟨("row_sets", none), "row_sets", "row_sets", defArgs s_row_sets, defBody s_row_sets, defScope s_row_sets, [], []⟩
abbrev s_row_reads : Stmt := top 28
def d_row_reads : He.DefD := ⟨("row_reads", none), "row_reads", "row_reads", defArgs s_row_reads, defBody s_row_reads, defScope s_row_reads, [], []⟩
abbrev s_row_kinds_fit : Stmt := top 29
def d_row_kinds_fit : He.DefD := ⟨("row_kinds_fit", none), "row_kinds_fit", "row_kinds_fit", defArgs s_row_kinds_fit, defBody s_row_kinds_fit, defScope s_row_kinds_fit, [], []⟩
abbrev s_names_in : Stmt := top 30
def d_names_in : He.DefD := ⟨("_names_in", none), "_names_in", "_names_in", defArgs s_names_in, defBody s_names_in, defScope s_names_in, [], []⟩
abbrev s_call_fits : Stmt := top 31
def d_call_fits : He.DefD := ⟨("_call_fits", none), "_call_fits", "_call_fits", defArgs s_call_fits, defBody s_call_fits, defScope s_call_fits, [], []⟩
abbrev s_is_class : Stmt := top 43
def d_is_class : He.DefD := ⟨("_is_class", none), "_is_class", "_is_class", defArgs s_is_class, defBody s_is_class, defScope s_is_class, [], []⟩
abbrev s_is_head : Stmt := top 44
def d_is_head : He.DefD := ⟨("_is_head", none), "_is_head", "_is_head", defArgs s_is_head, defBody s_is_head, defScope s_is_head, [], []⟩
abbrev s_text_lines : Stmt := top 51
def d_text_lines : He.DefD := ⟨("text_lines", none), "text_lines", "text_lines", defArgs s_text_lines, defBody s_text_lines, defScope s_text_lines, [], []⟩
abbrev s_words_of : Stmt := top 52
def d_words_of : He.DefD := ⟨("_words_of", none), "_words_of", "_words_of", defArgs s_words_of, defBody s_words_of, defScope s_words_of, [], []⟩
abbrev s_read_pairs : Stmt := top 53
def d_read_pairs : He.DefD := ⟨("read_pairs", none), "read_pairs", "read_pairs", defArgs s_read_pairs, defBody s_read_pairs, defScope s_read_pairs, [], []⟩
abbrev s_read_integer : Stmt := top 54
def d_read_integer : He.DefD := ⟨("read_integer", none), "read_integer", "read_integer", defArgs s_read_integer, defBody s_read_integer, defScope s_read_integer, [], []⟩
abbrev s_read_row : Stmt := top 55
def d_read_row : He.DefD := ⟨("read_row", none), "read_row", "read_row", defArgs s_read_row, defBody s_read_row, defScope s_read_row, [], []⟩
abbrev s_read_part : Stmt := top 56
def d_read_part : He.DefD := ⟨("_read_part", none), "_read_part", "_read_part", defArgs s_read_part, defBody s_read_part, defScope s_read_part, [], []⟩
abbrev s_read_source : Stmt := top 58
def d_read_source : He.DefD := ⟨("read_source", none), "read_source", "read_source", defArgs s_read_source, defBody s_read_source, defScope s_read_source, [], []⟩
abbrev s_takes_line : Stmt := top 59
def d_takes_line : He.DefD := ⟨("_takes_line", none), "_takes_line", "_takes_line", defArgs s_takes_line, defBody s_takes_line, defScope s_takes_line, [], []⟩
abbrev s_takes_class : Stmt := top 60
def d_takes_class : He.DefD := ⟨("_takes_class", none), "_takes_class", "_takes_class", defArgs s_takes_class, defBody s_takes_class, defScope s_takes_class, [], []⟩
abbrev s_takes_function : Stmt := top 61
def d_takes_function : He.DefD := ⟨("_takes_function", none), "_takes_function", "_takes_function", defArgs s_takes_function, defBody s_takes_function, defScope s_takes_function, [], []⟩
abbrev s_L_mix : Stmt := top 63
def d_L_mix : He.DefD := ⟨("_law_mix", none), "_law_mix", "_law_mix", defArgs s_L_mix, defBody s_L_mix, defScope s_L_mix, [], []⟩
abbrev s_L_well : Stmt := top 64
def d_L_well : He.DefD := ⟨("_law_well", none), "_law_well", "_law_well", defArgs s_L_well, defBody s_L_well, defScope s_L_well, [], []⟩
abbrev s_L_draw : Stmt := top 65
def d_L_draw : He.DefD := ⟨("_law_draw", none), "_law_draw", "_law_draw", defArgs s_L_draw, defBody s_L_draw, defScope s_L_draw, [], []⟩
abbrev s_L_told : Stmt := top 68
def d_L_told : He.DefD := ⟨("_law_told", none), "_law_told", "_law_told", defArgs s_L_told, defBody s_L_told, defScope s_L_told, [], []⟩
abbrev s_L_odd_lines : Stmt := top 69
def d_L_odd_lines : He.DefD := ⟨("_law_odd_lines", none), "_law_odd_lines", "_law_odd_lines", defArgs s_L_odd_lines, defBody s_L_odd_lines, defScope s_L_odd_lines, [], []⟩
abbrev s_L_odd_classes : Stmt := top 70
def d_L_odd_classes : He.DefD := ⟨("_law_odd_classes", none), "_law_odd_classes", "_law_odd_classes", defArgs s_L_odd_classes, defBody s_L_odd_classes, defScope s_L_odd_classes, [], []⟩
abbrev s_L_right : Stmt := top 71
def d_L_right : He.DefD := ⟨("_law_right", none), "_law_right", "_law_right", defArgs s_L_right, defBody s_L_right, defScope s_L_right, [], []⟩
abbrev s_law : Stmt := top 72
def d_law : He.DefD := ⟨("law", none), "law", "law", defArgs s_law, defBody s_law, defScope s_law, [], []⟩
abbrev s_Function_init : Stmt := inClass (top 41) 0
def d_Function_init : He.DefD := ⟨("Function", some "__init__"), "__init__", "Function.__init__", defArgs s_Function_init, defBody s_Function_init, defScope s_Function_init, [], []⟩
abbrev s_InvalidText_init : Stmt := inClass (top 4) 0
def d_InvalidText_init : He.DefD := ⟨("InvalidText", some "__init__"), "__init__", "InvalidText.__init__", defArgs s_InvalidText_init, defBody s_InvalidText_init, defScope s_InvalidText_init, [], []⟩
abbrev s_InvalidSource_init : Stmt := inClass (top 3) 0
def d_InvalidSource_init : He.DefD := ⟨("InvalidSource", some "__init__"), "__init__", "InvalidSource.__init__", defArgs s_InvalidSource_init, defBody s_InvalidSource_init, defScope s_InvalidSource_init, [], []⟩
abbrev s_Source_init : Stmt := inClass (top 42) 0
def d_Source_init : He.DefD := ⟨("Source", some "__init__"), "__init__", "Source.__init__", defArgs s_Source_init, defBody s_Source_init, defScope s_Source_init, [], []⟩
abbrev s_Source_take_classes : Stmt := inClass (top 42) 1
def d_Source_take_classes : He.DefD := ⟨("Source", some "_take_classes"), "_take_classes", "Source._take_classes", defArgs s_Source_take_classes, defBody s_Source_take_classes, defScope s_Source_take_classes, [], []⟩
abbrev s_Source_kinds_differ : Stmt := inClass (top 42) 2
def d_Source_kinds_differ : He.DefD := ⟨("Source", some "_kinds_differ"), "_kinds_differ", "Source._kinds_differ", defArgs s_Source_kinds_differ, defBody s_Source_kinds_differ, defScope s_Source_kinds_differ, [], []⟩
abbrev s_Source_take_heads : Stmt := inClass (top 42) 3
def d_Source_take_heads : He.DefD := ⟨("Source", some "_take_heads"), "_take_heads", "Source._take_heads", defArgs s_Source_take_heads, defBody s_Source_take_heads, defScope s_Source_take_heads, [], []⟩
abbrev s_Source_take_rows : Stmt := inClass (top 42) 4
def d_Source_take_rows : He.DefD := ⟨("Source", some "_take_rows"), "_take_rows", "Source._take_rows", defArgs s_Source_take_rows, defBody s_Source_take_rows, defScope s_Source_take_rows, [], []⟩
abbrev s_Source_is_row_of : Stmt := inClass (top 42) 5
def d_Source_is_row_of : He.DefD := ⟨("Source", some "_is_row_of"), "_is_row_of", "Source._is_row_of", defArgs s_Source_is_row_of, defBody s_Source_is_row_of, defScope s_Source_is_row_of, [], []⟩
abbrev s_Source_function_at : Stmt := inClass (top 42) 9
def d_Source_function_at : He.DefD := ⟨("Source", some "function_at"), "function_at", "Source.function_at", defArgs s_Source_function_at, defBody s_Source_function_at, defScope s_Source_function_at, [], []⟩
abbrev s_Source_fields_of : Stmt := inClass (top 42) 10
def d_Source_fields_of : He.DefD := ⟨("Source", some "fields_of"), "fields_of", "Source.fields_of", defArgs s_Source_fields_of, defBody s_Source_fields_of, defScope s_Source_fields_of, [], []⟩
abbrev s_Source_field_kind : Stmt := inClass (top 42) 11
def d_Source_field_kind : He.DefD := ⟨("Source", some "field_kind"), "field_kind", "Source.field_kind", defArgs s_Source_field_kind, defBody s_Source_field_kind, defScope s_Source_field_kind, [], []⟩
def fn : List He.DefD := [d_is_integer, d_is_integer_in, d_is_written_number, d_is_name, d_is_kind, d_is_tuple_of, d_is_list_of, d_is_list_of_names, d_is_word_tuple, d_frozen, d_are_named_kinds, d_is_row, d_fills, d_row_sets, d_row_reads, d_row_kinds_fit, d_names_in, d_call_fits, d_is_class, d_is_head, d_text_lines, d_words_of, d_read_pairs, d_read_integer, d_read_row, d_read_part, d_read_source, d_takes_line, d_takes_class, d_takes_function, d_L_mix, d_L_well, d_L_draw, d_L_told, d_L_odd_lines, d_L_odd_classes, d_L_right, d_law, d_Function_init, d_InvalidText_init, d_InvalidSource_init, d_Source_init, d_Source_take_classes, d_Source_kinds_differ, d_Source_take_heads, d_Source_take_rows, d_Source_is_row_of, d_Source_function_at, d_Source_fields_of, d_Source_field_kind]
def fa : List He.Fa := [.glo "is_integer", .glo "is_integer_in", .glo "is_written_number", .glo "is_name", .glo "is_kind", .glo "is_tuple_of", .glo "is_list_of", .glo "is_list_of_names", .glo "is_word_tuple", .glo "frozen", .glo "are_named_kinds", .glo "is_row", .glo "_fills", .glo "row_sets", .glo "row_reads", .glo "row_kinds_fit", .glo "_names_in", .glo "_call_fits", .glo "_is_class", .glo "_is_head", .glo "text_lines", .glo "_words_of", .glo "read_pairs", .glo "read_integer", .glo "read_row", .glo "_read_part", .glo "read_source", .glo "_takes_line", .glo "_takes_class", .glo "_takes_function", .glo "_law_mix", .glo "_law_well", .glo "_law_draw", .glo "_law_told", .glo "_law_odd_lines", .glo "_law_odd_classes", .glo "_law_right", .glo "law", .free "isinstance", .free "int", .free "bool", .free "str", .free "list", .free "tuple", .free "len", .free "all", .free "any", .free "zip", .free "enumerate", .free "dict", .free "range", .free "min", .free "max", .free "ArithmeticError", .int "GREATEST_WRITTEN" 1000000000, .int "MOST_CLASSES" 6, .int "MOST_FIELDS" 4, .int "MOST_FUNCTIONS" 6, .int "MOST_PARAMETERS" 4, .int "MOST_OTHERS" 8, .int "MOST_ROWS" 40, .int "MOST_FIGURES" 30, .str "LETTERS" "abcdefghijklmnopqrstuvwxyz", .str "MARKS" "abcdefghijklmnopqrstuvwxyz0123456789", .str "FIGURES" "0123456789", .str "INDENT" "  ", .str "STROKE" "/", .glo "InvalidText", .glo "InvalidSource", .glo "CodeError", .exm "InvalidText" "InvalidText" true, .exm "InvalidSource" "InvalidText" false, .exm "InvalidSource" "InvalidSource" true, .glo "Function", .glo "Source", .glo "KINDS", .glo "NUMBER_WORDS", .glo "ROW_WORDS", .glo "ROLES", .cls "Function", .mkr "Function", .noat "Function" "name", .noat "Function" "params", .noat "Function" "others", .noat "Function" "result", .noat "Function" "variables", .noat "Function" "body", .cls "Source", .mkr "Source", .noat "Source" "_field_kinds", .noat "Source" "_fields", .noat "Source" "_functions", .meth "Source" "_take_classes", .meth "Source" "_kinds_differ", .meth "Source" "_take_heads", .meth "Source" "_take_rows", .meth "Source" "_is_row_of", .meth "Source" "function_at", .meth "Source" "fields_of", .meth "Source" "field_kind"]
def v_KINDS : List He.Dv := [.str "number", .str "object"]
def v_NUMBER_WORDS : List He.Dv := [.str "number", .str "add", .str "sub", .str "times", .str "less", .str "if", .str "guard"]
def v_ROW_WORDS : List He.Dv := [.str "number", .str "add", .str "sub", .str "times", .str "less", .str "nil", .str "new", .str "copy", .str "same", .str "get", .str "put", .str "call", .str "see", .str "if", .str "jump", .str "return"]
def roles : List (Str × List Str) := [("number", ["sets", "number"]), ("nil", ["sets"]), ("copy", ["sets", "reads"]), ("add", ["sets", "reads", "reads"]), ("sub", ["sets", "reads", "reads"]), ("times", ["sets", "reads", "reads"]), ("less", ["sets", "reads", "reads"]), ("same", ["sets", "reads", "reads"]), ("new", ["sets", "class"]), ("get", ["sets", "reads", "field"]), ("put", ["reads", "field", "reads"]), ("call", ["sets", "function", "many"]), ("see", ["reads"]), ("if", ["reads", "row"]), ("jump", ["row"]), ("return", ["reads"]), ("guard", ["reads", "point"]), ("look", ["point"])]
/-- the tuple that the table ROLES has at a word -/
def rolA (K : PySem.W.Frag) (x : Str) : Addr := match PySem.W.nsIn K (He.ga K "ROLES") x with
  | some (some (.ref a)) => a
  | _ => 0
def tupAt (K : PySem.W.Frag) (a : Addr) (vs : List V) : Bool := match K.lookup a with
  | some ⟨.type c, _, .seq its _, _⟩ => decide (c = "tuple") && (decide (its.size ≤ sizeLine) && He.relAll vs its.toList)
  | _ => false
def rolB (K : PySem.W.Frag) (q : Str × List Str) : Bool := He.eqO (PySem.W.nsIn K (He.ga K "ROLES") q.1) (some (some (.ref (rolA K q.1)))) && tupAt K (rolA K q.1) (q.2.map V.str)
def isaB (K : PySem.W.Frag) (C : Addr) : Bool := He.eqO (PySem.W.findIn K (.ref C) "__class__") (some (some (.builtin "object.__class__"))) && (He.eqO (PySem.W.specialIn K (.builtin "object.__class__") "__get__") (some (some (.builtin "getset_descriptor.__get__"))) && (decide (PySem.W.takesIn K (.builtin "object.__class__") = some true) && (decide (PySem.W.mroIn K C (.type "object") = some true) && decide (PySem.W.kitOne K (.ref C) (.ref C) = some true))))
/-- what is asked of an error of the program at C -/
def errB (K : PySem.W.Frag) (C : Addr) (fs : List Str) : Bool := AE.aeB K C && (L2.xfB K C && ((fs.all fun f => decide (PySem.W.findIn K (.ref C) f = some none)) && (decide (PySem.W.findIn K (.ref C) "__init__" = some (some (.ref (He.ma K C "__init__")))) && (decide (PySem.W.typeIn K (.ref (He.ma K C "__init__")) = some (.type "function")) && (He.eqO (PySem.W.findIn K (.ref C) "__class__") (some (some (.builtin "object.__class__"))) && decide (PySem.W.mroIn K C (.type "object") = some true))))))
def isTB (K : PySem.W.Frag) : Bool := decide (PySem.W.kitOne K (.ref (He.ga K "InvalidText")) (.ref (He.ga K "InvalidSource")) = some false) && decide (PySem.W.kitOne K (.ref (He.ga K "InvalidText")) (.type "ArithmeticError") = some true)
def ex (K : PySem.W.Frag) : Bool := He.tupB K "KINDS" v_KINDS && (He.tupB K "NUMBER_WORDS" v_NUMBER_WORDS && (He.tupB K "ROW_WORDS" v_ROW_WORDS && (roles.all (rolB K) && (isaB K (He.ga K "Source") && (errB K (He.ga K "InvalidText") ["line"] && (errB K (He.ga K "InvalidSource") ["part", "at"] && isTB K))))))
def ts : List He.Tab := [(fun K => He.ga K "ROLES", roles.map (·.1))]
def nms : List Str := (["_wall", "CodeError", "InvalidSource", "InvalidText", "GREATEST_WRITTEN", "LETTERS", "MARKS", "KINDS", "is_integer", "is_integer_in", "is_written_number", "is_name", "is_kind", "is_tuple_of", "is_list_of", "is_list_of_names", "is_word_tuple", "frozen", "are_named_kinds", "ROLES", "NUMBER_WORDS", "GREATEST_POINT", "is_row", "_fills", "row_sets", "row_reads", "row_kinds_fit", "_names_in", "_call_fits", "told_row"] : List Str) ++ (["MOST_CLASSES", "MOST_FIELDS", "MOST_FUNCTIONS", "MOST_PARAMETERS", "MOST_OTHERS", "MOST_ROWS", "ROW_WORDS", "Function", "Source", "_is_class", "_is_head", "_told_function", "FIGURES", "MOST_FIGURES", "INDENT", "STROKE", "text_lines", "_words_of", "read_pairs", "read_integer", "read_row", "_read_part", "read_source", "_takes_line", "_takes_class", "_takes_function", "_law_mix", "_law_well", "_law_draw", "_law_pick"] : List Str) ++ (["_law_some", "_law_told", "_law_odd_lines", "_law_odd_classes", "_law_right"] : List Str)
abbrev R : PySem.W.OpenRow := PySem.W.OpenLaw.row PySem.Challenge.rw_backframes_k05_what_is_no_text_of_source
abbrev hk : PySem.W.Hook := He.hookX 4 fa fn ts [] ex
def ob (s : PySem.W.SharedT) : He.AlX := He.obsX 4 fa fn ts [] ex (HandSHeadRun.getT s)
theorem ob_eq (s : PySem.W.SharedT) : ob s = hk.obs s.abs := He.obsX_eq (HandSHeadRun.getT_eq s)
theorem runF (w : World) : HandSHeadRun.RunEq R (PySem.W.view R.prog [72]) hk ob 4200 nms (w.withFollow "special-get-raises" false) := by
  intro os
  kernel_rfl
theorem runT (w : World) : HandSHeadRun.RunEq R (PySem.W.view R.prog [72]) hk ob 4200 nms (w.withFollow "special-get-raises" true) := by
  intro os
  kernel_rfl
theorem run (w : World) : HandSHeadRun.RunEq R (PySem.W.view R.prog [72]) hk ob 4200 nms w := PySem.W.byRow2 "special-get-raises" runF runT w
end W5
set_option Elab.async false
set_option linter.all false
set_option maxRecDepth 100000
set_option maxHeartbeats 4000000
namespace W5
open PySem PySem.Spec PyProof.Rows L2
/-- what stands behind the top -/
structure Ctx (w : World) (K : PySem.W.Frag) (mg : Str → Option Value) : Prop where
  ex_ : ∃ h : Heap, K.In h ∧ h.Ns mainGlobals mg
  says : He.SaysT fa fn ts w K
  more : ex K = true
section
variable {w : World} {K : PySem.W.Frag} {mg : Str → Option Value}
theorem Ctx.glo (T : Ctx w K mg) {x : Str} (i : Nat) (h : fa[i]? = some (.glo x) := by rfl) : mg x = some (.ref (He.ga K x)) := by
  obtain ⟨_, X, G⟩ := T.ex_
  exact He.glo_ok X G (T.says.d.fact i h)
theorem Ctx.free (T : Ctx w K mg) {x : Str} (i : Nat) (h : fa[i]? = some (.free x) := by rfl) : mg x = none := by
  obtain ⟨_, X, G⟩ := T.ex_
  exact He.free_ok X G (T.says.d.fact i h)
theorem Ctx.int (T : Ctx w K mg) {x : Str} {z : Int} (i : Nat) (h : fa[i]? = some (.int x z) := by rfl) : ∃ t, mg x = some (.int z t) := by
  obtain ⟨_, X, G⟩ := T.ex_
  exact He.int_ok X G (T.says.d.fact i h)
theorem Ctx.str (T : Ctx w K mg) {x z : Str} (i : Nat) (h : fa[i]? = some (.str x z) := by rfl) : ∃ t, mg x = some (.str z t) := by
  obtain ⟨_, X, G⟩ := T.ex_
  exact He.str_ok X G (T.says.d.fact i h)
/-- a def that keeps its promise, with all that a caller needs -/
structure Has (P : Program) (w : World) (K : PySem.W.Frag) (mg : Str → Option Value) (base : Heap) (k : Nat) (x : Str) (ps : List Str) (sp : Sp) : Prop where
  ex : ∃ fd, FnOk P w K mg base CX0 k (He.ga K x) fd ps sp ∧ Binds K fd ps []
  kp : PySem.W.keepIn K (.ref (He.ga K x)) = true
  gl : mg x = some (.ref (He.ga K x))
/-- the same of a method -/
structure HasM (P : Program) (w : World) (K : PySem.W.Frag) (mg : Str → Option Value) (base : Heap) (k : Nat) (C m : Str) (ps : List Str) (sp : Sp) : Prop where
  ex : ∃ fd, FnOk P w K mg base CX0 k (He.ma K (He.ga K C) m) fd ps sp ∧ Binds K fd ps []
theorem Ctx.g_is_integer (T : Ctx w K mg) : mg "is_integer" = some (.ref (He.ga K "is_integer")) := T.glo 0
theorem Ctx.g_is_integer_in (T : Ctx w K mg) : mg "is_integer_in" = some (.ref (He.ga K "is_integer_in")) := T.glo 1
theorem Ctx.g_is_written_number (T : Ctx w K mg) : mg "is_written_number" = some (.ref (He.ga K "is_written_number")) := T.glo 2
theorem Ctx.g_is_name (T : Ctx w K mg) : mg "is_name" = some (.ref (He.ga K "is_name")) := T.glo 3
theorem Ctx.g_is_kind (T : Ctx w K mg) : mg "is_kind" = some (.ref (He.ga K "is_kind")) := T.glo 4
theorem Ctx.g_is_tuple_of (T : Ctx w K mg) : mg "is_tuple_of" = some (.ref (He.ga K "is_tuple_of")) := T.glo 5
theorem Ctx.g_is_list_of (T : Ctx w K mg) : mg "is_list_of" = some (.ref (He.ga K "is_list_of")) := T.glo 6
theorem Ctx.g_is_list_of_names (T : Ctx w K mg) : mg "is_list_of_names" = some (.ref (He.ga K "is_list_of_names")) := T.glo 7
theorem Ctx.g_is_word_tuple (T : Ctx w K mg) : mg "is_word_tuple" = some (.ref (He.ga K "is_word_tuple")) := T.glo 8
theorem Ctx.g_frozen (T : Ctx w K mg) : mg "frozen" = some (.ref (He.ga K "frozen")) := T.glo 9
theorem Ctx.g_are_named_kinds (T : Ctx w K mg) : mg "are_named_kinds" = some (.ref (He.ga K "are_named_kinds")) := T.glo 10
theorem Ctx.g_is_row (T : Ctx w K mg) : mg "is_row" = some (.ref (He.ga K "is_row")) := T.glo 11
theorem Ctx.g_fills (T : Ctx w K mg) : mg "_fills" = some (.ref (He.ga K "_fills")) := T.glo 12
theorem Ctx.g_row_sets (T : Ctx w K mg) : mg "row_sets" = some (.ref (He.ga K "row_sets")) := T.glo 13
theorem Ctx.g_row_reads (T : Ctx w K mg) : mg "row_reads" = some (.ref (He.ga K "row_reads")) := T.glo 14
theorem Ctx.g_row_kinds_fit (T : Ctx w K mg) : mg "row_kinds_fit" = some (.ref (He.ga K "row_kinds_fit")) := T.glo 15
theorem Ctx.g_names_in (T : Ctx w K mg) : mg "_names_in" = some (.ref (He.ga K "_names_in")) := T.glo 16
theorem Ctx.g_call_fits (T : Ctx w K mg) : mg "_call_fits" = some (.ref (He.ga K "_call_fits")) := T.glo 17
theorem Ctx.g_is_class (T : Ctx w K mg) : mg "_is_class" = some (.ref (He.ga K "_is_class")) := T.glo 18
theorem Ctx.g_is_head (T : Ctx w K mg) : mg "_is_head" = some (.ref (He.ga K "_is_head")) := T.glo 19
theorem Ctx.g_text_lines (T : Ctx w K mg) : mg "text_lines" = some (.ref (He.ga K "text_lines")) := T.glo 20
theorem Ctx.g_words_of (T : Ctx w K mg) : mg "_words_of" = some (.ref (He.ga K "_words_of")) := T.glo 21
theorem Ctx.g_read_pairs (T : Ctx w K mg) : mg "read_pairs" = some (.ref (He.ga K "read_pairs")) := T.glo 22
theorem Ctx.g_read_integer (T : Ctx w K mg) : mg "read_integer" = some (.ref (He.ga K "read_integer")) := T.glo 23
theorem Ctx.g_read_row (T : Ctx w K mg) : mg "read_row" = some (.ref (He.ga K "read_row")) := T.glo 24
theorem Ctx.g_read_part (T : Ctx w K mg) : mg "_read_part" = some (.ref (He.ga K "_read_part")) := T.glo 25
theorem Ctx.g_read_source (T : Ctx w K mg) : mg "read_source" = some (.ref (He.ga K "read_source")) := T.glo 26
theorem Ctx.g_takes_line (T : Ctx w K mg) : mg "_takes_line" = some (.ref (He.ga K "_takes_line")) := T.glo 27
theorem Ctx.g_takes_class (T : Ctx w K mg) : mg "_takes_class" = some (.ref (He.ga K "_takes_class")) := T.glo 28
theorem Ctx.g_takes_function (T : Ctx w K mg) : mg "_takes_function" = some (.ref (He.ga K "_takes_function")) := T.glo 29
theorem Ctx.g_L_mix (T : Ctx w K mg) : mg "_law_mix" = some (.ref (He.ga K "_law_mix")) := T.glo 30
theorem Ctx.g_L_well (T : Ctx w K mg) : mg "_law_well" = some (.ref (He.ga K "_law_well")) := T.glo 31
theorem Ctx.g_L_draw (T : Ctx w K mg) : mg "_law_draw" = some (.ref (He.ga K "_law_draw")) := T.glo 32
theorem Ctx.g_L_told (T : Ctx w K mg) : mg "_law_told" = some (.ref (He.ga K "_law_told")) := T.glo 33
theorem Ctx.g_L_odd_lines (T : Ctx w K mg) : mg "_law_odd_lines" = some (.ref (He.ga K "_law_odd_lines")) := T.glo 34
theorem Ctx.g_L_odd_classes (T : Ctx w K mg) : mg "_law_odd_classes" = some (.ref (He.ga K "_law_odd_classes")) := T.glo 35
theorem Ctx.g_L_right (T : Ctx w K mg) : mg "_law_right" = some (.ref (He.ga K "_law_right")) := T.glo 36
theorem Ctx.g_law (T : Ctx w K mg) : mg "law" = some (.ref (He.ga K "law")) := T.glo 37
theorem Ctx.f_isinstance (T : Ctx w K mg) : mg "isinstance" = none := T.free 38
theorem Ctx.f_int (T : Ctx w K mg) : mg "int" = none := T.free 39
theorem Ctx.f_bool (T : Ctx w K mg) : mg "bool" = none := T.free 40
theorem Ctx.f_str (T : Ctx w K mg) : mg "str" = none := T.free 41
theorem Ctx.f_list (T : Ctx w K mg) : mg "list" = none := T.free 42
theorem Ctx.f_tuple (T : Ctx w K mg) : mg "tuple" = none := T.free 43
theorem Ctx.f_len (T : Ctx w K mg) : mg "len" = none := T.free 44
theorem Ctx.f_all (T : Ctx w K mg) : mg "all" = none := T.free 45
theorem Ctx.f_any (T : Ctx w K mg) : mg "any" = none := T.free 46
theorem Ctx.f_zip (T : Ctx w K mg) : mg "zip" = none := T.free 47
theorem Ctx.f_enumerate (T : Ctx w K mg) : mg "enumerate" = none := T.free 48
theorem Ctx.f_dict (T : Ctx w K mg) : mg "dict" = none := T.free 49
theorem Ctx.f_range (T : Ctx w K mg) : mg "range" = none := T.free 50
theorem Ctx.f_min (T : Ctx w K mg) : mg "min" = none := T.free 51
theorem Ctx.f_max (T : Ctx w K mg) : mg "max" = none := T.free 52
theorem Ctx.f_ArithmeticError (T : Ctx w K mg) : mg "ArithmeticError" = none := T.free 53
theorem Ctx.i_GREATEST_WRITTEN (T : Ctx w K mg) : ∃ t, mg "GREATEST_WRITTEN" = some (.int 1000000000 t) := T.int 54
theorem Ctx.i_MOST_CLASSES (T : Ctx w K mg) : ∃ t, mg "MOST_CLASSES" = some (.int 6 t) := T.int 55
theorem Ctx.i_MOST_FIELDS (T : Ctx w K mg) : ∃ t, mg "MOST_FIELDS" = some (.int 4 t) := T.int 56
theorem Ctx.i_MOST_FUNCTIONS (T : Ctx w K mg) : ∃ t, mg "MOST_FUNCTIONS" = some (.int 6 t) := T.int 57
theorem Ctx.i_MOST_PARAMETERS (T : Ctx w K mg) : ∃ t, mg "MOST_PARAMETERS" = some (.int 4 t) := T.int 58
theorem Ctx.i_MOST_OTHERS (T : Ctx w K mg) : ∃ t, mg "MOST_OTHERS" = some (.int 8 t) := T.int 59
theorem Ctx.i_MOST_ROWS (T : Ctx w K mg) : ∃ t, mg "MOST_ROWS" = some (.int 40 t) := T.int 60
theorem Ctx.i_MOST_FIGURES (T : Ctx w K mg) : ∃ t, mg "MOST_FIGURES" = some (.int 30 t) := T.int 61
theorem Ctx.s_LETTERS (T : Ctx w K mg) : ∃ t, mg "LETTERS" = some (.str "abcdefghijklmnopqrstuvwxyz" t) := T.str 62
theorem Ctx.s_MARKS (T : Ctx w K mg) : ∃ t, mg "MARKS" = some (.str "abcdefghijklmnopqrstuvwxyz0123456789" t) := T.str 63
theorem Ctx.s_FIGURES (T : Ctx w K mg) : ∃ t, mg "FIGURES" = some (.str "0123456789" t) := T.str 64
theorem Ctx.s_INDENT (T : Ctx w K mg) : ∃ t, mg "INDENT" = some (.str "  " t) := T.str 65
theorem Ctx.s_STROKE (T : Ctx w K mg) : ∃ t, mg "STROKE" = some (.str "/" t) := T.str 66
theorem Ctx.g_InvalidText (T : Ctx w K mg) : mg "InvalidText" = some (.ref (He.ga K "InvalidText")) := T.glo 67
theorem Ctx.g_InvalidSource (T : Ctx w K mg) : mg "InvalidSource" = some (.ref (He.ga K "InvalidSource")) := T.glo 68
theorem Ctx.g_CodeError (T : Ctx w K mg) : mg "CodeError" = some (.ref (He.ga K "CodeError")) := T.glo 69
theorem Ctx.g_Function (T : Ctx w K mg) : mg "Function" = some (.ref (He.ga K "Function")) := T.glo 73
theorem Ctx.g_Source (T : Ctx w K mg) : mg "Source" = some (.ref (He.ga K "Source")) := T.glo 74
theorem Ctx.g_KINDS (T : Ctx w K mg) : mg "KINDS" = some (.ref (He.ga K "KINDS")) := T.glo 75
theorem Ctx.g_NUMBER_WORDS (T : Ctx w K mg) : mg "NUMBER_WORDS" = some (.ref (He.ga K "NUMBER_WORDS")) := T.glo 76
theorem Ctx.g_ROW_WORDS (T : Ctx w K mg) : mg "ROW_WORDS" = some (.ref (He.ga K "ROW_WORDS")) := T.glo 77
theorem Ctx.g_ROLES (T : Ctx w K mg) : mg "ROLES" = some (.ref (He.ga K "ROLES")) := T.glo 78
theorem Ctx.c_Function (T : Ctx w K mg) : Cls K (He.ga K "Function") := He.cls_ok (T.says.d.fact 79 rfl)
theorem Ctx.k_Function (T : Ctx w K mg) : Mk K (He.ga K "Function") (He.ma K (He.ga K "Function") "__init__") := He.mkr_ok (T.says.d.fact 80 rfl)
theorem Ctx.n_Function_name (T : Ctx w K mg) : NoAttr K (He.ga K "Function") "name" := He.noat_ok (T.says.d.fact 81 rfl)
theorem Ctx.n_Function_params (T : Ctx w K mg) : NoAttr K (He.ga K "Function") "params" := He.noat_ok (T.says.d.fact 82 rfl)
theorem Ctx.n_Function_others (T : Ctx w K mg) : NoAttr K (He.ga K "Function") "others" := He.noat_ok (T.says.d.fact 83 rfl)
theorem Ctx.n_Function_result (T : Ctx w K mg) : NoAttr K (He.ga K "Function") "result" := He.noat_ok (T.says.d.fact 84 rfl)
theorem Ctx.n_Function_variables (T : Ctx w K mg) : NoAttr K (He.ga K "Function") "variables" := He.noat_ok (T.says.d.fact 85 rfl)
theorem Ctx.n_Function_body (T : Ctx w K mg) : NoAttr K (He.ga K "Function") "body" := He.noat_ok (T.says.d.fact 86 rfl)
theorem Ctx.c_Source (T : Ctx w K mg) : Cls K (He.ga K "Source") := He.cls_ok (T.says.d.fact 87 rfl)
theorem Ctx.k_Source (T : Ctx w K mg) : Mk K (He.ga K "Source") (He.ma K (He.ga K "Source") "__init__") := He.mkr_ok (T.says.d.fact 88 rfl)
theorem Ctx.n_Source_field_kinds (T : Ctx w K mg) : NoAttr K (He.ga K "Source") "_field_kinds" := He.noat_ok (T.says.d.fact 89 rfl)
theorem Ctx.n_Source_fields (T : Ctx w K mg) : NoAttr K (He.ga K "Source") "_fields" := He.noat_ok (T.says.d.fact 90 rfl)
theorem Ctx.n_Source_functions (T : Ctx w K mg) : NoAttr K (He.ga K "Source") "_functions" := He.noat_ok (T.says.d.fact 91 rfl)
theorem Ctx.m_Source_take_classes (T : Ctx w K mg) : Meth K (He.ga K "Source") "_take_classes" (He.ma K (He.ga K "Source") "_take_classes") := He.meth_ok (T.says.d.fact 92 rfl)
theorem Ctx.m_Source_kinds_differ (T : Ctx w K mg) : Meth K (He.ga K "Source") "_kinds_differ" (He.ma K (He.ga K "Source") "_kinds_differ") := He.meth_ok (T.says.d.fact 93 rfl)
theorem Ctx.m_Source_take_heads (T : Ctx w K mg) : Meth K (He.ga K "Source") "_take_heads" (He.ma K (He.ga K "Source") "_take_heads") := He.meth_ok (T.says.d.fact 94 rfl)
theorem Ctx.m_Source_take_rows (T : Ctx w K mg) : Meth K (He.ga K "Source") "_take_rows" (He.ma K (He.ga K "Source") "_take_rows") := He.meth_ok (T.says.d.fact 95 rfl)
theorem Ctx.m_Source_is_row_of (T : Ctx w K mg) : Meth K (He.ga K "Source") "_is_row_of" (He.ma K (He.ga K "Source") "_is_row_of") := He.meth_ok (T.says.d.fact 96 rfl)
theorem Ctx.m_Source_function_at (T : Ctx w K mg) : Meth K (He.ga K "Source") "function_at" (He.ma K (He.ga K "Source") "function_at") := He.meth_ok (T.says.d.fact 97 rfl)
theorem Ctx.m_Source_fields_of (T : Ctx w K mg) : Meth K (He.ga K "Source") "fields_of" (He.ma K (He.ga K "Source") "fields_of") := He.meth_ok (T.says.d.fact 98 rfl)
theorem Ctx.m_Source_field_kind (T : Ctx w K mg) : Meth K (He.ga K "Source") "field_kind" (He.ma K (He.ga K "Source") "field_kind") := He.meth_ok (T.says.d.fact 99 rfl)
theorem Ctx.D_is_integer (T : Ctx w K mg) : ∃ fd, FunD K "is_integer" "is_integer" (defArgs s_is_integer) (defBody s_is_integer) (defScope s_is_integer) [] [] (He.ga K "is_integer") fd := T.says.d.def_ 0 (d := d_is_integer) rfl
theorem Ctx.D_is_integer_in (T : Ctx w K mg) : ∃ fd, FunD K "is_integer_in" "is_integer_in" (defArgs s_is_integer_in) (defBody s_is_integer_in) (defScope s_is_integer_in) [] [] (He.ga K "is_integer_in") fd := T.says.d.def_ 1 (d := d_is_integer_in) rfl
theorem Ctx.D_is_written_number (T : Ctx w K mg) : ∃ fd, FunD K "is_written_number" "is_written_number" (defArgs s_is_written_number) (defBody s_is_written_number) (defScope s_is_written_number) [] [] (He.ga K "is_written_number") fd := T.says.d.def_ 2 (d := d_is_written_number) rfl
theorem Ctx.D_is_name (T : Ctx w K mg) : ∃ fd, FunD K "is_name" "is_name" (defArgs s_is_name) (defBody s_is_name) (defScope s_is_name) [] [] (He.ga K "is_name") fd := T.says.d.def_ 3 (d := d_is_name) rfl
theorem Ctx.D_is_kind (T : Ctx w K mg) : ∃ fd, FunD K "is_kind" "is_kind" (defArgs s_is_kind) (defBody s_is_kind) (defScope s_is_kind) [] [] (He.ga K "is_kind") fd := T.says.d.def_ 4 (d := d_is_kind) rfl
theorem Ctx.D_is_tuple_of (T : Ctx w K mg) : ∃ fd, FunD K "is_tuple_of" "is_tuple_of" (defArgs s_is_tuple_of) (defBody s_is_tuple_of) (defScope s_is_tuple_of) [] [] (He.ga K "is_tuple_of") fd := T.says.d.def_ 5 (d := d_is_tuple_of) rfl
theorem Ctx.D_is_list_of (T : Ctx w K mg) : ∃ fd, FunD K "is_list_of" "is_list_of" (defArgs s_is_list_of) (defBody s_is_list_of) (defScope s_is_list_of) [] [] (He.ga K "is_list_of") fd := T.says.d.def_ 6 (d := d_is_list_of) rfl
theorem Ctx.D_is_list_of_names (T : Ctx w K mg) : ∃ fd, FunD K "is_list_of_names" "is_list_of_names" (defArgs s_is_list_of_names) (defBody s_is_list_of_names) (defScope s_is_list_of_names) [] [] (He.ga K "is_list_of_names") fd := T.says.d.def_ 7 (d := d_is_list_of_names) rfl
theorem Ctx.D_is_word_tuple (T : Ctx w K mg) : ∃ fd, FunD K "is_word_tuple" "is_word_tuple" (defArgs s_is_word_tuple) (defBody s_is_word_tuple) (defScope s_is_word_tuple) [] [] (He.ga K "is_word_tuple") fd := T.says.d.def_ 8 (d := d_is_word_tuple) rfl
theorem Ctx.D_frozen (T : Ctx w K mg) : ∃ fd, FunD K "frozen" "frozen" (defArgs s_frozen) (defBody s_frozen) (defScope s_frozen) [] [] (He.ga K "frozen") fd := T.says.d.def_ 9 (d := d_frozen) rfl
theorem Ctx.D_are_named_kinds (T : Ctx w K mg) : ∃ fd, FunD K "are_named_kinds" "are_named_kinds" (defArgs s_are_named_kinds) (defBody s_are_named_kinds) (defScope s_are_named_kinds) [] [] (He.ga K "are_named_kinds") fd := T.says.d.def_ 10 (d := d_are_named_kinds) rfl
theorem Ctx.D_is_row (T : Ctx w K mg) : ∃ fd, FunD K "is_row" "is_row" (defArgs s_is_row) (defBody s_is_row) (defScope s_is_row) [] [] (He.ga K "is_row") fd := T.says.d.def_ 11 (d := d_is_row) rfl
theorem Ctx.D_fills (T : Ctx w K mg) : ∃ fd, FunD K "_fills" "_fills" (defArgs s_fills) (defBody s_fills) (defScope s_fills) [] [] (He.ga K "_fills") fd := T.says.d.def_ 12 (d := d_fills) rfl
theorem Ctx.D_row_sets (T : Ctx w K mg) : ∃ fd, FunD K "row_sets" "row_sets" (defArgs s_row_sets) (defBody s_row_sets) (defScope s_row_sets) [] [] (He.ga K "row_sets") fd := T.says.d.def_ 13 (d := d_row_sets) rfl
theorem Ctx.D_row_reads (T : Ctx w K mg) : ∃ fd, FunD K "row_reads" "row_reads" (defArgs s_row_reads) (defBody s_row_reads) (defScope s_row_reads) [] [] (He.ga K "row_reads") fd := T.says.d.def_ 14 (d := d_row_reads) rfl
theorem Ctx.D_row_kinds_fit (T : Ctx w K mg) : ∃ fd, FunD K "row_kinds_fit" "row_kinds_fit" (defArgs s_row_kinds_fit) (defBody s_row_kinds_fit) (defScope s_row_kinds_fit) [] [] (He.ga K "row_kinds_fit") fd := T.says.d.def_ 15 (d := d_row_kinds_fit) rfl
theorem Ctx.D_names_in (T : Ctx w K mg) : ∃ fd, FunD K "_names_in" "_names_in" (defArgs s_names_in) (defBody s_names_in) (defScope s_names_in) [] [] (He.ga K "_names_in") fd := T.says.d.def_ 16 (d := d_names_in) rfl
theorem Ctx.D_call_fits (T : Ctx w K mg) : ∃ fd, FunD K "_call_fits" "_call_fits" (defArgs s_call_fits) (defBody s_call_fits) (defScope s_call_fits) [] [] (He.ga K "_call_fits") fd := T.says.d.def_ 17 (d := d_call_fits) rfl
theorem Ctx.D_is_class (T : Ctx w K mg) : ∃ fd, FunD K "_is_class" "_is_class" (defArgs s_is_class) (defBody s_is_class) (defScope s_is_class) [] [] (He.ga K "_is_class") fd := T.says.d.def_ 18 (d := d_is_class) rfl
theorem Ctx.D_is_head (T : Ctx w K mg) : ∃ fd, FunD K "_is_head" "_is_head" (defArgs s_is_head) (defBody s_is_head) (defScope s_is_head) [] [] (He.ga K "_is_head") fd := T.says.d.def_ 19 (d := d_is_head) rfl
theorem Ctx.D_text_lines (T : Ctx w K mg) : ∃ fd, FunD K "text_lines" "text_lines" (defArgs s_text_lines) (defBody s_text_lines) (defScope s_text_lines) [] [] (He.ga K "text_lines") fd := T.says.d.def_ 20 (d := d_text_lines) rfl
theorem Ctx.D_words_of (T : Ctx w K mg) : ∃ fd, FunD K "_words_of" "_words_of" (defArgs s_words_of) (defBody s_words_of) (defScope s_words_of) [] [] (He.ga K "_words_of") fd := T.says.d.def_ 21 (d := d_words_of) rfl
theorem Ctx.D_read_pairs (T : Ctx w K mg) : ∃ fd, FunD K "read_pairs" "read_pairs" (defArgs s_read_pairs) (defBody s_read_pairs) (defScope s_read_pairs) [] [] (He.ga K "read_pairs") fd := T.says.d.def_ 22 (d := d_read_pairs) rfl
theorem Ctx.D_read_integer (T : Ctx w K mg) : ∃ fd, FunD K "read_integer" "read_integer" (defArgs s_read_integer) (defBody s_read_integer) (defScope s_read_integer) [] [] (He.ga K "read_integer") fd := T.says.d.def_ 23 (d := d_read_integer) rfl
theorem Ctx.D_read_row (T : Ctx w K mg) : ∃ fd, FunD K "read_row" "read_row" (defArgs s_read_row) (defBody s_read_row) (defScope s_read_row) [] [] (He.ga K "read_row") fd := T.says.d.def_ 24 (d := d_read_row) rfl
theorem Ctx.D_read_part (T : Ctx w K mg) : ∃ fd, FunD K "_read_part" "_read_part" (defArgs s_read_part) (defBody s_read_part) (defScope s_read_part) [] [] (He.ga K "_read_part") fd := T.says.d.def_ 25 (d := d_read_part) rfl
theorem Ctx.D_read_source (T : Ctx w K mg) : ∃ fd, FunD K "read_source" "read_source" (defArgs s_read_source) (defBody s_read_source) (defScope s_read_source) [] [] (He.ga K "read_source") fd := T.says.d.def_ 26 (d := d_read_source) rfl
theorem Ctx.D_takes_line (T : Ctx w K mg) : ∃ fd, FunD K "_takes_line" "_takes_line" (defArgs s_takes_line) (defBody s_takes_line) (defScope s_takes_line) [] [] (He.ga K "_takes_line") fd := T.says.d.def_ 27 (d := d_takes_line) rfl
theorem Ctx.D_takes_class (T : Ctx w K mg) : ∃ fd, FunD K "_takes_class" "_takes_class" (defArgs s_takes_class) (defBody s_takes_class) (defScope s_takes_class) [] [] (He.ga K "_takes_class") fd := T.says.d.def_ 28 (d := d_takes_class) rfl
theorem Ctx.D_takes_function (T : Ctx w K mg) : ∃ fd, FunD K "_takes_function" "_takes_function" (defArgs s_takes_function) (defBody s_takes_function) (defScope s_takes_function) [] [] (He.ga K "_takes_function") fd := T.says.d.def_ 29 (d := d_takes_function) rfl
theorem Ctx.D_L_mix (T : Ctx w K mg) : ∃ fd, FunD K "_law_mix" "_law_mix" (defArgs s_L_mix) (defBody s_L_mix) (defScope s_L_mix) [] [] (He.ga K "_law_mix") fd := T.says.d.def_ 30 (d := d_L_mix) rfl
theorem Ctx.D_L_well (T : Ctx w K mg) : ∃ fd, FunD K "_law_well" "_law_well" (defArgs s_L_well) (defBody s_L_well) (defScope s_L_well) [] [] (He.ga K "_law_well") fd := T.says.d.def_ 31 (d := d_L_well) rfl
theorem Ctx.D_L_draw (T : Ctx w K mg) : ∃ fd, FunD K "_law_draw" "_law_draw" (defArgs s_L_draw) (defBody s_L_draw) (defScope s_L_draw) [] [] (He.ga K "_law_draw") fd := T.says.d.def_ 32 (d := d_L_draw) rfl
theorem Ctx.D_L_told (T : Ctx w K mg) : ∃ fd, FunD K "_law_told" "_law_told" (defArgs s_L_told) (defBody s_L_told) (defScope s_L_told) [] [] (He.ga K "_law_told") fd := T.says.d.def_ 33 (d := d_L_told) rfl
theorem Ctx.D_L_odd_lines (T : Ctx w K mg) : ∃ fd, FunD K "_law_odd_lines" "_law_odd_lines" (defArgs s_L_odd_lines) (defBody s_L_odd_lines) (defScope s_L_odd_lines) [] [] (He.ga K "_law_odd_lines") fd := T.says.d.def_ 34 (d := d_L_odd_lines) rfl
theorem Ctx.D_L_odd_classes (T : Ctx w K mg) : ∃ fd, FunD K "_law_odd_classes" "_law_odd_classes" (defArgs s_L_odd_classes) (defBody s_L_odd_classes) (defScope s_L_odd_classes) [] [] (He.ga K "_law_odd_classes") fd := T.says.d.def_ 35 (d := d_L_odd_classes) rfl
theorem Ctx.D_L_right (T : Ctx w K mg) : ∃ fd, FunD K "_law_right" "_law_right" (defArgs s_L_right) (defBody s_L_right) (defScope s_L_right) [] [] (He.ga K "_law_right") fd := T.says.d.def_ 36 (d := d_L_right) rfl
theorem Ctx.D_law (T : Ctx w K mg) : ∃ fd, FunD K "law" "law" (defArgs s_law) (defBody s_law) (defScope s_law) [] [] (He.ga K "law") fd := T.says.d.def_ 37 (d := d_law) rfl
theorem Ctx.D_Function_init (T : Ctx w K mg) : ∃ fd, FunD K "__init__" "Function.__init__" (defArgs s_Function_init) (defBody s_Function_init) (defScope s_Function_init) [] [] (He.ma K (He.ga K "Function") "__init__") fd := T.says.d.def_ 38 (d := d_Function_init) rfl
theorem Ctx.D_InvalidText_init (T : Ctx w K mg) : ∃ fd, FunD K "__init__" "InvalidText.__init__" (defArgs s_InvalidText_init) (defBody s_InvalidText_init) (defScope s_InvalidText_init) [] [] (He.ma K (He.ga K "InvalidText") "__init__") fd := T.says.d.def_ 39 (d := d_InvalidText_init) rfl
theorem Ctx.D_InvalidSource_init (T : Ctx w K mg) : ∃ fd, FunD K "__init__" "InvalidSource.__init__" (defArgs s_InvalidSource_init) (defBody s_InvalidSource_init) (defScope s_InvalidSource_init) [] [] (He.ma K (He.ga K "InvalidSource") "__init__") fd := T.says.d.def_ 40 (d := d_InvalidSource_init) rfl
theorem Ctx.D_Source_init (T : Ctx w K mg) : ∃ fd, FunD K "__init__" "Source.__init__" (defArgs s_Source_init) (defBody s_Source_init) (defScope s_Source_init) [] [] (He.ma K (He.ga K "Source") "__init__") fd := T.says.d.def_ 41 (d := d_Source_init) rfl
theorem Ctx.D_Source_take_classes (T : Ctx w K mg) : ∃ fd, FunD K "_take_classes" "Source._take_classes" (defArgs s_Source_take_classes) (defBody s_Source_take_classes) (defScope s_Source_take_classes) [] [] (He.ma K (He.ga K "Source") "_take_classes") fd := T.says.d.def_ 42 (d := d_Source_take_classes) rfl
theorem Ctx.D_Source_kinds_differ (T : Ctx w K mg) : ∃ fd, FunD K "_kinds_differ" "Source._kinds_differ" (defArgs s_Source_kinds_differ) (defBody s_Source_kinds_differ) (defScope s_Source_kinds_differ) [] [] (He.ma K (He.ga K "Source") "_kinds_differ") fd := T.says.d.def_ 43 (d := d_Source_kinds_differ) rfl
theorem Ctx.D_Source_take_heads (T : Ctx w K mg) : ∃ fd, FunD K "_take_heads" "Source._take_heads" (defArgs s_Source_take_heads) (defBody s_Source_take_heads) (defScope s_Source_take_heads) [] [] (He.ma K (He.ga K "Source") "_take_heads") fd := T.says.d.def_ 44 (d := d_Source_take_heads) rfl
theorem Ctx.D_Source_take_rows (T : Ctx w K mg) : ∃ fd, FunD K "_take_rows" "Source._take_rows" (defArgs s_Source_take_rows) (defBody s_Source_take_rows) (defScope s_Source_take_rows) [] [] (He.ma K (He.ga K "Source") "_take_rows") fd := T.says.d.def_ 45 (d := d_Source_take_rows) rfl
theorem Ctx.D_Source_is_row_of (T : Ctx w K mg) : ∃ fd, FunD K "_is_row_of" "Source._is_row_of" (defArgs s_Source_is_row_of) (defBody s_Source_is_row_of) (defScope s_Source_is_row_of) [] [] (He.ma K (He.ga K "Source") "_is_row_of") fd := T.says.d.def_ 46 (d := d_Source_is_row_of) rfl
theorem Ctx.D_Source_function_at (T : Ctx w K mg) : ∃ fd, FunD K "function_at" "Source.function_at" (defArgs s_Source_function_at) (defBody s_Source_function_at) (defScope s_Source_function_at) [] [] (He.ma K (He.ga K "Source") "function_at") fd := T.says.d.def_ 47 (d := d_Source_function_at) rfl
theorem Ctx.D_Source_fields_of (T : Ctx w K mg) : ∃ fd, FunD K "fields_of" "Source.fields_of" (defArgs s_Source_fields_of) (defBody s_Source_fields_of) (defScope s_Source_fields_of) [] [] (He.ma K (He.ga K "Source") "fields_of") fd := T.says.d.def_ 48 (d := d_Source_fields_of) rfl
theorem Ctx.D_Source_field_kind (T : Ctx w K mg) : ∃ fd, FunD K "field_kind" "Source.field_kind" (defArgs s_Source_field_kind) (defBody s_Source_field_kind) (defScope s_Source_field_kind) [] [] (He.ma K (He.ga K "Source") "field_kind") fd := T.says.d.def_ 49 (d := d_Source_field_kind) rfl
theorem Ctx.kinds (T : Ctx w K mg) (H : Hp) : SqT K H (He.ga K "KINDS") (v_KINDS.map (He.Dv.v K)) := He.tupB_ok (He.ba T.more).1 H
theorem Ctx.numwords (T : Ctx w K mg) (H : Hp) : SqT K H (He.ga K "NUMBER_WORDS") (v_NUMBER_WORDS.map (He.Dv.v K)) := He.tupB_ok (He.ba (He.ba T.more).2).1 H
theorem Ctx.rowwords (T : Ctx w K mg) (H : Hp) : SqT K H (He.ga K "ROW_WORDS") (v_ROW_WORDS.map (He.Dv.v K)) := He.tupB_ok (He.ba (He.ba (He.ba T.more).2).2).1 H
theorem tupAt_ok {K : PySem.W.Frag} {a : Addr} {vs : List V} (h : tupAt K a vs = true) (H : Hp) : SqT K H a vs := by
  unfold tupAt at h
  cases q : K.lookup a with
  | none =>
    rw [q] at h
    cases h
  | some o =>
    obtain ⟨oc, od, dt, osl⟩ := o
    rw [q] at h
    cases oc with
    | type c =>
      cases dt with
      | seq its n =>
        obtain ⟨h1, h2⟩ := He.ba (show (decide (c = "tuple") && (decide (its.size ≤ sizeLine) && He.relAll vs its.toList)) = true from h)
        obtain ⟨h3, h4⟩ := He.ba h2
        exact .inr ⟨_, its, n, q, congrArg Value.type (of_decide_eq_true h1), rfl, of_decide_eq_true h3, He.relAll_ok h4⟩
      | _ => cases h
    | _ => cases dt <;> cases h
theorem Ctx.rolesD (T : Ctx w K mg) : ∃ es n, KDict K w (He.ga K "ROLES") es n := T.says.tab 0 (t := (fun K => He.ga K "ROLES", roles.map (·.1))) rfl
theorem Ctx.role (T : Ctx w K mg) {x : Str} {rs : List Str} (m : (x, rs) ∈ roles) (H : Hp) : PySem.W.nsIn K (He.ga K "ROLES") x = some (some (.ref (rolA K x))) ∧ SqT K H (rolA K x) (rs.map V.str) := by
  have e := List.all_eq_true.mp (He.ba (He.ba (He.ba (He.ba T.more).2).2).2).1 (x, rs) m
  obtain ⟨e1, e2⟩ := He.ba (show (He.eqO (PySem.W.nsIn K (He.ga K "ROLES") x) (some (some (.ref (rolA K x)))) && tupAt K (rolA K x) (rs.map V.str)) = true from e)
  exact ⟨He.eqO_ok e1, tupAt_ok e2 H⟩
theorem Ctx.isSource (T : Ctx w K mg) {H : Hp} {p dx : Addr} {fs : List (Str × V)} (h : H p = some (.ins (He.ga K "Source") dx fs)) : TyX K H (.ref p) (.ref (He.ga K "Source")) ∧ PySem.W.kitOne K (.ref (He.ga K "Source")) (.ref (He.ga K "Source")) = some true := by
  have e := (He.ba (He.ba (He.ba (He.ba (He.ba T.more).2).2).2).2).1
  obtain ⟨e1, e⟩ := He.ba (show (He.eqO (PySem.W.findIn K (.ref (He.ga K "Source")) "__class__") (some (some (.builtin "object.__class__"))) && (He.eqO (PySem.W.specialIn K (.builtin "object.__class__") "__get__") (some (some (.builtin "getset_descriptor.__get__"))) && (decide (PySem.W.takesIn K (.builtin "object.__class__") = some true) && (decide (PySem.W.mroIn K (He.ga K "Source") (.type "object") = some true) && decide (PySem.W.kitOne K (.ref (He.ga K "Source")) (.ref (He.ga K "Source")) = some true))))) = true from e)
  obtain ⟨e2, e⟩ := He.ba e
  obtain ⟨e3, e⟩ := He.ba e
  obtain ⟨e4, e5⟩ := He.ba e
  exact ⟨.base (.ins h T.c_Source (He.eqO_ok e1) (He.eqO_ok e2) (of_decide_eq_true e3) (of_decide_eq_true e4)), of_decide_eq_true e5⟩
end
end W5
set_option Elab.async false
set_option linter.all false
set_option maxRecDepth 100000
set_option maxHeartbeats 4000000
namespace W5
open PySem PySem.Spec PyProof.Rows L2
/-! ### heaps that grow -/
theorem Same.new {H : Hp} {p : Addr} {o : HO} (h : H p = none) : Same H (upd H p o) := fun a u e => by
  rw [upd_ne (ne_of_none e h)]
  exact e
theorem Same.mut {H H' : Hp} {p : Addr} {o : HO} (e : Same H H') (h : H p = none) : Same H (upd H' p o) := fun a u ha => by
  rw [upd_ne (ne_of_none ha h)]
  exact e a u ha
theorem Same.tup {K : PySem.W.Frag} {H H' : Hp} {a : Addr} {xs : List V} (e : Same H H') (h : SqT K H a xs) : SqT K H' a xs := by
  rcases h with (h | ⟨o, h⟩) | h
  · exact .inl (.inl (e _ _ h))
  · exact .inl (.inr ⟨o, e _ _ h⟩)
  · exact .inr h
theorem sz_of {n : Nat} (h : n ≤ 100000) : n ≤ sizeLine := Nat.le_trans h (by decide)
theorem sz_lt {n : Nat} (h : n < 100000) : n < sizeLine := Nat.lt_of_lt_of_le h (by decide)
/-- a comprehension whose elements leave what stood as it was: the list of what they give -/
theorem lc_pure {J : It} {n : Nat} {G : Hp → Prop} {Y : Nat → Hp → V → Hp → Prop} (w : Walk J n G Y) {g : TG} {te : TE} {vs : List Nat} {σ : L2.St} {H0 : Hp} {D : Addr} {Qd : Hp → Prop} (hD : H0 D = none) (f : Nat → V) (hn : n < 100000)
    (hG : ∀ H, Same H0 H → G H)
    (hs : ∀ i H x H', i < n → Same H0 H → Y i H x H' → ∀ Qe : VK, (∀ H4, Same H H4 → Qe (f i) H4) → g x (wipe σ vs) H' fun σ2 H2 => wipe σ2 vs = wipe σ vs ∧ te σ2 H2 Qe)
    (hd : ∀ H, Same H0 H → H D = some (.lst ((List.range n).map f)) → Qd H) :
    ∃ W : Nat → Nat → Hp → Prop, (∃ m, W 0 m (upd H0 D (.lst []))) ∧ ∀ i m H, W i m H →
      (J.stop i H ∧ Qd H) ∨ (J.go i H ∧ ∃ Nx : Hp → Prop, (∀ H', Nx H' → ∃ m', m' < m ∧ W (i + 1) m' H') ∧ ∀ x H', J.yld i H x H' → g x (wipe σ vs) H' fun σ2 H2 => wipe σ2 vs = wipe σ vs ∧ tYes σ2 H2 fun b H3 =>
        if b = true then te σ2 H3 fun y H4 => ∃ acc, H4 D = some (.lst acc) ∧ acc.length < sizeLine ∧ Nx (upd H4 D (.lst (acc ++ [y]))) else Nx H3) := by
  refine lc_it w (fun i H => Same H0 H ∧ H D = some (.lst ((List.range i).map f))) ⟨Same.new hD, upd_same⟩ (fun i H _ p => hG H p.1) (fun i x H H' hi p y => ?_) (fun H p => hd H p.1 p.2)
  have q := hs i H x H' hi p.1 y (fun y H4 => ∃ acc, H4 D = some (.lst acc) ∧ acc.length < sizeLine ∧ (Same H0 (upd H4 D (.lst (acc ++ [y]))) ∧ upd H4 D (.lst (acc ++ [y])) D = some (.lst ((List.range (i + 1)).map f)))) (fun H4 s4 => ?_)
  · exact q
  · refine ⟨_, s4 _ _ p.2, sz_lt ?_, Same.mut (p.1.trans s4) hD, ?_⟩
    · rw [List.length_map, List.length_range]
      exact Nat.lt_trans hi hn
    · rw [upd_same, List.range_succ, List.map_append]
      rfl
theorem qT {Q : VK} {H : Hp} {b : Bool} (e : b = true) (k : Q (.bl true) H) : Q (.bl b) H := by
  rw [e]
  exact k
theorem qF {Q : VK} {H : Hp} {b : Bool} (e : b = false) (k : Q (.bl false) H) : Q (.bl b) H := by
  rw [e]
  exact k
theorem ifT {b : Bool} {A B : Prop} (e : b = true) (h : A) : if b = true then A else B := by
  rw [e]
  exact iteT h
theorem ifF {b : Bool} {A B : Prop} (e : b = false) (h : B) : if b = true then A else B := by
  rw [e]
  exact iteF h
theorem at0 {v : V} {xs : List V} : atI (v :: xs) 0 = some v := atI_nat (j := 0) rfl
theorem at1 {a v : V} {xs : List V} : atI (a :: v :: xs) 1 = some v := atI_nat (j := 1) rfl
theorem at2 {a b v : V} {xs : List V} : atI (a :: b :: v :: xs) 2 = some v := atI_nat (j := 2) rfl
theorem at3 {a b c v : V} {xs : List V} : atI (a :: b :: c :: v :: xs) 3 = some v := atI_nat (j := 3) rfl
theorem at4 {a b c d v : V} {xs : List V} : atI (a :: b :: c :: d :: v :: xs) 4 = some v := atI_nat (j := 4) rfl
/-- .. whose elements are new tuples -/
theorem lc_tups {J : It} {n : Nat} {G : Hp → Prop} {Y : Nat → Hp → V → Hp → Prop} (w : Walk J n G Y) {g : TG} {te : TE} {vs : List Nat} {σ : L2.St} {H0 : Hp} {D : Addr} {Qd : Hp → Prop} (hD : H0 D = none) (f : Nat → List V) (hn : n < 100000)
    (hG : ∀ H, Same H0 H → G H)
    (hs : ∀ i H x H', i < n → Same H0 H → Y i H x H' → ∀ Qe : VK, (∀ q H4, Same H H4 → H4 q = some (.tup (f i)) → Qe (.ref q) H4) → g x (wipe σ vs) H' fun σ2 H2 => wipe σ2 vs = wipe σ vs ∧ te σ2 H2 Qe)
    (hd : ∀ (H : Hp) (qs : List Addr), Same H0 H → qs.length = n → (∀ (i : Nat) (q : Addr), qs[i]? = some q → H q = some (.tup (f i))) → H D = some (.lst (qs.map V.ref)) → Qd H) :
    ∃ W : Nat → Nat → Hp → Prop, (∃ m, W 0 m (upd H0 D (.lst []))) ∧ ∀ i m H, W i m H →
      (J.stop i H ∧ Qd H) ∨ (J.go i H ∧ ∃ Nx : Hp → Prop, (∀ H', Nx H' → ∃ m', m' < m ∧ W (i + 1) m' H') ∧ ∀ x H', J.yld i H x H' → g x (wipe σ vs) H' fun σ2 H2 => wipe σ2 vs = wipe σ vs ∧ tYes σ2 H2 fun b H3 =>
        if b = true then te σ2 H3 fun y H4 => ∃ acc, H4 D = some (.lst acc) ∧ acc.length < sizeLine ∧ Nx (upd H4 D (.lst (acc ++ [y]))) else Nx H3) := by
  refine lc_it w (fun i H => Same H0 H ∧ ∃ qs : List Addr, qs.length = i ∧ (∀ (j : Nat) (q : Addr), qs[j]? = some q → H q = some (.tup (f j))) ∧ H D = some (.lst (qs.map V.ref))) ⟨Same.new hD, [], rfl, fun j q e => by simp at e, upd_same⟩ (fun i H _ p => hG H p.1) (fun i x H H' hi p y => ?_) (fun H p => ?_)
  · obtain ⟨s1, qs, hl, hq, hDD⟩ := p
    have q := hs i H x H' hi s1 y (fun y H4 => ∃ acc, H4 D = some (.lst acc) ∧ acc.length < sizeLine ∧ (Same H0 (upd H4 D (.lst (acc ++ [y]))) ∧ ∃ qs : List Addr, qs.length = i + 1 ∧ (∀ (j : Nat) (q : Addr), qs[j]? = some q → upd H4 D (.lst (acc ++ [y])) q = some (.tup (f j))) ∧ upd H4 D (.lst (acc ++ [y])) D = some (.lst (qs.map V.ref)))) (fun q H4 s4 hq4 => ?_)
    · exact q
    · have h4 := s4 _ _ hDD
      refine ⟨_, h4, sz_lt ?_, Same.mut (s1.trans s4) hD, qs ++ [q], by rw [List.length_append, hl]; rfl, fun j r e => ?_, by rw [upd_same, List.map_append]; rfl⟩
      · rw [List.length_map, hl]
        exact Nat.lt_trans hi hn
      · have z : H4 r = some (.tup (f j)) := by
          by_cases hj : j < qs.length
          · rw [List.getElem?_append_left hj] at e
            exact s4 _ _ (hq j r e)
          · rw [List.getElem?_append_right (by omega)] at e
            have hj2 : j - qs.length = 0 := by
              have := (List.getElem?_eq_some_iff.mp e).1
              simp at this
              omega
            rw [hj2] at e
            have er : q = r := Option.some.inj e
            have ej : j = i := by omega
            rw [← er, ej]
            exact hq4
        rw [upd_ne]
        · exact z
        · intro c
          rw [c, h4] at z
          cases z
  · obtain ⟨s1, qs, hl, hq, hDD⟩ := p
    exact hd H qs s1 hl hq hDD
theorem map_range_getD {xs : List V} : (List.range xs.length).map (fun i => xs.getD i .non) = xs := by
  apply List.ext_getElem
  · simp
  · intro i h1 h2
    simp at h1
    simp [h1]
theorem getD_of {xs : List V} {i : Nat} {x : V} (h : xs[i]? = some x) : xs.getD i .non = x := by
  rw [List.getD_eq_getElem?_getD, h]
  rfl
/-- pairs of a name and "number" -/
structure Pairs (H : Hp) (ps : List Addr) (ns : List Str) : Prop where
  len : ps.length = ns.length
  at_ : ∀ (i : Nat) p x, ps[i]? = some p → ns[i]? = some x → H p = some (.tup [.str x, .str "number"])
theorem Pairs.mono {H H' : Hp} {ps : List Addr} {ns : List Str} (h : Pairs H ps ns) (e : Same H H') : Pairs H' ps ns := ⟨h.len, fun i p x a b => e _ _ (h.at_ i p x a b)⟩
theorem Pairs.append {H : Hp} {ps qs : List Addr} {ns ms : List Str} (h : Pairs H ps ns) (h2 : Pairs H qs ms) : Pairs H (ps ++ qs) (ns ++ ms) := by
  refine ⟨by rw [List.length_append, List.length_append, h.len, h2.len], fun i p x a b => ?_⟩
  by_cases hi : i < ps.length
  · rw [List.getElem?_append_left hi] at a
    rw [List.getElem?_append_left (by rw [← h.len]; exact hi)] at b
    exact h.at_ i p x a b
  · rw [List.getElem?_append_right (by omega)] at a
    rw [List.getElem?_append_right (by rw [← h.len]; omega), ← h.len] at b
    exact h2.at_ _ p x a b
theorem Pairs.get {H : Hp} {ps : List Addr} {ns : List Str} (h : Pairs H ps ns) {i : Nat} {y : V} (e : (ps.map V.ref)[i]? = some y) : ∃ p x, y = .ref p ∧ ps[i]? = some p ∧ ns[i]? = some x ∧ H p = some (.tup [.str x, .str "number"]) := by
  rw [List.getElem?_map] at e
  cases q : ps[i]? with
  | none =>
    rw [q] at e
    cases e
  | some p =>
    rw [q] at e
    have hi : i < ps.length := (List.getElem?_eq_some_iff.mp q).1
    have hx : ns[i]? = some (ns[i]'(by rw [← h.len]; exact hi)) := by
      rw [List.getElem?_eq_getElem]
    exact ⟨p, _, (Option.some.inj e).symm, rfl, hx, h.at_ i p _ q hx⟩
theorem take_snoc {α : Type} : ∀ {l : List α} {i : Nat} {x : α}, l[i]? = some x → l.take (i + 1) = l.take i ++ [x]
  | [], i, x, h => by simp at h
  | a :: l, 0, x, h => by
    have e : a = x := Option.some.inj h
    subst e
    rfl
  | a :: l, i + 1, x, h => by
    have ih := take_snoc (l := l) (i := i) (x := x) h
    show a :: l.take (i + 1) = a :: l.take i ++ [x]
    rw [ih]
    rfl
theorem not_in_take {α : Type} {l : List α} (hN : l.Nodup) {i : Nat} {x : α} (h : l[i]? = some x) : x ∉ l.take i := fun m => by
  obtain ⟨j, hj, e⟩ := List.mem_iff_getElem.mp m
  rw [List.getElem_take] at e
  have hj2 : j < i := by
    rw [List.length_take] at hj
    omega
  have hi := (List.getElem?_eq_some_iff.mp h)
  obtain ⟨hi1, hi2⟩ := hi
  have q := (List.getElem_inj hN).mp (e.trans hi2.symm)
  omega
/-- a dict whose keys are these names -/
def kvT (l : List Str) (f : Str → V) : List (Key × V) := l.map fun x => (Sum.inr x, f x)
theorem valV_kvT {l : List Str} {f : Str → V} {x : Str} (h : x ∉ l) : valV (kvT l f) (Sum.inr x : Key) = none := by
  cases e : valV (kvT l f) (Sum.inr x : Key) with
  | none => rfl
  | some v =>
    have m := valV_in e
    obtain ⟨q, hq, e2⟩ := List.mem_map.mp m
    obtain ⟨y, hy, e3⟩ := List.mem_map.mp hq
    rw [← e3] at e2
    have e4 : y = x := Sum.inr.inj e2
    rw [← e4] at h
    exact absurd hy h
theorem putK_kvT {l : List Str} {f : Str → V} {x : Str} (h : x ∉ l) : putK (kvT l f) (Sum.inr x : Key) (f x) = kvT (l ++ [x]) f := by
  rw [putK_new _ (valV_kvT h)]
  unfold kvT
  rw [List.map_append]
  rfl
/-! ### truth of a list of true things -/
theorem all_true {n : Nat} : (((List.range n).map fun _ => true).all id) = true := by
  simp
/-! ### names -/
def LETS : Str := "abcdefghijklmnopqrstuvwxyz"
def MRKS : Str := "abcdefghijklmnopqrstuvwxyz0123456789"
structure Nam (x : Str) : Prop where
  pos : 0 < x.cps.size
  le : x.cps.size ≤ 8
  one : ∃ c : Nat, x.cps[0]? = some c ∧ c ∈ LETS.cps.toList
  all : ∀ (i c : Nat), x.cps[i]? = some c → c ∈ MRKS.cps.toList
theorem pe_fldK {X : Cx} {K : PySem.W.Frag} {e : Expr} {ta : TE} {f : Str} {pos : Pos} (hk : X.K = K) (he : PE X e ta) (hb : attributeBase e f X.env (eval e X.env) = eval e X.env) : PE X (.Attribute e f pos) (tFld K ta f) := by
  subst hk
  exact pe_fld he hb
end W5
set_option Elab.async false
set_option linter.all false
set_option maxRecDepth 100000
set_option maxHeartbeats 4000000
namespace W5
open PySem PySem.Spec PyProof.Rows L2
/-! ### tuples whose objects are known to have no dict -/
def PlT (o : Obj) : Prop := o.cls = .type "tuple" ∧ o.dict = none
/-- a plain tuple -/
def TupP (H : Hp) (a : Addr) (xs : List V) : Prop := ∃ o, H a = some (.frz o (.tup xs)) ∧ PlT o
theorem TupP.sq {K : PySem.W.Frag} {H : Hp} {a : Addr} {xs : List V} (h : TupP H a xs) : SqT K H a xs := by
  obtain ⟨o, e, _⟩ := h
  exact .inl (.inr ⟨o, e⟩)
theorem TupP.mono {H H' : Hp} {a : Addr} {xs : List V} (h : TupP H a xs) (e : Same H H') : TupP H' a xs := by
  obtain ⟨o, q, p⟩ := h
  exact ⟨o, e _ _ q, p⟩
section
variable {X : Cx}
/-- tuple(list) -/
theorem call_tupleP : CallR X (.type "tuple") (fun xs H Q => ∃ p ys, xs = [.ref p] ∧ SqL X.K H p ys ∧ ∀ l o, H l = none → PlT o → Q (.ref l) (upd H l (.frz o (.tup ys)))) := by
  intro pins s σ H xs us Q I r h
  obtain ⟨p, ys, rfl, hq, q⟩ := h
  obtain ⟨u, rfl, rx⟩ := vals1 r
  cases rx
  obtain ⟨its, r', pl, hz⟩ := I.list hq
  have hlen := r'.length
  refine call_tuple_list pl.isList (fun h' kp => ?_) (by simp only [List.size_toArray] <;> omega)
  have I1 : Inv X pins σ H { s with heap := h' } := I.kept (t' := s.toks) kp
  have I2 : Inv X pins σ (upd H h'.objs.size (.frz { cls := .type "tuple", data := .seq its.toArray } (.tup ys))) { s with heap := h'.push { cls := .type "tuple", data := .seq its.toArray } } :=
    I1.laid (t' := s.toks) (fun b o e => Heap.get?_push_of_some _ e) (Nat.le_refl _) (show ObjOk X.prog X.w _ _ _ (.frz _ (.tup ys)) from ⟨Heap.get?_push_size _ rfl, hz, its, r', IsTup.new _ _⟩)
  exact ⟨.ref h'.objs.size, _, I2, rfl, q _ _ (I1.hok.fresh (Nat.le_refl _)) ⟨rfl, rfl⟩⟩
/-- t + u of plain tuples -/
theorem op_catP : OpR X (binaryOp .Add) (fun x y H Q => ∃ a b xs ys, x = .ref a ∧ y = .ref b ∧ SqT X.K H a xs ∧ SqT X.K H b ys ∧ xs ≠ [] ∧ xs.length + ys.length ≤ sizeLine ∧ (ys = [] → Q (.ref a) H) ∧ (ys ≠ [] → ∀ p o, H p = none → PlT o → Q (.ref p) (upd H p (.frz o (.tup (xs ++ ys)))))) := by
  intro pins s σ H x y v u Q I rx ry h
  obtain ⟨a, b, xs, ys, rfl, rfl, ha, hb, hx, hz, q1, q2⟩ := h
  cases rx
  cases ry
  obtain ⟨its, r1, p1, _⟩ := I.tuple ha
  obtain ⟨its2, r2, p2, _⟩ := I.tuple hb
  refine HT.cat_tup p1 p2 (fun z => hx (r1.nil_iff.mp z)) (fun z => ⟨.ref a, H, I, rfl, q1 (r2.nil_iff.mp z)⟩) (fun z => ?_) (by rw [← r1.length, ← r2.length]; exact hz)
  refine ⟨.ref s.heap.objs.size, _, I.laid (t' := s.toks) (o := .frz { cls := .type "tuple", data := .seq (its ++ its2).toArray } (.tup (xs ++ ys))) (fun b ob q => Heap.get?_push_of_some _ q) (Nat.le_refl _) ?_, rfl, q2 (fun w => z (r2.nil_iff.mpr w)) _ _ (I.hok.fresh (Nat.le_refl _)) ⟨rfl, rfl⟩⟩
  exact ⟨Heap.get?_push_size _ rfl, by rw [List.length_append]; exact hz, _, r1.append r2, IsTup.new _ _⟩
/-- dict(t) of a plain tuple of pairs (key, value) -/
theorem call_dictT (hcalm : X.calm = true) : CallR X (.type "dict") (fun xs H Q => ∃ (a : Addr) (ps : List Addr) (kvs : List (Key × V)), xs = [.ref a] ∧ TupP H a (ps.map V.ref) ∧ Paired (fun p kv => SqT X.K H p [kV kv.1, kv.2]) ps kvs ∧
    ∀ p, H p = none → Q (.ref p) (upd H p (.dK (mergeK [] kvs)))) := by
  intro pins s σ H xs us Q I r q
  obtain ⟨a, ps, kvs, ex, ⟨o, ho, hc, hd⟩, hp, q⟩ := q
  subst ex
  obtain ⟨u, eu, rx⟩ := vals1 r
  subst eu
  cases rx
  obtain ⟨e0, hz, its, rv, ⟨o', e1, _, n, hdat⟩⟩ := (show ObjOk X.prog X.w H s.heap a (.frz o (.tup (ps.map V.ref))) from I.hok a _ ho)
  have eo : o' = o := Option.some.inj (e1.symm.trans e0)
  subst eo
  have ei := refs_at rv
  subst ei
  rw [List.length_map] at hz
  obtain ⟨prs, rel, hl, hpr⟩ := pairs_of I hp
  -- the keys as they stand
  have keyed : ∃ qs : List (Value × Value), qs.length = prs.length ∧ ∀ (j : Nat) (q : Key × Value), prs[j]? = some q → ∃ (b : Addr) (u : Value), ps[j]? = some b ∧ IsTup s.heap b #[u, q.2] ∧ keyIs q.1 u = true ∧ qs[j]? = some (u, q.2) := by
    have go : ∀ (prs : List (Key × Value)) (f : Nat → Key × Value → Value → Prop), (∀ j q, prs[j]? = some q → ∃ u, f j q u) → ∃ qs : List (Value × Value), qs.length = prs.length ∧ ∀ j q, prs[j]? = some q → ∃ u, f j q u ∧ qs[j]? = some (u, q.2) := by
      intro prs
      induction prs with
      | nil => exact fun f _ => ⟨[], rfl, fun j q e => by simp at e⟩
      | cons p r ih =>
        intro f hf
        obtain ⟨u0, h0⟩ := hf 0 p rfl
        obtain ⟨qs, h1, h2⟩ := ih (fun j q u => f (j + 1) q u) fun j q e => hf (j + 1) q (by simpa using e)
        refine ⟨(u0, p.2) :: qs, by simp [h1], fun j q e => ?_⟩
        cases j with
        | zero =>
          have e' : p = q := Option.some.inj e
          subst e'
          exact ⟨u0, h0, rfl⟩
        | succ j =>
          obtain ⟨u, h3, h4⟩ := h2 j q (by simpa using e)
          exact ⟨u, h3, by simpa using h4⟩
    obtain ⟨qs, h1, h2⟩ := go prs (fun j q u => ∃ b, ps[j]? = some b ∧ IsTup s.heap b #[u, q.2] ∧ keyIs q.1 u = true) fun j q e => by
      obtain ⟨b, u, x1, x2, x3⟩ := hpr j q e
      exact ⟨u, b, x1, x2, x3⟩
    refine ⟨qs, h1, fun j q e => ?_⟩
    obtain ⟨u, ⟨b, x1, x2, x3⟩, x4⟩ := h2 j q e
    exact ⟨b, u, x1, x2, x3, x4⟩
  obtain ⟨qs, hql, hqs⟩ := keyed
  have hz' : prs.length ≤ sizeLine := by
    rw [hl]
    exact hz
  have items : PairItems s.heap (ps.map Value.ref).toArray (fun j => ps.getD j 0) qs := by
    refine ⟨by simp [hql, hl], fun j k v e => ?_⟩
    have hj : j < prs.length := by
      rw [← hql]
      exact (List.getElem?_eq_some_iff.mp e).1
    obtain ⟨b, u, x1, x2, x3, x4⟩ := hqs j prs[j] (List.getElem?_eq_getElem hj)
    have e2 : (u, prs[j].2) = (k, v) := Option.some.inj (x4.symm.trans e)
    have eb : ps.getD j 0 = b := by
      rw [List.getD_eq_getElem?_getD, x1]
      rfl
    refine ⟨by simp [x1, eb], .inl ?_⟩
    obtain ⟨e3, e4⟩ := Prod.mk.inj e2
    show s.heap.IsTuple (ps.getD j 0) #[k, v]
    rw [eb, ← e3, ← e4]
    exact x2
  have have_ : PairsHave (mixKind X.prog X.w) qs.length (PairRel qs) prs := by
    refine ⟨hql.symm, fun i key v e => ?_⟩
    have hj : i < prs.length := by
      rw [← hql]
      exact (List.getElem?_eq_some_iff.mp e).1
    obtain ⟨b, u, x1, x2, x3, x4⟩ := hqs i prs[i] (List.getElem?_eq_getElem hj)
    have e2 : (u, prs[i].2) = (key, v) := Option.some.inj (x4.symm.trans e)
    obtain ⟨e3, e4⟩ := Prod.mk.inj e2
    refine ⟨prs[i].1, ?_, ?_⟩
    · rw [List.getElem?_eq_getElem hj, ← e4]
    · rw [← e3]
      exact x3
  refine PySem.call_dict_pairs (knd := mixKind X.prog X.w) (kvs := prs) (PairArg.tuple a (ps.map Value.ref).toArray (fun j => ps.getD j 0) qs) (I.ok.hd hcalm) ⟨⟨o', n, e0, hc, hd, hdat⟩, items⟩ have_ (by rw [hql]; exact hz') fun h' tk hd' k => ?_
  have hm : (s.heap.objs.size == sysModules) = false := beq_eq_false_iff_ne.mpr (Nat.ne_of_gt I.big)
  have hlen : (mergeK [] kvs).length ≤ sizeLine := by
    refine Nat.le_trans (length_mergeK kvs []) ?_
    rw [List.length_nil, Nat.zero_add, rel.length, hl]
    exact hz
  exact ⟨.ref s.heap.objs.size, upd H s.heap.objs.size (.dK (mergeK [] kvs)), I.laid (t' := tk) (fun b o e => k b o (by simp) e) (Nat.le_refl _) (show ObjOk X.prog X.w _ _ _ (.dK (mergeK [] kvs)) from ⟨hlen, hm, merged [] prs, KV.merge rel .nil, hd'⟩), rfl, q _ (I.hok.fresh (Nat.le_refl _))⟩
end
end W5
set_option Elab.async false
set_option linter.all false
set_option maxRecDepth 100000
set_option maxHeartbeats 4000000
namespace W5
open PySem PySem.Spec PyProof.Rows L2
section
variable {P : Program} {w : World} {K : PySem.W.Frag} {mg : Str → Option Value} {base : Heap}

def spIsInt : Sp := fun vs H Q _ => ∃ i, vs = [.int i] ∧ Q (.bl true) H
def spIntIn : Sp := fun vs H Q _ => ∃ i lo hi, vs = [.int i, .int lo, .int hi] ∧ lo ≤ i ∧ i ≤ hi ∧ Q (.bl true) H
def spWritten : Sp := fun vs H Q _ => ∃ i : Int, vs = [.int i] ∧ -1000000000 ≤ i ∧ i ≤ 1000000000 ∧ Q (.bl true) H
def spName : Sp := fun vs H Q _ => ∃ x, vs = [.str x] ∧ Nam x ∧ ∀ H', Same H H' → Q (.bl true) H'
def spKind : Sp := fun vs H Q _ => vs = [.str "number"] ∧ Q (.bl true) H
def spTupOf : Sp := fun vs H Q _ => ∃ a xs n, vs = [.ref a, .int n] ∧ H a = some (.tup xs) ∧ n = (xs.length : Int) ∧ Q (.bl true) H
def spListOf : Sp := fun vs H Q _ => ∃ a xs lo hi, vs = [.ref a, .int lo, .int hi] ∧ H a = some (.lst xs) ∧ lo ≤ (xs.length : Int) ∧ (xs.length : Int) ≤ hi ∧ Q (.bl true) H
def spWord : Sp := fun vs H Q _ => ∃ a x xs, vs = [.ref a] ∧ H a = some (.tup (.str x :: xs)) ∧ Q (.bl true) H
theorem sc_is_integer : FnScope ["thing"] ["thing"] (defScope s_is_integer) := ⟨rfl, rfl, rfl, by decide +kernel, rfl, by decide +kernel, by decide +kernel⟩
theorem ok_is_integer (T : Ctx w K mg) : Has P w K mg base 1 "is_integer" ["thing"] spIsInt := by
  obtain ⟨fd, F⟩ := T.D_is_integer
  refine ⟨⟨fd, F.ok sc_is_integer (fun vs H Q E h => ?_) (fun cdv A outer s H vs Q E hr h => ?_), F.bindsN fun _ _ _ _ _ _ us hl => match us, hl with | [_], _ => rfl⟩, F.kp, T.g_is_integer⟩
  · obtain ⟨i, rfl, k⟩ := h; rfl
  · obtain ⟨i, rfl, k⟩ := h
    have hu := hu_of hr
    refine ⟨_, PSs.nox (pss_one (ps_ret (pe_and (pe_callB call_isi (by rfl) T.f_isinstance (by decide +kernel) (pa_cons (pv 0) (pa_cons (pe_bltn (v := .ty "int") (u := .type "int") rfl T.f_int (by decide +kernel) rfl) pa_nil))) (pe_one (pe_not (pe_callB call_isi (by rfl) T.f_isinstance (by decide +kernel) (pa_cons (pv 0) (pa_cons (pe_bltn (v := .ty "bool") (u := .type "bool") rfl T.f_bool (by decide +kernel) rfl) pa_nil)))))))), ?_⟩
    refine ⟨_, rfl, _, _, _, _, true, rfl, .ty _, .base (.int i), kit_ty (by decide +kernel), true, rfl, iteT ?_⟩
    exact ⟨_, rfl, _, _, _, _, false, rfl, .ty _, .base (.int i), kit_ty (by decide +kernel), false, rfl, k⟩
theorem sc_is_integer_in : FnScope ["thing", "least", "most"] ["thing", "least", "most"] (defScope s_is_integer_in) := ⟨rfl, rfl, rfl, by decide +kernel, rfl, by decide +kernel, by decide +kernel⟩
theorem ok_is_integer_in (T : Ctx w K mg) (H_is_integer : Has P w K mg base 1 "is_integer" ["thing"] spIsInt) : Has P w K mg base 2 "is_integer_in" ["thing", "least", "most"] spIntIn := by
  obtain ⟨fd, F⟩ := T.D_is_integer_in
  obtain ⟨fd_is_integer, G_is_integer, b_is_integer⟩ := H_is_integer.ex
  refine ⟨⟨fd, F.ok sc_is_integer_in (fun vs H Q E h => ?_) (fun cdv A outer s H vs Q E hr h => ?_), F.bindsN fun _ _ _ _ _ _ us hl => match us, hl with | [_, _, _], _ => rfl⟩, F.kp, T.g_is_integer_in⟩
  · obtain ⟨i, lo, hi, rfl, h1, h2, k⟩ := h; rfl
  · obtain ⟨i, lo, hi, rfl, h1, h2, k⟩ := h
    have hr_is_integer : Room 1 _ := hr.mono (by decide)
    have hu := hu_of hr
    refine ⟨_, PSs.nox (pss_one (ps_ret (pe_and (pe_call G_is_integer hr_is_integer (by rfl) H_is_integer.gl H_is_integer.kp b_is_integer .nil pass0 (pa_cons (pv 0) pa_nil)) (pe_one (pe_chain op_le op_le (pv 1) (pv 0) (pv 2)))))), ?_⟩
    refine ⟨_, rfl, i, rfl, true, rfl, iteT ?_⟩
    exact ⟨_, rfl, _, rfl, _, _, rfl, rfl, _, rfl, ifT (decide_eq_true h1) ⟨_, rfl, _, _, rfl, rfl, qT (decide_eq_true h2) k⟩⟩
theorem sc_is_written_number : FnScope ["thing"] ["thing"] (defScope s_is_written_number) := ⟨rfl, rfl, rfl, by decide +kernel, rfl, by decide +kernel, by decide +kernel⟩
theorem ok_is_written_number (T : Ctx w K mg) (H_is_integer_in : Has P w K mg base 2 "is_integer_in" ["thing", "least", "most"] spIntIn) : Has P w K mg base 3 "is_written_number" ["thing"] spWritten := by
  obtain ⟨fd, F⟩ := T.D_is_written_number
  obtain ⟨fd_is_integer_in, G_is_integer_in, b_is_integer_in⟩ := H_is_integer_in.ex
  refine ⟨⟨fd, F.ok sc_is_written_number (fun vs H Q E h => ?_) (fun cdv A outer s H vs Q E hr h => ?_), F.bindsN fun _ _ _ _ _ _ us hl => match us, hl with | [_], _ => rfl⟩, F.kp, T.g_is_written_number⟩
  · obtain ⟨i, rfl, h1, h2, k⟩ := h; rfl
  · obtain ⟨i, rfl, h1, h2, k⟩ := h
    have hr_is_integer_in : Room 2 _ := hr.mono (by decide)
    have hu := hu_of hr
    obtain ⟨tk, e_GREATEST_WRITTEN⟩ := T.i_GREATEST_WRITTEN
    refine ⟨_, PSs.nox (pss_one (ps_ret (pe_call G_is_integer_in hr_is_integer_in (by rfl) H_is_integer_in.gl H_is_integer_in.kp b_is_integer_in .nil pass0 (pa_cons (pv 0) (pa_cons (pe_un un_neg (pe_glob (v := .int 1000000000) rfl e_GREATEST_WRITTEN ⟨_, rfl⟩)) (pa_cons (pe_glob (v := .int 1000000000) rfl e_GREATEST_WRITTEN ⟨_, rfl⟩) pa_nil)))))), ?_⟩
    exact ⟨_, rfl, _, rfl, i, _, _, rfl, h1, h2, k⟩
theorem sc_is_name : FnScope ["thing", "mark"] ["thing"] (defScope s_is_name) := ⟨rfl, rfl, rfl, by decide +kernel, rfl, by decide +kernel, by decide +kernel⟩
theorem ok_is_name (T : Ctx w K mg) : Has P w K mg base 1 "is_name" ["thing"] spName := by
  obtain ⟨fd, F⟩ := T.D_is_name
  refine ⟨⟨fd, F.ok sc_is_name (fun vs H Q E h => ?_) (fun cdv A outer s H vs Q E hr h => ?_), F.bindsN fun _ _ _ _ _ _ us hl => match us, hl with | [_], _ => rfl⟩, F.kp, T.g_is_name⟩
  · obtain ⟨x, rfl, N, k⟩ := h; rfl
  · obtain ⟨x, rfl, N, k⟩ := h
    have hu := hu_of hr
    obtain ⟨tl, e_LETTERS⟩ := T.s_LETTERS
    obtain ⟨tm, e_MARKS⟩ := T.s_MARKS
    refine ⟨_, PSs.nox (pss_cons (ps_if (PW.pt (pw_or (pt_not (pt_val (pe_callB call_isi (by rfl) T.f_isinstance (by decide +kernel) (pa_cons (pv 0) (pa_cons (pe_bltn (v := .ty "str") (u := .type "str") rfl T.f_str (by decide +kernel) rfl) pa_nil))))) (pw_or1 (pt_not (pt_chain op_le op_le pe_int (pe_callB call_len_str (by rfl) T.f_len (by decide +kernel) (pa_cons (pv 0) pa_nil)) pe_int))))) (pss_one (ps_ret pe_bl)) pss_nil)
      (pss_one (ps_ret (pe_and (pe_cmpR op_in_sign (pe_item_str (pv 0) pe_int (fun _ _ => rfl)) (pe_glob (v := .str "abcdefghijklmnopqrstuvwxyz") rfl e_LETTERS ⟨_, rfl⟩) rfl) (pe_one (pe_callB (cr_all rfl) (by rfl) T.f_all (by decide +kernel) (pa_cons (pe_lc (own := [("mark", 1)]) (g := gName 1) (tt := tYes) rfl sc_is_name.nd (pi_str (pv 0)) (blkOk_by (N := ["thing", "mark"]) (sc := defScope s_is_name) (by decide +kernel)) (fun _ _ _ _ _ => (pg_name (i := 1) sc_is_name.nd rfl (Or.inl rfl))) (fun _ _ _ _ _ => pts_nil) (fun _ _ _ _ _ => (pe_cmpR op_in_sign (pv 1) (pe_glob (v := .str "abcdefghijklmnopqrstuvwxyz0123456789") rfl e_MARKS ⟨_, rfl⟩) rfl))) pa_nil))))))), ?_⟩
    obtain ⟨c0, hc0, mc0⟩ := N.one
    have hsz : x.length ≤ sizeLine := sz_of (Nat.le_trans (show x.cps.size ≤ 8 from N.le) (by decide))
    refine ⟨_, rfl, _, _, _, _, true, rfl, .ty _, .base (.str x), kit_ty (by decide +kernel), true, rfl, iteF ?_⟩
    refine ⟨_, rfl, _, rfl, hsz, _, _, rfl, rfl, _, rfl, ?_⟩
    refine ifT (decide_eq_true (show (1 : Int) ≤ ((x.cps.size : Nat) : Int) by have := N.pos; omega)) ⟨_, _, rfl, rfl, _, rfl, ?_⟩
    refine ifF (show (!decide (((x.cps.size : Nat) : Int) ≤ 8)) = false by rw [decide_eq_true (show ((x.cps.size : Nat) : Int) ≤ 8 by have := N.le; omega)]; rfl) ?_
    refine ⟨_, rfl, _, _, c0, rfl, rfl, by decide, by decide, by have := N.pos; exact Int.ofNat_lt.mpr this, hc0, _, _, rfl, rfl, _, rfl, ?_⟩
    refine ifT (decide_eq_true mc0) ?_
    refine ⟨_, rfl, _, rfl, fun D hD => ?_⟩
    refine lc_pure walk_str hD (fun _ => .bl true) (by have := N.le; omega) (fun _ _ => trivial) (fun i H1 y H2 hi s1 hy Qe qe => ?_) (fun H1 s1 h1 => ?_)
    · obtain ⟨rfl, c, hc, rfl⟩ := hy
      exact ⟨rfl, _, rfl, _, _, rfl, rfl, qT (decide_eq_true (N.all i c hc)) (qe _ (Same.refl _))⟩
    · refine ⟨_, (List.range x.cps.size).map (fun _ => true), rfl, SqL.of (by rw [h1, List.map_map]; rfl), qT all_true (k _ s1)⟩
theorem sc_is_kind : FnScope ["thing"] ["thing"] (defScope s_is_kind) := ⟨rfl, rfl, rfl, by decide +kernel, rfl, by decide +kernel, by decide +kernel⟩
theorem ok_is_kind (T : Ctx w K mg) : Has P w K mg base 1 "is_kind" ["thing"] spKind := by
  obtain ⟨fd, F⟩ := T.D_is_kind
  refine ⟨⟨fd, F.ok sc_is_kind (fun vs H Q E h => ?_) (fun cdv A outer s H vs Q E hr h => ?_), F.bindsN fun _ _ _ _ _ _ us hl => match us, hl with | [_], _ => rfl⟩, F.kp, T.g_is_kind⟩
  · obtain ⟨rfl, k⟩ := h; rfl
  · obtain ⟨rfl, k⟩ := h
    have hu := hu_of hr
    refine ⟨_, PSs.nox (pss_one (ps_ret (pe_and (pe_callB call_isi (by rfl) T.f_isinstance (by decide +kernel) (pa_cons (pv 0) (pa_cons (pe_bltn (v := .ty "str") (u := .type "str") rfl T.f_str (by decide +kernel) rfl) pa_nil))) (pe_one (pe_cmpR op_in_seq (pv 0) (pe_glob (v := .ref (He.ga K "KINDS")) rfl T.g_KINDS rfl) rfl))))), ?_⟩
    refine ⟨_, rfl, _, _, _, _, true, rfl, .ty _, .base (.str _), kit_ty (by decide +kernel), true, rfl, iteT ?_⟩
    exact ⟨_, rfl, _, _, rfl, .inr (T.kinds H), rfl, rfl, qT rfl k⟩
theorem sc_is_tuple_of : FnScope ["thing", "many"] ["thing", "many"] (defScope s_is_tuple_of) := ⟨rfl, rfl, rfl, by decide +kernel, rfl, by decide +kernel, by decide +kernel⟩
theorem ok_is_tuple_of (T : Ctx w K mg) : Has P w K mg base 1 "is_tuple_of" ["thing", "many"] spTupOf := by
  obtain ⟨fd, F⟩ := T.D_is_tuple_of
  refine ⟨⟨fd, F.ok sc_is_tuple_of (fun vs H Q E h => ?_) (fun cdv A outer s H vs Q E hr h => ?_), F.bindsN fun _ _ _ _ _ _ us hl => match us, hl with | [_, _], _ => rfl⟩, F.kp, T.g_is_tuple_of⟩
  · obtain ⟨a, xs, n, rfl, ha, hn, k⟩ := h; rfl
  · obtain ⟨a, xs, n, rfl, ha, hn, k⟩ := h
    have hu := hu_of hr
    refine ⟨_, PSs.nox (pss_one (ps_ret (pe_and (pe_callB call_isi (by rfl) T.f_isinstance (by decide +kernel) (pa_cons (pv 0) (pa_cons (pe_bltn (v := .ty "tuple") (u := .type "tuple") rfl T.f_tuple (by decide +kernel) rfl) pa_nil))) (pe_one (pe_cmpR op_eq (pe_callB call_len_seq (by rfl) T.f_len (by decide +kernel) (pa_cons (pv 0) pa_nil)) (pv 1) (nomark _)))))), ?_⟩
    refine ⟨_, rfl, _, _, _, _, true, rfl, .ty _, .base (.tup ha), kit_ty (by decide +kernel), true, rfl, iteT ?_⟩
    exact ⟨_, rfl, _, _, rfl, .inr (SqT.of ha), _, rfl, rfl, qT (decide_eq_true (by rw [hn])) k⟩
theorem sc_is_list_of : FnScope ["thing", "least", "most"] ["thing", "least", "most"] (defScope s_is_list_of) := ⟨rfl, rfl, rfl, by decide +kernel, rfl, by decide +kernel, by decide +kernel⟩
theorem ok_is_list_of (T : Ctx w K mg) : Has P w K mg base 1 "is_list_of" ["thing", "least", "most"] spListOf := by
  obtain ⟨fd, F⟩ := T.D_is_list_of
  refine ⟨⟨fd, F.ok sc_is_list_of (fun vs H Q E h => ?_) (fun cdv A outer s H vs Q E hr h => ?_), F.bindsN fun _ _ _ _ _ _ us hl => match us, hl with | [_, _, _], _ => rfl⟩, F.kp, T.g_is_list_of⟩
  · obtain ⟨a, xs, lo, hi, rfl, ha, h1, h2, k⟩ := h; rfl
  · obtain ⟨a, xs, lo, hi, rfl, ha, h1, h2, k⟩ := h
    have hu := hu_of hr
    refine ⟨_, PSs.nox (pss_one (ps_ret (pe_and (pe_callB call_isi (by rfl) T.f_isinstance (by decide +kernel) (pa_cons (pv 0) (pa_cons (pe_bltn (v := .ty "list") (u := .type "list") rfl T.f_list (by decide +kernel) rfl) pa_nil))) (pe_one (pe_chain op_le op_le (pv 1) (pe_callB call_len_seq (by rfl) T.f_len (by decide +kernel) (pa_cons (pv 0) pa_nil)) (pv 2)))))), ?_⟩
    refine ⟨_, rfl, _, _, _, _, true, rfl, .ty _, .base (.lst ha), kit_ty (by decide +kernel), true, rfl, iteT ?_⟩
    exact ⟨_, rfl, _, rfl, _, _, rfl, .inl (SqL.of ha), _, _, rfl, rfl, _, rfl, ifT (decide_eq_true h1) ⟨_, rfl, _, _, rfl, rfl, qT (decide_eq_true h2) k⟩⟩
theorem sc_is_word_tuple : FnScope ["thing"] ["thing"] (defScope s_is_word_tuple) := ⟨rfl, rfl, rfl, by decide +kernel, rfl, by decide +kernel, by decide +kernel⟩
theorem ok_is_word_tuple (T : Ctx w K mg) : Has P w K mg base 1 "is_word_tuple" ["thing"] spWord := by
  obtain ⟨fd, F⟩ := T.D_is_word_tuple
  refine ⟨⟨fd, F.ok sc_is_word_tuple (fun vs H Q E h => ?_) (fun cdv A outer s H vs Q E hr h => ?_), F.bindsN fun _ _ _ _ _ _ us hl => match us, hl with | [_], _ => rfl⟩, F.kp, T.g_is_word_tuple⟩
  · obtain ⟨a, x, xs, rfl, ha, k⟩ := h; rfl
  · obtain ⟨a, x, xs, rfl, ha, k⟩ := h
    have hu := hu_of hr
    refine ⟨_, PSs.nox (pss_one (ps_ret (pe_and (pe_callB call_isi (by rfl) T.f_isinstance (by decide +kernel) (pa_cons (pv 0) (pa_cons (pe_bltn (v := .ty "tuple") (u := .type "tuple") rfl T.f_tuple (by decide +kernel) rfl) pa_nil))) (pe_and (pe_cmpR op_gt (pe_callB call_len_seq (by rfl) T.f_len (by decide +kernel) (pa_cons (pv 0) pa_nil)) pe_int (nomark _)) (pe_one (pe_callB call_isi (by rfl) T.f_isinstance (by decide +kernel) (pa_cons (pe_ix ix_tup (pv 0) pe_int (fun _ _ => rfl)) (pa_cons (pe_bltn (v := .ty "str") (u := .type "str") rfl T.f_str (by decide +kernel) rfl) pa_nil)))))))), ?_⟩
    refine ⟨_, rfl, _, _, _, _, true, rfl, .ty _, .base (.tup ha), kit_ty (by decide +kernel), true, rfl, iteT ?_⟩
    refine ⟨_, rfl, _, _, rfl, .inr (SqT.of ha), _, _, rfl, rfl, _, rfl, ifT (decide_eq_true (by rw [List.length_cons]; omega)) ?_⟩
    exact ⟨_, rfl, _, _, _, _, rfl, rfl, SqT.of ha, at0, _, _, _, _, true, rfl, .ty _, .base (.str x), kit_ty (by decide +kernel), k⟩

end
end W5
set_option Elab.async false
set_option linter.all false
set_option maxRecDepth 100000
set_option maxHeartbeats 4000000
namespace W5
open PySem PySem.Spec PyProof.Rows L2
section
variable {P : Program} {w : World} {K : PySem.W.Frag} {mg : Str → Option Value} {base : Heap}

/-- a text or an int -/
inductive Fl : V → Prop where
  | str (x : Str) : Fl (.str x)
  | int (i : Int) : Fl (.int i)
def spFz0 : Sp := fun vs H Q _ => ∃ v, vs = [v] ∧ Fl v ∧ ∀ H', Same H H' → Q v H'
def spFz1 : Sp := fun vs H Q _ => ∃ a xs, vs = [.ref a] ∧ H a = some (.tup xs) ∧ (∀ x ∈ xs, Fl x) ∧ xs.length ≤ 100 ∧ ∀ p H', Same H H' → H' p = some (.tup xs) → Q (.ref p) H'
def spFz2 : Sp := fun vs H Q _ => ∃ (a : Addr) (ps : List Addr) (f : Nat → List V), vs = [.ref a] ∧ H a = some (.lst (ps.map V.ref)) ∧ (∀ (i : Nat) (p : Addr), ps[i]? = some p → H p = some (.tup (f i)) ∧ (f i).length ≤ 100 ∧ ∀ x ∈ f i, Fl x) ∧ ps.length ≤ 100 ∧
  ∀ (q : Addr) (qs : List Addr) (H' : Hp), Same H H' → TupP H' q (qs.map V.ref) → qs.length = ps.length → (∀ (i : Nat) (p : Addr), qs[i]? = some p → H' p = some (.tup (f i))) → Q (.ref q) H'
theorem kit2 {K : PySem.W.Frag} {t a b : String} {p q r : Bool} (h1 : kitB t a = some p) (h2 : kitB t b = some q) (e : r = (p || q)) : PySem.W.kitAny K (.type t) [.type a, .type b] = some r := by
  subst e
  refine kitAny_cons (kit_ty h1) (fun e => ?_) (fun e => by rw [e] <;> rfl)
  rw [e]
  exact kitAny_cons (kit_ty h2) (fun e2 => by rw [e2]; exact kitAny_nil) (fun e2 => by rw [e2] <;> rfl)
theorem sc_frozen : FnScope ["thing", "part"] ["thing"] (defScope s_frozen) := ⟨rfl, rfl, rfl, by decide +kernel, rfl, by decide +kernel, by decide +kernel⟩
theorem ok_frozen0 (T : Ctx w K mg) : Has P w K mg base 1 "frozen" ["thing"] spFz0 := by
  obtain ⟨fd, F⟩ := T.D_frozen
  refine ⟨⟨fd, F.ok sc_frozen (fun vs H Q E h => ?_) (fun cdv A outer s H vs Q E hr h => ?_), F.bindsN fun _ _ _ _ _ _ us hl => match us, hl with | [_], _ => rfl⟩, F.kp, T.g_frozen⟩
  · obtain ⟨v, rfl, F0, k⟩ := h; rfl
  · obtain ⟨v, rfl, F0, k⟩ := h
    have hu := hu_of hr
    refine ⟨_, PSs.nox (pss_cons (ps_if (pt_val (pe_callB call_isiT (by rfl) T.f_isinstance (by decide +kernel) (pa_cons (pv 0) (pa_cons (pe_tup (pa_cons (pe_bltn (v := .ty "list") (u := .type "list") rfl T.f_list (by decide +kernel) rfl) (pa_cons (pe_bltn (v := .ty "tuple") (u := .type "tuple") rfl T.f_tuple (by decide +kernel) rfl) pa_nil))) pa_nil)))) (pss_one ps_never) pss_nil)
      (pss_one (ps_ret (pv 0)))), ?_⟩
    refine ⟨_, rfl, sz_of (by decide), fun tp htp => ?_⟩
    cases F0 with
    | str x =>
      exact ⟨_, _, _, _, _, false, rfl, upd_same, .cons (.ty _) (.cons (.ty _) .nil), .base (.str x), kit2 (p := false) (q := false) (by decide +kernel) (by decide +kernel) rfl, _, rfl, iteF ⟨_, rfl, k _ (Same.new htp)⟩⟩
    | int x =>
      exact ⟨_, _, _, _, _, false, rfl, upd_same, .cons (.ty _) (.cons (.ty _) .nil), .base (.int x), kit2 (p := false) (q := false) (by decide +kernel) (by decide +kernel) rfl, _, rfl, iteF ⟨_, rfl, k _ (Same.new htp)⟩⟩
theorem ok_frozen1 (T : Ctx w K mg) (H_frozen : Has P w K mg base 1 "frozen" ["thing"] spFz0) : Has P w K mg base 2 "frozen" ["thing"] spFz1 := by
  obtain ⟨fd, F⟩ := T.D_frozen
  obtain ⟨fd_frozen, G_frozen, b_frozen⟩ := H_frozen.ex
  refine ⟨⟨fd, F.ok sc_frozen (fun vs H Q E h => ?_) (fun cdv A outer s H vs Q E hr h => ?_), F.bindsN fun _ _ _ _ _ _ us hl => match us, hl with | [_], _ => rfl⟩, F.kp, T.g_frozen⟩
  · obtain ⟨a, xs, rfl, ha, hf, hl, k⟩ := h; rfl
  · obtain ⟨a, xs, rfl, ha, hf, hl, k⟩ := h
    have hr_frozen : Room 1 _ := hr.mono (by decide)
    have hu := hu_of hr
    refine ⟨_, PSs.nox (pss_cons (ps_if (pt_val (pe_callB call_isiT (by rfl) T.f_isinstance (by decide +kernel) (pa_cons (pv 0) (pa_cons (pe_tup (pa_cons (pe_bltn (v := .ty "list") (u := .type "list") rfl T.f_list (by decide +kernel) rfl) (pa_cons (pe_bltn (v := .ty "tuple") (u := .type "tuple") rfl T.f_tuple (by decide +kernel) rfl) pa_nil))) pa_nil)))) (pss_one (ps_ret (pe_callTy call_tuple_of (by rfl) T.f_tuple (by decide +kernel) (pa_cons (pe_lc (own := [("part", 1)]) (g := gName 1) (tt := tYes) rfl sc_frozen.nd (pi_tup (pv 0)) (blkOk_by (N := ["thing", "part"]) (sc := defScope s_frozen) (by decide +kernel)) (fun _ _ _ _ _ => (pg_name (i := 1) sc_frozen.nd rfl (Or.inl rfl))) (fun _ _ _ _ _ => pts_nil) (fun _ _ _ _ _ => (pe_call G_frozen hr_frozen (by rfl) H_frozen.gl H_frozen.kp b_frozen .nil pass0 (pa_cons (pv 1) pa_nil)))) pa_nil)))) pss_nil)
      (pss_one (ps_ret (pv 0)))), ?_⟩
    refine ⟨_, rfl, sz_of (by decide), fun tp htp => ?_⟩
    have s1 : Same H (upd H tp (.tup [.ty "list", .ty "tuple"])) := Same.new htp
    refine ⟨_, _, _, _, _, true, rfl, upd_same, .cons (.ty _) (.cons (.ty _) .nil), .base (.tup (s1 _ _ ha)), kit2 (p := false) (q := true) (by decide +kernel) (by decide +kernel) rfl, _, rfl, iteT ?_⟩
    refine ⟨_, rfl, a, rfl, ⟨_, SqT.of (s1 _ _ ha)⟩, fun D hD => ?_⟩
    refine lc_pure (walk_tup (K := K) (a := a) (xs := xs)) hD (fun i => xs.getD i .non) (Nat.lt_of_le_of_lt hl (by decide)) (fun H2 s2 => SqT.of (s2 _ _ (s1 _ _ ha))) (fun i H2 y H3 hi s2 hy Qe qe => ?_) (fun H2 s2 h2 => ?_)
    · obtain ⟨rfl, hx⟩ := hy
      rw [getD_of hx] at qe
      exact ⟨rfl, _, rfl, y, rfl, hf y (List.mem_of_getElem? hx), fun H4 s4 => qe _ s4⟩
    · rw [map_range_getD] at h2
      exact ⟨D, xs, rfl, .inl ⟨SqL.of h2, fun l hl2 => k l _ ((s1.trans s2).trans (Same.new hl2)) upd_same⟩⟩
theorem ok_frozen2 (T : Ctx w K mg) (H_frozen : Has P w K mg base 2 "frozen" ["thing"] spFz1) : Has P w K mg base 3 "frozen" ["thing"] spFz2 := by
  obtain ⟨fd, F⟩ := T.D_frozen
  obtain ⟨fd_frozen, G_frozen, b_frozen⟩ := H_frozen.ex
  refine ⟨⟨fd, F.ok sc_frozen (fun vs H Q E h => ?_) (fun cdv A outer s H vs Q E hr h => ?_), F.bindsN fun _ _ _ _ _ _ us hl => match us, hl with | [_], _ => rfl⟩, F.kp, T.g_frozen⟩
  · obtain ⟨a, ps, f, rfl, ha, hf, hl, k⟩ := h; rfl
  · obtain ⟨a, ps, f, rfl, ha, hf, hl, k⟩ := h
    have hr_frozen : Room 2 _ := hr.mono (by decide)
    have hu := hu_of hr
    refine ⟨_, PSs.nox (pss_cons (ps_if (pt_val (pe_callB call_isiT (by rfl) T.f_isinstance (by decide +kernel) (pa_cons (pv 0) (pa_cons (pe_tup (pa_cons (pe_bltn (v := .ty "list") (u := .type "list") rfl T.f_list (by decide +kernel) rfl) (pa_cons (pe_bltn (v := .ty "tuple") (u := .type "tuple") rfl T.f_tuple (by decide +kernel) rfl) pa_nil))) pa_nil)))) (pss_one (ps_ret (pe_callTy call_tupleP (by rfl) T.f_tuple (by decide +kernel) (pa_cons (pe_lc (own := [("part", 1)]) (g := gName 1) (tt := tYes) rfl sc_frozen.nd (pi_list (pv 0)) (blkOk_by (N := ["thing", "part"]) (sc := defScope s_frozen) (by decide +kernel)) (fun _ _ _ _ _ => (pg_name (i := 1) sc_frozen.nd rfl (Or.inl rfl))) (fun _ _ _ _ _ => pts_nil) (fun _ _ _ _ _ => (pe_call G_frozen hr_frozen (by rfl) H_frozen.gl H_frozen.kp b_frozen .nil pass0 (pa_cons (pv 1) pa_nil)))) pa_nil)))) pss_nil)
      (pss_one (ps_ret (pv 0)))), ?_⟩
    refine ⟨_, rfl, sz_of (by decide), fun tp htp => ?_⟩
    have s1 : Same H (upd H tp (.tup [.ty "list", .ty "tuple"])) := Same.new htp
    refine ⟨_, _, _, _, _, true, rfl, upd_same, .cons (.ty _) (.cons (.ty _) .nil), .base (.lst (s1 _ _ ha)), kit2 (p := true) (q := false) (by decide +kernel) (by decide +kernel) rfl, _, rfl, iteT ?_⟩
    refine ⟨_, rfl, a, rfl, ⟨_, SqL.of (s1 _ _ ha)⟩, fun D hD => ?_⟩
    refine lc_tups (walk_list (K := K) (a := a) (xs := ps.map V.ref)) hD f (by rw [List.length_map]; exact Nat.lt_of_le_of_lt hl (by decide)) (fun H2 s2 => SqL.of (s2 _ _ (s1 _ _ ha))) (fun i H2 y H3 hi s2 hy Qe qe => ?_) (fun H2 qs s2 hq hqs h2 => ?_)
    · obtain ⟨rfl, hx⟩ := hy
      rw [List.getElem?_map] at hx
      cases e : ps[i]? with
      | none =>
        rw [e] at hx
        cases hx
      | some p =>
        rw [e] at hx
        have hy2 : y = V.ref p := (Option.some.inj hx).symm
        subst hy2
        obtain ⟨h3, h4, h5⟩ := hf i p e
        exact ⟨rfl, _, rfl, p, f i, rfl, s2 _ _ (s1 _ _ h3), h5, h4, fun q H4 s4 h6 => qe q _ s4 h6⟩
    · rw [List.length_map] at hq
      refine ⟨D, _, rfl, SqL.of h2, fun l o hl2 po => k l qs _ ((s1.trans s2).trans (Same.new hl2)) ⟨o, upd_same, po⟩ hq fun i p e => Same.new hl2 _ _ (hqs i p e)⟩
def spNamed : Sp := fun vs H Q _ => ∃ (a : Addr) (ps : List Addr) (ns : List Str) (m : Int), vs = [.ref a, .int m] ∧ H a = some (.lst (ps.map V.ref)) ∧ Pairs H ps ns ∧ (∀ x ∈ ns, Nam x) ∧ ns.Nodup ∧ (ns.length : Int) ≤ m ∧ ns.length ≤ 100 ∧ ∀ H', Same H H' → Q (.bl true) H' 
theorem sc_are_named_kinds : FnScope ["thing", "most", "names", "pair"] ["thing", "most"] (defScope s_are_named_kinds) := ⟨rfl, rfl, rfl, by decide +kernel, rfl, by decide +kernel, by decide +kernel⟩
theorem ok_are_named_kinds (T : Ctx w K mg) (H_is_list_of : Has P w K mg base 1 "is_list_of" ["thing", "least", "most"] spListOf) (H_is_tuple_of : Has P w K mg base 1 "is_tuple_of" ["thing", "many"] spTupOf) (H_is_name : Has P w K mg base 1 "is_name" ["thing"] spName) (H_is_kind : Has P w K mg base 1 "is_kind" ["thing"] spKind) : Has P w K mg base 2 "are_named_kinds" ["thing", "most"] spNamed := by
  obtain ⟨fd, F⟩ := T.D_are_named_kinds
  obtain ⟨fd_is_list_of, G_is_list_of, b_is_list_of⟩ := H_is_list_of.ex
  obtain ⟨fd_is_tuple_of, G_is_tuple_of, b_is_tuple_of⟩ := H_is_tuple_of.ex
  obtain ⟨fd_is_name, G_is_name, b_is_name⟩ := H_is_name.ex
  obtain ⟨fd_is_kind, G_is_kind, b_is_kind⟩ := H_is_kind.ex
  refine ⟨⟨fd, F.ok sc_are_named_kinds (fun vs H Q E h => ?_) (fun cdv A outer s H vs Q E hr h => ?_), F.bindsN fun _ _ _ _ _ _ us hl => match us, hl with | [_, _], _ => rfl⟩, F.kp, T.g_are_named_kinds⟩
  · obtain ⟨a, ps, ns, m, rfl, ha, hp, hN, hnd, hm, h100, k⟩ := h; rfl
  · obtain ⟨a, ps, ns, m, rfl, ha, hp, hN, hnd, hm, h100, k⟩ := h
    have hr_is_list_of : Room 1 _ := hr.mono (by decide)
    have hr_is_tuple_of : Room 1 _ := hr.mono (by decide)
    have hr_is_name : Room 1 _ := hr.mono (by decide)
    have hr_is_kind : Room 1 _ := hr.mono (by decide)
    have hu := hu_of hr
    refine ⟨_, PSs.nox (pss_cons (ps_if (pt_not (pt_val (pe_call G_is_list_of hr_is_list_of (by rfl) H_is_list_of.gl H_is_list_of.kp b_is_list_of .nil pass0 (pa_cons (pv 0) (pa_cons pe_int (pa_cons (pv 1) pa_nil)))))) (pss_one (ps_ret pe_bl)) pss_nil)
      (pss_cons (ps_set (i := 2) sc_are_named_kinds.nd rfl (Or.inl rfl) pe_dnewK)
      (pss_cons (ps_for PassesOwn.never rfl (pi_list (pv 0)) (pg_name (i := 3) sc_are_named_kinds.nd rfl (Or.inl rfl))
      (pss_cons (ps_if (PW.pt (pw_or (pt_not (pt_val (pe_call G_is_tuple_of hr_is_tuple_of (by rfl) H_is_tuple_of.gl H_is_tuple_of.kp b_is_tuple_of .nil pass0 (pa_cons (pv 3) (pa_cons pe_int pa_nil))))) (pw_or (pt_not (pt_val (pe_call G_is_name hr_is_name (by rfl) H_is_name.gl H_is_name.kp b_is_name .nil pass0 (pa_cons (pe_ix ix_tup (pv 3) pe_int (fun _ _ => rfl)) pa_nil)))) (pw_or1 (pt_not (pt_val (pe_call G_is_kind hr_is_kind (by rfl) H_is_kind.gl H_is_kind.kp b_is_kind .nil pass0 (pa_cons (pe_ix ix_tup (pv 3) pe_int (fun _ _ => rfl)) pa_nil)))))))) (pss_one (ps_ret pe_bl)) pss_nil)
      (pss_cons (ps_if (pt_cmp (pc_din hu (pe_ix ix_tup (pv 3) pe_int (fun _ _ => rfl)) (pv 2))) (pss_one (ps_ret pe_bl)) pss_nil)
      (pss_one (ps_dput hu (pv 2) (pe_ix ix_tup (pv 3) pe_int (fun _ _ => rfl)) pe_bl rfl)))))
      (pss_one (ps_ret pe_bl))))), ?_⟩
    have hlp : (ps.map V.ref).length = ns.length := by rw [List.length_map, hp.len]
    refine ⟨_, rfl, _, rfl, a, ps.map V.ref, 0, m, rfl, ha, by omega, by rw [hlp]; exact hm, _, rfl, iteF ?_⟩
    intro d hd
    have s1 : Same H (upd H d (.dK [])) := Same.new hd
    refine ⟨_, rfl, a, rfl, ⟨_, SqL.of (s1 _ _ ha)⟩, ?_⟩
    refine for_it (walk_list (K := K) (a := a) (xs := ps.map V.ref)) (fun i σ H1 => ∃ v : Option V, σ = [some (.ref a), some (.int m), some (.ref d), v] ∧ Same H H1 ∧ H1 d = some (.dK (kvT (ns.take i) fun _ => .bl true))) ⟨none, rfl, s1, upd_same⟩ (fun i σ H1 _ ⟨v, _, s2, _⟩ => SqL.of (s2 _ _ ha)) ?_ ?_
    · rintro i y σ H1 H2 hi ⟨v, rfl, s2, h2⟩ ⟨rfl, hy⟩
      obtain ⟨p, x, rfl, hpi, hni, hpt⟩ := hp.get hy
      have hx := s2 _ _ hpt
      have hnot := not_in_take hnd hni
      refine ⟨_, rfl, p, _, 2, rfl, hx, rfl, _, rfl, ?_⟩
      refine iteF ⟨_, rfl, _, _, _, _, rfl, rfl, SqT.of hx, at0, x, rfl, hN x (List.mem_of_getElem? hni), fun H3 s3 => ⟨_, rfl, iteF ?_⟩⟩
      have hx3 := s3 _ _ hx
      refine ⟨_, rfl, _, _, _, _, rfl, rfl, SqT.of hx3, at1, rfl, _, rfl, iteF ?_⟩
      have h3 := s3 _ _ h2
      refine ⟨_, rfl, _, _, _, _, rfl, rfl, SqT.of hx3, at0, _, rfl, d, _, rfl, DGet.k (k := Sum.inr x) h3, _, rfl, ?_⟩
      refine ifF (by rw [valV_kvT hnot]; rfl) ?_
      refine ⟨_, rfl, _, rfl, _, _, _, _, rfl, rfl, SqT.of hx3, at0, d, _, rfl, DPut.k (k := Sum.inr x) h3 (small1000 ?_), ?_⟩
      · unfold kvT
        rw [List.length_map, List.length_take]
        omega
      · refine ⟨_, rfl, Same.mut (s2.trans s3) hd, ?_⟩
        rw [upd_same, take_snoc hni]
        exact congrArg (fun l => some (HO.dK l)) (putK_kvT hnot)
    · rintro σ H1 ⟨v, rfl, s2, h2⟩
      exact k _ s2

end
end W5
set_option Elab.async false
set_option linter.all false
set_option maxRecDepth 100000
set_option maxHeartbeats 4000000
namespace W5
open PySem PySem.Spec PyProof.Rows L2 RZ
theorem walk_zipT {K : PySem.W.Frag} {a b : Addr} {xs ys : List V} {n : Nat} (hn : n = min xs.length ys.length) : Walk (ItzT K a b) n (fun H => SqT K H a xs ∧ SqT K H b ys) (YPair (fun i => xs[i]?) (fun i => ys[i]?)) := by
  subst hn
  refine ⟨fun i _ hi q => ?_, fun _ q => ⟨xs, ys, q.1, q.2, by omega⟩, fun i H v H' _ q y => ?_⟩
  · have h1 : i < xs.length := by omega
    have h2 : i < ys.length := by omega
    exact ⟨xs, ys, xs[i], ys[i], q.1, q.2, by simp [h1], by simp [h2]⟩
  · obtain ⟨T, x, z, h1, h2, h3, h4, h5⟩ := y
    exact ⟨T, x, z, h1, h2, h3, h4 xs q.1, h5 ys q.2⟩
/-! ### rows of a source, all words -/
inductive Rx where
  | num (x : Str) (n : Int) | nil (x : Str) | copy (x y : Str) | bin (k : Fin 4) (x y z : Str) | same (x y z : Str) | new (x c : Str) | get (x y f : Str) | put (x f y : Str) | call (x F : Str) (as : List Str) | see (x : Str) | ifz (x : Str) (r : Nat) | jump (r : Nat) | ret (x : Str)
def binW : Fin 4 → Str
  | 0 => "add" | 1 => "sub" | 2 => "times" | 3 => "less"
def Rx.word : Rx → Str
  | .num _ _ => "number" | .nil _ => "nil" | .copy _ _ => "copy" | .bin k _ _ _ => binW k | .same _ _ _ => "same" | .new _ _ => "new" | .get _ _ _ => "get" | .put _ _ _ => "put" | .call _ _ _ => "call" | .see _ => "see" | .ifz _ _ => "if" | .jump _ => "jump" | .ret _ => "return"
def Rx.roles : Rx → List Str
  | .num _ _ => ["sets", "number"] | .nil _ => ["sets"] | .copy _ _ => ["sets", "reads"] | .bin _ _ _ _ => ["sets", "reads", "reads"] | .same _ _ _ => ["sets", "reads", "reads"] | .new _ _ => ["sets", "class"] | .get _ _ _ => ["sets", "reads", "field"] | .put _ _ _ => ["reads", "field", "reads"]
  | .call _ _ _ => ["sets", "function", "many"] | .see _ => ["reads"] | .ifz _ _ => ["reads", "row"] | .jump _ => ["row"] | .ret _ => ["reads"]
/-- its parts; l stands for the list of a call -/
def Rx.parts (l : V) : Rx → List V
  | .num x n => [.str x, .int n] | .nil x => [.str x] | .copy x y => [.str x, .str y] | .bin _ x y z => [.str x, .str y, .str z] | .same x y z => [.str x, .str y, .str z] | .new x c => [.str x, .str c] | .get x y f => [.str x, .str y, .str f] | .put x f y => [.str x, .str f, .str y]
  | .call x F _ => [.str x, .str F, l] | .see x => [.str x] | .ifz x r => [.str x, .int r] | .jump r => [.int r] | .ret x => [.str x]
def Rx.sets : Rx → Option Str
  | .num x _ => some x | .nil x => some x | .copy x _ => some x | .bin _ x _ _ => some x | .same x _ _ => some x | .new x _ => some x | .get x _ _ => some x | .call x _ _ => some x | _ => none
def Rx.reads : Rx → List Str
  | .copy _ y => [y] | .bin _ _ y z => [y, z] | .same _ y z => [y, z] | .get _ y _ => [y] | .put x _ y => [x, y] | .call _ _ as => as | .see x => [x] | .ifz x _ => [x] | .ret x => [x] | _ => []
def Rx.goal : Rx → Option Nat
  | .ifz _ r => some r | .jump r => some r | _ => none
def Rx.args : Rx → Option (List Str)
  | .call _ _ as => some as | _ => none
theorem rx_roles_mem (r : Rx) : (r.word, r.roles) ∈ roles := by
  cases r with
  | bin k x y z =>
    have key : ∀ k : Fin 4, (binW k, (["sets", "reads", "reads"] : List Str)) ∈ roles := by decide +kernel
    exact key k
  | _ => unfold roles; simp [Rx.word, Rx.roles]
theorem Rx.lens (r : Rx) (l : V) : r.roles.length = (r.parts l).length := by cases r <;> rfl
/-- a row as it is handed in (a call with a list), or as it is kept (with a tuple) -/
def RowAt (kept : Bool) (H : Hp) (a : Addr) (r : Rx) : Prop := ∃ l : Addr, H a = some (.tup (.str r.word :: r.parts (.ref l))) ∧ ∀ as, r.args = some as → H l = some (if kept = true then .tup (as.map V.str) else .lst (as.map V.str))
theorem RowAt.mono {kept : Bool} {H H' : Hp} {a : Addr} {r : Rx} (h : RowAt kept H a r) (e : Same H H') : RowAt kept H' a r := by
  obtain ⟨l, h1, h2⟩ := h
  exact ⟨l, e _ _ h1, fun as q => e _ _ (h2 as q)⟩
/-- what a source tells of names: the kinds of fields, the classes, functions (kinds of parameters, kind of the result) -/
structure Sig where
  classes : List Str
  fields : List (Str × Str)
  funs : List (Str × List Str × Str)
/-- a row that is right by itself -/
def Rx.form (S : Sig) : Rx → Prop
  | .num x n => Nam x ∧ -1000000000 ≤ n ∧ n ≤ 1000000000 | .nil x => Nam x | .copy x y => Nam x ∧ Nam y | .bin _ x y z => Nam x ∧ Nam y ∧ Nam z | .same x y z => Nam x ∧ Nam y ∧ Nam z | .new x c => Nam x ∧ c ∈ S.classes
  | .get x y f => Nam x ∧ Nam y ∧ (S.fields.lookup f).isSome = true | .put x f y => Nam x ∧ (S.fields.lookup f).isSome = true ∧ Nam y | .call x F as => Nam x ∧ (S.funs.lookup F).isSome = true ∧ ∀ y ∈ as, Nam y
  | .see x => Nam x | .ifz x _ => Nam x | .jump _ => True | .ret x => Nam x
/-- .. and of the right kinds -/
def Rx.kinds (S : Sig) (kd : Str → Option Str) (res : Str) : Rx → Prop
  | .num x _ => kd x = some "number" | .nil x => kd x = some "object" | .copy x y => (kd x).isSome = true ∧ kd x = kd y | .bin _ x y z => kd x = some "number" ∧ kd y = some "number" ∧ kd z = some "number" | .same x y z => kd x = some "number" ∧ (kd y).isSome = true ∧ kd y = kd z | .new x _ => kd x = some "object"
  | .get x y f => kd y = some "object" ∧ (kd x).isSome = true ∧ kd x = S.fields.lookup f | .put x f y => kd x = some "object" ∧ (kd y).isSome = true ∧ kd y = S.fields.lookup f
  | .call x F as => ∃ ps q, S.funs.lookup F = some (ps, q) ∧ as.map kd = ps.map some ∧ kd x = some q
  | .see x => (kd x).isSome = true | .ifz x _ => kd x = some "number" | .jump _ => True | .ret x => kd x = some res
end W5
set_option Elab.async false
set_option linter.all false
set_option maxRecDepth 100000
set_option maxHeartbeats 4000000
namespace W5
open PySem PySem.Spec PyProof.Rows L2
section
variable {P : Program} {w : World} {K : PySem.W.Frag} {mg : Str → Option Value} {base : Heap}

def namB (x : Str) : Bool := decide (1 ≤ x.cps.size) && (decide (x.cps.size ≤ 8) && ((x.cps[0]?.any fun c => decide (c ∈ LETS.cps.toList)) && (x.cps.toList.all fun c => decide (c ∈ MRKS.cps.toList))))
def kindB (q : Str) : Bool := decide (q = "number") || decide (q = "object")
def spNameB : Sp := fun vs H Q _ => ∃ x, vs = [.str x] ∧ x.length ≤ 100000 ∧ ∀ H', Same H H' → Q (.bl (namB x)) H'
def spKindB : Sp := fun vs H Q _ => ∃ x, vs = [.str x] ∧ Q (.bl (kindB x)) H
def spNamesB : Sp := fun vs H Q _ => ∃ (a : Addr) (xs : List Str), vs = [.ref a] ∧ H a = some (.lst (xs.map V.str)) ∧ (∀ x ∈ xs, x.length ≤ 100000) ∧ xs.length < 100000 ∧ ∀ H', Same H H' → Q (.bl (xs.all namB)) H'
theorem all_range {α : Type} (d : α) (p : α → Bool) (l : List α) : ((List.range l.length).map fun i => p (l.getD i d)).all id = l.all p := by
  rw [List.all_map]
  have e : l = (List.range l.length).map fun i => l.getD i d := by
    apply List.ext_getElem
    · simp
    · intro i h1 h2
      simp at h2
      simp [h2]
  conv => rhs; rw [e]
  rw [List.all_map]
  rfl
theorem scB_is_name : FnScope ["thing", "mark"] ["thing"] (defScope s_is_name) := ⟨rfl, rfl, rfl, by decide +kernel, rfl, by decide +kernel, by decide +kernel⟩
theorem okB_is_name (T : Ctx w K mg) : Has P w K mg base 1 "is_name" ["thing"] spNameB := by
  obtain ⟨fd, F⟩ := T.D_is_name
  refine ⟨⟨fd, F.ok scB_is_name (fun vs H Q E h => ?_) (fun cdv A outer s H vs Q E hr h => ?_), F.bindsN fun _ _ _ _ _ _ us hl => match us, hl with | [_], _ => rfl⟩, F.kp, T.g_is_name⟩
  · obtain ⟨x, rfl, hx, k⟩ := h; rfl
  · obtain ⟨x, rfl, hx, k⟩ := h
    have hu := hu_of hr
    obtain ⟨tl, e_LETTERS⟩ := T.s_LETTERS
    obtain ⟨tm, e_MARKS⟩ := T.s_MARKS
    refine ⟨_, PSs.nox (pss_cons (ps_if (PW.pt (pw_or (pt_not (pt_val (pe_callB call_isi (by rfl) T.f_isinstance (by decide +kernel) (pa_cons (pv 0) (pa_cons (pe_bltn (v := .ty "str") (u := .type "str") rfl T.f_str (by decide +kernel) rfl) pa_nil))))) (pw_or1 (pt_not (pt_chain op_le op_le pe_int (pe_callB call_len_str (by rfl) T.f_len (by decide +kernel) (pa_cons (pv 0) pa_nil)) pe_int))))) (pss_one (ps_ret pe_bl)) pss_nil)
      (pss_one (ps_ret (pe_and (pe_cmpR op_in_sign (pe_item_str (pv 0) pe_int (fun _ _ => rfl)) (pe_glob (v := .str "abcdefghijklmnopqrstuvwxyz") rfl e_LETTERS ⟨_, rfl⟩) rfl) (pe_one (pe_callB (cr_all rfl) (by rfl) T.f_all (by decide +kernel) (pa_cons (pe_lc (own := [("mark", 1)]) (g := gName 1) (tt := tYes) rfl scB_is_name.nd (pi_str (pv 0)) (blkOk_by (N := ["thing", "mark"]) (sc := defScope s_is_name) (by decide +kernel)) (fun _ _ _ _ _ => (pg_name (i := 1) scB_is_name.nd rfl (Or.inl rfl))) (fun _ _ _ _ _ => pts_nil) (fun _ _ _ _ _ => (pe_cmpR op_in_sign (pv 1) (pe_glob (v := .str "abcdefghijklmnopqrstuvwxyz0123456789") rfl e_MARKS ⟨_, rfl⟩) rfl))) pa_nil))))))), ?_⟩
    have hsz : x.length ≤ sizeLine := sz_of hx
    refine ⟨_, rfl, _, _, _, _, true, rfl, .ty _, .base (.str x), kit_ty (by decide +kernel), true, rfl, iteF ?_⟩
    refine ⟨_, rfl, _, rfl, hsz, _, _, rfl, rfl, _, rfl, ?_⟩
    unfold namB at k
    by_cases h1 : 1 ≤ x.cps.size
    rotate_left
    · refine ifF (decide_eq_false (show ¬ (1 : Int) ≤ ((x.cps.size : Nat) : Int) by omega)) ⟨_, rfl, ifT rfl ?_⟩
      rw [decide_eq_false h1, Bool.false_and] at k
      exact k _ (Same.refl _)
    refine ifT (decide_eq_true (show (1 : Int) ≤ ((x.cps.size : Nat) : Int) by omega)) ⟨_, _, rfl, rfl, _, rfl, ?_⟩
    by_cases h8 : x.cps.size ≤ 8
    rotate_left
    · refine ifT (show (!decide (((x.cps.size : Nat) : Int) ≤ 8)) = true by rw [decide_eq_false (show ¬ ((x.cps.size : Nat) : Int) ≤ 8 by omega)]; rfl) ?_
      rw [decide_eq_false h8, Bool.false_and, Bool.and_false] at k
      exact k _ (Same.refl _)
    refine ifF (show (!decide (((x.cps.size : Nat) : Int) ≤ 8)) = false by rw [decide_eq_true (show ((x.cps.size : Nat) : Int) ≤ 8 by omega)]; rfl) ?_
    have hc0 : x.cps[0]? = some x.cps[0] := Array.getElem?_eq_getElem (by omega)
    rw [decide_eq_true h1, decide_eq_true h8, Bool.true_and, Bool.true_and, hc0] at k
    generalize x.cps[0] = c0 at *
    refine ⟨_, rfl, _, _, c0, rfl, rfl, by decide, by decide, Int.ofNat_lt.mpr (show 0 < x.cps.size by omega), hc0, _, _, rfl, rfl, _, rfl, ?_⟩
    by_cases mc0 : c0 ∈ LETS.cps.toList
    rotate_left
    · refine ifF (decide_eq_false mc0) ?_
      have e : (some c0).any (fun c => decide (c ∈ LETS.cps.toList)) = false := decide_eq_false mc0
      rw [e, Bool.false_and] at k
      exact k _ (Same.refl _)
    refine ifT (decide_eq_true mc0) ?_
    have e : (some c0).any (fun c => decide (c ∈ LETS.cps.toList)) = true := decide_eq_true mc0
    rw [e, Bool.true_and] at k
    refine ⟨_, rfl, _, rfl, fun D hD => ?_⟩
    refine lc_pure walk_str hD (fun i => .bl (decide (x.cps.toList.getD i 0 ∈ MRKS.cps.toList))) (by omega) (fun _ _ => trivial) (fun i H1 y H2 hi s1 hy Qe qe => ?_) (fun H1 s1 h1 => ?_)
    · obtain ⟨rfl, c, hc, rfl⟩ := hy
      have ec : x.cps.toList.getD i 0 = c := by
        rw [List.getD_eq_getElem?_getD, Array.getElem?_toList, hc]
        rfl
      rw [ec] at qe
      exact ⟨rfl, _, rfl, _, _, rfl, rfl, qe _ (Same.refl _)⟩
    · refine ⟨_, (List.range x.cps.size).map (fun i => decide (x.cps.toList.getD i 0 ∈ MRKS.cps.toList)), rfl, SqL.of (by rw [h1, List.map_map]; rfl), ?_⟩
      have e2 := all_range (0 : Nat) (fun c => decide (c ∈ MRKS.cps.toList)) x.cps.toList
      rw [Array.length_toList] at e2
      rw [e2]
      exact k _ s1
theorem scB_is_kind : FnScope ["thing"] ["thing"] (defScope s_is_kind) := ⟨rfl, rfl, rfl, by decide +kernel, rfl, by decide +kernel, by decide +kernel⟩
theorem okB_is_kind (T : Ctx w K mg) : Has P w K mg base 1 "is_kind" ["thing"] spKindB := by
  obtain ⟨fd, F⟩ := T.D_is_kind
  refine ⟨⟨fd, F.ok scB_is_kind (fun vs H Q E h => ?_) (fun cdv A outer s H vs Q E hr h => ?_), F.bindsN fun _ _ _ _ _ _ us hl => match us, hl with | [_], _ => rfl⟩, F.kp, T.g_is_kind⟩
  · obtain ⟨x, rfl, k⟩ := h; rfl
  · obtain ⟨x, rfl, k⟩ := h
    have hu := hu_of hr
    refine ⟨_, PSs.nox (pss_one (ps_ret (pe_and (pe_callB call_isi (by rfl) T.f_isinstance (by decide +kernel) (pa_cons (pv 0) (pa_cons (pe_bltn (v := .ty "str") (u := .type "str") rfl T.f_str (by decide +kernel) rfl) pa_nil))) (pe_one (pe_cmpR op_in_seq (pv 0) (pe_glob (v := .ref (He.ga K "KINDS")) rfl T.g_KINDS rfl) rfl))))), ?_⟩
    refine ⟨_, rfl, _, _, _, _, true, rfl, .ty _, .base (.str x), kit_ty (by decide +kernel), true, rfl, iteT ?_⟩
    refine ⟨_, rfl, _, _, rfl, .inr (T.kinds H), rfl, rfl, ?_⟩
    have e : inV (V.str x) (v_KINDS.map (He.Dv.v K)) = kindB x := by
      show (decide (("number" : Str) = x) || (decide (("object" : Str) = x) || false)) = _
      unfold kindB
      rw [Bool.or_false, decide_eq_decide.mpr (eq_comm (a := ("number" : Str)) (b := x)), decide_eq_decide.mpr (eq_comm (a := ("object" : Str)) (b := x))]
    rw [e]
    exact k
theorem scB_is_list_of_names : FnScope ["thing", "part"] ["thing"] (defScope s_is_list_of_names) := ⟨rfl, rfl, rfl, by decide +kernel, rfl, by decide +kernel, by decide +kernel⟩
theorem okB_is_list_of_names (T : Ctx w K mg) (H_is_name : Has P w K mg base 1 "is_name" ["thing"] spNameB) : Has P w K mg base 2 "is_list_of_names" ["thing"] spNamesB := by
  obtain ⟨fd, F⟩ := T.D_is_list_of_names
  obtain ⟨fd_is_name, G_is_name, b_is_name⟩ := H_is_name.ex
  refine ⟨⟨fd, F.ok scB_is_list_of_names (fun vs H Q E h => ?_) (fun cdv A outer s H vs Q E hr h => ?_), F.bindsN fun _ _ _ _ _ _ us hl => match us, hl with | [_], _ => rfl⟩, F.kp, T.g_is_list_of_names⟩
  · obtain ⟨a, xs, rfl, ha, hx, hl, k⟩ := h; rfl
  · obtain ⟨a, xs, rfl, ha, hx, hl, k⟩ := h
    have hr_is_name : Room 1 _ := hr.mono (by decide)
    have hu := hu_of hr
    refine ⟨_, PSs.nox (pss_one (ps_ret (pe_and (pe_callB call_isi (by rfl) T.f_isinstance (by decide +kernel) (pa_cons (pv 0) (pa_cons (pe_bltn (v := .ty "list") (u := .type "list") rfl T.f_list (by decide +kernel) rfl) pa_nil))) (pe_one (pe_callB (cr_all rfl) (by rfl) T.f_all (by decide +kernel) (pa_cons (pe_lc (own := [("part", 1)]) (g := gName 1) (tt := tYes) rfl scB_is_list_of_names.nd (pi_list (pv 0)) (blkOk_by (N := ["thing", "part"]) (sc := defScope s_is_list_of_names) (by decide +kernel)) (fun _ _ _ _ _ => (pg_name (i := 1) scB_is_list_of_names.nd rfl (Or.inl rfl))) (fun _ _ _ _ _ => pts_nil) (fun _ _ _ _ _ => (pe_call G_is_name hr_is_name (by rfl) H_is_name.gl H_is_name.kp b_is_name .nil pass0 (pa_cons (pv 1) pa_nil)))) pa_nil)))))), ?_⟩
    refine ⟨_, rfl, _, _, _, _, true, rfl, .ty _, .base (.lst ha), kit_ty (by decide +kernel), true, rfl, iteT ?_⟩
    refine ⟨_, rfl, a, rfl, ⟨_, SqL.of ha⟩, fun D hD => ?_⟩
    refine lc_pure (walk_list (K := K) (a := a) (xs := xs.map V.str)) hD (fun i => .bl (namB (xs.getD i ""))) (by rw [List.length_map]; exact hl) (fun H1 s1 => SqL.of (s1 _ _ ha)) (fun i H1 y H2 hi s1 hy Qe qe => ?_) (fun H1 s1 h1 => ?_)
    · obtain ⟨rfl, hy⟩ := hy
      rw [List.getElem?_map] at hy
      obtain ⟨x, hx2, rfl⟩ := Option.map_eq_some_iff.mp hy
      have ex : xs.getD i "" = x := by
        rw [List.getD_eq_getElem?_getD, hx2]
        rfl
      rw [ex] at qe
      exact ⟨rfl, _, rfl, x, rfl, hx x (List.mem_of_getElem? hx2), fun H3 s3 => qe _ s3⟩
    · refine ⟨_, (List.range xs.length).map (fun i => namB (xs.getD i "")), rfl, SqL.of (by rw [h1, List.map_map, List.length_map]; rfl), ?_⟩
      rw [all_range]
      exact k _ s1

end
end W5
set_option Elab.async false
set_option linter.all false
set_option maxRecDepth 100000
set_option maxHeartbeats 4000000
namespace W5
open PySem PySem.Spec PyProof.Rows L2 RZ
section
variable {P : Program} {w : World} {K : PySem.W.Frag} {mg : Str → Option Value} {base : Heap}

/-- a Source while it is made, or made: its dicts -/
structure SrcG (K : PySem.W.Frag) (H : Hp) (p dx df dk du : Addr) (fs : List (Str × V)) (cs ks us : List (Key × V)) : Prop where
  ob : H p = some (.ins (He.ga K "Source") dx fs)
  f1 : fs.lookup ("_fields" : Str) = some (.ref df)
  f2 : fs.lookup ("_field_kinds" : Str) = some (.ref dk)
  f3 : fs.lookup ("_functions" : Str) = some (.ref du)
  nm : ∀ m ∈ (["function_at", "fields_of", "field_kind", "_take_rows", "_is_row_of", "_kinds_differ", "_take_classes", "_take_heads"] : List Str), fs.lookup m = none
  d1 : H df = some (.dK cs)
  d2 : H dk = some (.dK ks)
  d3 : H du = some (.dK us)
theorem SrcG.mono {H H' : Hp} {p dx df dk du : Addr} {fs : List (Str × V)} {cs ks us : List (Key × V)} (h : SrcG K H p dx df dk du fs cs ks us) (e : Same H H') : SrcG K H' p dx df dk du fs cs ks us := ⟨e _ _ h.ob, h.f1, h.f2, h.f3, h.nm, e _ _ h.d1, e _ _ h.d2, e _ _ h.d3⟩
def SrcH (K : PySem.W.Frag) (H : Hp) (p : Addr) (cs ks us : List (Key × V)) : Prop := ∃ dx df dk du fs, SrcG K H p dx df dk du fs cs ks us
theorem SrcH.mono {H H' : Hp} {p : Addr} {cs ks us : List (Key × V)} (h : SrcH K H p cs ks us) (e : Same H H') : SrcH K H' p cs ks us := by
  obtain ⟨dx, df, dk, du, fs, q⟩ := h
  exact ⟨dx, df, dk, du, fs, q.mono e⟩
def spFieldsOf (K : PySem.W.Frag) : Sp := fun vs H Q _ => ∃ p cs ks us x v, vs = [.ref p, .str x] ∧ SrcH K H p cs ks us ∧ valV cs (Sum.inr x : Key) = some v ∧ Q v H
def spFieldKind (K : PySem.W.Frag) : Sp := fun vs H Q _ => ∃ p cs ks us x v, vs = [.ref p, .str x] ∧ SrcH K H p cs ks us ∧ valV ks (Sum.inr x : Key) = some v ∧ Q v H
def spFunAt (K : PySem.W.Frag) : Sp := fun vs H Q _ => ∃ p cs ks us x v, vs = [.ref p, .str x] ∧ SrcH K H p cs ks us ∧ valV us (Sum.inr x : Key) = some v ∧ Q v H
def spNames : Sp := fun vs H Q _ => ∃ (a : Addr) (ns : List Str), vs = [.ref a] ∧ H a = some (.lst (ns.map V.str)) ∧ (∀ x ∈ ns, Nam x) ∧ ns.length ≤ 1000 ∧ ∀ H', Same H H' → Q (.bl true) H' 
theorem sc_Source_fields_of : FnScope ["self", "name"] ["self", "name"] (defScope s_Source_fields_of) := ⟨rfl, rfl, rfl, by decide +kernel, rfl, by decide +kernel, by decide +kernel⟩
theorem ok_Source_fields_of (T : Ctx w K mg) : HasM P w K mg base 1 "Source" "fields_of" ["self", "name"] (spFieldsOf K) := by
  obtain ⟨fd, F⟩ := T.D_Source_fields_of
  refine ⟨⟨fd, F.ok sc_Source_fields_of (fun vs H Q E h => ?_) (fun cdv A outer s H vs Q E hr h => ?_), F.bindsN fun _ _ _ _ _ _ us hl => match us, hl with | [_, _], _ => rfl⟩⟩
  · obtain ⟨p, cs, ks, us, x, v, rfl, S0, hv, k⟩ := h; rfl
  · obtain ⟨p, cs, ks, us, x, v, rfl, S0, hv, k⟩ := h
    have hu := hu_of hr
    refine ⟨_, PSs.nox (pss_one (ps_ret (pe_ifExp (pt_val (pe_callB call_isi (by rfl) T.f_isinstance (by decide +kernel) (pa_cons (pv 1) (pa_cons (pe_bltn (v := .ty "str") (u := .type "str") rfl T.f_str (by decide +kernel) rfl) pa_nil)))) (pe_dget1 hu (pe_fldK (K := K) rfl (pv 0) (by rfl)) (pv 1) ⟨rfl, rfl, rfl, rfl⟩) pe_non))), ?_⟩
    obtain ⟨dx, df, dk, du, fs, S⟩ := S0
    refine ⟨_, rfl, _, _, _, _, true, rfl, .ty _, .base (.str _), kit_ty (by decide +kernel), true, rfl, iteT ?_⟩
    refine ⟨_, rfl, p, _, dx, fs, _, rfl, S.ob, T.c_Source, T.n_Source_fields, S.f1, df, rfl, .inl ⟨_, .inl S.d1⟩, _, rfl, _, DGet.k (k := Sum.inr x) S.d1, ?_⟩
    rw [hv]
    exact k
theorem sc_Source_field_kind : FnScope ["self", "name"] ["self", "name"] (defScope s_Source_field_kind) := ⟨rfl, rfl, rfl, by decide +kernel, rfl, by decide +kernel, by decide +kernel⟩
theorem ok_Source_field_kind (T : Ctx w K mg) : HasM P w K mg base 1 "Source" "field_kind" ["self", "name"] (spFieldKind K) := by
  obtain ⟨fd, F⟩ := T.D_Source_field_kind
  refine ⟨⟨fd, F.ok sc_Source_field_kind (fun vs H Q E h => ?_) (fun cdv A outer s H vs Q E hr h => ?_), F.bindsN fun _ _ _ _ _ _ us hl => match us, hl with | [_, _], _ => rfl⟩⟩
  · obtain ⟨p, cs, ks, us, x, v, rfl, S0, hv, k⟩ := h; rfl
  · obtain ⟨p, cs, ks, us, x, v, rfl, S0, hv, k⟩ := h
    have hu := hu_of hr
    refine ⟨_, PSs.nox (pss_one (ps_ret (pe_ifExp (pt_val (pe_callB call_isi (by rfl) T.f_isinstance (by decide +kernel) (pa_cons (pv 1) (pa_cons (pe_bltn (v := .ty "str") (u := .type "str") rfl T.f_str (by decide +kernel) rfl) pa_nil)))) (pe_dget1 hu (pe_fldK (K := K) rfl (pv 0) (by rfl)) (pv 1) ⟨rfl, rfl, rfl, rfl⟩) pe_non))), ?_⟩
    obtain ⟨dx, df, dk, du, fs, S⟩ := S0
    refine ⟨_, rfl, _, _, _, _, true, rfl, .ty _, .base (.str _), kit_ty (by decide +kernel), true, rfl, iteT ?_⟩
    refine ⟨_, rfl, p, _, dx, fs, _, rfl, S.ob, T.c_Source, T.n_Source_field_kinds, S.f2, dk, rfl, .inl ⟨_, .inl S.d2⟩, _, rfl, _, DGet.k (k := Sum.inr x) S.d2, ?_⟩
    rw [hv]
    exact k
theorem sc_Source_function_at : FnScope ["self", "name"] ["self", "name"] (defScope s_Source_function_at) := ⟨rfl, rfl, rfl, by decide +kernel, rfl, by decide +kernel, by decide +kernel⟩
theorem ok_Source_function_at (T : Ctx w K mg) : HasM P w K mg base 1 "Source" "function_at" ["self", "name"] (spFunAt K) := by
  obtain ⟨fd, F⟩ := T.D_Source_function_at
  refine ⟨⟨fd, F.ok sc_Source_function_at (fun vs H Q E h => ?_) (fun cdv A outer s H vs Q E hr h => ?_), F.bindsN fun _ _ _ _ _ _ us hl => match us, hl with | [_, _], _ => rfl⟩⟩
  · obtain ⟨p, cs, ks, us, x, v, rfl, S0, hv, k⟩ := h; rfl
  · obtain ⟨p, cs, ks, us, x, v, rfl, S0, hv, k⟩ := h
    have hu := hu_of hr
    refine ⟨_, PSs.nox (pss_one (ps_ret (pe_ifExp (pt_val (pe_callB call_isi (by rfl) T.f_isinstance (by decide +kernel) (pa_cons (pv 1) (pa_cons (pe_bltn (v := .ty "str") (u := .type "str") rfl T.f_str (by decide +kernel) rfl) pa_nil)))) (pe_dget1 hu (pe_fldK (K := K) rfl (pv 0) (by rfl)) (pv 1) ⟨rfl, rfl, rfl, rfl⟩) pe_non))), ?_⟩
    obtain ⟨dx, df, dk, du, fs, S⟩ := S0
    refine ⟨_, rfl, _, _, _, _, true, rfl, .ty _, .base (.str _), kit_ty (by decide +kernel), true, rfl, iteT ?_⟩
    refine ⟨_, rfl, p, _, dx, fs, _, rfl, S.ob, T.c_Source, T.n_Source_functions, S.f3, du, rfl, .inl ⟨_, .inl S.d3⟩, _, rfl, _, DGet.k (k := Sum.inr x) S.d3, ?_⟩
    rw [hv]
    exact k
theorem sc_is_list_of_names : FnScope ["thing", "part"] ["thing"] (defScope s_is_list_of_names) := ⟨rfl, rfl, rfl, by decide +kernel, rfl, by decide +kernel, by decide +kernel⟩
theorem ok_is_list_of_names (T : Ctx w K mg) (H_is_name : Has P w K mg base 1 "is_name" ["thing"] spName) : Has P w K mg base 2 "is_list_of_names" ["thing"] spNames := by
  obtain ⟨fd, F⟩ := T.D_is_list_of_names
  obtain ⟨fd_is_name, G_is_name, b_is_name⟩ := H_is_name.ex
  refine ⟨⟨fd, F.ok sc_is_list_of_names (fun vs H Q E h => ?_) (fun cdv A outer s H vs Q E hr h => ?_), F.bindsN fun _ _ _ _ _ _ us hl => match us, hl with | [_], _ => rfl⟩, F.kp, T.g_is_list_of_names⟩
  · obtain ⟨a, ns, rfl, ha, hN, hl, k⟩ := h; rfl
  · obtain ⟨a, ns, rfl, ha, hN, hl, k⟩ := h
    have hr_is_name : Room 1 _ := hr.mono (by decide)
    have hu := hu_of hr
    refine ⟨_, PSs.nox (pss_one (ps_ret (pe_and (pe_callB call_isi (by rfl) T.f_isinstance (by decide +kernel) (pa_cons (pv 0) (pa_cons (pe_bltn (v := .ty "list") (u := .type "list") rfl T.f_list (by decide +kernel) rfl) pa_nil))) (pe_one (pe_callB (cr_all rfl) (by rfl) T.f_all (by decide +kernel) (pa_cons (pe_lc (own := [("part", 1)]) (g := gName 1) (tt := tYes) rfl sc_is_list_of_names.nd (pi_list (pv 0)) (blkOk_by (N := ["thing", "part"]) (sc := defScope s_is_list_of_names) (by decide +kernel)) (fun _ _ _ _ _ => (pg_name (i := 1) sc_is_list_of_names.nd rfl (Or.inl rfl))) (fun _ _ _ _ _ => pts_nil) (fun _ _ _ _ _ => (pe_call G_is_name hr_is_name (by rfl) H_is_name.gl H_is_name.kp b_is_name .nil pass0 (pa_cons (pv 1) pa_nil)))) pa_nil)))))), ?_⟩
    refine ⟨_, rfl, _, _, _, _, true, rfl, .ty _, .base (.lst ha), kit_ty (by decide +kernel), true, rfl, iteT ?_⟩
    refine ⟨_, rfl, a, rfl, ⟨_, SqL.of ha⟩, fun D hD => ?_⟩
    refine lc_pure (walk_list (K := K) (a := a) (xs := ns.map V.str)) hD (fun _ => .bl true) (by rw [List.length_map]; omega) (fun H1 s1 => SqL.of (s1 _ _ ha)) (fun i H1 y H2 hi s1 hy Qe qe => ?_) (fun H1 s1 h1 => ?_)
    · obtain ⟨rfl, hy⟩ := hy
      rw [List.getElem?_map] at hy
      cases e : ns[i]? with
      | none => rw [e] at hy; cases hy
      | some x =>
        rw [e] at hy
        obtain rfl := Option.some.inj hy
        exact ⟨rfl, _, rfl, x, rfl, hN x (List.mem_of_getElem? e), fun H' s' => qe H' s'⟩
    · exact ⟨D, (List.range (ns.map V.str).length).map (fun _ => true), rfl, SqL.of (by rw [h1, List.map_map]; rfl), qT all_true (k _ s1)⟩

end
end W5
set_option Elab.async false
set_option linter.all false
set_option maxRecDepth 100000
set_option maxHeartbeats 4000000
namespace W5
open PySem PySem.Spec PyProof.Rows L2 RZ
section
variable {P : Program} {w : World} {K : PySem.W.Frag} {mg : Str → Option Value} {base : Heap}

theorem slice1 {x : V} {xs : List V} : cutV (x :: xs) (some 1) none = xs ∧ ¬ (HT.sIx (x :: xs).length 0 (some 1) = 0 ∧ HT.sIx (x :: xs).length (x :: xs).length none = (x :: xs).length) := by
  have e1 : HT.sIx (x :: xs).length 0 (some 1) = 1 := by
    unfold HT.sIx
    simp
    try omega
  have e2 : HT.sIx (x :: xs).length (x :: xs).length none = (x :: xs).length := by
    unfold HT.sIx
    rfl
  refine ⟨?_, fun h => by rw [e1] at h; omega⟩
  unfold cutV
  rw [e1, e2]
  simp
theorem map_get {α : Type} {f : α → V} {l : List α} {i : Nat} {y : V} (h : (l.map f)[i]? = some y) : ∃ x, l[i]? = some x ∧ f x = y := by
  rw [List.getElem?_map] at h
  cases e : l[i]? with
  | none =>
    rw [e] at h
    cases h
  | some x =>
    rw [e] at h
    exact ⟨x, rfl, Option.some.inj h⟩
theorem Ctx.roleK (T : Ctx w K mg) {x : Str} {rs : List Str} (m : (x, rs) ∈ roles) : KDct K w (He.ga K "ROLES") x (.ref (rolA K x)) := by
  obtain ⟨es, n, D⟩ := T.rolesD
  exact ⟨es, n, _, D.at_, D.lit, (T.role m (fun _ => none)).1, rfl⟩
/-- what fills a role, in a source with these dicts -/
inductive FitsG (H : Hp) (cs ks us : List (Key × V)) : Str → V → Prop where
  | sets {x : Str} (h : Nam x) : FitsG H cs ks us "sets" (.str x)
  | reads {x : Str} (h : Nam x) : FitsG H cs ks us "reads" (.str x)
  | num {i : Int} (h1 : -1000000000 ≤ i) (h2 : i ≤ 1000000000) : FitsG H cs ks us "number" (.int i)
  | cls {x : Str} {v : V} (h : valV cs (Sum.inr x : Key) = some v) (n : v ≠ .non) : FitsG H cs ks us "class" (.str x)
  | fld {x : Str} {v : V} (h : valV ks (Sum.inr x : Key) = some v) (n : v ≠ .non) : FitsG H cs ks us "field" (.str x)
  | fn {x : Str} {v : V} (h : valV us (Sum.inr x : Key) = some v) (n : v ≠ .non) : FitsG H cs ks us "function" (.str x)
  | many {a : Addr} {ns : List Str} (h : H a = some (.lst (ns.map V.str))) (hN : ∀ x ∈ ns, Nam x) (hl : ns.length ≤ 1000) : FitsG H cs ks us "many" (.ref a)
  | row (i : Int) : FitsG H cs ks us "row" (.int i)
theorem FitsG.mono {H H' : Hp} {cs ks us : List (Key × V)} {x : Str} {v : V} (h : FitsG H cs ks us x v) (e : Same H H') : FitsG H' cs ks us x v := by
  cases h with
  | sets h => exact .sets h
  | reads h => exact .reads h
  | num h1 h2 => exact .num h1 h2
  | cls h n => exact .cls h n
  | fld h n => exact .fld h n
  | fn h n => exact .fn h n
  | many h a b => exact .many (e _ _ h) a b
  | row i => exact .row i
theorem notnone {v : V} (n : v ≠ .non) : (!decide (v = V.non)) = true := by
  rw [decide_eq_false n]
  rfl
def spFillsG (K : PySem.W.Frag) : Sp := fun vs H Q _ => ∃ p cs ks us role part, vs = [.ref p, .str role, part] ∧ SrcH K H p cs ks us ∧ FitsG H cs ks us role part ∧ ∀ H', Same H H' → Q (.bl true) H'
/-- a row that is handed in, right by itself in a source with these dicts -/
def FormG (H : Hp) (cs ks us : List (Key × V)) (l : V) (r : Rx) : Prop := ∀ (i : Nat) x v, r.roles[i]? = some x → (r.parts l)[i]? = some v → FitsG H cs ks us x v
def spIsRowG (K : PySem.W.Frag) : Sp := fun vs H Q _ => ∃ (p : Addr) (cs ks us : List (Key × V)) (a : Addr) (l : V) (r : Rx), vs = [.ref p, .ref a, .ref (He.ga K "ROW_WORDS")] ∧ SrcH K H p cs ks us ∧ H a = some (.tup (.str r.word :: r.parts l)) ∧ FormG H cs ks us l r ∧ ∀ H', Same H H' → Q (.bl true) H'
def oS : Option Str → V
  | some k => .str k
  | none => .non
def spSetsG : Sp := fun vs H Q _ => ∃ (a : Addr) (l : V) (r : Rx), vs = [.ref a] ∧ H a = some (.tup (.str r.word :: r.parts l)) ∧ Q (oS r.sets) H
theorem sc_fills : FnScope ["source", "role", "part"] ["source", "role", "part"] (defScope s_fills) := ⟨rfl, rfl, rfl, by decide +kernel, rfl, by decide +kernel, by decide +kernel⟩
theorem ok_fills (T : Ctx w K mg) (H_is_name : Has P w K mg base 1 "is_name" ["thing"] spName) (H_is_written_number : Has P w K mg base 3 "is_written_number" ["thing"] spWritten) (H_is_integer : Has P w K mg base 1 "is_integer" ["thing"] spIsInt) (H_Source_fields_of : HasM P w K mg base 1 "Source" "fields_of" ["self", "name"] (spFieldsOf K)) (H_Source_field_kind : HasM P w K mg base 1 "Source" "field_kind" ["self", "name"] (spFieldKind K)) (H_Source_function_at : HasM P w K mg base 1 "Source" "function_at" ["self", "name"] (spFunAt K)) (H_is_list_of_names : Has P w K mg base 2 "is_list_of_names" ["thing"] spNames) : Has P w K mg base 4 "_fills" ["source", "role", "part"] (spFillsG K) := by
  obtain ⟨fd, F⟩ := T.D_fills
  obtain ⟨fd_is_name, G_is_name, b_is_name⟩ := H_is_name.ex
  obtain ⟨fd_is_written_number, G_is_written_number, b_is_written_number⟩ := H_is_written_number.ex
  obtain ⟨fd_is_integer, G_is_integer, b_is_integer⟩ := H_is_integer.ex
  obtain ⟨fd_Source_fields_of, G_Source_fields_of, b_Source_fields_of⟩ := H_Source_fields_of.ex
  obtain ⟨fd_Source_field_kind, G_Source_field_kind, b_Source_field_kind⟩ := H_Source_field_kind.ex
  obtain ⟨fd_Source_function_at, G_Source_function_at, b_Source_function_at⟩ := H_Source_function_at.ex
  obtain ⟨fd_is_list_of_names, G_is_list_of_names, b_is_list_of_names⟩ := H_is_list_of_names.ex
  refine ⟨⟨fd, F.ok sc_fills (fun vs H Q E h => ?_) (fun cdv A outer s H vs Q E hr h => ?_), F.bindsN fun _ _ _ _ _ _ us hl => match us, hl with | [_, _, _], _ => rfl⟩, F.kp, T.g_fills⟩
  · obtain ⟨p, cs, ks, us, role, part, rfl, S0, F0, k⟩ := h; rfl
  · obtain ⟨p, cs, ks, us, role, part, rfl, S0, F0, k⟩ := h
    have hr_is_name : Room 1 _ := hr.mono (by decide)
    have hr_is_written_number : Room 3 _ := hr.mono (by decide)
    have hr_is_integer : Room 1 _ := hr.mono (by decide)
    have hr_Source_fields_of : Room 1 _ := hr.mono (by decide)
    have hr_Source_field_kind : Room 1 _ := hr.mono (by decide)
    have hr_Source_function_at : Room 1 _ := hr.mono (by decide)
    have hr_is_list_of_names : Room 2 _ := hr.mono (by decide)
    have hu := hu_of hr
    refine ⟨_, PSs.nox (pss_cons (ps_if (pt_cmpR op_in_seq (pv 1) (pe_tup (pa_cons pe_str (pa_cons pe_str pa_nil))) rfl) (pss_one (ps_ret (pe_call G_is_name hr_is_name (by rfl) H_is_name.gl H_is_name.kp b_is_name .nil pass0 (pa_cons (pv 2) pa_nil)))) pss_nil)
      (pss_cons (ps_if (pt_cmpR op_eq (pv 1) pe_str (nomark _)) (pss_one (ps_ret (pe_call G_is_written_number hr_is_written_number (by rfl) H_is_written_number.gl H_is_written_number.kp b_is_written_number .nil pass0 (pa_cons (pv 2) pa_nil)))) pss_nil)
      (pss_cons (ps_if (pt_cmpR op_eq (pv 1) pe_str (nomark _)) (pss_one (ps_ret (pe_cmpR op_notN (pe_meth (pv 0) T.c_Source T.m_Source_fields_of G_Source_fields_of hr_Source_fields_of b_Source_fields_of .nil pass0 (pa_cons (pv 2) pa_nil)) pe_non (nomark _)))) pss_nil)
      (pss_cons (ps_if (pt_cmpR op_eq (pv 1) pe_str (nomark _)) (pss_one (ps_ret (pe_cmpR op_notN (pe_meth (pv 0) T.c_Source T.m_Source_field_kind G_Source_field_kind hr_Source_field_kind b_Source_field_kind .nil pass0 (pa_cons (pv 2) pa_nil)) pe_non (nomark _)))) pss_nil)
      (pss_cons (ps_if (pt_cmpR op_eq (pv 1) pe_str (nomark _)) (pss_one (ps_ret (pe_cmpR op_notN (pe_meth (pv 0) T.c_Source T.m_Source_function_at G_Source_function_at hr_Source_function_at b_Source_function_at .nil pass0 (pa_cons (pv 2) pa_nil)) pe_non (nomark _)))) pss_nil)
      (pss_cons (ps_if (pt_cmpR op_eq (pv 1) pe_str (nomark _)) (pss_one (ps_ret (pe_call G_is_list_of_names hr_is_list_of_names (by rfl) H_is_list_of_names.gl H_is_list_of_names.kp b_is_list_of_names .nil pass0 (pa_cons (pv 2) pa_nil)))) pss_nil)
      (pss_cons (ps_if (pt_cmpR op_eq (pv 1) pe_str (nomark _)) (pss_one (ps_ret (pe_call G_is_integer hr_is_integer (by rfl) H_is_integer.gl H_is_integer.kp b_is_integer .nil pass0 (pa_cons (pv 2) pa_nil)))) pss_nil)
      (pss_one ps_never)))))))), ?_⟩
    obtain ⟨dx, df, dk, du, fs, S⟩ := id S0
    refine ⟨_, rfl, sz_of (by decide), fun t ht => ⟨t, _, rfl, .inr (SqT.of upd_same), rfl, rfl, ?_⟩⟩
    have s1 : Same H (upd H t (.tup [.str "sets", .str "reads"])) := Same.new ht
    cases F0 with
    | sets h => exact ⟨_, rfl, ifT rfl ⟨_, rfl, _, rfl, h, fun H' s' => k H' (s1.trans s')⟩⟩
    | reads h => exact ⟨_, rfl, ifT rfl ⟨_, rfl, _, rfl, h, fun H' s' => k H' (s1.trans s')⟩⟩
    | num h1 h2 => exact ⟨_, rfl, ifF rfl ⟨_, rfl, rfl, _, rfl, ifT rfl ⟨_, rfl, _, rfl, h1, h2, k _ s1⟩⟩⟩
    | cls h n => exact ⟨_, rfl, ifF rfl ⟨_, rfl, rfl, _, rfl, ifF rfl ⟨_, rfl, rfl, _, rfl, ifT rfl ⟨_, rfl, p, dx, fs, rfl, s1 _ _ S.ob, S.nm _ (by decide +kernel), _, rfl, p, cs, ks, us, _, _, rfl, S0.mono s1, h, rfl, qT (notnone n) (k _ s1)⟩⟩⟩⟩
    | fld h n => exact ⟨_, rfl, ifF rfl ⟨_, rfl, rfl, _, rfl, ifF rfl ⟨_, rfl, rfl, _, rfl, ifF rfl ⟨_, rfl, rfl, _, rfl, ifT rfl ⟨_, rfl, p, dx, fs, rfl, s1 _ _ S.ob, S.nm _ (by decide +kernel), _, rfl, p, cs, ks, us, _, _, rfl, S0.mono s1, h, rfl, qT (notnone n) (k _ s1)⟩⟩⟩⟩⟩
    | fn h n => exact ⟨_, rfl, ifF rfl ⟨_, rfl, rfl, _, rfl, ifF rfl ⟨_, rfl, rfl, _, rfl, ifF rfl ⟨_, rfl, rfl, _, rfl, ifF rfl ⟨_, rfl, rfl, _, rfl, ifT rfl ⟨_, rfl, p, dx, fs, rfl, s1 _ _ S.ob, S.nm _ (by decide +kernel), _, rfl, p, cs, ks, us, _, _, rfl, S0.mono s1, h, rfl, qT (notnone n) (k _ s1)⟩⟩⟩⟩⟩⟩
    | many h hN hl => exact ⟨_, rfl, ifF rfl ⟨_, rfl, rfl, _, rfl, ifF rfl ⟨_, rfl, rfl, _, rfl, ifF rfl ⟨_, rfl, rfl, _, rfl, ifF rfl ⟨_, rfl, rfl, _, rfl, ifF rfl ⟨_, rfl, rfl, _, rfl, ifT rfl ⟨_, rfl, _, _, rfl, s1 _ _ h, hN, hl, fun H' s' => k H' (s1.trans s')⟩⟩⟩⟩⟩⟩⟩
    | row i => exact ⟨_, rfl, ifF rfl ⟨_, rfl, rfl, _, rfl, ifF rfl ⟨_, rfl, rfl, _, rfl, ifF rfl ⟨_, rfl, rfl, _, rfl, ifF rfl ⟨_, rfl, rfl, _, rfl, ifF rfl ⟨_, rfl, rfl, _, rfl, ifF rfl ⟨_, rfl, rfl, _, rfl, ifT rfl ⟨_, rfl, i, rfl, k _ s1⟩⟩⟩⟩⟩⟩⟩⟩
theorem sc_is_row : FnScope ["source", "thing", "words", "roles", "role", "part"] ["source", "thing", "words"] (defScope s_is_row) := ⟨rfl, rfl, rfl, by decide +kernel, rfl, by decide +kernel, by decide +kernel⟩
theorem ok_is_row (T : Ctx w K mg) (H_is_word_tuple : Has P w K mg base 1 "is_word_tuple" ["thing"] spWord) (H_fills : Has P w K mg base 4 "_fills" ["source", "role", "part"] (spFillsG K)) : Has P w K mg base 5 "is_row" ["source", "thing", "words"] (spIsRowG K) := by
  obtain ⟨fd, F⟩ := T.D_is_row
  obtain ⟨fd_is_word_tuple, G_is_word_tuple, b_is_word_tuple⟩ := H_is_word_tuple.ex
  obtain ⟨fd_fills, G_fills, b_fills⟩ := H_fills.ex
  refine ⟨⟨fd, F.ok sc_is_row (fun vs H Q E h => ?_) (fun cdv A outer s H vs Q E hr h => ?_), F.bindsN fun _ _ _ _ _ _ us hl => match us, hl with | [_, _, _], _ => rfl⟩, F.kp, T.g_is_row⟩
  · obtain ⟨p, cs, ks, us, a, l, r, rfl, S0, ha, hb, k⟩ := h; rfl
  · obtain ⟨p, cs, ks, us, a, l, r, rfl, S0, ha, hb, k⟩ := h
    have hr_is_word_tuple : Room 1 _ := hr.mono (by decide)
    have hr_fills : Room 4 _ := hr.mono (by decide)
    have hu := hu_of hr
    refine ⟨_, PSs.nox (pss_cons (ps_if (PW.pt (pw_or (pt_not (pt_val (pe_call G_is_word_tuple hr_is_word_tuple (by rfl) H_is_word_tuple.gl H_is_word_tuple.kp b_is_word_tuple .nil pass0 (pa_cons (pv 1) pa_nil)))) (pw_or1 (pt_cmpR op_notIn_seq (pe_ix ix_tup (pv 1) pe_int (fun _ _ => rfl)) (pv 2) rfl)))) (pss_one (ps_ret pe_bl)) pss_nil)
      (pss_cons (ps_set (i := 3) sc_is_row.nd rfl (Or.inl rfl) (pe_ix ix_kdict (pe_glob (v := .ref (He.ga K "ROLES")) rfl T.g_ROLES rfl) (pe_ix ix_tup (pv 1) pe_int (fun _ _ => rfl)) (fun _ _ => rfl)))
      (pss_cons (ps_if (pt_cmpR op_ne (pe_callB call_len_seq (by rfl) T.f_len (by decide +kernel) (pa_cons (pv 1) pa_nil)) (pe_op op_add (pe_callB call_len_seq (by rfl) T.f_len (by decide +kernel) (pa_cons (pv 3) pa_nil)) pe_int) (nomark _)) (pss_one (ps_ret pe_bl)) pss_nil)
      (pss_one (ps_ret (pe_callB (cr_all rfl) (by rfl) T.f_all (by decide +kernel) (pa_cons (pe_lc (own := [("role", 4), ("part", 5)]) (g := gTup K 2 (gCons (gName 4) (gCons (gName 5) (gNil)))) (tt := tYes) rfl sc_is_row.nd (pi_zipA (by rfl) T.f_zip (pa_cons (pv 3) (pa_cons (pe_slice sl_tup (pv 1) (po_some pe_int) po_none) pa_nil))) (blkOk_by (N := ["source", "thing", "words", "roles", "role", "part"]) (sc := defScope s_is_row) (by decide +kernel)) (fun _ _ _ _ _ => (pg_tup rfl (pgs_cons (pg_name (i := 4) sc_is_row.nd rfl (Or.inl rfl)) (pgs_cons (pg_name (i := 5) sc_is_row.nd rfl (Or.inl rfl)) pgs_nil)))) (fun _ _ _ _ _ => pts_nil) (fun _ _ _ _ _ => (pe_call G_fills hr_fills (by rfl) H_fills.gl H_fills.kp b_fills .nil pass0 (pa_cons (pv 0) (pa_cons (pv 4) (pa_cons (pv 5) pa_nil)))))) pa_nil))))))), ?_⟩
    have hw : inV (V.str r.word) (v_ROW_WORDS.map (He.Dv.v K)) = true := by
      cases r with
      | bin kk x y z =>
        have key : ∀ kk : Fin 4, inV (V.str (binW kk)) (v_ROW_WORDS.map fun d => match d with | .str x => V.str x | _ => V.non) = true := by decide +kernel
        exact key kk
      | _ => rfl
    have hflat : (v_ROW_WORDS.map (He.Dv.v K)).all flatV = true := rfl
    have hlp : (r.parts l).length ≤ 3 := by cases r <;> simp [Rx.parts]
    refine ⟨_, rfl, a, r.word, r.parts l, rfl, ha, _, rfl, iteF ?_⟩
    refine ⟨_, rfl, _, _, _, _, rfl, rfl, SqT.of ha, at0, _, rfl, _, _, rfl, .inr (T.rowwords H), rfl, hflat, _, rfl, ifF ?_ ?_⟩
    · show (if true = true then !inV (V.str r.word) (v_ROW_WORDS.map (He.Dv.v K)) else inV (V.str r.word) (v_ROW_WORDS.map (He.Dv.v K))) = false
      rw [hw]
      rfl
    refine ⟨_, rfl, _, _, _, _, rfl, rfl, SqT.of ha, at0, _, _, _, rfl, rfl, T.roleK (rx_roles_mem r), ?_⟩
    have hro : ∀ H, SqT K H (rolA K r.word) (r.roles.map V.str) := fun H => (T.role (rx_roles_mem r) H).2
    refine ⟨_, rfl, _, _, rfl, .inr (SqT.of ha), _, rfl, _, _, rfl, .inr (hro H), _, _, rfl, rfl, rfl, _, rfl, ifF ?_ ?_⟩
    · show (!decide (V.int (((V.str r.word :: r.parts l).length : Nat) : Int) = V.int (((r.roles.map V.str).length : Nat) + 1 : Int))) = false
      rw [decide_eq_true]
      · rfl
      · rw [List.length_map, r.lens l]
        rfl
    refine ⟨_, rfl, _, rfl, 1, rfl, a, _, rfl, SqT.of ha, slice1.2, fun t ht => ?_⟩
    have s1 : Same H (upd H t (.tup (cutV (V.str r.word :: r.parts l) (some 1) none))) := Same.new ht
    have ht1 : (upd H t (.tup (cutV (V.str r.word :: r.parts l) (some 1) none))) t = some (.tup (r.parts l)) := by
      rw [upd_same]
      exact congrArg (fun l => some (HO.tup l)) slice1.1
    refine ⟨_, t, _, r.parts l, rfl, .inr ⟨hro _, SqT.of ht1, fun D hD => ?_⟩⟩
    refine lc_pure (walk_zipT (K := K) (xs := r.roles.map V.str) (ys := r.parts l) (n := (r.parts l).length) (by rw [List.length_map, r.lens l, Nat.min_self])) hD (fun _ => .bl true) (by omega) (fun H2 s2 => ⟨hro _, SqT.of (s2 _ _ ht1)⟩) (fun i H2 y H3 hi s2 hy Qe qe => ?_) (fun H2 s2 h2 => ?_)
    · obtain ⟨u, x, v, rfl, hu0, rfl, hx, hv⟩ := hy
      obtain ⟨role, e, rfl⟩ := map_get (show (r.roles.map V.str)[i]? = some x from hx)
      have s3 := s1.trans (s2.trans (Same.new (o := .tup [V.str role, v]) hu0))
      refine ⟨u, _, rfl, SqT.of upd_same, rfl, _, _, rfl, _, _, rfl, rfl, rfl, ?_⟩
      exact ⟨_, rfl, _, rfl, _, rfl, p, cs, ks, us, role, v, rfl, S0.mono s3, (hb i role v e hv).mono s3, fun H' s' => qe H' ((Same.new hu0).trans s')⟩
    · exact ⟨D, (List.range (r.parts l).length).map (fun _ => true), rfl, SqL.of (by rw [h2, List.map_map]; rfl), qT all_true (k _ (s1.trans s2))⟩
theorem sc_row_sets : FnScope ["row"] ["row"] (defScope s_row_sets) := ⟨rfl, rfl, rfl, by decide +kernel, rfl, by decide +kernel, by decide +kernel⟩
theorem ok_row_sets (T : Ctx w K mg) : Has P w K mg base 1 "row_sets" ["row"] spSetsG := by
  obtain ⟨fd, F⟩ := T.D_row_sets
  refine ⟨⟨fd, F.ok sc_row_sets (fun vs H Q E h => ?_) (fun cdv A outer s H vs Q E hr h => ?_), F.bindsN fun _ _ _ _ _ _ us hl => match us, hl with | [_], _ => rfl⟩, F.kp, T.g_row_sets⟩
  · obtain ⟨a, l, r, rfl, ha, k⟩ := h; rfl
  · obtain ⟨a, l, r, rfl, ha, k⟩ := h
    have hu := hu_of hr
    refine ⟨_, PSs.nox (pss_one (ps_ret (pe_ifExp (pt_cmpR op_eq (pe_ix ix_tup (pe_ix ix_kdict (pe_glob (v := .ref (He.ga K "ROLES")) rfl T.g_ROLES rfl) (pe_ix ix_tup (pv 0) pe_int (fun _ _ => rfl)) (fun _ _ => rfl)) pe_int (fun _ _ => rfl)) pe_str (nomark _)) (pe_ix ix_tup (pv 0) pe_int (fun _ _ => rfl)) pe_non))), ?_⟩
    have hro : ∀ H, SqT K H (rolA K r.word) (r.roles.map V.str) := fun H => (T.role (rx_roles_mem r) H).2
    refine ⟨_, rfl, _, _, _, _, rfl, rfl, SqT.of ha, at0, _, _, _, rfl, rfl, T.roleK (rx_roles_mem r), ?_⟩
    cases r <;> first
      | exact ⟨_, _, _, _, rfl, rfl, hro H, at0, rfl, _, rfl, ifT rfl ⟨_, rfl, _, _, _, _, rfl, rfl, SqT.of ha, at1, k⟩⟩
      | exact ⟨_, _, _, _, rfl, rfl, hro H, at0, rfl, _, rfl, ifF rfl k⟩

end
end W5
set_option Elab.async false
set_option linter.all false
set_option maxRecDepth 100000
set_option maxHeartbeats 4000000
namespace W5
open PySem PySem.Spec PyProof.Rows L2 RZ
section
variable {P : Program} {w : World} {K : PySem.W.Frag} {mg : Str → Option Value} {base : Heap}

/-- the parts that are read; as stands for the names of a call -/
def rdG (as : List V) : List Str → List V → List V
  | x :: rs, v :: vs => (if x = "reads" then [v] else if x = "many" then as else []) ++ rdG as rs vs
  | _, _ => []
theorem rdG_snoc {as : List V} : ∀ {rs : List Str} {vs : List V} {i : Nat} {x : Str} {v : V}, rs[i]? = some x → vs[i]? = some v → rdG as (rs.take (i + 1)) (vs.take (i + 1)) = rdG as (rs.take i) (vs.take i) ++ (if x = "reads" then [v] else if x = "many" then as else [])
  | [], vs, i, x, v, h, _ => by simp at h
  | a :: rs, [], i, x, v, _, h => by simp at h
  | a :: rs, b :: vs, 0, x, v, h1, h2 => by
    have e1 : a = x := Option.some.inj h1
    have e2 : b = v := Option.some.inj h2
    subst e1 e2
    show (if a = "reads" then [b] else if a = "many" then as else []) ++ rdG as [] [] = [] ++ _
    simp [rdG]
  | a :: rs, b :: vs, i + 1, x, v, h1, h2 => by
    have ih := rdG_snoc (as := as) (rs := rs) (vs := vs) (i := i) (x := x) (v := v) h1 h2
    show _ ++ rdG as (rs.take (i + 1)) (vs.take (i + 1)) = (_ ++ rdG as (rs.take i) (vs.take i)) ++ _
    rw [ih, List.append_assoc]
theorem rdG_len {as : List V} : ∀ (rs : List Str) (vs : List V), (rdG as rs vs).length ≤ rs.length * (as.length + 1)
  | [], vs => by simp [rdG]
  | a :: rs, [] => by simp [rdG]
  | a :: rs, b :: vs => by
    have ih := rdG_len (as := as) rs vs
    have h1 : (if a = "reads" then [b] else if a = "many" then as else []).length ≤ as.length + 1 := by
      split
      · simp
      · split <;> simp
    show (_ ++ rdG as rs vs).length ≤ (rs.length + 1) * (as.length + 1)
    rw [List.length_append, Nat.add_mul]
    omega
theorem Rx.rd (r : Rx) (l : V) (as : List V) (h : ∀ bs, r.args = some bs → as = bs.map V.str) : rdG as r.roles (r.parts l) = r.reads.map V.str := by
  have n1 : ¬ (("sets" : Str) = "reads") := by decide +kernel
  have n2 : ¬ (("row" : Str) = "reads") := by decide +kernel
  have n3 : ¬ (("number" : Str) = "reads") := by decide +kernel
  have n4 : ¬ (("class" : Str) = "reads") := by decide +kernel
  have n5 : ¬ (("field" : Str) = "reads") := by decide +kernel
  have n6 : ¬ (("function" : Str) = "reads") := by decide +kernel
  have n7 : ¬ (("many" : Str) = "reads") := by decide +kernel
  have m1 : ¬ (("sets" : Str) = "many") := by decide +kernel
  have m2 : ¬ (("row" : Str) = "many") := by decide +kernel
  have m3 : ¬ (("number" : Str) = "many") := by decide +kernel
  have m4 : ¬ (("class" : Str) = "many") := by decide +kernel
  have m5 : ¬ (("field" : Str) = "many") := by decide +kernel
  have m6 : ¬ (("function" : Str) = "many") := by decide +kernel
  cases r with
  | call x F bs => simp [Rx.roles, Rx.parts, Rx.reads, rdG, n1, n6, n7, m1, m6, h bs rfl]
  | _ => simp [Rx.roles, Rx.parts, Rx.reads, rdG, n1, n2, n3, n4, n5, m1, m2, m3, m4, m5]
/-- the names of a call, where its list stands -/
def Rx.namesOf (r : Rx) : List Str := r.args.getD []
theorem Rx.many_at {r : Rx} {l : V} {i : Nat} {v : V} (h1 : r.roles[i]? = some "many") (h2 : (r.parts l)[i]? = some v) : ∃ bs, r.args = some bs ∧ v = l := by
  have key : ∀ {xs : List Str}, ¬ (("many" : Str) ∈ xs) → xs[i]? = some "many" → False := fun hn h => hn (List.mem_of_getElem? h)
  cases r with
  | call x F bs =>
    refine ⟨bs, rfl, ?_⟩
    match i, h1, h2 with
    | 0, h1, _ => exact absurd (Option.some.inj h1) (by decide +kernel)
    | 1, h1, _ => exact absurd (Option.some.inj h1) (by decide +kernel)
    | 2, _, h2 => exact (Option.some.inj h2).symm
  | _ => exact (key (by simp [Rx.roles]; decide +kernel) h1).elim
def spReadsG : Sp := fun vs H Q _ => ∃ (a l : Addr) (r : Rx), vs = [.ref a] ∧ H a = some (.tup (.str r.word :: r.parts (.ref l))) ∧ (∀ bs, r.args = some bs → H l = some (.lst (bs.map V.str)) ∧ bs.length ≤ 1000) ∧ ∀ p H', Same H H' → H p = none → H' p = some (.lst (r.reads.map V.str)) → Q (.ref p) H' 
theorem sc_row_reads : FnScope ["row", "names", "role", "part"] ["row"] (defScope s_row_reads) := ⟨rfl, rfl, rfl, by decide +kernel, rfl, by decide +kernel, by decide +kernel⟩
theorem ok_row_reads (T : Ctx w K mg) : Has P w K mg base 1 "row_reads" ["row"] spReadsG := by
  obtain ⟨fd, F⟩ := T.D_row_reads
  refine ⟨⟨fd, F.ok sc_row_reads (fun vs H Q E h => ?_) (fun cdv A outer s H vs Q E hr h => ?_), F.bindsN fun _ _ _ _ _ _ us hl => match us, hl with | [_], _ => rfl⟩, F.kp, T.g_row_reads⟩
  · obtain ⟨a, m, r, rfl, ha, hm, k⟩ := h; rfl
  · obtain ⟨a, m, r, rfl, ha, hm, k⟩ := h
    have hu := hu_of hr
    refine ⟨_, PSs.nox (pss_cons (ps_set (i := 1) sc_row_reads.nd rfl (Or.inl rfl) (pe_lst pa_nil))
      (pss_cons (ps_for PassesOwn.never rfl (pi_zipA (by rfl) T.f_zip (pa_cons (pe_ix ix_kdict (pe_glob (v := .ref (He.ga K "ROLES")) rfl T.g_ROLES rfl) (pe_ix ix_tup (pv 0) pe_int (fun _ _ => rfl)) (fun _ _ => rfl)) (pa_cons (pe_slice sl_tup (pv 0) (po_some pe_int) po_none) pa_nil))) (pg_tup rfl (pgs_cons (pg_name (i := 2) sc_row_reads.nd rfl (Or.inl rfl)) (pgs_cons (pg_name (i := 3) sc_row_reads.nd rfl (Or.inl rfl)) pgs_nil)))
      (pss_one (ps_if (pt_cmpR op_eq (pv 2) pe_str (nomark _)) (pss_one (ps_expr (pe_bm PySem.F.plainAttrs_list PySem.F.slot_list_append PySem.F.type_list_append mt_append (pv 1) (pa_cons (pv 3) pa_nil)))) (pss_one (ps_if (pt_cmpR op_eq (pv 2) pe_str (nomark _)) (pss_one (ps_expr (pe_bm PySem.F.plainAttrs_list PySem.F.slot_list_extend PySem.F.type_list_extend mt_extend (pv 1) (pa_cons (pv 3) pa_nil)))) pss_nil)))))
      (pss_one (ps_ret (pv 1))))), ?_⟩
    have hro : ∀ H, SqT K H (rolA K r.word) (r.roles.map V.str) := fun H => (T.role (rx_roles_mem r) H).2
    have hlp : (r.parts (.ref m)).length ≤ 3 := by cases r <;> simp [Rx.parts]
    have hlr := r.lens (.ref m)
    refine ⟨sz_of (by decide), fun l hl => ?_⟩
    have s0 : Same H (upd H l (.lst [])) := Same.new hl
    refine ⟨_, rfl, _, _, _, _, rfl, rfl, SqT.of (s0 _ _ ha), at0, _, _, _, rfl, rfl, T.roleK (rx_roles_mem r), ?_⟩
    refine ⟨_, rfl, 1, rfl, a, _, rfl, SqT.of (s0 _ _ ha), slice1.2, fun t ht => ?_⟩
    have s1 : Same (upd H l (.lst [])) (upd (upd H l (.lst [])) t (.tup (cutV (V.str r.word :: r.parts (.ref m)) (some 1) none))) := Same.new ht
    have ht1 : (upd (upd H l (.lst [])) t (.tup (cutV (V.str r.word :: r.parts (.ref m)) (some 1) none))) t = some (.tup (r.parts (.ref m))) := by
      rw [upd_same]
      exact congrArg (fun l => some (HO.tup l)) slice1.1
    have hnl : r.namesOf.length ≤ 1000 := by
      unfold Rx.namesOf
      cases e : r.args with
      | none => simp
      | some bs => exact (hm bs e).2
    refine ⟨_, t, _, r.parts (.ref m), rfl, .inr ⟨hro _, SqT.of ht1, ?_⟩⟩
    refine for_it (walk_zipT (K := K) (xs := r.roles.map V.str) (ys := r.parts (.ref m)) (n := (r.parts (.ref m)).length) (by rw [List.length_map, hlr, Nat.min_self])) (fun i σ H1 => ∃ v1 v2 : Option V, σ = [some (.ref a), some (.ref l), v1, v2] ∧ Same H H1 ∧ H1 t = some (.tup (r.parts (.ref m))) ∧ H1 l = some (.lst (rdG (r.namesOf.map V.str) (r.roles.take i) ((r.parts (.ref m)).take i)))) ⟨none, none, rfl, s0.trans s1, ht1, s1 _ _ upd_same⟩ (fun i σ H1 _ ⟨_, _, _, _, h3, _⟩ => ⟨hro _, SqT.of h3⟩) ?_ ?_
    · rintro i y σ H1 H2 hi ⟨v1, v2, rfl, s2, h3, h4⟩ ⟨u, x, v, rfl, hu0, rfl, hx, hv⟩
      obtain ⟨role, e, rfl⟩ := map_get (show (r.roles.map V.str)[i]? = some x from hx)
      have hv : (r.parts (.ref m))[i]? = some v := hv
      have s3 : Same H1 (upd H1 u (.tup [V.str role, v])) := Same.new hu0
      have hsn := rdG_snoc (as := r.namesOf.map V.str) e hv
      have hsz : (rdG (r.namesOf.map V.str) (r.roles.take i) ((r.parts (.ref m)).take i)).length ≤ 3003 := by
        refine Nat.le_trans (rdG_len _ _) ?_
        rw [List.length_take, List.length_map]
        have h6 : min i r.roles.length ≤ 3 := by omega
        exact Nat.le_trans (Nat.mul_le_mul h6 (Nat.succ_le_succ hnl)) (by decide)
      have keep : ∀ {o : List V}, (upd (upd H1 u (.tup [V.str role, v])) l (.lst o)) t = some (.tup (r.parts (.ref m))) := fun {o} => by
        rw [upd_ne]
        · exact s3 _ _ h3
        · intro z
          rw [z, h4] at h3
          cases h3
      refine ⟨u, _, rfl, SqT.of upd_same, rfl, _, _, rfl, _, _, rfl, rfl, ?_⟩
      refine ⟨_, rfl, rfl, _, rfl, ?_⟩
      by_cases c : role = "reads"
      · rw [if_pos c] at hsn
        refine ifT (decide_eq_true (by rw [c])) ?_
        refine ⟨_, rfl, .inl ⟨rfl, _, SqL.of (s3 _ _ h4)⟩, _, rfl, l, _, _, rfl, rfl, s3 _ _ h4, sz_lt (by omega), ?_⟩
        exact ⟨_, _, rfl, Same.mut (s2.trans s3) hl, keep, by rw [upd_same, hsn]⟩
      · rw [if_neg c] at hsn
        refine ifF (decide_eq_false (fun z => c (V.str.inj z))) ?_
        refine ⟨_, rfl, rfl, _, rfl, ?_⟩
        by_cases c2 : role = "many"
        · subst c2
          obtain ⟨bs, hbs, rfl⟩ := Rx.many_at e hv
          rw [if_pos rfl] at hsn
          have hn : r.namesOf = bs := by
            unfold Rx.namesOf
            rw [hbs]
            rfl
          rw [hn] at hsn hsz h4
          refine ifT (decide_eq_true rfl) ?_
          have hml := s3 _ _ (s2 _ _ (hm bs hbs).1)
          refine ⟨_, rfl, .inl ⟨rfl, _, SqL.of (s3 _ _ h4)⟩, _, rfl, l, m, _, _, rfl, rfl, s3 _ _ h4, hml, sz_of (by have := (hm bs hbs).2; rw [List.length_map]; omega), ?_⟩
          refine ⟨_, _, rfl, Same.mut (s2.trans s3) hl, ?_, by rw [upd_same, hn, hsn]⟩
          rw [upd_ne]
          · exact s3 _ _ h3
          · intro z
            rw [z, h4] at h3
            cases h3
        · rw [if_neg c2, List.append_nil] at hsn
          refine ifF (decide_eq_false (fun z => c2 (V.str.inj z))) ?_
          refine ⟨_, _, rfl, s2.trans s3, s3 _ _ h3, ?_⟩
          rw [hsn]
          exact s3 _ _ h4
    · rintro σ H1 ⟨v1, v2, rfl, s2, h3, h4⟩
      refine ⟨_, rfl, k l _ s2 hl ?_⟩
      rw [h4, List.take_of_length_le (by rw [hlr]; exact Nat.le_refl _), List.take_length, r.rd _ _ (fun bs hb => by unfold Rx.namesOf; rw [hb]; rfl)]

end
end W5
set_option Elab.async false
set_option linter.all false
set_option maxRecDepth 100000
set_option maxHeartbeats 4000000
namespace W5
open PySem PySem.Spec PyProof.Rows L2 RZ
section
variable {P : Program} {w : World} {K : PySem.W.Frag} {mg : Str → Option Value} {base : Heap}

def Rx.names (r : Rx) : List Str := match r.sets with
  | some k => k :: r.reads
  | none => r.reads
def ArgsAt (H : Hp) (l : Addr) (r : Rx) : Prop := ∀ bs, r.args = some bs → H l = some (.lst (bs.map V.str)) ∧ bs.length ≤ 1000
theorem ArgsAt.mono {H H' : Hp} {l : Addr} {r : Rx} (h : ArgsAt H l r) (e : Same H H') : ArgsAt H' l r := fun bs q => ⟨e _ _ (h bs q).1, (h bs q).2⟩
def spNamesInG : Sp := fun vs H Q _ => ∃ (a l : Addr) (r : Rx), vs = [.ref a] ∧ H a = some (.tup (.str r.word :: r.parts (.ref l))) ∧ ArgsAt H l r ∧ ∀ p H', Same H H' → H' p = some (.lst (r.names.map V.str)) → Q (.ref p) H' 
theorem sc_names_in : FnScope ["row", "names", "name"] ["row"] (defScope s_names_in) := ⟨rfl, rfl, rfl, by decide +kernel, rfl, by decide +kernel, by decide +kernel⟩
theorem ok_names_in (T : Ctx w K mg) (H_row_reads : Has P w K mg base 1 "row_reads" ["row"] spReadsG) (H_row_sets : Has P w K mg base 1 "row_sets" ["row"] spSetsG) : Has P w K mg base 2 "_names_in" ["row"] spNamesInG := by
  obtain ⟨fd, F⟩ := T.D_names_in
  obtain ⟨fd_row_reads, G_row_reads, b_row_reads⟩ := H_row_reads.ex
  obtain ⟨fd_row_sets, G_row_sets, b_row_sets⟩ := H_row_sets.ex
  refine ⟨⟨fd, F.ok sc_names_in (fun vs H Q E h => ?_) (fun cdv A outer s H vs Q E hr h => ?_), F.bindsN fun _ _ _ _ _ _ us hl => match us, hl with | [_], _ => rfl⟩, F.kp, T.g_names_in⟩
  · obtain ⟨a, l, r, rfl, ha, hm, k⟩ := h; rfl
  · obtain ⟨a, l, r, rfl, ha, hm, k⟩ := h
    have hr_row_reads : Room 1 _ := hr.mono (by decide)
    have hr_row_sets : Room 1 _ := hr.mono (by decide)
    have hu := hu_of hr
    refine ⟨_, PSs.nox (pss_cons (ps_set (i := 1) sc_names_in.nd rfl (Or.inl rfl) (pe_call G_row_reads hr_row_reads (by rfl) H_row_reads.gl H_row_reads.kp b_row_reads .nil pass0 (pa_cons (pv 0) pa_nil)))
      (pss_cons (ps_set (i := 2) sc_names_in.nd rfl (Or.inl rfl) (pe_call G_row_sets hr_row_sets (by rfl) H_row_sets.gl H_row_sets.kp b_row_sets .nil pass0 (pa_cons (pv 0) pa_nil)))
      (pss_one (ps_ret (pe_ifExp (pt_cmpR op_isN (pv 2) pe_non (nomark _)) (pv 1) (pe_lst (pa_cons (pv 2) (StX.pa_star (pv 1) pa_nil)))))))), ?_⟩
    refine ⟨_, rfl, a, l, r, rfl, ha, hm, fun p H1 s1 _ hp => ?_⟩
    refine ⟨_, rfl, a, .ref l, r, rfl, s1 _ _ ha, ?_⟩
    refine ⟨_, rfl, rfl, _, rfl, ?_⟩
    have hrl : r.reads.length ≤ 1003 := by
      cases r with
      | call x F bs =>
        have := (hm bs rfl).2
        simp only [Rx.reads]
        omega
      | _ => simp [Rx.reads]
    cases e : r.sets with
    | none =>
      refine ifT rfl ⟨_, rfl, k p _ s1 ?_⟩
      rw [hp]
      unfold Rx.names
      rw [e]
    | some x =>
      refine ifF rfl ⟨_, rfl, _, rfl, _, _, rfl, .inr (SqL.of hp), ?_⟩
      refine ⟨sz_of ?_, fun q hq => k q _ (s1.trans (Same.new hq)) ?_⟩
      · simp only [List.length_append, List.length_cons, List.length_nil, List.length_map]
        omega
      · rw [upd_same]
        unfold Rx.names
        rw [e]
        simp [oS]
/-- a Function's head, where it stands -/
structure HeadG (K : PySem.W.Frag) (H : Hp) (fp dx pa : Addr) (fs : List (Str × V)) (ps : List Addr) (qs : List (Str × Str)) (res : Str) : Prop where
  ob : H fp = some (.ins (He.ga K "Function") dx fs)
  f1 : fs.lookup ("params" : Str) = some (.ref pa)
  f2 : fs.lookup ("result" : Str) = some (.str res)
  d1 : SqT K H pa (ps.map V.ref)
  len : ps.length = qs.length
  le : qs.length ≤ 100
  at_ : ∀ (i : Nat) p q, ps[i]? = some p → qs[i]? = some q → SqT K H p [.str q.1, .str q.2]
theorem HeadG.mono {H H' : Hp} {fp dx pa : Addr} {fs : List (Str × V)} {ps : List Addr} {qs : List (Str × Str)} {res : Str} (h : HeadG K H fp dx pa fs ps qs res) (e : Same H H') : HeadG K H' fp dx pa fs ps qs res :=
  ⟨e _ _ h.ob, h.f1, h.f2, Same.tup e h.d1, h.len, h.le, fun i p q a b => Same.tup e (h.at_ i p q a b)⟩
/-- the kinds of variables, as a dict tells them -/
def KindOf (kv : List (Key × V)) (x q : Str) : Prop := valV kv (Sum.inr x : Key) = some (.str q)
def spCallFits (K : PySem.W.Frag) : Sp := fun vs H Q _ => ∃ (fp dx pa a l d : Addr) (fs : List (Str × V)) (ps : List Addr) (qs : List (Str × Str)) (res x F : Str) (bs : List Str) (kv : List (Key × V)), vs = [.ref fp, .ref a, .ref d] ∧ HeadG K H fp dx pa fs ps qs res ∧ H a = some (.tup [.str "call", .str x, .str F, .ref l]) ∧ H l = some (.lst (bs.map V.str)) ∧ H d = some (.dK kv) ∧
  bs.length = qs.length ∧ (∀ (i : Nat) y q, bs[i]? = some y → qs[i]? = some q → KindOf kv y q.2) ∧ (∀ q ∈ qs, PyData.strOk q.2 = true) ∧ KindOf kv x res ∧ ∀ H', Same H H' → Q (.bl true) H'
theorem dpStr {H : Hp} {a : Addr} {ns : List Str} (h : H a = some (.lst (ns.map V.str))) : Dp K H (.ref a) (.list (ns.map PyData.str)) := by
  refine .lst (SqL.of h) ?_
  clear h
  induction ns with
  | nil => exact .nil
  | cons x l ih => exact .cons (.str _) ih
theorem strs_ok : ∀ {ns : List Str}, (∀ x ∈ ns, PyData.strOk x = true) → SeqAt.shaped (.list (ns.map PyData.str)) = true := by
  intro ns h
  have key : ∀ {ns : List Str}, (∀ x ∈ ns, PyData.strOk x = true) → PyData.canLayAll0 (ns.map PyData.str) = true ∧ PyData.depthAll (ns.map PyData.str) = 0 := by
    intro ns
    induction ns with
    | nil => exact fun _ => ⟨rfl, rfl⟩
    | cons a l ih =>
      intro h
      obtain ⟨h1, h2⟩ := ih fun k m => h k (List.mem_cons_of_mem _ m)
      rw [List.map_cons, PyData.canLayAll0, PyData.depthAll, h1, h2, PyData.canLay0, PyData.depth, h a List.mem_cons_self]
      exact ⟨rfl, rfl⟩
  unfold SeqAt.shaped
  rw [PyData.canLay0, PyData.depth, (key h).1, (key h).2]
  rfl
theorem sc_call_fits : FnScope ["function", "row", "kinds", "given", "name", "_", "kind"] ["function", "row", "kinds"] (defScope s_call_fits) := ⟨rfl, rfl, rfl, by decide +kernel, rfl, by decide +kernel, by decide +kernel⟩
theorem ok_call_fits (T : Ctx w K mg) : Has P w K mg base 1 "_call_fits" ["function", "row", "kinds"] (spCallFits K) := by
  obtain ⟨fd, F⟩ := T.D_call_fits
  refine ⟨⟨fd, F.ok sc_call_fits (fun vs H Q E h => ?_) (fun cdv A outer s H vs Q E hr h => ?_), F.bindsN fun _ _ _ _ _ _ us hl => match us, hl with | [_, _, _], _ => rfl⟩, F.kp, T.g_call_fits⟩
  · obtain ⟨fp, dx, pa, a, l, d, fs, ps, qs, res, x, F, bs, kv, rfl, hh, ha, hlst, hd, hbl, hk, hok, hx, k⟩ := h; rfl
  · obtain ⟨fp, dx, pa, a, l, d, fs, ps, qs, res, x, F, bs, kv, rfl, hh, ha, hlst, hd, hbl, hk, hok, hx, k⟩ := h
    have hu := hu_of hr
    refine ⟨_, PSs.nox (pss_cons (ps_setLc (i := 3) (own := [("name", 4)]) (g := gName 4) (tt := tYes) rfl sc_call_fits.nd rfl rfl (sw_true rfl rfl rfl (by decide +kernel)) (pi_list (pe_ix ix_tup (pv 1) pe_int (fun _ _ => rfl))) (blkOk_by (N := ["function", "row", "kinds", "given", "name", "_", "kind"]) (sc := defScope s_call_fits) (by decide +kernel)) (fun _ _ _ _ _ => (pg_name (i := 4) sc_call_fits.nd rfl (Or.inl rfl))) (fun _ _ _ _ _ => pts_nil) (fun _ _ _ _ _ => (pe_dget hu (pv 2) (pv 4) (fun _ _ => rfl))))
      (pss_one (ps_ret (pe_and (pe_cmpR (op_eqD hr.units) (pv 3) (pe_lc (own := [("_", 5), ("kind", 6)]) (g := gTup K 2 (gCons (gName 5) (gCons (gName 6) (gNil)))) (tt := tYes) rfl sc_call_fits.nd (pi_tup (pe_fldK (K := K) rfl (pv 0) (by rfl))) (blkOk_by (N := ["function", "row", "kinds", "given", "name", "_", "kind"]) (sc := defScope s_call_fits) (by decide +kernel)) (fun _ _ _ _ _ => (pg_tup rfl (pgs_cons (pg_name (i := 5) sc_call_fits.nd rfl (Or.inl rfl)) (pgs_cons (pg_name (i := 6) sc_call_fits.nd rfl (Or.inl rfl)) pgs_nil)))) (fun _ _ _ _ _ => pts_nil) (fun _ _ _ _ _ => (pv 6))) (nomark _)) (pe_one (pe_cmpR op_eq (pe_dget hu (pv 2) (pe_ix ix_tup (pv 1) pe_int (fun _ _ => rfl)) (fun _ _ => rfl)) (pe_fldK (K := K) rfl (pv 0) (by rfl)) (nomark _))))))), ?_⟩
    have dg : ∀ {y q : Str}, KindOf kv y q → ∀ H', Same H H' → DGet H' d (.str y) (some (.str q)) := fun hx H' s' => by
      rw [← hx]
      exact DGet.k (k := Sum.inr _) (s' _ _ hd)
    refine ⟨_, rfl, _, _, _, _, rfl, rfl, SqT.of ha, at3, l, rfl, ⟨_, SqL.of hlst⟩, fun D hD => ?_⟩
    refine lc_pure (walk_list (K := K) (a := l) (xs := bs.map V.str)) hD (fun i => .str (qs.getD i ("", "")).2) (by rw [List.length_map]; have := hh.le; omega) (fun H1 s1 => SqL.of (s1 _ _ hlst)) (fun i H1 y H2 hi s1 hy Qe qe => ?_) (fun H1 s1 h1 => ?_)
    · obtain ⟨rfl, hy⟩ := hy
      obtain ⟨x1, hx1, rfl⟩ := map_get hy
      have hiq : i < qs.length := by
        rw [List.length_map] at hi
        omega
      have hq : qs[i]? = some qs[i] := List.getElem?_eq_getElem hiq
      have eq1 : (qs.getD i ("", "")).2 = qs[i].2 := by
        rw [List.getD_eq_getElem?_getD, hq]
        rfl
      rw [eq1] at qe
      exact ⟨rfl, _, rfl, _, rfl, d, .str qs[i].2, rfl, dg (hk i x1 qs[i] hx1 hq) _ s1, qe _ (Same.refl _)⟩
    rw [List.length_map, hbl] at h1
    have hh1 := hh.mono s1
    refine ⟨_, rfl, _, rfl, fp, _, dx, fs, _, rfl, hh1.ob, T.c_Function, T.n_Function_params, hh1.f1, pa, rfl, ⟨_, hh1.d1⟩, fun E2 hE => ?_⟩
    refine lc_pure (walk_tup (K := K) (a := pa) (xs := ps.map V.ref)) hE (fun i => .str (qs.getD i ("", "")).2) (by rw [List.length_map, hh.len]; have := hh.le; omega) (fun H2 s2 => (hh1.mono s2).d1) (fun i H2 y H3 hi s2 hy Qe qe => ?_) (fun H2 s2 h2 => ?_)
    · obtain ⟨rfl, hy⟩ := hy
      obtain ⟨p1, hp1, rfl⟩ := map_get hy
      have hiq : i < qs.length := by
        rw [List.length_map, hh.len] at hi
        exact hi
      have hq : qs[i]? = some qs[i] := List.getElem?_eq_getElem hiq
      have eq1 : (qs.getD i ("", "")).2 = qs[i].2 := by
        rw [List.getD_eq_getElem?_getD, hq]
        rfl
      rw [eq1] at qe
      exact ⟨p1, _, rfl, (hh1.mono s2).at_ i p1 _ hp1 hq, rfl, _, _, rfl, _, _, rfl, rfl, rfl, _, rfl, qe _ (Same.refl _)⟩
    rw [List.length_map, hh.len] at h2
    have el : (List.range qs.length).map (fun i => V.str (qs.getD i ("", "")).2) = (qs.map Prod.snd).map V.str := by
      apply List.ext_getElem
      · simp
      · intro i h1 h2
        simp at h1
        simp [h1]
    rw [el] at h1 h2
    have hs : SeqAt.shaped (.list ((qs.map Prod.snd).map PyData.str)) = true := strs_ok fun x m => by
      obtain ⟨q, hq, rfl⟩ := List.mem_map.mp m
      exact hok q hq
    have s12 := s1.trans s2
    refine ⟨_, _, dpStr (s2 _ _ h1), dpStr h2, hs, hs, ?_⟩
    refine ⟨_, rfl, ?_⟩
    rw [SeqAt.eqv_refl _ (SeqAt.canLay_of_shaped hs)]
    refine iteT ?_
    exact ⟨_, rfl, _, rfl, _, _, _, _, rfl, rfl, SqT.of (s12 _ _ ha), at1, d, .str res, rfl, dg hx _ s12, _, rfl, fp, _, dx, fs, _, rfl, (hh1.mono s2).ob, T.c_Function, T.n_Function_result, hh.f2, rfl, qT (decide_eq_true rfl) (k _ s12)⟩

end
end W5
set_option Elab.async false
set_option linter.all false
set_option maxRecDepth 100000
set_option maxHeartbeats 4000000
namespace W5
open PySem PySem.Spec PyProof.Rows L2 RZ
section
variable {P : Program} {w : World} {K : PySem.W.Frag} {mg : Str → Option Value} {base : Heap}

/-- a row of the right kinds: field kinds ks, functions us, variables kv, the function's result -/
def KindsG (K : PySem.W.Frag) (H : Hp) (ks us kv : List (Key × V)) (res : Str) : Rx → Prop
  | .num x _ => KindOf kv x "number"
  | .bin _ x y z => KindOf kv x "number" ∧ KindOf kv y "number" ∧ KindOf kv z "number"
  | .ifz x _ => KindOf kv x "number"
  | .get x y f => ∃ q : Str, KindOf kv y "object" ∧ KindOf kv x q ∧ valV ks (Sum.inr f : Key) = some (.str q)
  | .put x f y => ∃ q : Str, KindOf kv x "object" ∧ KindOf kv y q ∧ valV ks (Sum.inr f : Key) = some (.str q)
  | .call x F bs => ∃ fp dx pa fs ps qs rs, valV us (Sum.inr F : Key) = some (.ref fp) ∧ HeadG K H fp dx pa fs ps qs rs ∧ bs.length = qs.length ∧ (∀ (i : Nat) y q, bs[i]? = some y → qs[i]? = some q → KindOf kv y q.2) ∧ (∀ q ∈ qs, PyData.strOk q.2 = true) ∧ KindOf kv x rs
  | .same x y z => ∃ q, KindOf kv x "number" ∧ KindOf kv y q ∧ KindOf kv z q
  | .copy x y => ∃ q, KindOf kv x q ∧ KindOf kv y q
  | .nil x => KindOf kv x "object" | .new x _ => KindOf kv x "object"
  | .ret x => KindOf kv x res
  | .jump _ => True | .see _ => True
def spFitG (K : PySem.W.Frag) : Sp := fun vs H Q _ => ∃ (p a l d : Addr) (cs ks us kv : List (Key × V)) (res : Str) (r : Rx), vs = [.ref p, .ref a, .ref d, .str res] ∧ SrcH K H p cs ks us ∧ H a = some (.tup (.str r.word :: r.parts (.ref l))) ∧ ArgsAt H l r ∧ H d = some (.dK kv) ∧ KindsG K H ks us kv res r ∧ ∀ H', Same H H' → Q (.bl true) H' 
theorem sc_row_kinds_fit : FnScope ["source", "row", "kinds", "result", "word", "name"] ["source", "row", "kinds", "result"] (defScope s_row_kinds_fit) := ⟨rfl, rfl, rfl, by decide +kernel, rfl, by decide +kernel, by decide +kernel⟩
theorem ok_row_kinds_fit (T : Ctx w K mg) (H_names_in : Has P w K mg base 2 "_names_in" ["row"] spNamesInG) (H_call_fits : Has P w K mg base 1 "_call_fits" ["function", "row", "kinds"] (spCallFits K)) (H_Source_field_kind : HasM P w K mg base 1 "Source" "field_kind" ["self", "name"] (spFieldKind K)) (H_Source_function_at : HasM P w K mg base 1 "Source" "function_at" ["self", "name"] (spFunAt K)) : Has P w K mg base 3 "row_kinds_fit" ["source", "row", "kinds", "result"] (spFitG K) := by
  obtain ⟨fd, F⟩ := T.D_row_kinds_fit
  obtain ⟨fd_names_in, G_names_in, b_names_in⟩ := H_names_in.ex
  obtain ⟨fd_call_fits, G_call_fits, b_call_fits⟩ := H_call_fits.ex
  obtain ⟨fd_Source_field_kind, G_Source_field_kind, b_Source_field_kind⟩ := H_Source_field_kind.ex
  obtain ⟨fd_Source_function_at, G_Source_function_at, b_Source_function_at⟩ := H_Source_function_at.ex
  refine ⟨⟨fd, F.ok sc_row_kinds_fit (fun vs H Q E h => ?_) (fun cdv A outer s H vs Q E hr h => ?_), F.bindsN fun _ _ _ _ _ _ us hl => match us, hl with | [_, _, _, _], _ => rfl⟩, F.kp, T.g_row_kinds_fit⟩
  · obtain ⟨p, a, l, d, cs, ks, us, kv, res, r, rfl, S0, ha, hm, hd, hk, k⟩ := h; rfl
  · obtain ⟨p, a, l, d, cs, ks, us, kv, res, r, rfl, S0, ha, hm, hd, hk, k⟩ := h
    have hr_names_in : Room 2 _ := hr.mono (by decide)
    have hr_call_fits : Room 1 _ := hr.mono (by decide)
    have hr_Source_field_kind : Room 1 _ := hr.mono (by decide)
    have hr_Source_function_at : Room 1 _ := hr.mono (by decide)
    have hu := hu_of hr
    refine ⟨_, PSs.nox (pss_cons (ps_set (i := 4) sc_row_kinds_fit.nd rfl (Or.inl rfl) (pe_ix ix_tup (pv 1) pe_int (fun _ _ => rfl)))
      (pss_cons (ps_if (pt_cmpR op_in_seq (pv 4) (pe_glob (v := .ref (He.ga K "NUMBER_WORDS")) rfl T.g_NUMBER_WORDS rfl) rfl) (pss_one (ps_ret (pe_callB (cr_all rfl) (by rfl) T.f_all (by decide +kernel) (pa_cons (pe_lc (own := [("name", 5)]) (g := gName 5) (tt := tYes) rfl sc_row_kinds_fit.nd (pi_list (pe_call G_names_in hr_names_in (by rfl) H_names_in.gl H_names_in.kp b_names_in .nil pass0 (pa_cons (pv 1) pa_nil))) (blkOk_by (N := ["source", "row", "kinds", "result", "word", "name"]) (sc := defScope s_row_kinds_fit) (by decide +kernel)) (fun _ _ _ _ _ => (pg_name (i := 5) sc_row_kinds_fit.nd rfl (Or.inl rfl))) (fun _ _ _ _ _ => pts_nil) (fun _ _ _ _ _ => (pe_cmpR op_eq (pe_dget hu (pv 2) (pv 5) (fun _ _ => rfl)) pe_str (nomark _)))) pa_nil)))) pss_nil)
      (pss_cons (ps_if (pt_cmpR op_eq (pv 4) pe_str (nomark _)) (pss_one (ps_ret (pe_and (pe_cmpR op_eq (pe_dget hu (pv 2) (pe_ix ix_tup (pv 1) pe_int (fun _ _ => rfl)) (fun _ _ => rfl)) pe_str (nomark _)) (pe_one (pe_cmpR op_eq (pe_dget hu (pv 2) (pe_ix ix_tup (pv 1) pe_int (fun _ _ => rfl)) (fun _ _ => rfl)) (pe_meth (pv 0) T.c_Source T.m_Source_field_kind G_Source_field_kind hr_Source_field_kind b_Source_field_kind .nil pass0 (pa_cons (pe_ix ix_tup (pv 1) pe_int (fun _ _ => rfl)) pa_nil)) (nomark _)))))) pss_nil)
      (pss_cons (ps_if (pt_cmpR op_eq (pv 4) pe_str (nomark _)) (pss_one (ps_ret (pe_and (pe_cmpR op_eq (pe_dget hu (pv 2) (pe_ix ix_tup (pv 1) pe_int (fun _ _ => rfl)) (fun _ _ => rfl)) pe_str (nomark _)) (pe_one (pe_cmpR op_eq (pe_dget hu (pv 2) (pe_ix ix_tup (pv 1) pe_int (fun _ _ => rfl)) (fun _ _ => rfl)) (pe_meth (pv 0) T.c_Source T.m_Source_field_kind G_Source_field_kind hr_Source_field_kind b_Source_field_kind .nil pass0 (pa_cons (pe_ix ix_tup (pv 1) pe_int (fun _ _ => rfl)) pa_nil)) (nomark _)))))) pss_nil)
      (pss_cons (ps_if (pt_cmpR op_eq (pv 4) pe_str (nomark _)) (pss_one (ps_ret (pe_call G_call_fits hr_call_fits (by rfl) H_call_fits.gl H_call_fits.kp b_call_fits .nil pass0 (pa_cons (pe_meth (pv 0) T.c_Source T.m_Source_function_at G_Source_function_at hr_Source_function_at b_Source_function_at .nil pass0 (pa_cons (pe_ix ix_tup (pv 1) pe_int (fun _ _ => rfl)) pa_nil)) (pa_cons (pv 1) (pa_cons (pv 2) pa_nil)))))) pss_nil)
      (pss_cons (ps_if (pt_cmpR op_eq (pv 4) pe_str (nomark _)) (pss_one (ps_ret (pe_and (pe_cmpR op_eq (pe_dget hu (pv 2) (pe_ix ix_tup (pv 1) pe_int (fun _ _ => rfl)) (fun _ _ => rfl)) pe_str (nomark _)) (pe_one (pe_cmpR op_eq (pe_dget hu (pv 2) (pe_ix ix_tup (pv 1) pe_int (fun _ _ => rfl)) (fun _ _ => rfl)) (pe_dget hu (pv 2) (pe_ix ix_tup (pv 1) pe_int (fun _ _ => rfl)) (fun _ _ => rfl)) (nomark _)))))) pss_nil)
      (pss_cons (ps_if (pt_cmpR op_eq (pv 4) pe_str (nomark _)) (pss_one (ps_ret (pe_cmpR op_eq (pe_dget hu (pv 2) (pe_ix ix_tup (pv 1) pe_int (fun _ _ => rfl)) (fun _ _ => rfl)) (pe_dget hu (pv 2) (pe_ix ix_tup (pv 1) pe_int (fun _ _ => rfl)) (fun _ _ => rfl)) (nomark _)))) pss_nil)
      (pss_cons (ps_if (pt_cmpR op_in_seq (pv 4) (pe_tup (pa_cons pe_str (pa_cons pe_str pa_nil))) rfl) (pss_one (ps_ret (pe_cmpR op_eq (pe_dget hu (pv 2) (pe_ix ix_tup (pv 1) pe_int (fun _ _ => rfl)) (fun _ _ => rfl)) pe_str (nomark _)))) pss_nil)
      (pss_one (ps_ret (pe_or (pe_cmpR op_ne (pv 4) pe_str (nomark _)) (pe_one (pe_cmpR op_eq (pe_dget hu (pv 2) (pe_ix ix_tup (pv 1) pe_int (fun _ _ => rfl)) (fun _ _ => rfl)) (pv 3) (nomark _)))))))))))))), ?_⟩
    obtain ⟨dx0, df, dk, du, fs0, S⟩ := id S0
    have dg : ∀ {y q : Str}, KindOf kv y q → ∀ H', Same H H' → DGet H' d (.str y) (some (.str q)) := fun hx H' s' => by
      rw [← hx]
      exact DGet.k (k := Sum.inr _) (s' _ _ hd)
    refine ⟨_, rfl, _, _, _, _, rfl, rfl, SqT.of ha, at0, ?_⟩
    refine ⟨_, rfl, _, _, rfl, .inr (T.numwords H), rfl, rfl, _, rfl, ?_⟩
    cases r with
    | num x n =>
      let r0 : Rx := .num x n
      have hn : ∀ x ∈ r0.names, KindOf kv x "number" := fun z m => by
        have e : z = x := by simpa [r0, Rx.names, Rx.sets, Rx.reads] using m
        rw [e]
        exact hk
      have hnl : r0.names.length ≤ 5 := by show _ ≤ 5; simp [r0, Rx.names, Rx.sets, Rx.reads]
      refine ifT rfl ?_
      refine ⟨_, rfl, a, l, r0, rfl, ha, hm, fun p1 H1 s1 hp => ⟨p1, rfl, ⟨_, SqL.of hp⟩, fun D hD => ?_⟩⟩
      refine lc_pure (walk_list (K := K) (a := p1) (xs := r0.names.map V.str)) hD (fun _ => .bl true) (by rw [List.length_map]; exact Nat.lt_of_le_of_lt hnl (by decide)) (fun H2 s2 => SqL.of (s2 _ _ hp)) (fun i H2 y H3 hi s2 hy Qe qe => ?_) (fun H2 s2 h2 => ?_)
      · obtain ⟨rfl, hy⟩ := hy
        obtain ⟨x1, hx1, rfl⟩ := map_get hy
        exact ⟨rfl, _, rfl, _, rfl, d, .str "number", rfl, dg (hn x1 (List.mem_of_getElem? hx1)) _ (s1.trans s2), rfl, qT (decide_eq_true rfl) (qe _ (Same.refl _))⟩
      · exact ⟨D, (List.range (r0.names.map V.str).length).map (fun _ => true), rfl, SqL.of (by rw [h2, List.map_map]; rfl), qT all_true (k _ (s1.trans s2))⟩
    | ifz x n =>
      let r0 : Rx := .ifz x n
      have hn : ∀ x ∈ r0.names, KindOf kv x "number" := fun z m => by
        have e : z = x := by simpa [r0, Rx.names, Rx.sets, Rx.reads] using m
        rw [e]
        exact hk
      have hnl : r0.names.length ≤ 5 := by show _ ≤ 5; simp [r0, Rx.names, Rx.sets, Rx.reads]
      refine ifT rfl ?_
      refine ⟨_, rfl, a, l, r0, rfl, ha, hm, fun p1 H1 s1 hp => ⟨p1, rfl, ⟨_, SqL.of hp⟩, fun D hD => ?_⟩⟩
      refine lc_pure (walk_list (K := K) (a := p1) (xs := r0.names.map V.str)) hD (fun _ => .bl true) (by rw [List.length_map]; exact Nat.lt_of_le_of_lt hnl (by decide)) (fun H2 s2 => SqL.of (s2 _ _ hp)) (fun i H2 y H3 hi s2 hy Qe qe => ?_) (fun H2 s2 h2 => ?_)
      · obtain ⟨rfl, hy⟩ := hy
        obtain ⟨x1, hx1, rfl⟩ := map_get hy
        exact ⟨rfl, _, rfl, _, rfl, d, .str "number", rfl, dg (hn x1 (List.mem_of_getElem? hx1)) _ (s1.trans s2), rfl, qT (decide_eq_true rfl) (qe _ (Same.refl _))⟩
      · exact ⟨D, (List.range (r0.names.map V.str).length).map (fun _ => true), rfl, SqL.of (by rw [h2, List.map_map]; rfl), qT all_true (k _ (s1.trans s2))⟩
    | bin kk x y z =>
      let r0 : Rx := .bin kk x y z
      have hn : ∀ x ∈ r0.names, KindOf kv x "number" := fun u m => by
        have e : u = x ∨ u = y ∨ u = z := by simpa [r0, Rx.names, Rx.sets, Rx.reads] using m
        obtain ⟨h1, h2, h3⟩ := hk
        rcases e with e | e | e
        · rw [e]; exact h1
        · rw [e]; exact h2
        · rw [e]; exact h3
      have hnl : r0.names.length ≤ 5 := by show _ ≤ 5; simp [r0, Rx.names, Rx.sets, Rx.reads]
      refine ifT (by
        have key : ∀ kk : Fin 4, inV (V.str (binW kk)) (v_NUMBER_WORDS.map fun d => match d with | .str x => V.str x | _ => V.non) = true := by decide +kernel
        exact key kk) ?_
      refine ⟨_, rfl, a, l, r0, rfl, ha, hm, fun p1 H1 s1 hp => ⟨p1, rfl, ⟨_, SqL.of hp⟩, fun D hD => ?_⟩⟩
      refine lc_pure (walk_list (K := K) (a := p1) (xs := r0.names.map V.str)) hD (fun _ => .bl true) (by rw [List.length_map]; exact Nat.lt_of_le_of_lt hnl (by decide)) (fun H2 s2 => SqL.of (s2 _ _ hp)) (fun i H2 y H3 hi s2 hy Qe qe => ?_) (fun H2 s2 h2 => ?_)
      · obtain ⟨rfl, hy⟩ := hy
        obtain ⟨x1, hx1, rfl⟩ := map_get hy
        exact ⟨rfl, _, rfl, _, rfl, d, .str "number", rfl, dg (hn x1 (List.mem_of_getElem? hx1)) _ (s1.trans s2), rfl, qT (decide_eq_true rfl) (qe _ (Same.refl _))⟩
      · exact ⟨D, (List.range (r0.names.map V.str).length).map (fun _ => true), rfl, SqL.of (by rw [h2, List.map_map]; rfl), qT all_true (k _ (s1.trans s2))⟩
    | get x y f =>
      obtain ⟨q, h1, h2, h3⟩ := hk
      refine ifF rfl ⟨_, rfl, rfl, _, rfl, ifT rfl ?_⟩
      exact ⟨_, rfl, _, rfl, _, _, _, _, rfl, rfl, SqT.of ha, at2, d, .str "object", rfl, dg h1 _ (Same.refl H), rfl, _, rfl, ifT (decide_eq_true rfl) ⟨_, rfl, _, rfl, _, _, _, _, rfl, rfl, SqT.of ha, at1, d, .str q, rfl, dg h2 _ (Same.refl H), _, rfl, p, dx0, fs0, rfl, S.ob, S.nm _ (by decide +kernel), _, rfl, _, _, _, _, rfl, rfl, SqT.of ha, at3, p, cs, ks, us, f, .str q, rfl, S0, h3, rfl, qT (decide_eq_true rfl) (k _ (Same.refl H))⟩⟩
    | put x f y =>
      obtain ⟨q, h1, h2, h3⟩ := hk
      refine ifF rfl ⟨_, rfl, rfl, _, rfl, ifF rfl ⟨_, rfl, rfl, _, rfl, ifT rfl ?_⟩⟩
      exact ⟨_, rfl, _, rfl, _, _, _, _, rfl, rfl, SqT.of ha, at1, d, .str "object", rfl, dg h1 _ (Same.refl H), rfl, _, rfl, ifT (decide_eq_true rfl) ⟨_, rfl, _, rfl, _, _, _, _, rfl, rfl, SqT.of ha, at3, d, .str q, rfl, dg h2 _ (Same.refl H), _, rfl, p, dx0, fs0, rfl, S.ob, S.nm _ (by decide +kernel), _, rfl, _, _, _, _, rfl, rfl, SqT.of ha, at2, p, cs, ks, us, f, .str q, rfl, S0, h3, rfl, qT (decide_eq_true rfl) (k _ (Same.refl H))⟩⟩
    | call x F bs =>
      obtain ⟨fp, dx, pa, fs, ps, qs, rs, h1, h2, h3, h4, h5, h6⟩ := hk
      refine ifF rfl ⟨_, rfl, rfl, _, rfl, ifF rfl ⟨_, rfl, rfl, _, rfl, ifF rfl ⟨_, rfl, rfl, _, rfl, ifT rfl ?_⟩⟩⟩
      exact ⟨_, rfl, p, dx0, fs0, rfl, S.ob, S.nm _ (by decide +kernel), _, rfl, _, _, _, _, rfl, rfl, SqT.of ha, at2, p, cs, ks, us, F, .ref fp, rfl, S0, h1, _, rfl, _, rfl, fp, dx, pa, a, l, d, fs, ps, qs, rs, x, F, bs, kv, rfl, h2, ha, (hm bs rfl).1, hd, h3, h4, h5, h6, k⟩
    | same x y z =>
      obtain ⟨q, h1, h2, h3⟩ := hk
      refine ifF rfl ⟨_, rfl, rfl, _, rfl, ifF rfl ⟨_, rfl, rfl, _, rfl, ifF rfl ⟨_, rfl, rfl, _, rfl, ifF rfl ⟨_, rfl, rfl, _, rfl, ifT rfl ?_⟩⟩⟩⟩
      exact ⟨_, rfl, _, rfl, _, _, _, _, rfl, rfl, SqT.of ha, at1, d, .str "number", rfl, dg h1 _ (Same.refl H), rfl, _, rfl, ifT (decide_eq_true rfl) ⟨_, rfl, _, rfl, _, _, _, _, rfl, rfl, SqT.of ha, at2, d, .str q, rfl, dg h2 _ (Same.refl H), _, rfl, _, rfl, _, _, _, _, rfl, rfl, SqT.of ha, at3, d, .str q, rfl, dg h3 _ (Same.refl H), rfl, qT (decide_eq_true rfl) (k _ (Same.refl H))⟩⟩
    | copy x y =>
      obtain ⟨q, h1, h2⟩ := hk
      refine ifF rfl ⟨_, rfl, rfl, _, rfl, ifF rfl ⟨_, rfl, rfl, _, rfl, ifF rfl ⟨_, rfl, rfl, _, rfl, ifF rfl ⟨_, rfl, rfl, _, rfl, ifF rfl ⟨_, rfl, rfl, _, rfl, ifT rfl ?_⟩⟩⟩⟩⟩
      exact ⟨_, rfl, _, rfl, _, _, _, _, rfl, rfl, SqT.of ha, at1, d, .str q, rfl, dg h1 _ (Same.refl H), _, rfl, _, rfl, _, _, _, _, rfl, rfl, SqT.of ha, at2, d, .str q, rfl, dg h2 _ (Same.refl H), rfl, qT (decide_eq_true rfl) (k _ (Same.refl H))⟩
    | nil x => 
      refine ifF rfl ⟨_, rfl, rfl, _, rfl, ifF rfl ⟨_, rfl, rfl, _, rfl, ifF rfl ⟨_, rfl, rfl, _, rfl, ifF rfl ⟨_, rfl, rfl, _, rfl, ifF rfl ⟨_, rfl, rfl, _, rfl, ifF rfl ?_⟩⟩⟩⟩⟩
      refine ⟨_, rfl, sz_of (by decide), fun t ht => ⟨t, _, rfl, .inr (SqT.of upd_same), rfl, rfl, _, rfl, ifT rfl ?_⟩⟩
      have s1 : Same H (upd H t (.tup [.str "nil", .str "new"])) := Same.new ht
      exact ⟨_, rfl, _, rfl, _, _, _, _, rfl, rfl, SqT.of (s1 _ _ ha), at1, d, .str "object", rfl, dg hk _ s1, rfl, qT (decide_eq_true rfl) (k _ s1)⟩
    | new x c => 
      refine ifF rfl ⟨_, rfl, rfl, _, rfl, ifF rfl ⟨_, rfl, rfl, _, rfl, ifF rfl ⟨_, rfl, rfl, _, rfl, ifF rfl ⟨_, rfl, rfl, _, rfl, ifF rfl ⟨_, rfl, rfl, _, rfl, ifF rfl ?_⟩⟩⟩⟩⟩
      refine ⟨_, rfl, sz_of (by decide), fun t ht => ⟨t, _, rfl, .inr (SqT.of upd_same), rfl, rfl, _, rfl, ifT rfl ?_⟩⟩
      have s1 : Same H (upd H t (.tup [.str "nil", .str "new"])) := Same.new ht
      exact ⟨_, rfl, _, rfl, _, _, _, _, rfl, rfl, SqT.of (s1 _ _ ha), at1, d, .str "object", rfl, dg hk _ s1, rfl, qT (decide_eq_true rfl) (k _ s1)⟩
    | ret x =>
      refine ifF rfl ⟨_, rfl, rfl, _, rfl, ifF rfl ⟨_, rfl, rfl, _, rfl, ifF rfl ⟨_, rfl, rfl, _, rfl, ifF rfl ⟨_, rfl, rfl, _, rfl, ifF rfl ⟨_, rfl, rfl, _, rfl, ifF rfl ?_⟩⟩⟩⟩⟩
      refine ⟨_, rfl, sz_of (by decide), fun t ht => ⟨t, _, rfl, .inr (SqT.of upd_same), rfl, rfl, _, rfl, ifF rfl ?_⟩⟩
      have s1 : Same H (upd H t (.tup [.str "nil", .str "new"])) := Same.new ht
      exact ⟨_, rfl, rfl, false, rfl, iteF ⟨_, rfl, _, rfl, _, _, _, _, rfl, rfl, SqT.of (s1 _ _ ha), at1, d, _, rfl, dg hk _ s1, _, rfl, rfl, qT (decide_eq_true rfl) (k _ s1)⟩⟩
    | see x => 
      refine ifF rfl ⟨_, rfl, rfl, _, rfl, ifF rfl ⟨_, rfl, rfl, _, rfl, ifF rfl ⟨_, rfl, rfl, _, rfl, ifF rfl ⟨_, rfl, rfl, _, rfl, ifF rfl ⟨_, rfl, rfl, _, rfl, ifF rfl ?_⟩⟩⟩⟩⟩
      refine ⟨_, rfl, sz_of (by decide), fun t ht => ⟨t, _, rfl, .inr (SqT.of upd_same), rfl, rfl, _, rfl, ifF rfl ?_⟩⟩
      have s1 : Same H (upd H t (.tup [.str "nil", .str "new"])) := Same.new ht
      exact ⟨_, rfl, rfl, true, rfl, iteT (k _ s1)⟩
    | jump x => 
      refine ifF rfl ⟨_, rfl, rfl, _, rfl, ifF rfl ⟨_, rfl, rfl, _, rfl, ifF rfl ⟨_, rfl, rfl, _, rfl, ifF rfl ⟨_, rfl, rfl, _, rfl, ifF rfl ⟨_, rfl, rfl, _, rfl, ifF rfl ?_⟩⟩⟩⟩⟩
      refine ⟨_, rfl, sz_of (by decide), fun t ht => ⟨t, _, rfl, .inr (SqT.of upd_same), rfl, rfl, _, rfl, ifF rfl ?_⟩⟩
      have s1 : Same H (upd H t (.tup [.str "nil", .str "new"])) := Same.new ht
      exact ⟨_, rfl, rfl, true, rfl, iteT (k _ s1)⟩

end
end W5
set_option Elab.async false
set_option linter.all false
set_option maxRecDepth 100000
set_option maxHeartbeats 4000000
namespace W5
open PySem PySem.Spec PyProof.Rows L2 RZ
section
variable {P : Program} {w : World} {K : PySem.W.Frag} {mg : Str → Option Value} {base : Heap}

/-- a comprehension whose elements are values as told, or new tuples -/
def Mix (c : Nat → Bool) (f : Nat → V) (g : Nat → List V) (i : Nat) (H : Hp) (v : V) : Prop := (c i = false ∧ v = f i) ∨ (c i = true ∧ ∃ q, v = .ref q ∧ H q = some (.tup (g i)))
theorem lc_mix {J : It} {n : Nat} {G : Hp → Prop} {Y : Nat → Hp → V → Hp → Prop} (w : Walk J n G Y) {gg : TG} {te : TE} {vs : List Nat} {σ : L2.St} {H0 : Hp} {D : Addr} {Qd : Hp → Prop} (hD : H0 D = none) (c : Nat → Bool) (f : Nat → V) (g : Nat → List V) (hn : n < 100000)
    (hG : ∀ H, Same H0 H → G H)
    (hs : ∀ i H x H', i < n → Same H0 H → Y i H x H' → ∀ Qe : VK, (∀ v H4, Same H H4 → Mix c f g i H4 v → Qe v H4) → gg x (wipe σ vs) H' fun σ2 H2 => wipe σ2 vs = wipe σ vs ∧ te σ2 H2 Qe)
    (hd : ∀ (H : Hp) (xs : List V), Same H0 H → xs.length = n → (∀ (i : Nat) v, xs[i]? = some v → Mix c f g i H v) → H D = some (.lst xs) → Qd H) :
    ∃ W : Nat → Nat → Hp → Prop, (∃ m, W 0 m (upd H0 D (.lst []))) ∧ ∀ i m H, W i m H →
      (J.stop i H ∧ Qd H) ∨ (J.go i H ∧ ∃ Nx : Hp → Prop, (∀ H', Nx H' → ∃ m', m' < m ∧ W (i + 1) m' H') ∧ ∀ x H', J.yld i H x H' → gg x (wipe σ vs) H' fun σ2 H2 => wipe σ2 vs = wipe σ vs ∧ tYes σ2 H2 fun b H3 =>
        if b = true then te σ2 H3 fun y H4 => ∃ acc, H4 D = some (.lst acc) ∧ acc.length < sizeLine ∧ Nx (upd H4 D (.lst (acc ++ [y]))) else Nx H3) := by
  refine lc_it w (fun i H => Same H0 H ∧ ∃ xs : List V, xs.length = i ∧ (∀ (j : Nat) v, xs[j]? = some v → Mix c f g j H v) ∧ H D = some (.lst xs)) ⟨Same.new hD, [], rfl, fun j v e => by simp at e, upd_same⟩ (fun i H _ p => hG H p.1) (fun i x H H' hi q y => ?_) (fun H q => ?_)
  · obtain ⟨s1, xs, hl, hx, hDD⟩ := q
    have q := hs i H x H' hi s1 y (fun y H4 => ∃ acc, H4 D = some (.lst acc) ∧ acc.length < sizeLine ∧ (Same H0 (upd H4 D (.lst (acc ++ [y]))) ∧ ∃ xs : List V, xs.length = i + 1 ∧ (∀ (j : Nat) v, xs[j]? = some v → Mix c f g j (upd H4 D (.lst (acc ++ [y]))) v) ∧ upd H4 D (.lst (acc ++ [y])) D = some (.lst xs))) (fun v H4 s4 mv => ?_)
    · exact q
    · have h4 := s4 _ _ hDD
      have stay : ∀ {j : Nat} {u : V}, Mix c f g j H4 u → Mix c f g j (upd H4 D (.lst (xs ++ [v]))) u := fun {j u} m => by
        rcases m with m | ⟨m1, q, m2, m3⟩
        · exact .inl m
        · refine .inr ⟨m1, q, m2, ?_⟩
          rw [upd_ne (ne_of m3 h4 (by intro z; cases z))]
          exact m3
      refine ⟨xs, h4, sz_lt (by omega), Same.mut (s1.trans s4) hD, xs ++ [v], by rw [List.length_append, hl]; rfl, fun j u e => stay ?_, upd_same⟩
      by_cases hj : j < xs.length
      · rw [List.getElem?_append_left hj] at e
        rcases hx j u e with m | ⟨m1, q, m2, m3⟩
        · exact .inl m
        · exact .inr ⟨m1, q, m2, s4 _ _ m3⟩
      · rw [List.getElem?_append_right (by omega)] at e
        have h2 := (List.getElem?_eq_some_iff.mp e).1
        simp at h2
        have ej : j = i := by omega
        have e0 : j - xs.length = 0 := by omega
        rw [e0] at e
        rw [← Option.some.inj e, ej]
        exact mv
  · obtain ⟨s1, xs, hl, hx, hDD⟩ := q
    exact hd H xs s1 hl hx hDD
def spFzL : Sp := fun vs H Q _ => ∃ a xs, vs = [.ref a] ∧ H a = some (.lst xs) ∧ (∀ x ∈ xs, Fl x) ∧ xs.length ≤ 1000 ∧ ∀ p H', Same H H' → H' p = some (.tup xs) → Q (.ref p) H'
/-- a text, an int, or a list of such -/
def spFzM : Sp := fun vs H Q E => spFz0 vs H Q E ∨ spFzL vs H Q E
theorem sc_frozenM : FnScope ["thing", "part"] ["thing"] (defScope s_frozen) := ⟨rfl, rfl, rfl, by decide +kernel, rfl, by decide +kernel, by decide +kernel⟩
theorem ok_frozenM (T : Ctx w K mg) (H_frozen : Has P w K mg base 1 "frozen" ["thing"] spFz0) : Has P w K mg base 2 "frozen" ["thing"] spFzM := by
  obtain ⟨fd, F⟩ := T.D_frozen
  obtain ⟨fd_frozen, G_frozen, b_frozen⟩ := H_frozen.ex
  refine ⟨⟨fd, F.ok sc_frozenM (fun vs H Q E h => ?_) (fun cdv A outer s H vs Q E hr h => ?_), F.bindsN fun _ _ _ _ _ _ us hl => match us, hl with | [_], _ => rfl⟩, F.kp, T.g_frozen⟩
  · rcases h with ⟨v, rfl, _⟩ | ⟨a, xs, rfl, _⟩ <;> rfl
  · obtain h := h
    have hr_frozen : Room 1 _ := hr.mono (by decide)
    have hu := hu_of hr
    refine ⟨_, PSs.nox (pss_cons (ps_if (pt_val (pe_callB call_isiT (by rfl) T.f_isinstance (by decide +kernel) (pa_cons (pv 0) (pa_cons (pe_tup (pa_cons (pe_bltn (v := .ty "list") (u := .type "list") rfl T.f_list (by decide +kernel) rfl) (pa_cons (pe_bltn (v := .ty "tuple") (u := .type "tuple") rfl T.f_tuple (by decide +kernel) rfl) pa_nil))) pa_nil)))) (pss_one (ps_ret (pe_callTy call_tuple_of (by rfl) T.f_tuple (by decide +kernel) (pa_cons (pe_lc (own := [("part", 1)]) (g := gName 1) (tt := tYes) rfl sc_frozenM.nd (pi_list (pv 0)) (blkOk_by (N := ["thing", "part"]) (sc := defScope s_frozen) (by decide +kernel)) (fun _ _ _ _ _ => (pg_name (i := 1) sc_frozenM.nd rfl (Or.inl rfl))) (fun _ _ _ _ _ => pts_nil) (fun _ _ _ _ _ => (pe_call G_frozen hr_frozen (by rfl) H_frozen.gl H_frozen.kp b_frozen .nil pass0 (pa_cons (pv 1) pa_nil)))) pa_nil)))) pss_nil)
      (pss_one (ps_ret (pv 0)))), ?_⟩
    rcases h with ⟨v, rfl, F0, k⟩ | ⟨a, xs, rfl, ha, hf, hl, k⟩
    · refine ⟨_, rfl, sz_of (by decide), fun tp htp => ?_⟩
      cases F0 with
      | str x =>
        exact ⟨_, _, _, _, _, false, rfl, upd_same, .cons (.ty _) (.cons (.ty _) .nil), .base (.str x), kit2 (p := false) (q := false) (by decide +kernel) (by decide +kernel) rfl, _, rfl, iteF ⟨_, rfl, k _ (Same.new htp)⟩⟩
      | int x =>
        exact ⟨_, _, _, _, _, false, rfl, upd_same, .cons (.ty _) (.cons (.ty _) .nil), .base (.int x), kit2 (p := false) (q := false) (by decide +kernel) (by decide +kernel) rfl, _, rfl, iteF ⟨_, rfl, k _ (Same.new htp)⟩⟩
    refine ⟨_, rfl, sz_of (by decide), fun tp htp => ?_⟩
    have s1 : Same H (upd H tp (.tup [.ty "list", .ty "tuple"])) := Same.new htp
    refine ⟨_, _, _, _, _, true, rfl, upd_same, .cons (.ty _) (.cons (.ty _) .nil), .base (.lst (s1 _ _ ha)), kit2 (p := true) (q := false) (by decide +kernel) (by decide +kernel) rfl, _, rfl, iteT ?_⟩
    refine ⟨_, rfl, a, rfl, ⟨_, SqL.of (s1 _ _ ha)⟩, fun D hD => ?_⟩
    refine lc_pure (walk_list (K := K) (a := a) (xs := xs)) hD (fun i => xs.getD i .non) (Nat.lt_of_le_of_lt hl (by decide)) (fun H2 s2 => SqL.of (s2 _ _ (s1 _ _ ha))) (fun i H2 y H3 hi s2 hy Qe qe => ?_) (fun H2 s2 h2 => ?_)
    · obtain ⟨rfl, hx⟩ := hy
      rw [getD_of hx] at qe
      exact ⟨rfl, _, rfl, y, rfl, hf y (List.mem_of_getElem? hx), fun H4 s4 => qe _ s4⟩
    · rw [map_range_getD] at h2
      exact ⟨D, xs, rfl, .inl ⟨SqL.of h2, fun l hl2 => k l _ ((s1.trans s2).trans (Same.new hl2)) upd_same⟩⟩

end
end W5
set_option Elab.async false
set_option linter.all false
set_option maxRecDepth 100000
set_option maxHeartbeats 4000000
namespace W5
open PySem PySem.Spec PyProof.Rows L2 RZ
section
variable {P : Program} {w : World} {K : PySem.W.Frag} {mg : Str → Option Value} {base : Heap}

theorem parts_at {r : Rx} {l : V} {i : Nat} {y : V} (h : (V.str r.word :: r.parts l)[i]? = some y) : (Fl y ∧ (r.args.isSome && (i == 3)) = false) ∨ (∃ bs, r.args = some bs ∧ i = 3 ∧ y = l) := by
  cases r with
  | call x F bs =>
    match i, h with
    | 0, h => obtain rfl := Option.some.inj h; exact .inl ⟨.str _, rfl⟩
    | 1, h => obtain rfl := Option.some.inj h; exact .inl ⟨.str _, rfl⟩
    | 2, h => obtain rfl := Option.some.inj h; exact .inl ⟨.str _, rfl⟩
    | 3, h => obtain rfl := Option.some.inj h; exact .inr ⟨bs, rfl, rfl, rfl⟩
    | n + 4, h => simp [Rx.parts] at h
  | _ =>
    refine .inl ⟨?_, rfl⟩
    have m := List.mem_of_getElem? h
    simp only [Rx.parts, List.mem_cons, List.not_mem_nil, or_false] at m
    rcases m with rfl | m
    · exact .str _
    · first
        | (subst m; first | exact .str _ | exact .int _)
        | (rcases m with rfl | rfl <;> first | exact .str _ | exact .int _)
        | (rcases m with rfl | rfl | rfl <;> first | exact .str _ | exact .int _)
theorem parts_same {r : Rx} {l l2 : V} (h : r.args = none) : r.parts l = r.parts l2 := by
  cases r <;> first | rfl | cases h
def spFzRow : Sp := fun vs H Q _ => ∃ (a l : Addr) (r : Rx), vs = [.ref a] ∧ H a = some (.tup (.str r.word :: r.parts (.ref l))) ∧ ArgsAt H l r ∧ ∀ p H', Same H H' → RowAt true H' p r → Q (.ref p) H' 
theorem sc_frozenR : FnScope ["thing", "part"] ["thing"] (defScope s_frozen) := ⟨rfl, rfl, rfl, by decide +kernel, rfl, by decide +kernel, by decide +kernel⟩
theorem ok_frozenR (T : Ctx w K mg) (H_frozen : Has P w K mg base 2 "frozen" ["thing"] spFzM) : Has P w K mg base 3 "frozen" ["thing"] spFzRow := by
  obtain ⟨fd, F⟩ := T.D_frozen
  obtain ⟨fd_frozen, G_frozen, b_frozen⟩ := H_frozen.ex
  refine ⟨⟨fd, F.ok sc_frozenR (fun vs H Q E h => ?_) (fun cdv A outer s H vs Q E hr h => ?_), F.bindsN fun _ _ _ _ _ _ us hl => match us, hl with | [_], _ => rfl⟩, F.kp, T.g_frozen⟩
  · obtain ⟨a, l, r, rfl, ha, hm, k⟩ := h; rfl
  · obtain ⟨a, l, r, rfl, ha, hm, k⟩ := h
    have hr_frozen : Room 2 _ := hr.mono (by decide)
    have hu := hu_of hr
    refine ⟨_, PSs.nox (pss_cons (ps_if (pt_val (pe_callB call_isiT (by rfl) T.f_isinstance (by decide +kernel) (pa_cons (pv 0) (pa_cons (pe_tup (pa_cons (pe_bltn (v := .ty "list") (u := .type "list") rfl T.f_list (by decide +kernel) rfl) (pa_cons (pe_bltn (v := .ty "tuple") (u := .type "tuple") rfl T.f_tuple (by decide +kernel) rfl) pa_nil))) pa_nil)))) (pss_one (ps_ret (pe_callTy call_tuple_of (by rfl) T.f_tuple (by decide +kernel) (pa_cons (pe_lc (own := [("part", 1)]) (g := gName 1) (tt := tYes) rfl sc_frozenR.nd (pi_tup (pv 0)) (blkOk_by (N := ["thing", "part"]) (sc := defScope s_frozen) (by decide +kernel)) (fun _ _ _ _ _ => (pg_name (i := 1) sc_frozenR.nd rfl (Or.inl rfl))) (fun _ _ _ _ _ => pts_nil) (fun _ _ _ _ _ => (pe_call G_frozen hr_frozen (by rfl) H_frozen.gl H_frozen.kp b_frozen .nil pass0 (pa_cons (pv 1) pa_nil)))) pa_nil)))) pss_nil)
      (pss_one (ps_ret (pv 0)))), ?_⟩
    refine ⟨_, rfl, sz_of (by decide), fun tp htp => ?_⟩
    have s1 : Same H (upd H tp (.tup [.ty "list", .ty "tuple"])) := Same.new htp
    refine ⟨_, _, _, _, _, true, rfl, upd_same, .cons (.ty _) (.cons (.ty _) .nil), .base (.tup (s1 _ _ ha)), kit2 (p := false) (q := true) (by decide +kernel) (by decide +kernel) rfl, _, rfl, iteT ?_⟩
    refine ⟨_, rfl, a, rfl, ⟨_, SqT.of (s1 _ _ ha)⟩, fun D hD => ?_⟩
    have hlp : (V.str r.word :: r.parts (.ref l)).length ≤ 4 := by cases r <;> simp [Rx.parts]
    refine lc_mix (walk_tup (K := K) (a := a) (xs := V.str r.word :: r.parts (.ref l))) hD (fun i => r.args.isSome && (i == 3)) (fun i => (V.str r.word :: r.parts (.ref l)).getD i .non) (fun _ => r.namesOf.map V.str) (by omega) (fun H2 s2 => SqT.of (s2 _ _ (s1 _ _ ha))) (fun i H2 y H3 hi s2 hy Qe qe => ?_) (fun H2 xs s2 hl hx h2 => ?_)
    · obtain ⟨rfl, hy⟩ := hy
      rcases parts_at hy with ⟨f1, c1⟩ | ⟨bs, hb, rfl, rfl⟩
      · exact ⟨rfl, _, rfl, .inl ⟨y, rfl, f1, fun H4 s4 => qe _ _ s4 (.inl ⟨c1, (getD_of hy).symm⟩)⟩⟩
      · obtain ⟨q1, q2⟩ := hm bs hb
        refine ⟨rfl, _, rfl, .inr ⟨l, bs.map V.str, rfl, s2 _ _ (s1 _ _ q1), fun x m => ?_, by rw [List.length_map]; exact q2, fun p H4 s4 hp => qe _ _ s4 (.inr ⟨by rw [hb]; rfl, p, rfl, ?_⟩)⟩⟩
        · obtain ⟨z, _, rfl⟩ := List.mem_map.mp m
          exact .str z
        · rw [hp]
          unfold Rx.namesOf
          rw [hb]
          rfl
    refine ⟨D, xs, rfl, .inl ⟨SqL.of h2, fun q hq => k q _ ((s1.trans s2).trans (Same.new hq)) ?_⟩⟩
    have same : ∀ (i : Nat) v, xs[i]? = some v → (r.args.isSome && (i == 3)) = false → v = (V.str r.word :: r.parts (.ref l)).getD i .non := fun i v e c => by
      rcases hx i v e with ⟨_, h⟩ | ⟨h, _⟩
      · exact h
      · have h2 : (r.args.isSome && (i == 3)) = true := h
        rw [c] at h2
        cases h2
    cases e : r.args with
    | none =>
      refine ⟨l, ?_, fun bs z => by rw [e] at z; cases z⟩
      rw [upd_same]
      have ex : xs = V.str r.word :: r.parts (.ref l) := by
        apply List.ext_getElem hl
        intro i h1 h3
        have := same i xs[i] (List.getElem?_eq_getElem h1) (by rw [e]; rfl)
        rw [this, List.getD_eq_getElem?_getD, List.getElem?_eq_getElem h3]
        rfl
      rw [ex]
    | some bs =>
      cases r with
      | call x F cs =>
        obtain rfl : cs = bs := Option.some.inj e
        have h4 : xs.length = 4 := hl
        match xs, h4 with
        | [a0, a1, a2, a3], _ =>
          have e0 := same 0 a0 rfl rfl
          have e1 := same 1 a1 rfl rfl
          have e2 := same 2 a2 rfl rfl
          rcases hx 3 a3 rfl with ⟨z, _⟩ | ⟨_, q3, e3, h3⟩
          · cases z
          · subst e0 e1 e2 e3
            exact ⟨q3, upd_same, fun bs2 z => by
              obtain rfl := Option.some.inj z
              exact Same.new hq _ _ h3⟩
      | _ => cases e

end
end W5
set_option Elab.async false
set_option linter.all false
set_option maxRecDepth 100000
set_option maxHeartbeats 4000000
namespace W5
open PySem PySem.Spec PyProof.Rows L2 RZ
section
variable {P : Program} {w : World} {K : PySem.W.Frag} {mg : Str → Option Value} {base : Heap}

theorem RowAt.put {H : Hp} {a D : Addr} {r : Rx} {xs ys : List V} (h : RowAt true H a r) (hD : H D = some (.lst xs)) : RowAt true (upd H D (.lst ys)) a r := by
  obtain ⟨l, h1, h2⟩ := h
  refine ⟨l, ?_, fun bs e => ?_⟩
  · rw [upd_ne (ne_of h1 hD (by intro z; cases z))]
    exact h1
  · have q := h2 bs e
    rw [if_pos rfl] at q ⊢
    rw [upd_ne (ne_of q hD (by intro z; cases z))]
    exact q
/-- a comprehension whose elements are kept rows -/
theorem lc_rows {J : It} {n : Nat} {G : Hp → Prop} {Y : Nat → Hp → V → Hp → Prop} (w : Walk J n G Y) {gg : TG} {te : TE} {vs : List Nat} {σ : L2.St} {H0 : Hp} {D : Addr} {Qd : Hp → Prop} (hD : H0 D = none) (rws : List Rx) (hn : n < 100000)
    (hG : ∀ H, Same H0 H → G H)
    (hs : ∀ i H x H', i < n → Same H0 H → Y i H x H' → ∀ Qe : VK, (∀ q H4, Same H H4 → (∀ r, rws[i]? = some r → RowAt true H4 q r) → Qe (.ref q) H4) → gg x (wipe σ vs) H' fun σ2 H2 => wipe σ2 vs = wipe σ vs ∧ te σ2 H2 Qe)
    (hd : ∀ (H : Hp) (qs : List Addr), Same H0 H → qs.length = n → (∀ (i : Nat) q r, qs[i]? = some q → rws[i]? = some r → RowAt true H q r) → H D = some (.lst (qs.map V.ref)) → Qd H) :
    ∃ W : Nat → Nat → Hp → Prop, (∃ m, W 0 m (upd H0 D (.lst []))) ∧ ∀ i m H, W i m H →
      (J.stop i H ∧ Qd H) ∨ (J.go i H ∧ ∃ Nx : Hp → Prop, (∀ H', Nx H' → ∃ m', m' < m ∧ W (i + 1) m' H') ∧ ∀ x H', J.yld i H x H' → gg x (wipe σ vs) H' fun σ2 H2 => wipe σ2 vs = wipe σ vs ∧ tYes σ2 H2 fun b H3 =>
        if b = true then te σ2 H3 fun y H4 => ∃ acc, H4 D = some (.lst acc) ∧ acc.length < sizeLine ∧ Nx (upd H4 D (.lst (acc ++ [y]))) else Nx H3) := by
  refine lc_it w (fun i H => Same H0 H ∧ ∃ qs : List Addr, qs.length = i ∧ (∀ (j : Nat) q r, qs[j]? = some q → rws[j]? = some r → RowAt true H q r) ∧ H D = some (.lst (qs.map V.ref))) ⟨Same.new hD, [], rfl, fun j q r e => by simp at e, upd_same⟩ (fun i H _ p => hG H p.1) (fun i x H H' hi q y => ?_) (fun H q => ?_)
  · obtain ⟨s1, qs, hl, hx, hDD⟩ := q
    have q := hs i H x H' hi s1 y (fun y H4 => ∃ acc, H4 D = some (.lst acc) ∧ acc.length < sizeLine ∧ (Same H0 (upd H4 D (.lst (acc ++ [y]))) ∧ ∃ qs : List Addr, qs.length = i + 1 ∧ (∀ (j : Nat) q r, qs[j]? = some q → rws[j]? = some r → RowAt true (upd H4 D (.lst (acc ++ [y]))) q r) ∧ upd H4 D (.lst (acc ++ [y])) D = some (.lst (qs.map V.ref)))) (fun q H4 s4 mv => ?_)
    · exact q
    · have h4 := s4 _ _ hDD
      refine ⟨_, h4, sz_lt (by rw [List.length_map]; omega), Same.mut (s1.trans s4) hD, qs ++ [q], by rw [List.length_append, hl]; rfl, fun j u r e er => RowAt.put ?_ h4, by rw [upd_same, List.map_append]; rfl⟩
      by_cases hj : j < qs.length
      · rw [List.getElem?_append_left hj] at e
        exact (hx j u r e er).mono s4
      · rw [List.getElem?_append_right (by omega)] at e
        have h2 := (List.getElem?_eq_some_iff.mp e).1
        simp at h2
        have ej : j = i := by omega
        have e0 : j - qs.length = 0 := by omega
        rw [e0] at e
        rw [← Option.some.inj e]
        exact mv r (by rw [← ej]; exact er)
  · obtain ⟨s1, xs, hl, hx, hDD⟩ := q
    exact hd H xs s1 hl hx hDD
/-- rows as they are handed in -/
structure RawRows (H : Hp) (rs : List Addr) (rws : List Rx) : Prop where
  len : rs.length = rws.length
  at_ : ∀ (i : Nat) a r, rs[i]? = some a → rws[i]? = some r → ∃ l, H a = some (.tup (.str r.word :: r.parts (.ref l))) ∧ ArgsAt H l r
theorem RawRows.mono {H H' : Hp} {rs : List Addr} {rws : List Rx} (h : RawRows H rs rws) (e : Same H H') : RawRows H' rs rws := ⟨h.len, fun i a r x y => by
  obtain ⟨l, q1, q2⟩ := h.at_ i a r x y
  exact ⟨l, e _ _ q1, q2.mono e⟩⟩
/-- rows as they are kept -/
structure KeptRows (H : Hp) (rs : List Addr) (rws : List Rx) : Prop where
  len : rs.length = rws.length
  at_ : ∀ (i : Nat) a r, rs[i]? = some a → rws[i]? = some r → RowAt true H a r
theorem KeptRows.mono {H H' : Hp} {rs : List Addr} {rws : List Rx} (h : KeptRows H rs rws) (e : Same H H') : KeptRows H' rs rws := ⟨h.len, fun i a r x y => (h.at_ i a r x y).mono e⟩
def spFzRows : Sp := fun vs H Q _ => ∃ (a : Addr) (rs : List Addr) (rws : List Rx), vs = [.ref a] ∧ H a = some (.lst (rs.map V.ref)) ∧ RawRows H rs rws ∧ rws.length ≤ 100 ∧ ∀ (q : Addr) (qs : List Addr) (H' : Hp), Same H H' → TupP H' q (qs.map V.ref) → KeptRows H' qs rws → Q (.ref q) H' 
theorem sc_frozenW : FnScope ["thing", "part"] ["thing"] (defScope s_frozen) := ⟨rfl, rfl, rfl, by decide +kernel, rfl, by decide +kernel, by decide +kernel⟩
theorem ok_frozenW (T : Ctx w K mg) (H_frozen : Has P w K mg base 3 "frozen" ["thing"] spFzRow) : Has P w K mg base 4 "frozen" ["thing"] spFzRows := by
  obtain ⟨fd, F⟩ := T.D_frozen
  obtain ⟨fd_frozen, G_frozen, b_frozen⟩ := H_frozen.ex
  refine ⟨⟨fd, F.ok sc_frozenW (fun vs H Q E h => ?_) (fun cdv A outer s H vs Q E hr h => ?_), F.bindsN fun _ _ _ _ _ _ us hl => match us, hl with | [_], _ => rfl⟩, F.kp, T.g_frozen⟩
  · obtain ⟨a, rs, rws, rfl, ha, hR, hl, k⟩ := h; rfl
  · obtain ⟨a, rs, rws, rfl, ha, hR, hl, k⟩ := h
    have hr_frozen : Room 3 _ := hr.mono (by decide)
    have hu := hu_of hr
    refine ⟨_, PSs.nox (pss_cons (ps_if (pt_val (pe_callB call_isiT (by rfl) T.f_isinstance (by decide +kernel) (pa_cons (pv 0) (pa_cons (pe_tup (pa_cons (pe_bltn (v := .ty "list") (u := .type "list") rfl T.f_list (by decide +kernel) rfl) (pa_cons (pe_bltn (v := .ty "tuple") (u := .type "tuple") rfl T.f_tuple (by decide +kernel) rfl) pa_nil))) pa_nil)))) (pss_one (ps_ret (pe_callTy call_tupleP (by rfl) T.f_tuple (by decide +kernel) (pa_cons (pe_lc (own := [("part", 1)]) (g := gName 1) (tt := tYes) rfl sc_frozenW.nd (pi_list (pv 0)) (blkOk_by (N := ["thing", "part"]) (sc := defScope s_frozen) (by decide +kernel)) (fun _ _ _ _ _ => (pg_name (i := 1) sc_frozenW.nd rfl (Or.inl rfl))) (fun _ _ _ _ _ => pts_nil) (fun _ _ _ _ _ => (pe_call G_frozen hr_frozen (by rfl) H_frozen.gl H_frozen.kp b_frozen .nil pass0 (pa_cons (pv 1) pa_nil)))) pa_nil)))) pss_nil)
      (pss_one (ps_ret (pv 0)))), ?_⟩
    refine ⟨_, rfl, sz_of (by decide), fun tp htp => ?_⟩
    have s1 : Same H (upd H tp (.tup [.ty "list", .ty "tuple"])) := Same.new htp
    refine ⟨_, _, _, _, _, true, rfl, upd_same, .cons (.ty _) (.cons (.ty _) .nil), .base (.lst (s1 _ _ ha)), kit2 (p := true) (q := false) (by decide +kernel) (by decide +kernel) rfl, _, rfl, iteT ?_⟩
    refine ⟨_, rfl, a, rfl, ⟨_, SqL.of (s1 _ _ ha)⟩, fun D hD => ?_⟩
    refine lc_rows (walk_list (K := K) (a := a) (xs := rs.map V.ref)) hD rws (by rw [List.length_map, hR.len]; omega) (fun H2 s2 => SqL.of (s2 _ _ (s1 _ _ ha))) (fun i H2 y H3 hi s2 hy Qe qe => ?_) (fun H2 qs s2 hq hqs h2 => ?_)
    · obtain ⟨rfl, hy⟩ := hy
      obtain ⟨p1, hp1, rfl⟩ := map_get hy
      have hir : i < rws.length := by
        rw [← hR.len]
        exact (List.getElem?_eq_some_iff.mp hp1).1
      have er : rws[i]? = some rws[i] := List.getElem?_eq_getElem hir
      obtain ⟨l, h3, h4⟩ := ((hR.mono s1).mono s2).at_ i p1 rws[i] hp1 er
      refine ⟨rfl, _, rfl, p1, l, rws[i], rfl, h3, h4, fun q H4 s4 hk => qe q _ s4 (fun r e => ?_)⟩
      rw [er] at e
      rw [← Option.some.inj e]
      exact hk
    · rw [List.length_map, hR.len] at hq
      refine ⟨D, _, rfl, SqL.of h2, fun l o hl2 po => k l qs _ ((s1.trans s2).trans (Same.new hl2)) ⟨o, upd_same, po⟩ ⟨hq, fun i p r e1 e2 => (hqs i p r e1 e2).mono (Same.new hl2)⟩⟩

end
end W5
set_option Elab.async false
set_option linter.all false
set_option maxRecDepth 100000
set_option maxHeartbeats 4000000
namespace W5
open PySem PySem.Spec PyProof.Rows L2 RZ
section
variable {P : Program} {w : World} {K : PySem.W.Frag} {mg : Str → Option Value} {base : Heap}

/-- list.extend of any tuple object -/
theorem extend_tupG (l : Addr) (xs : Array Value) (n : Nat) (b : Addr) (ys : Array Value) (n2 : Nat) (dd : Option Addr) (ss : Array (Option Value))
    (h0 : ¬(!xs.isEmpty && Builtin.List.listTooLong (xs.size + ys.size)) = true) (h1 : xs.size ≤ sizeLine) (h2 : xs.size + ys.size ≤ sizeLine + 1) :
    Meets (Builtin.«list.extend» ⟨[.ref l, .ref b], []⟩) (fun _ R s => s.heap.get? l = some { cls := .type "list", dict := none, data := .seq xs n, slots := #[] } ∧
      s.heap.get? b = some { cls := .type "tuple", dict := dd, data := .seq ys n2, slots := ss } ∧
      R (.ok (.ret Value.none)) { s with heap := s.heap.update l (Obj.mapSeq fun x => x ++ ys), toks := s.toks }) := by
  refine .of_wp fun prog w A R s h => ?_
  obtain ⟨hp, g, d, tk, os⟩ := s
  obtain ⟨hl, hb, h⟩ := h
  have f1 := AutoSeq1.idx_int
  have f2 := AutoSeq1.sub_tuple_tuple
  have f3 := AutoSeq1.sub_list_list
  have f4 := AutoSeq1.sub_tuple_list
  have f5 := AutoSeq1.sub_list_tuple
  have hz : (xs ++ ys).size ≤ sizeLine + 1 := by
    rw [Array.size_append]
    exact h2
  wp_walk using (wpAny_updateSeq hl rfl (hz := h1) (_hz' := hz)), wpAny_loadPart' hl, wpAny_loadPart' hb
  exact ⟨_, rfl, h⟩
def rExtendT (K : PySem.W.Frag) : V → List V → Hp → VK → Prop := fun x vs H Q => ∃ l b xs zs, x = .ref l ∧ vs = [.ref b] ∧ H l = some (.lst xs) ∧ SqT K H b zs ∧ xs.length + zs.length ≤ sizeLine ∧ Q .non (upd H l (.lst (xs ++ zs)))
theorem mt_extendT {X : Cx} : MtM X "list.extend" (rExtendT X.K) := by
  intro pins s σ H x vs v us Q I rx rv h
  obtain ⟨l, b, xs, zs, rfl, rfl, hH, hB, hz, q⟩ := h
  cases rx
  obtain ⟨u, rfl, ru⟩ := rv.one
  cases ru
  obtain ⟨z, its, n, r, hl, e⟩ := I.lstM hH
  obtain ⟨its2, r2, ⟨o, ho, hc, n2, hd⟩, hl2⟩ := I.tuple hB
  have e3 : xs.length = its.length := hl
  have e4 : zs.length = its2.length := r2.length
  have hsz : its.toArray.size + its2.toArray.size ≤ sizeLine := by rw [List.size_toArray, List.size_toArray]; omega
  have hlong : ¬ (!its.toArray.isEmpty && Builtin.List.listTooLong (its.toArray.size + its2.toArray.size)) = true := by
    rw [notLongL hsz, Bool.and_false]
    exact Bool.false_ne_true
  obtain ⟨oc, od, dt, osl⟩ := o
  subst hc hd
  refine call_meets F.slot_list_extend ⟨_, e, rfl⟩ F.entry_list_extend (F.args_list_extend_2 _ _)
    (extend_tupG l its.toArray n b its2.toArray n2 od osl hlong (by rw [List.size_toArray]; omega) (by omega)) ⟨e, ho, ?_⟩
  refine ⟨.non, _, I.lset (its' := its ++ its2) hH e (by simp) (r.append r2) ?_, rfl, q⟩
  rw [List.length_append]
  omega

end
end W5
set_option Elab.async false
set_option linter.all false
set_option maxRecDepth 100000
set_option maxHeartbeats 4000000
namespace W5
open PySem PySem.Spec PyProof.Rows L2 RZ
section
variable {P : Program} {w : World} {K : PySem.W.Frag} {mg : Str → Option Value} {base : Heap}

/-- row_reads, row_sets of rows as they are kept -/
def spReadsK : Sp := fun vs H Q _ => ∃ (a : Addr) (r : Rx), vs = [.ref a] ∧ RowAt true H a r ∧ r.reads.length ≤ 1000 ∧ ∀ p H', Same H H' → H p = none → H' p = some (.lst (r.reads.map V.str)) → Q (.ref p) H'
theorem Rx.args_le {r : Rx} {bs : List Str} (h : r.args = some bs) : bs = r.reads := by
  cases r with
  | call x F cs => exact (Option.some.inj h).symm
  | _ => cases h
theorem sc_row_readsK : FnScope ["row", "names", "role", "part"] ["row"] (defScope s_row_reads) := ⟨rfl, rfl, rfl, by decide +kernel, rfl, by decide +kernel, by decide +kernel⟩
theorem ok_row_readsK (T : Ctx w K mg) : Has P w K mg base 1 "row_reads" ["row"] spReadsK := by
  obtain ⟨fd, F⟩ := T.D_row_reads
  refine ⟨⟨fd, F.ok sc_row_readsK (fun vs H Q E h => ?_) (fun cdv A outer s H vs Q E hr h => ?_), F.bindsN fun _ _ _ _ _ _ us hl => match us, hl with | [_], _ => rfl⟩, F.kp, T.g_row_reads⟩
  · obtain ⟨a, r, rfl, hRow, hle, k⟩ := h; rfl
  · obtain ⟨a, r, rfl, hRow, hle, k⟩ := h
    have hu := hu_of hr
    refine ⟨_, PSs.nox (pss_cons (ps_set (i := 1) sc_row_readsK.nd rfl (Or.inl rfl) (pe_lst pa_nil))
      (pss_cons (ps_for PassesOwn.never rfl (pi_zipA (by rfl) T.f_zip (pa_cons (pe_ix ix_kdict (pe_glob (v := .ref (He.ga K "ROLES")) rfl T.g_ROLES rfl) (pe_ix ix_tup (pv 0) pe_int (fun _ _ => rfl)) (fun _ _ => rfl)) (pa_cons (pe_slice sl_tup (pv 0) (po_some pe_int) po_none) pa_nil))) (pg_tup rfl (pgs_cons (pg_name (i := 2) sc_row_readsK.nd rfl (Or.inl rfl)) (pgs_cons (pg_name (i := 3) sc_row_readsK.nd rfl (Or.inl rfl)) pgs_nil)))
      (pss_one (ps_if (pt_cmpR op_eq (pv 2) pe_str (nomark _)) (pss_one (ps_expr (pe_bm PySem.F.plainAttrs_list PySem.F.slot_list_append PySem.F.type_list_append mt_append (pv 1) (pa_cons (pv 3) pa_nil)))) (pss_one (ps_if (pt_cmpR op_eq (pv 2) pe_str (nomark _)) (pss_one (ps_expr (pe_bm PySem.F.plainAttrs_list PySem.F.slot_list_extend PySem.F.type_list_extend mt_extendT (pv 1) (pa_cons (pv 3) pa_nil)))) pss_nil)))))
      (pss_one (ps_ret (pv 1))))), ?_⟩
    obtain ⟨m, ha, hm0⟩ := hRow
    have hm : ∀ bs, r.args = some bs → H m = some (.tup (bs.map V.str)) ∧ bs.length ≤ 1000 := fun bs e => ⟨hm0 bs e, by rw [Rx.args_le e]; exact hle⟩
    have hro : ∀ H, SqT K H (rolA K r.word) (r.roles.map V.str) := fun H => (T.role (rx_roles_mem r) H).2
    have hlp : (r.parts (.ref m)).length ≤ 3 := by cases r <;> simp [Rx.parts]
    have hlr := r.lens (.ref m)
    refine ⟨sz_of (by decide), fun l hl => ?_⟩
    have s0 : Same H (upd H l (.lst [])) := Same.new hl
    refine ⟨_, rfl, _, _, _, _, rfl, rfl, SqT.of (s0 _ _ ha), at0, _, _, _, rfl, rfl, T.roleK (rx_roles_mem r), ?_⟩
    refine ⟨_, rfl, 1, rfl, a, _, rfl, SqT.of (s0 _ _ ha), slice1.2, fun t ht => ?_⟩
    have s1 : Same (upd H l (.lst [])) (upd (upd H l (.lst [])) t (.tup (cutV (V.str r.word :: r.parts (.ref m)) (some 1) none))) := Same.new ht
    have ht1 : (upd (upd H l (.lst [])) t (.tup (cutV (V.str r.word :: r.parts (.ref m)) (some 1) none))) t = some (.tup (r.parts (.ref m))) := by
      rw [upd_same]
      exact congrArg (fun l => some (HO.tup l)) slice1.1
    have hnl : r.namesOf.length ≤ 1000 := by
      unfold Rx.namesOf
      cases e : r.args with
      | none => simp
      | some bs => exact (hm bs e).2
    refine ⟨_, t, _, r.parts (.ref m), rfl, .inr ⟨hro _, SqT.of ht1, ?_⟩⟩
    refine for_it (walk_zipT (K := K) (xs := r.roles.map V.str) (ys := r.parts (.ref m)) (n := (r.parts (.ref m)).length) (by rw [List.length_map, hlr, Nat.min_self])) (fun i σ H1 => ∃ v1 v2 : Option V, σ = [some (.ref a), some (.ref l), v1, v2] ∧ Same H H1 ∧ H1 t = some (.tup (r.parts (.ref m))) ∧ H1 l = some (.lst (rdG (r.namesOf.map V.str) (r.roles.take i) ((r.parts (.ref m)).take i)))) ⟨none, none, rfl, s0.trans s1, ht1, s1 _ _ upd_same⟩ (fun i σ H1 _ ⟨_, _, _, _, h3, _⟩ => ⟨hro _, SqT.of h3⟩) ?_ ?_
    · rintro i y σ H1 H2 hi ⟨v1, v2, rfl, s2, h3, h4⟩ ⟨u, x, v, rfl, hu0, rfl, hx, hv⟩
      obtain ⟨role, e, rfl⟩ := map_get (show (r.roles.map V.str)[i]? = some x from hx)
      have hv : (r.parts (.ref m))[i]? = some v := hv
      have s3 : Same H1 (upd H1 u (.tup [V.str role, v])) := Same.new hu0
      have hsn := rdG_snoc (as := r.namesOf.map V.str) e hv
      have hsz : (rdG (r.namesOf.map V.str) (r.roles.take i) ((r.parts (.ref m)).take i)).length ≤ 3003 := by
        refine Nat.le_trans (rdG_len _ _) ?_
        rw [List.length_take, List.length_map]
        have h6 : min i r.roles.length ≤ 3 := by omega
        exact Nat.le_trans (Nat.mul_le_mul h6 (Nat.succ_le_succ hnl)) (by decide)
      have keep : ∀ {o : List V}, (upd (upd H1 u (.tup [V.str role, v])) l (.lst o)) t = some (.tup (r.parts (.ref m))) := fun {o} => by
        rw [upd_ne]
        · exact s3 _ _ h3
        · intro z
          rw [z, h4] at h3
          cases h3
      refine ⟨u, _, rfl, SqT.of upd_same, rfl, _, _, rfl, _, _, rfl, rfl, ?_⟩
      refine ⟨_, rfl, rfl, _, rfl, ?_⟩
      by_cases c : role = "reads"
      · rw [if_pos c] at hsn
        refine ifT (decide_eq_true (by rw [c])) ?_
        refine ⟨_, rfl, .inl ⟨rfl, _, SqL.of (s3 _ _ h4)⟩, _, rfl, l, _, _, rfl, rfl, s3 _ _ h4, sz_lt (by omega), ?_⟩
        exact ⟨_, _, rfl, Same.mut (s2.trans s3) hl, keep, by rw [upd_same, hsn]⟩
      · rw [if_neg c] at hsn
        refine ifF (decide_eq_false (fun z => c (V.str.inj z))) ?_
        refine ⟨_, rfl, rfl, _, rfl, ?_⟩
        by_cases c2 : role = "many"
        · subst c2
          obtain ⟨bs, hbs, rfl⟩ := Rx.many_at e hv
          rw [if_pos rfl] at hsn
          have hn : r.namesOf = bs := by
            unfold Rx.namesOf
            rw [hbs]
            rfl
          rw [hn] at hsn hsz h4
          refine ifT (decide_eq_true rfl) ?_
          have hml := s3 _ _ (s2 _ _ (hm bs hbs).1)
          refine ⟨_, rfl, .inl ⟨rfl, _, SqL.of (s3 _ _ h4)⟩, _, rfl, l, m, _, _, rfl, rfl, s3 _ _ h4, SqT.of hml, sz_of (by have := (hm bs hbs).2; rw [List.length_map]; omega), ?_⟩
          refine ⟨_, _, rfl, Same.mut (s2.trans s3) hl, ?_, by rw [upd_same, hn, hsn]⟩
          rw [upd_ne]
          · exact s3 _ _ h3
          · intro z
            rw [z, h4] at h3
            cases h3
        · rw [if_neg c2, List.append_nil] at hsn
          refine ifF (decide_eq_false (fun z => c2 (V.str.inj z))) ?_
          refine ⟨_, _, rfl, s2.trans s3, s3 _ _ h3, ?_⟩
          rw [hsn]
          exact s3 _ _ h4
    · rintro σ H1 ⟨v1, v2, rfl, s2, h3, h4⟩
      refine ⟨_, rfl, k l _ s2 hl ?_⟩
      rw [h4, List.take_of_length_le (by rw [hlr]; exact Nat.le_refl _), List.take_length, r.rd _ _ (fun bs hb => by unfold Rx.namesOf; rw [hb]; rfl)]

end
end W5
set_option Elab.async false
set_option linter.all false
set_option maxRecDepth 100000
set_option maxHeartbeats 4000000
namespace W5
open PySem PySem.Spec PyProof.Rows L2 RZ
section
variable {P : Program} {w : World} {K : PySem.W.Frag} {mg : Str → Option Value} {base : Heap}

theorem binNo : ∀ kk : Fin 4, inV (V.str (binW kk)) [.str "if", .str "jump"] = false := by decide +kernel
theorem KindsG.mono {H H' : Hp} {ks us kv : List (Key × V)} {res : Str} {r : Rx} (h : KindsG K H ks us kv res r) (e : Same H H') : KindsG K H' ks us kv res r := by
  cases r with
  | call x F bs =>
    obtain ⟨fp, dx, pa, fs, ps, qs, rs, h1, h2, h3⟩ := h
    exact ⟨fp, dx, pa, fs, ps, qs, rs, h1, h2.mono e, h3⟩
  | _ => exact h
/-- a Function's variables and result, where it stands -/
structure FnG (K : PySem.W.Frag) (H : Hp) (p dx va : Addr) (fs : List (Str × V)) (kv : List (Key × V)) (res : Str) : Prop where
  ob : H p = some (.ins (He.ga K "Function") dx fs)
  vars : fs.lookup ("variables" : Str) = some (.ref va)
  res : fs.lookup ("result" : Str) = some (.str res)
  vd : H va = some (.dK kv)
theorem FnG.mono {H H' : Hp} {p dx va : Addr} {fs : List (Str × V)} {kv : List (Key × V)} {res : Str} (h : FnG K H p dx va fs kv res) (e : Same H H') : FnG K H' p dx va fs kv res := ⟨e _ _ h.ob, h.vars, h.res, e _ _ h.vd⟩
def spIsRowOfG (K : PySem.W.Frag) : Sp := fun vs H Q _ => ∃ (p fp dx va a m0 : Addr) (fs : List (Str × V)) (cs ks us kv : List (Key × V)) (res : Str) (r : Rx) (m : Nat), vs = [.ref p, .ref fp, .ref a, .int m] ∧ SrcH K H p cs ks us ∧ FnG K H fp dx va fs kv res ∧ H a = some (.tup (.str r.word :: r.parts (.ref m0))) ∧ ArgsAt H m0 r ∧
  FormG H cs ks us (.ref m0) r ∧ KindsG K H ks us kv res r ∧ (∀ x ∈ r.names, ∃ v, valV kv (Sum.inr x : Key) = some v) ∧ (∀ g, r.goal = some g → g < m) ∧ ∀ H', Same H H' → Q (.bl true) H' 
theorem sc_Source_is_row_of : FnScope ["self", "function", "row", "many", "names", "name"] ["self", "function", "row", "many"] (defScope s_Source_is_row_of) := ⟨rfl, rfl, rfl, by decide +kernel, rfl, by decide +kernel, by decide +kernel⟩
theorem ok_Source_is_row_of (T : Ctx w K mg) (H_is_row : Has P w K mg base 5 "is_row" ["source", "thing", "words"] (spIsRowG K)) (H_row_sets : Has P w K mg base 1 "row_sets" ["row"] spSetsG) (H_row_reads : Has P w K mg base 1 "row_reads" ["row"] spReadsG) (H_row_kinds_fit : Has P w K mg base 3 "row_kinds_fit" ["source", "row", "kinds", "result"] (spFitG K)) : HasM P w K mg base 6 "Source" "_is_row_of" ["self", "function", "row", "many"] (spIsRowOfG K) := by
  obtain ⟨fd, F⟩ := T.D_Source_is_row_of
  obtain ⟨fd_is_row, G_is_row, b_is_row⟩ := H_is_row.ex
  obtain ⟨fd_row_sets, G_row_sets, b_row_sets⟩ := H_row_sets.ex
  obtain ⟨fd_row_reads, G_row_reads, b_row_reads⟩ := H_row_reads.ex
  obtain ⟨fd_row_kinds_fit, G_row_kinds_fit, b_row_kinds_fit⟩ := H_row_kinds_fit.ex
  refine ⟨⟨fd, F.ok sc_Source_is_row_of (fun vs H Q E h => ?_) (fun cdv A outer s H vs Q E hr h => ?_), F.bindsN fun _ _ _ _ _ _ us hl => match us, hl with | [_, _, _, _], _ => rfl⟩⟩
  · obtain ⟨p, fp, dx, va, a, m0, fs, cs, ks, us, kv, res, r, m, rfl, S0, F0, ha, hm, hb, hk, hn, hg, k⟩ := h; rfl
  · obtain ⟨p, fp, dx, va, a, m0, fs, cs, ks, us, kv, res, r, m, rfl, S0, F0, ha, hm, hb, hk, hn, hg, k⟩ := h
    have hr_is_row : Room 5 _ := hr.mono (by decide)
    have hr_row_sets : Room 1 _ := hr.mono (by decide)
    have hr_row_reads : Room 1 _ := hr.mono (by decide)
    have hr_row_kinds_fit : Room 3 _ := hr.mono (by decide)
    have hu := hu_of hr
    refine ⟨_, PSs.nox (pss_cons (ps_if (pt_not (pt_val (pe_call G_is_row hr_is_row (by rfl) H_is_row.gl H_is_row.kp b_is_row .nil pass0 (pa_cons (pv 0) (pa_cons (pv 2) (pa_cons (pe_glob (v := .ref (He.ga K "ROW_WORDS")) rfl T.g_ROW_WORDS rfl) pa_nil)))))) (pss_one (ps_ret pe_bl)) pss_nil)
      (pss_cons (ps_if (PW.pt (pw_and (pt_cmpR op_in_seq (pe_ix ix_tup (pv 2) pe_int (fun _ _ => rfl)) (pe_tup (pa_cons pe_str (pa_cons pe_str pa_nil))) rfl) (pw_and1 (pt_not (pt_chain op_le op_lt pe_int (pe_ix ix_tup (pv 2) (pe_un un_neg pe_int) (fun _ _ => rfl)) (pv 3)))))) (pss_one (ps_ret pe_bl)) pss_nil)
      (pss_cons (ps_set (i := 4) sc_Source_is_row_of.nd rfl (Or.inl rfl) (pe_lst (pa_cons (pe_call G_row_sets hr_row_sets (by rfl) H_row_sets.gl H_row_sets.kp b_row_sets .nil pass0 (pa_cons (pv 2) pa_nil)) pa_nil)))
      (pss_cons (ps_expr (pe_bm PySem.F.plainAttrs_list PySem.F.slot_list_extend PySem.F.type_list_extend mt_extend (pv 4) (pa_cons (pe_call G_row_reads hr_row_reads (by rfl) H_row_reads.gl H_row_reads.kp b_row_reads .nil pass0 (pa_cons (pv 2) pa_nil)) pa_nil)))
      (pss_cons (ps_if (pt_not (pt_val (pe_callB (cr_all rfl) (by rfl) T.f_all (by decide +kernel) (pa_cons (pe_lc (own := [("name", 5)]) (g := gName 5) (tt := tYes) rfl sc_Source_is_row_of.nd (pi_list (pv 4)) (blkOk_by (N := ["self", "function", "row", "many", "names", "name"]) (sc := defScope s_Source_is_row_of) (by decide +kernel)) (fun _ _ _ _ _ => (pg_name (i := 5) sc_Source_is_row_of.nd rfl (Or.inl rfl))) (fun _ _ _ _ _ => pts_nil) (fun _ _ _ _ _ => (pe_or (pe_cmpR op_isN (pv 5) pe_non (nomark _)) (pe_one (pe_cmp (pc_din hu (pv 5) (pe_fldK (K := K) rfl (pv 1) (by rfl))) (by rfl)))))) pa_nil)))) (pss_one (ps_ret pe_bl)) pss_nil)
      (pss_one (ps_ret (pe_call G_row_kinds_fit hr_row_kinds_fit (by rfl) H_row_kinds_fit.gl H_row_kinds_fit.kp b_row_kinds_fit .nil pass0 (pa_cons (pv 0) (pa_cons (pv 2) (pa_cons (pe_fldK (K := K) rfl (pv 1) (by rfl)) (pa_cons (pe_fldK (K := K) rfl (pv 1) (by rfl)) pa_nil)))))))))))), ?_⟩
    refine ⟨_, rfl, _, rfl, p, cs, ks, us, a, .ref m0, r, rfl, S0, ha, hb, fun H1 s1 => ⟨_, rfl, iteF ?_⟩⟩
    have ha1 := s1 _ _ ha
    have F1 := F0.mono s1
    have hrl : r.reads.length ≤ 1003 := by
      cases r with
      | call x F bs =>
        have := (hm bs rfl).2
        simp only [Rx.reads]
        omega
      | _ => simp [Rx.reads]
    refine ⟨_, rfl, _, _, _, _, rfl, rfl, SqT.of ha1, at0, ?_⟩
    refine ⟨sz_of (by decide), fun t ht => ⟨t, _, rfl, .inr (SqT.of upd_same), rfl, rfl, ?_⟩⟩
    have s2 : Same H1 (upd H1 t (.tup [.str "if", .str "jump"])) := Same.new ht
    cases e : r.goal with
    | none =>
      refine ⟨_, rfl, ifF ?_ ?_⟩
      · cases r <;> first | rfl | exact binNo _ | cases e
      refine iteF ?_
      have ha2 := s2 _ _ ha1
      refine ⟨_, rfl, a, .ref m0, r, rfl, ha2, sz_of (by show 1 ≤ 100000; decide), fun l hl => ?_⟩
      have s3 : Same (upd H1 t (.tup [.str "if", .str "jump"])) (upd (upd H1 t (.tup [.str "if", .str "jump"])) l (.lst [oS r.sets])) := Same.new hl
      refine ⟨_, rfl, .inl ⟨rfl, _, SqL.of upd_same⟩, _, rfl, a, m0, r, rfl, s3 _ _ ha2, hm.mono (s1.trans (s2.trans s3)), fun q H3 s4 _ hq => ?_⟩
      refine ⟨l, q, _, _, rfl, rfl, s4 _ _ upd_same, hq, sz_of ?_, ?_⟩
      · have := hrl
        simp only [List.length_map, List.length_cons, List.length_nil]
        omega
      have s5 : Same H1 (upd H3 l (.lst ([oS r.sets] ++ r.reads.map V.str))) := s2.trans (Same.mut (s3.trans s4) hl)
      refine ⟨_, rfl, l, rfl, ⟨_, SqL.of upd_same⟩, fun D hD => ?_⟩
      have hin : ∀ y ∈ ([oS r.sets] ++ r.reads.map V.str), y = .non ∨ ∃ x ∈ r.names, y = .str x := by
        intro y hy
        simp only [List.mem_append, List.mem_singleton, List.mem_map] at hy
        unfold Rx.names
        rcases hy with rfl | ⟨x, hx, rfl⟩
        · cases e : r.sets with
          | none => exact .inl rfl
          | some x => exact .inr ⟨x, List.mem_cons_self, rfl⟩
        · cases e : r.sets with
          | none => exact .inr ⟨x, hx, rfl⟩
          | some z => exact .inr ⟨x, List.mem_cons_of_mem _ hx, rfl⟩
      refine lc_pure (walk_list (K := K) (a := l) (xs := [oS r.sets] ++ r.reads.map V.str)) hD (fun _ => .bl true) ?_ (fun H4 s6 => SqL.of (s6 _ _ upd_same)) (fun i H4 y H5 hi s6 hy Qe qe => ?_) (fun H4 s6 h4 => ?_)
      · have := hrl
        simp only [List.length_append, List.length_map, List.length_cons, List.length_nil]
        omega
      · obtain ⟨rfl, hy⟩ := hy
        have F2 := F1.mono (s5.trans s6)
        rcases hin y (List.mem_of_getElem? hy) with rfl | ⟨x, hx, rfl⟩
        · exact ⟨rfl, _, rfl, rfl, _, rfl, iteT (qe _ (Same.refl _))⟩
        · obtain ⟨v, hv⟩ := hn x hx
          refine ⟨rfl, _, rfl, rfl, _, rfl, iteF ⟨_, rfl, _, rfl, fp, _, dx, fs, _, rfl, F2.ob, T.c_Function, T.n_Function_variables, F2.vars, va, some v, rfl, ?_, qe _ (Same.refl _)⟩⟩
          rw [← hv]
          exact DGet.k (k := Sum.inr x) F2.vd
      refine ⟨D, (List.range ([oS r.sets] ++ r.reads.map V.str).length).map (fun _ => true), rfl, SqL.of (by rw [h4, List.map_map]; rfl), _, rfl, ifF (show (!((List.range ([oS r.sets] ++ r.reads.map V.str).length).map (fun _ => true)).all id) = false by rw [all_true]; rfl) ?_⟩
      have F3 := F1.mono (s5.trans s6)
      refine ⟨_, rfl, _, rfl, _, rfl, fp, _, dx, fs, _, rfl, F3.ob, T.c_Function, T.n_Function_variables, F3.vars, _, rfl, fp, _, dx, fs, _, rfl, F3.ob, T.c_Function, T.n_Function_result, F3.res, p, a, m0, va, cs, ks, us, kv, res, r, rfl, S0.mono (s1.trans (s5.trans s6)), s6 _ _ (s5 _ _ ha1), hm.mono (s1.trans (s5.trans s6)), F3.vd, hk.mono (s1.trans (s5.trans s6)), fun H' s7 => k H' ((s1.trans (s5.trans s6)).trans s7)⟩
    | some gg =>
      have hgg := hg gg e
      have hat : atI (V.str r.word :: r.parts (.ref m0)) (-1) = some (.int gg) := by
        cases r with
        | ifz x z =>
          have e2 : z = gg := Option.some.inj e
          rw [← e2]
          exact atI_last [V.str "if", V.str x] (.int z)
        | jump z =>
          have e2 : z = gg := Option.some.inj e
          rw [← e2]
          exact atI_last [V.str "jump"] (.int z)
        | _ => cases e
      refine ⟨_, rfl, ifT ?_ ?_⟩
      · cases r <;> first | rfl | cases e
      refine ⟨_, rfl, 1, rfl, _, _, _, _, rfl, rfl, SqT.of (s2 _ _ ha1), hat, _, _, rfl, rfl, _, rfl, ifT (decide_eq_true (by omega)) ⟨_, rfl, _, _, rfl, rfl, _, rfl, ?_⟩⟩
      have eqq : (!decide ((gg : Int) < (m : Int))) = false := by
        rw [decide_eq_true (by omega)]
        rfl
      refine ifF eqq ?_
      have ha2 := s2 _ _ ha1
      refine ⟨_, rfl, a, .ref m0, r, rfl, ha2, sz_of (by show 1 ≤ 100000; decide), fun l hl => ?_⟩
      have s3 : Same (upd H1 t (.tup [.str "if", .str "jump"])) (upd (upd H1 t (.tup [.str "if", .str "jump"])) l (.lst [oS r.sets])) := Same.new hl
      refine ⟨_, rfl, .inl ⟨rfl, _, SqL.of upd_same⟩, _, rfl, a, m0, r, rfl, s3 _ _ ha2, hm.mono (s1.trans (s2.trans s3)), fun q H3 s4 _ hq => ?_⟩
      refine ⟨l, q, _, _, rfl, rfl, s4 _ _ upd_same, hq, sz_of ?_, ?_⟩
      · have := hrl
        simp only [List.length_map, List.length_cons, List.length_nil]
        omega
      have s5 : Same H1 (upd H3 l (.lst ([oS r.sets] ++ r.reads.map V.str))) := s2.trans (Same.mut (s3.trans s4) hl)
      refine ⟨_, rfl, l, rfl, ⟨_, SqL.of upd_same⟩, fun D hD => ?_⟩
      have hin : ∀ y ∈ ([oS r.sets] ++ r.reads.map V.str), y = .non ∨ ∃ x ∈ r.names, y = .str x := by
        intro y hy
        simp only [List.mem_append, List.mem_singleton, List.mem_map] at hy
        unfold Rx.names
        rcases hy with rfl | ⟨x, hx, rfl⟩
        · cases e : r.sets with
          | none => exact .inl rfl
          | some x => exact .inr ⟨x, List.mem_cons_self, rfl⟩
        · cases e : r.sets with
          | none => exact .inr ⟨x, hx, rfl⟩
          | some z => exact .inr ⟨x, List.mem_cons_of_mem _ hx, rfl⟩
      refine lc_pure (walk_list (K := K) (a := l) (xs := [oS r.sets] ++ r.reads.map V.str)) hD (fun _ => .bl true) ?_ (fun H4 s6 => SqL.of (s6 _ _ upd_same)) (fun i H4 y H5 hi s6 hy Qe qe => ?_) (fun H4 s6 h4 => ?_)
      · have := hrl
        simp only [List.length_append, List.length_map, List.length_cons, List.length_nil]
        omega
      · obtain ⟨rfl, hy⟩ := hy
        have F2 := F1.mono (s5.trans s6)
        rcases hin y (List.mem_of_getElem? hy) with rfl | ⟨x, hx, rfl⟩
        · exact ⟨rfl, _, rfl, rfl, _, rfl, iteT (qe _ (Same.refl _))⟩
        · obtain ⟨v, hv⟩ := hn x hx
          refine ⟨rfl, _, rfl, rfl, _, rfl, iteF ⟨_, rfl, _, rfl, fp, _, dx, fs, _, rfl, F2.ob, T.c_Function, T.n_Function_variables, F2.vars, va, some v, rfl, ?_, qe _ (Same.refl _)⟩⟩
          rw [← hv]
          exact DGet.k (k := Sum.inr x) F2.vd
      refine ⟨D, (List.range ([oS r.sets] ++ r.reads.map V.str).length).map (fun _ => true), rfl, SqL.of (by rw [h4, List.map_map]; rfl), _, rfl, ifF (show (!((List.range ([oS r.sets] ++ r.reads.map V.str).length).map (fun _ => true)).all id) = false by rw [all_true]; rfl) ?_⟩
      have F3 := F1.mono (s5.trans s6)
      refine ⟨_, rfl, _, rfl, _, rfl, fp, _, dx, fs, _, rfl, F3.ob, T.c_Function, T.n_Function_variables, F3.vars, _, rfl, fp, _, dx, fs, _, rfl, F3.ob, T.c_Function, T.n_Function_result, F3.res, p, a, m0, va, cs, ks, us, kv, res, r, rfl, S0.mono (s1.trans (s5.trans s6)), s6 _ _ (s5 _ _ ha1), hm.mono (s1.trans (s5.trans s6)), F3.vd, hk.mono (s1.trans (s5.trans s6)), fun H' s7 => k H' ((s1.trans (s5.trans s6)).trans s7)⟩

end
end W5
set_option Elab.async false
set_option linter.all false
set_option maxRecDepth 100000
set_option maxHeartbeats 4000000
namespace W5
open PySem PySem.Spec PyProof.Rows L2 RZ
section
variable {P : Program} {w : World} {K : PySem.W.Frag} {mg : Str → Option Value} {base : Heap}

/-- all but what stands at p is as it was -/
def But (p : Addr) (H H' : Hp) : Prop := ∀ b u, H b = some u → b ≠ p → H' b = some u
theorem But.refl (p : Addr) (H : Hp) : But p H H := fun _ _ h _ => h
theorem But.trans {p : Addr} {H H1 H2 : Hp} (a : But p H H1) (b : But p H1 H2) : But p H H2 := fun c u h n => b c u (a c u h n) n
theorem But.of {p : Addr} {H H' : Hp} (e : Same H H') : But p H H' := fun b u h _ => e b u h
theorem But.upd {p : Addr} {H : Hp} {o : HO} : But p H (upd H p o) := fun b u h n => by
  rw [upd_ne n]
  exact h
theorem FormG.mono {H H' : Hp} {cs ks us : List (Key × V)} {l : V} {r : Rx} (h : FormG H cs ks us l r) (e : Same H H') : FormG H' cs ks us l r := fun i x v a b => (h i x v a b).mono e
theorem KeptRows.tupfn {p C dx : Addr} {fs fs' : List (Str × V)} {H : Hp} {qs : List Addr} {rws : List Rx} (h : KeptRows H qs rws) (hp : H p = some (.ins C dx fs)) : KeptRows (L2.upd H p (.ins C dx fs')) qs rws :=
  ⟨h.len, fun i a r e1 e2 => by
    obtain ⟨l, h1, h2⟩ := h.at_ i a r e1 e2
    refine ⟨l, ?_, fun bs e => ?_⟩
    · rw [upd_ne (ne_of h1 hp (by intro z; cases z))]
      exact h1
    · have q := h2 bs e
      rw [if_pos rfl] at q ⊢
      rw [upd_ne (ne_of q hp (by intro z; cases z))]
      exact q⟩
def spTakeRG (K : PySem.W.Frag) : Sp := fun vs H Q _ => ∃ (p fp dy va ra : Addr) (kk : Int) (gs : List (Str × V)) (cs ks us kv : List (Key × V)) (res : Str) (rs : List Addr) (rws : List Rx), vs = [.ref p, .int kk, .ref fp, .ref ra] ∧ SrcH K H p cs ks us ∧ gs.length ≤ 900 ∧ FnG K H fp dy va gs kv res ∧ H ra = some (.lst (rs.map V.ref)) ∧ RawRows H rs rws ∧
  (∀ (i : Nat) a r l, rs[i]? = some a → rws[i]? = some r → H a = some (.tup (.str r.word :: r.parts (.ref l))) → FormG H cs ks us (.ref l) r) ∧ (∀ r ∈ rws, KindsG K H ks us kv res r ∧ (∀ x ∈ r.names, ∃ v, valV kv (Sum.inr x : Key) = some v) ∧ ∀ g, r.goal = some g → g < rws.length) ∧
  (∃ r0 rl, rws = r0 ++ [rl] ∧ (rl.word = ("jump" : Str) ∨ rl.word = ("return" : Str))) ∧ rws.length ≤ 40 ∧
  ∀ (H' : Hp) (q : Addr) (qs : List Addr), But fp H H' → FnG K H' fp dy va (putF "body" (.ref q) gs) kv res → TupP H' q (qs.map V.ref) → KeptRows H' qs rws → Q .non H' 
theorem sc_Source_take_rows : FnScope ["self", "k", "function", "rows", "r", "row"] ["self", "k", "function", "rows"] (defScope s_Source_take_rows) := ⟨rfl, rfl, rfl, by decide +kernel, rfl, by decide +kernel, by decide +kernel⟩
theorem ok_Source_take_rows (T : Ctx w K mg) (H_Source_is_row_of : HasM P w K mg base 6 "Source" "_is_row_of" ["self", "function", "row", "many"] (spIsRowOfG K)) (H_frozen : Has P w K mg base 4 "frozen" ["thing"] spFzRows) : HasM P w K mg base 7 "Source" "_take_rows" ["self", "k", "function", "rows"] (spTakeRG K) := by
  obtain ⟨fd, F⟩ := T.D_Source_take_rows
  obtain ⟨fd_Source_is_row_of, G_Source_is_row_of, b_Source_is_row_of⟩ := H_Source_is_row_of.ex
  obtain ⟨fd_frozen, G_frozen, b_frozen⟩ := H_frozen.ex
  refine ⟨⟨fd, F.ok sc_Source_take_rows (fun vs H Q E h => ?_) (fun cdv A outer s H vs Q E hr h => ?_), F.bindsN fun _ _ _ _ _ _ us hl => match us, hl with | [_, _, _, _], _ => rfl⟩⟩
  · obtain ⟨p, fp, dy, va, ra, kk, gs, cs, ks, us, kv, res, rs, rws, rfl, S0, few0, F0, hra, hR, hf, hok, hlast, hle, k⟩ := h; rfl
  · obtain ⟨p, fp, dy, va, ra, kk, gs, cs, ks, us, kv, res, rs, rws, rfl, S0, few0, F0, hra, hR, hf, hok, hlast, hle, k⟩ := h
    have hr_Source_is_row_of : Room 6 _ := hr.mono (by decide)
    have hr_frozen : Room 4 _ := hr.mono (by decide)
    have hu := hu_of hr
    refine ⟨_, PSs.nox (pss_cons (ps_for PassesOwn.never rfl (pi_enum (by rfl) T.f_enumerate (pa_cons (pv 3) pa_nil)) (pg_tup rfl (pgs_cons (pg_name (i := 4) sc_Source_take_rows.nd rfl (Or.inl rfl)) (pgs_cons (pg_name (i := 5) sc_Source_take_rows.nd rfl (Or.inl rfl)) pgs_nil)))
      (pss_one (ps_if (pt_not (pt_val (pe_meth (pv 0) T.c_Source T.m_Source_is_row_of G_Source_is_row_of hr_Source_is_row_of b_Source_is_row_of .nil pass0 (pa_cons (pv 2) (pa_cons (pv 5) (pa_cons (pe_callB call_len_seq (by rfl) T.f_len (by decide +kernel) (pa_cons (pv 3) pa_nil)) pa_nil)))))) (pss_one ps_never) pss_nil)))
      (pss_cons (ps_if (pt_cmpR op_notIn_seq (pe_ix ix_tup (pe_ix ix_list (pv 3) (pe_un un_neg pe_int) (fun _ _ => rfl)) pe_int (fun _ _ => rfl)) (pe_tup (pa_cons pe_str (pa_cons pe_str pa_nil))) rfl) (pss_one ps_never) pss_nil)
      (pss_one (ps_fld (pv 2) (pe_call G_frozen hr_frozen (by rfl) H_frozen.gl H_frozen.kp b_frozen .nil pass0 (pa_cons (pv 3) pa_nil)) rfl)))), ?_⟩
    obtain ⟨dx, df, dk, du, fs, S⟩ := id S0
    have hlr : rs.length = rws.length := hR.len
    have nra : ra ≠ fp := ne_of hra F0.ob (by intro z; cases z)
    refine ⟨_, rfl, ra, _, rfl, SqL.of hra, ?_⟩
    refine for_it (walk_enum (K := K) (a := ra) (xs := rs.map V.ref)) (fun i σ H1 => ∃ v1 v2 : Option V, σ = [some (.ref p), some (.int kk), some (.ref fp), some (.ref ra), v1, v2] ∧ Same H H1) ⟨none, none, rfl, Same.refl H⟩ (fun i σ H1 _ ⟨_, _, _, s1⟩ => SqL.of (s1 _ _ hra)) ?_ ?_
    · rintro i y σ H1 H2 hi ⟨v1, v2, rfl, s1⟩ ⟨u, a, b, rfl, hu0, rfl, h1, h2⟩
      have h2 : (rs.map V.ref)[i]? = some b := h2
      obtain rfl : V.int (i : Nat) = a := Option.some.inj h1
      obtain ⟨c, hc, rfl⟩ := map_get h2
      have hir : i < rws.length := by
        rw [← hlr]
        exact (List.getElem?_eq_some_iff.mp hc).1
      have hr1 : rws[i]? = some rws[i] := List.getElem?_eq_getElem hir
      obtain ⟨l, hca, hm⟩ := hR.at_ i c _ hc hr1
      have s2 : Same H1 (upd H1 u (.tup [.int (i : Nat), .ref c])) := Same.new hu0
      have s12 := s1.trans s2
      obtain ⟨q1, q2, q3⟩ := hok rws[i] (List.getElem_mem hir)
      refine ⟨u, _, rfl, SqT.of upd_same, rfl, _, _, rfl, _, _, rfl, rfl, ?_⟩
      refine ⟨_, rfl, p, dx, fs, rfl, s12 _ _ S.ob, S.nm _ (by decide +kernel), _, rfl, _, rfl, _, rfl, _, _, rfl, .inl (SqL.of (s12 _ _ hra)), ?_⟩
      refine ⟨p, fp, dy, va, c, l, gs, cs, ks, us, kv, res, rws[i], (rs.map V.ref).length, rfl, S0.mono s12, F0.mono s12, s12 _ _ hca, hm.mono s12, (hf i c _ l hc hr1 hca).mono s12, q1.mono s12, q2, fun g e => by rw [List.length_map, hlr]; exact q3 g e, fun H3 s3 => ⟨_, rfl, iteF ?_⟩⟩
      exact ⟨_, _, rfl, s12.trans s3⟩
    · rintro σ H1 ⟨v1, v2, rfl, s1⟩
      have hl2 := hlast
      obtain ⟨r0, rl, erl, hword⟩ := hl2
      have hrl : rws[r0.length]? = some rl := by
        rw [erl]
        simp
      have hl0 : rs.length = r0.length + 1 := by
        rw [hlr, erl]
        simp
      obtain ⟨c, hc⟩ : ∃ c, rs[r0.length]? = some c := ⟨rs[r0.length], List.getElem?_eq_getElem _⟩
      obtain ⟨l, hcl, _⟩ := hR.at_ _ c rl hc hrl
      have hat : atI (rs.map V.ref) (-1) = some (.ref c) := by
        have e1 : rs = rs.take r0.length ++ [c] := by
          have e2 := take_snoc hc
          rw [← e2, List.take_of_length_le (by omega)]
        rw [e1, List.map_append]
        exact atI_last _ _
      refine ⟨_, rfl, 1, rfl, _, _, _, _, rfl, rfl, SqL.of (s1 _ _ hra), hat, _, _, _, _, rfl, rfl, SqT.of (s1 _ _ hcl), at0, sz_of (by show 2 ≤ 100000; decide), fun t ht => ⟨t, _, rfl, .inr (SqT.of upd_same), rfl, rfl, _, rfl, ifF ?_ ?_⟩⟩
      · show (if true = true then !inV (V.str rl.word) [.str "jump", .str "return"] else inV (V.str rl.word) [.str "jump", .str "return"]) = false
        rcases hword with e | e <;> rw [e] <;> rfl
      have s2 : Same H1 (upd H1 t (.tup [.str "jump", .str "return"])) := Same.new ht
      have s12 := s1.trans s2
      refine ⟨_, rfl, ra, rs, rws, rfl, s12 _ _ hra, hR.mono s12, by omega, fun q qs H3 s3 tq hqs => ?_⟩
      have s13 := s12.trans s3
      refine ⟨_, rfl, fp, _, dy, _, rfl, s13 _ _ F0.ob, T.c_Function, T.n_Function_body, Nat.lt_of_le_of_lt few0 (by decide), ?_⟩
      refine k _ q qs ((But.of s13).trans But.upd) ⟨upd_same, ?_, ?_, ?_⟩ ?_ (hqs.tupfn (s13 _ _ F0.ob))
      · rw [lookup_putF, if_neg (by decide +kernel)]
        exact F0.vars
      · rw [lookup_putF, if_neg (by decide +kernel)]
        exact F0.res
      · rw [upd_ne (ne_of F0.vd F0.ob (by intro z; cases z))]
        exact s13 _ _ F0.vd
      · obtain ⟨ob, e, pl⟩ := tq
        exact ⟨ob, by rw [upd_ne (ne_of e (s13 _ _ F0.ob) (by intro z; cases z))]; exact e, pl⟩

end
end W5
set_option Elab.async false
set_option linter.all false
set_option maxRecDepth 100000
set_option maxHeartbeats 4000000
namespace W5
open PySem PySem.Spec PyProof.Rows L2
section
variable {P : Program} {w : World} {K : PySem.W.Frag} {mg : Str → Option Value} {base : Heap}
/-- what stands behind the top of an error of the program -/
structure ErrOk (K : PySem.W.Frag) (C : Addr) (fs : List Str) : Prop where
  ae : AE.AeC K C
  xf : XfC K C
  no : ∀ f ∈ fs, PySem.W.findIn K (.ref C) f = some none
  init : PySem.W.findIn K (.ref C) "__init__" = some (some (.ref (He.ma K C "__init__")))
  ty : PySem.W.typeIn K (.ref (He.ma K C "__init__")) = some (.type "function")
  at_ : PySem.W.findIn K (.ref C) "__class__" = some (some (.builtin "object.__class__"))
  mro : PySem.W.mroIn K C (.type "object") = some true
theorem errB_ok {C : Addr} {fs : List Str} (h : errB K C fs = true) : ErrOk K C fs := by
  obtain ⟨e1, e⟩ := He.ba h
  obtain ⟨e2, e⟩ := He.ba e
  obtain ⟨e3, e⟩ := He.ba e
  obtain ⟨e4, e⟩ := He.ba e
  obtain ⟨e5, e⟩ := He.ba e
  obtain ⟨e6, e7⟩ := He.ba e
  exact ⟨AE.aeB_ok e1, xfB_ok e2, fun f m => of_decide_eq_true (List.all_eq_true.mp e3 f m), of_decide_eq_true e4, of_decide_eq_true e5, He.eqO_ok e6, of_decide_eq_true e7⟩
theorem Ctx.tail (T : Ctx w K mg) : (isaB K (He.ga K "Source") && (errB K (He.ga K "InvalidText") ["line"] && (errB K (He.ga K "InvalidSource") ["part", "at"] && isTB K))) = true := (He.ba (He.ba (He.ba (He.ba T.more).2).2).2).2
theorem Ctx.errT (T : Ctx w K mg) : ErrOk K (He.ga K "InvalidText") ["line"] := errB_ok (He.ba (He.ba T.tail).2).1
theorem Ctx.errS (T : Ctx w K mg) : ErrOk K (He.ga K "InvalidSource") ["part", "at"] := errB_ok (He.ba (He.ba (He.ba T.tail).2).2).1
theorem Ctx.isT (T : Ctx w K mg) : PySem.W.kitOne K (.ref (He.ga K "InvalidText")) (.ref (He.ga K "InvalidSource")) = some false ∧ PySem.W.kitOne K (.ref (He.ga K "InvalidText")) (.type "ArithmeticError") = some true := by
  obtain ⟨h1, h2⟩ := He.ba (show (decide (PySem.W.kitOne K (.ref (He.ga K "InvalidText")) (.ref (He.ga K "InvalidSource")) = some false) && decide (PySem.W.kitOne K (.ref (He.ga K "InvalidText")) (.type "ArithmeticError") = some true)) = true from (He.ba (He.ba (He.ba T.tail).2).2).2)
  exact ⟨of_decide_eq_true h1, of_decide_eq_true h2⟩
theorem Ctx.excT (T : Ctx w K mg) : ExcC K (He.ga K "InvalidText") := by
  have O := T.errT
  obtain ⟨_, e⟩ := He.ba (show (He.eqO (PySem.W.findIn K (.ref (He.ga K "Source")) "__class__") (some (some (.builtin "object.__class__"))) && (He.eqO (PySem.W.specialIn K (.builtin "object.__class__") "__get__") (some (some (.builtin "getset_descriptor.__get__"))) && (decide (PySem.W.takesIn K (.builtin "object.__class__") = some true) && (decide (PySem.W.mroIn K (He.ga K "Source") (.type "object") = some true) && decide (PySem.W.kitOne K (.ref (He.ga K "Source")) (.ref (He.ga K "Source")) = some true))))) = true from (He.ba T.tail).1)
  obtain ⟨e2, e⟩ := He.ba e
  obtain ⟨e3, _⟩ := He.ba e
  exact ⟨O.xf.ga, O.xf.gg, O.xf.exC, O.xf.hdC, O.at_, He.eqO_ok e2, of_decide_eq_true e3, O.mro⟩
def spTextInit (K : PySem.W.Frag) : Sp := fun vs H Q _ => ∃ (a C : Addr) (y : V), vs = [.ref a, y] ∧ ErrOk K C ["line"] ∧ H a = some (exo a C none) ∧ ∀ dx, H dx = none → dx ≠ a → Q .non (upd (upd H dx (exd dx [("line", y)])) a (exo a C (some dx)))
theorem sc_text_init : FnScope ["self", "line"] ["self", "line"] (defScope s_InvalidText_init) := ⟨rfl, rfl, rfl, by decide +kernel, rfl, by decide +kernel, by decide +kernel⟩
theorem ok_text_init (T : Ctx w K mg) : HasM P w K mg base 1 "InvalidText" "__init__" ["self", "line"] (spTextInit K) := by
  obtain ⟨fd, F⟩ := T.D_InvalidText_init
  refine ⟨⟨fd, F.ok sc_text_init (fun vs H Q E h => ?_) (fun cdv A outer s H vs Q E hr h => ?_), F.bindsN fun _ _ _ _ _ _ us hl => match us, hl with | [_, _], _ => rfl⟩⟩
  · obtain ⟨a, C, y, rfl, _⟩ := h
    rfl
  · obtain ⟨a, C, y, rfl, O, ha, k⟩ := h
    refine ⟨_, PSs.nox (pss_one (AE.ps_ast (pv 0) (pv 1))), ?_⟩
    exact ⟨_, rfl, _, rfl, a, C, rfl, O.ae, O.no _ (by simp), ha, fun dx n ne => k dx n ne⟩
def spSrcErr (K : PySem.W.Frag) : Sp := fun vs H Q _ => ∃ (a C : Addr) (y z : V), vs = [.ref a, y, z] ∧ ErrOk K C ["part", "at"] ∧ H a = some (exo a C none) ∧ ∀ dx, H dx = none → dx ≠ a → Q .non (upd (upd (upd H dx (exd dx [("part", y)])) a (exo a C (some dx))) dx (exd dx [("at", z), ("part", y)]))
theorem sc_src_err : FnScope ["self", "part", "at"] ["self", "part", "at"] (defScope s_InvalidSource_init) := ⟨rfl, rfl, rfl, by decide +kernel, rfl, by decide +kernel, by decide +kernel⟩
theorem ok_src_err (T : Ctx w K mg) : HasM P w K mg base 1 "InvalidSource" "__init__" ["self", "part", "at"] (spSrcErr K) := by
  obtain ⟨fd, F⟩ := T.D_InvalidSource_init
  refine ⟨⟨fd, F.ok sc_src_err (fun vs H Q E h => ?_) (fun cdv A outer s H vs Q E hr h => ?_), F.bindsN fun _ _ _ _ _ _ us hl => match us, hl with | [_, _, _], _ => rfl⟩⟩
  · obtain ⟨a, C, y, z, rfl, _⟩ := h
    rfl
  · obtain ⟨a, C, y, z, rfl, O, ha, k⟩ := h
    refine ⟨_, PSs.nox (pss_cons (AE.ps_ast (pv 0) (pv 1)) (pss_one (AE.ps_ast2 (pv 0) (pv 2)))), ?_⟩
    refine ⟨_, rfl, _, rfl, a, C, rfl, O.ae, O.no _ (by simp), ha, fun dx n ne => ?_⟩
    exact ⟨_, rfl, _, rfl, a, C, dx, _, rfl, O.ae, O.no _ (by simp), upd_same, by rw [upd_ne ne, upd_same], by show 1 ≤ 900; decide, k dx n ne⟩
theorem text_made {C a : Addr} {y : V} {H1 : Hp} {Q : XK} (hn : H1 a = none) (O : ErrOk K C ["line"]) (k : ∀ d, H1 d = none → Q (.ref C) (some d) (upd H1 d (.xd [("line", y)]))) :
    spTextInit K [.ref a, y] (upd H1 a (exo a C none)) (fun v H2 => v = .non ∧ ∃ (d : Addr) (fs : List (Str × V)), H2 a = some (exo a C (some d)) ∧ H2 d = some (exd d fs) ∧ H1 d = none ∧ Q (.ref C) (some d) (upd (del H2 a) d (.xd fs))) (fun _ _ _ => False) := by
  refine ⟨a, C, y, rfl, O, upd_same, fun d n ne => ⟨rfl, d, _, upd_same, by rw [upd_ne ne, upd_same], by rw [upd_ne ne] at n; exact n, ?_⟩⟩
  have n1 : H1 d = none := by rw [upd_ne ne] at n; exact n
  have e : upd (del (upd (upd (upd H1 a (exo a C none)) d (exd d [("line", y)])) a (exo a C (some d))) a) d (.xd [("line", y)]) = upd H1 d (.xd [("line", y)]) := by
    funext b
    by_cases c : b = d
    · rw [c, upd_same, upd_same]
    · rw [upd_ne c, upd_ne c]
      by_cases c2 : b = a
      · rw [c2, del_same, hn]
      · rw [del_ne c2, upd_ne c2, upd_ne c, upd_ne c2]
  rw [e]
  exact k d n1
theorem src_made {C a : Addr} {y z : V} {H1 : Hp} {Q : XK} (hn : H1 a = none) (O : ErrOk K C ["part", "at"]) (k : ∀ d, H1 d = none → Q (.ref C) (some d) (upd H1 d (.xd [("at", z), ("part", y)]))) :
    spSrcErr K [.ref a, y, z] (upd H1 a (exo a C none)) (fun v H2 => v = .non ∧ ∃ (d : Addr) (fs : List (Str × V)), H2 a = some (exo a C (some d)) ∧ H2 d = some (exd d fs) ∧ H1 d = none ∧ Q (.ref C) (some d) (upd (del H2 a) d (.xd fs))) (fun _ _ _ => False) := by
  refine ⟨a, C, y, z, rfl, O, upd_same, fun d n ne => ⟨rfl, d, _, by rw [upd_ne ne.symm, upd_same], upd_same, by rw [upd_ne ne] at n; exact n, ?_⟩⟩
  have n1 : H1 d = none := by rw [upd_ne ne] at n; exact n
  have e : upd (del (upd (upd (upd (upd H1 a (exo a C none)) d (exd d [("part", y)])) a (exo a C (some d))) d (exd d [("at", z), ("part", y)])) a) d (.xd [("at", z), ("part", y)]) = upd H1 d (.xd [("at", z), ("part", y)]) := by
    funext b
    by_cases c : b = d
    · rw [c, upd_same, upd_same]
    · rw [upd_ne c, upd_ne c]
      by_cases c2 : b = a
      · rw [c2, del_same, hn]
      · rw [del_ne c2, upd_ne c, upd_ne c2, upd_ne c, upd_ne c2]
  rw [e]
  exact k d n1
/-- raise C(e, ..) of an error of the program -/
theorem ps_raiseE {X : Cx} {x : Str} {C : Addr} {fs ps : List Str} {sp : Sp} {e : Expr} {es : List Expr} {ta : TA} {W : WX} {p pos pos2 : Pos} {k : Nat} {fd : FuncData} (hc : X.calm = true) (tk : Takes X W) (O : ErrOk X.K C fs)
    (F : FnOk X.prog X.w X.K X.mg X.base CX0 k (He.ma X.K C "__init__") fd ps sp) (b : Binds X.K fd ps []) (hr : Room (k + 1) X.A) (hg : Gl X x)
    (hm : X.mg x = some (.ref C)) (ha : PA X (e :: es) ta) (hd : (x == ("__debug__" : Str)) = false := by decide) (h1 : starEach (e :: es) X.env = (false, eval e X.env) :: starEach es X.env := by rfl) (h2 : (backTo pos (starEach es X.env)).any (·.1) = false := by rfl) :
    PS X (.Raise (some (.Call (.Name x p) (e :: es) [] pos)) none pos2) (fun _ σ H => tMkO C sp [] ta σ H fun cls d H' => W cls d σ H') :=
  ps_raise hc tk (AE.pmk_ae O.ae O.init O.ty F hr b pass0 hg hm ha hd h1 h2)
/-- a def that keeps its promise and may raise -/
structure HasX (P : Program) (w : World) (K : PySem.W.Frag) (mg : Str → Option Value) (base : Heap) (k : Nat) (x : Str) (ps : List Str) (sp : Sp) : Prop where
  ex : ∃ fd, FnOk P w K mg base (L2.CX P w) k (He.ga K x) fd ps sp ∧ Binds K fd ps []
  kp : PySem.W.keepIn K (.ref (He.ga K x)) = true
  gl : mg x = some (.ref (He.ga K x))
structure HasMX (P : Program) (w : World) (K : PySem.W.Frag) (mg : Str → Option Value) (base : Heap) (k : Nat) (C m : Str) (ps : List Str) (sp : Sp) : Prop where
  ex : ∃ fd, FnOk P w K mg base (L2.CX P w) k (He.ma K (He.ga K C) m) fd ps sp ∧ Binds K fd ps []
/-- what is wished of InvalidText(i), of InvalidSource(part, at) -/
def LineE (K : PySem.W.Frag) (H : Hp) (i : Int) (E : XK) : Prop := ∀ d, H d = none → E (.ref (He.ga K "InvalidText")) (some d) (upd H d (.xd [("line", .int i)]))
def SrcE (K : PySem.W.Frag) (H : Hp) (y z : V) (E : XK) : Prop := ∀ d, H d = none → E (.ref (He.ga K "InvalidSource")) (some d) (upd H d (.xd [("at", z), ("part", y)]))
end
end W5
set_option Elab.async false
set_option linter.all false
set_option maxRecDepth 100000
set_option maxHeartbeats 4000000
namespace W5
open PySem PySem.Spec PyProof.Rows L2
section
variable {P : Program} {w : World} {K : PySem.W.Frag} {mg : Str → Option Value} {base : Heap}

theorem cutS_len (z : Str) (lo hi : Option Int) : (cutS z lo hi).length ≤ z.length := by
  show (((z.cps.toList.drop (HT.sIx z.length 0 lo)).take (HT.sIx z.length z.length hi - HT.sIx z.length 0 lo)).toArray).size ≤ z.cps.size
  rw [List.size_toArray, List.length_take, List.length_drop, Array.length_toList]
  omega
/-- the words of a line -/
def wordsOf (line : Str) : Bool × List Str :=
  (Txt.startswith line "  ", if inV (.str "") ((Txt.split (if Txt.startswith line "  " = true then cutS line (some 2) none else line) " ").map V.str) = true then [] else Txt.split (if Txt.startswith line "  " = true then cutS line (some 2) none else line) " ")
def spWords : Sp := fun vs H Q _ => ∃ line, vs = [.str line] ∧ line.length ≤ 50000 ∧ ∀ (p a : Addr) (H' : Hp), Same H H' → H p = none → H a = none → H' p = some (.tup [.bl (wordsOf line).1, .ref a]) → H' a = some (.lst ((wordsOf line).2.map V.str)) → Q (.ref p) H'
/-- a text's lines, told -/
def told (t : Str) : List (Bool × List Str) := (Txt.split t "\n").dropLast.map wordsOf ++ (if (Txt.split t "\n").getLastD "" = "" then [] else [(false, [])])
def LinesAt (F H : Hp) (ps : List Addr) (ls : List (Bool × List Str)) : Prop := ps.length = ls.length ∧ ∀ (i : Nat) p l, ps[i]? = some p → ls[i]? = some l → ∃ a, F a = none ∧ H p = some (.tup [.bl l.1, .ref a]) ∧ H a = some (.lst (l.2.map V.str))
def spLines (K : PySem.W.Frag) : Sp := fun vs H Q E => ∃ v, vs = [v] ∧ ((∃ t, v = .str t ∧ t.length ≤ 50000 ∧ (∀ l ∈ Txt.split t "\n", l.length ≤ 50000) ∧ Txt.split t "\n" ≠ [] ∧ (Txt.split t "\n").length ≤ 50000 ∧ ∀ (q : Addr) (ps : List Addr) (H' : Hp), Same H H' → H q = none → H' q = some (.lst (ps.map V.ref)) → LinesAt H H' ps (told t) → Q (.ref q) H') ∨
  ((∃ c, TyX K H v c ∧ PySem.W.kitOne K c (.type "str") = some false) ∧ LineE K H (-1) E))
theorem none_of {H H' : Hp} {b : Addr} (e : Same H H') (h : H' b = none) : H b = none := by
  cases c : H b with
  | none => rfl
  | some o =>
    rw [e _ _ c] at h
    cases h
theorem flat_strs (l : List Str) : (l.map V.str).all flatV = true := by
  rw [List.all_map]
  exact List.all_eq_true.mpr fun _ _ => rfl
theorem sc_words_of : FnScope ["line", "inner", "words"] ["line"] (defScope s_words_of) := ⟨rfl, rfl, rfl, by decide +kernel, rfl, by decide +kernel, by decide +kernel⟩
theorem ok_words_of (T : Ctx w K mg) : Has P w K mg base 1 "_words_of" ["line"] spWords := by
  obtain ⟨fd, F⟩ := T.D_words_of
  refine ⟨⟨fd, F.ok sc_words_of (fun vs H Q E h => ?_) (fun cdv A outer s H vs Q E hr h => ?_), F.bindsN fun _ _ _ _ _ _ us hl => match us, hl with | [_], _ => rfl⟩, F.kp, T.g_words_of⟩
  · obtain ⟨line, rfl, hl, k⟩ := h; rfl
  · obtain ⟨line, rfl, hl, k⟩ := h
    have hu := hu_of hr
    obtain ⟨ti, e_INDENT⟩ := T.s_INDENT
    refine ⟨_, PSs.nox (pss_cons (ps_set (i := 1) sc_words_of.nd rfl (Or.inl rfl) (pe_m1 PySem.F.slot_str_startswith PySem.F.type_str_startswith mt_startswith (pv 0) (pe_glob (v := .str "  ") rfl e_INDENT ⟨_, rfl⟩)))
      (pss_cons (ps_set (i := 2) sc_words_of.nd rfl (Or.inl rfl) (pe_ifExp (pt_val (pv 1)) (pe_split (pe_slice sl_str (pv 0) (po_some (pe_callB call_len_str (by rfl) T.f_len (by decide +kernel) (pa_cons (pe_glob (v := .str "  ") rfl e_INDENT ⟨_, rfl⟩) pa_nil))) po_none) pe_str) (pe_split (pv 0) pe_str)))
      (pss_one (ps_ret (pe_tup (pa_cons (pv 1) (pa_cons (pe_ifExp (pt_cmpR op_in_seq pe_str (pv 2) rfl) (pe_lst pa_nil) (pv 2)) pa_nil))))))), ?_⟩
    have hz : line.length ≤ sizeLine := sz_of (by omega)
    unfold wordsOf at k
    refine ⟨_, rfl, ⟨_, rfl⟩, _, _, rfl, rfl, ?_⟩
    generalize hb : Txt.startswith line "  " = b at k ⊢
    cases b with
    | true =>
      refine ⟨_, rfl, _, rfl, iteT ⟨_, rfl, _, rfl, sz_of (by show 2 ≤ 100000; decide), 2, rfl, line, rfl, hz, ⟨_, rfl⟩, _, _, rfl, rfl, by decide +kernel, sz_of (by have := cutS_len line (some 2) none; omega), fun a ha => ?_⟩⟩
      have ez : (if true = true then cutS line (some 2) none else line) = cutS line (some 2) none := rfl
      rw [ez] at k
      refine ⟨_, rfl, _, rfl, a, _, rfl, .inl (SqL.of upd_same), rfl, flat_strs _, _, rfl, ?_⟩
      generalize hz2 : Txt.split (cutS line (some 2) none) " " = ws at k ⊢
      cases hv : inV (V.str "") (ws.map V.str) with
      | true =>
        rw [hv] at k
        refine ifT rfl ⟨sz_of (by show 0 ≤ 100000; decide), fun e he => ⟨sz_of (by show 2 ≤ 100000; decide), fun p hp => ?_⟩⟩
        have s1 := Same.new (o := .lst (ws.map V.str)) ha
        have s2 := Same.new (o := .lst []) he
        have s3 := Same.new (o := .tup [.bl true, .ref e]) hp
        exact k p e _ ((s1.trans s2).trans s3) (none_of (s1.trans s2) hp) (none_of s1 he) upd_same (s3 _ _ upd_same)
      | false =>
        rw [hv] at k
        refine ifF rfl ⟨_, rfl, sz_of (by show 2 ≤ 100000; decide), fun p hp => ?_⟩
        have s1 := Same.new (o := .lst (ws.map V.str)) ha
        have s3 := Same.new (o := .tup [.bl true, .ref a]) hp
        exact k p a _ (s1.trans s3) (none_of s1 hp) ha upd_same (s3 _ _ upd_same)
    | false =>
      refine ⟨_, rfl, _, rfl, iteF ⟨_, rfl, ⟨_, rfl⟩, _, _, rfl, rfl, by decide +kernel, sz_of (by omega), fun a ha => ?_⟩⟩
      have ez : (if false = true then cutS line (some 2) none else line) = line := rfl
      rw [ez] at k
      refine ⟨_, rfl, _, rfl, a, _, rfl, .inl (SqL.of upd_same), rfl, flat_strs _, _, rfl, ?_⟩
      generalize hz2 : Txt.split line " " = ws at k ⊢
      cases hv : inV (V.str "") (ws.map V.str) with
      | true =>
        rw [hv] at k
        refine ifT rfl ⟨sz_of (by show 0 ≤ 100000; decide), fun e he => ⟨sz_of (by show 2 ≤ 100000; decide), fun p hp => ?_⟩⟩
        have s1 := Same.new (o := .lst (ws.map V.str)) ha
        have s2 := Same.new (o := .lst []) he
        have s3 := Same.new (o := .tup [.bl false, .ref e]) hp
        exact k p e _ ((s1.trans s2).trans s3) (none_of (s1.trans s2) hp) (none_of s1 he) upd_same (s3 _ _ upd_same)
      | false =>
        rw [hv] at k
        refine ifF rfl ⟨_, rfl, sz_of (by show 2 ≤ 100000; decide), fun p hp => ?_⟩
        have s1 := Same.new (o := .lst (ws.map V.str)) ha
        have s3 := Same.new (o := .tup [.bl false, .ref a]) hp
        exact k p a _ (s1.trans s3) (none_of s1 hp) ha upd_same (s3 _ _ upd_same)
/-- elements of which something is known that lasts -/
theorem lc_exP {J : It} {n : Nat} {G : Hp → Prop} {Y : Nat → Hp → V → Hp → Prop} (w : Walk J n G Y) {g : TG} {te : TE} {vs : List Nat} {σ : L2.St} {H0 : Hp} {D : Addr} {Qd : Hp → Prop} (hD : H0 D = none) (P : Nat → V → Hp → Prop) (hm : ∀ i v H H', (∀ b u, H b = some u → b ≠ D → H' b = some u) → H D ≠ none → P i v H → P i v H') (hn : n < 100000)
    (hG : ∀ H, Same H0 H → G H)
    (hs : ∀ i H x H', i < n → Same H0 H → H D ≠ none → Y i H x H' → ∀ Qe : VK, (∀ v H4, Same H H4 → P i v H4 → Qe v H4) → g x (wipe σ vs) H' fun σ2 H2 => wipe σ2 vs = wipe σ vs ∧ te σ2 H2 Qe)
    (hd : ∀ (H : Hp) (xs : List V), Same H0 H → xs.length = n → (∀ (i : Nat) v, xs[i]? = some v → P i v H) → H D = some (.lst xs) → Qd H) :
    ∃ W : Nat → Nat → Hp → Prop, (∃ m, W 0 m (upd H0 D (.lst []))) ∧ ∀ i m H, W i m H →
      (J.stop i H ∧ Qd H) ∨ (J.go i H ∧ ∃ Nx : Hp → Prop, (∀ H', Nx H' → ∃ m', m' < m ∧ W (i + 1) m' H') ∧ ∀ x H', J.yld i H x H' → g x (wipe σ vs) H' fun σ2 H2 => wipe σ2 vs = wipe σ vs ∧ tYes σ2 H2 fun b H3 =>
        if b = true then te σ2 H3 fun y H4 => ∃ acc, H4 D = some (.lst acc) ∧ acc.length < sizeLine ∧ Nx (upd H4 D (.lst (acc ++ [y]))) else Nx H3) := by
  refine lc_it w (fun i H => Same H0 H ∧ ∃ xs : List V, xs.length = i ∧ (∀ (j : Nat) v, xs[j]? = some v → P j v H) ∧ H D = some (.lst xs)) ⟨Same.new hD, [], rfl, fun j v e => by simp at e, upd_same⟩ (fun i H _ p => hG H p.1) (fun i x H H' hi q y => ?_) (fun H q => ?_)
  · obtain ⟨s1, xs, hl, hx, hDD⟩ := q
    have q := hs i H x H' hi s1 (by rw [hDD]; intro z; cases z) y (fun y H4 => ∃ acc, H4 D = some (.lst acc) ∧ acc.length < sizeLine ∧ (Same H0 (upd H4 D (.lst (acc ++ [y]))) ∧ ∃ xs : List V, xs.length = i + 1 ∧ (∀ (j : Nat) v, xs[j]? = some v → P j v (upd H4 D (.lst (acc ++ [y])))) ∧ upd H4 D (.lst (acc ++ [y])) D = some (.lst xs))) (fun v H4 s4 pv => ?_)
    · exact q
    · have hD4 := s4 _ _ hDD
      refine ⟨xs, hD4, sz_lt (by omega), Same.mut (s1.trans s4) hD, xs ++ [v], by rw [List.length_append, hl]; rfl, fun j z m => ?_, upd_same⟩
      have kp : ∀ b u, H4 b = some u → b ≠ D → upd H4 D (.lst (xs ++ [v])) b = some u := fun b u q n => by
        rw [upd_ne n]
        exact q
      by_cases c : j < xs.length
      · rw [List.getElem?_append_left c] at m
        refine hm j z H4 _ kp (by rw [hD4]; intro z; cases z) (hm j z H H4 (fun b u q _ => s4 _ _ q) (by rw [hDD]; intro z; cases z) (hx j z m))
      · have cj : j = xs.length := by
          have := (List.getElem?_eq_some_iff.mp m).1
          rw [List.length_append, List.length_singleton] at this
          omega
        subst cj
        rw [List.getElem?_append_right (Nat.le_refl _), Nat.sub_self] at m
        rw [← Option.some.inj m, hl]
        exact hm i v H4 _ kp (by rw [hD4]; intro z; cases z) pv
  · obtain ⟨s1, xs, hl, hx, hDD⟩ := q
    exact hd H xs s1 hl hx hDD
/-- a told line, apart from D -/
def LineAt (F : Hp) (D : Addr) (l : Bool × List Str) (v : V) (H : Hp) : Prop := ∃ p a, v = .ref p ∧ p ≠ D ∧ a ≠ D ∧ F a = none ∧ H p = some (.tup [.bl l.1, .ref a]) ∧ H a = some (.lst (l.2.map V.str))
theorem LineAt.keep {F : Hp} {D : Addr} {l : Bool × List Str} {v : V} {H H' : Hp} (h : LineAt F D l v H) (k : ∀ b u, H b = some u → b ≠ D → H' b = some u) : LineAt F D l v H' := by
  obtain ⟨p, a, e, n1, n2, f, h1, h2⟩ := h
  exact ⟨p, a, e, n1, n2, f, k _ _ h1 n1, k _ _ h2 n2⟩
theorem lines_of {F : Hp} {D : Addr} {H : Hp} : ∀ {xs : List V} {ls : List (Bool × List Str)}, xs.length = ls.length → (∀ (i : Nat) v l, xs[i]? = some v → ls[i]? = some l → LineAt F D l v H) → ∃ ps : List Addr, xs = ps.map V.ref ∧ LinesAt F H ps ls
  | [], [], _, _ => ⟨[], rfl, rfl, fun i p l e => by simp at e⟩
  | [], _ :: _, hl, _ => by cases hl
  | _ :: _, [], hl, _ => by cases hl
  | x :: xs, l :: ls, hl, h => by
    obtain ⟨p, a, rfl, _, _, f0, h1, h2⟩ := h 0 x l rfl rfl
    obtain ⟨ps, rfl, e1, e2⟩ := lines_of (xs := xs) (ls := ls) (by simpa using hl) (fun i v l a b => h (i + 1) v l (by simpa using a) (by simpa using b))
    refine ⟨p :: ps, rfl, by rw [List.length_cons, List.length_cons, e1], fun i q m a1 b1 => ?_⟩
    cases i with
    | zero =>
      rw [← Option.some.inj a1, ← Option.some.inj b1]
      exact ⟨a, f0, h1, h2⟩
    | succ i => exact e2 i q m (by simpa using a1) (by simpa using b1)
theorem sc_text_lines : FnScope ["text", "lines", "rest", "told", "line"] ["text"] (defScope s_text_lines) := ⟨rfl, rfl, rfl, by decide +kernel, rfl, by decide +kernel, by decide +kernel⟩
theorem ok_text_lines (T : Ctx w K mg) (H_errT : HasM P w K mg base 1 "InvalidText" "__init__" ["self", "line"] (spTextInit K)) (H_words_of : Has P w K mg base 1 "_words_of" ["line"] spWords) : HasX P w K mg base 3 "text_lines" ["text"] (spLines K) := by
  obtain ⟨fd, F⟩ := T.D_text_lines
  obtain ⟨fd_words_of, G_words_of, b_words_of⟩ := H_words_of.ex
  refine ⟨⟨fd, F.ok sc_text_lines (fun vs H Q E h => ?_) (fun cdv A outer s H vs Q E hr h => ?_), F.bindsN fun _ _ _ _ _ _ us hl => match us, hl with | [_], _ => rfl⟩, F.kp, T.g_text_lines⟩
  · obtain ⟨v, rfl, k⟩ := h; rfl
  · obtain ⟨v, rfl, k⟩ := h
    have hr_words_of : Room 1 _ := hr.mono (by decide)
    have hu := hu_of hr
    obtain ⟨fd_errT, G_errT, b_errT⟩ := H_errT.ex
    have hr_errT : Room 2 _ := hr.mono (by decide)
    refine ⟨_, (pss_cons (ps_if (pt_not (pt_val (pe_callB call_isi (by rfl) T.f_isinstance (by decide +kernel) (pa_cons (pv 0) (pa_cons (pe_bltn (v := .ty "str") (u := .type "str") rfl T.f_str (by decide +kernel) rfl) pa_nil))))) (pss_one (ps_raiseE (x := "InvalidText") rfl (takes_of rfl rfl rfl rfl) T.errT G_errT b_errT hr_errT rfl T.g_InvalidText (by exact (pa_cons (pe_un un_neg pe_int) pa_nil)))) pss_nil)
      (pss_cons (ps_set (i := 1) sc_text_lines.nd rfl (Or.inl rfl) (pe_split (pv 0) pe_str))
      (pss_cons (ps_set (i := 2) sc_text_lines.nd rfl (Or.inl rfl) (pe_bm0 PySem.F.plainAttrs_list PySem.F.slot_list_pop PySem.F.type_list_pop mt_pop (pv 1)))
      (pss_cons (ps_setLc (i := 3) (own := [("line", 4)]) (g := gName 4) (tt := tYes) rfl sc_text_lines.nd rfl rfl (sw_true rfl rfl rfl (by decide +kernel)) (pi_list (pv 1)) (blkOk_by (N := ["text", "lines", "rest", "told", "line"]) (sc := defScope s_text_lines) (by decide +kernel)) (fun _ _ _ _ _ => (pg_name (i := 4) sc_text_lines.nd rfl (Or.inl rfl))) (fun _ _ _ _ _ => pts_nil) (fun _ _ _ _ _ => (pe_call G_words_of hr_words_of (by rfl) H_words_of.gl H_words_of.kp b_words_of .nil pass0 (pa_cons (pv 4) pa_nil))))
      (pss_cons (ps_if (pt_cmpR op_ne (pv 2) pe_str (nomark _)) (pss_one (ps_expr (pe_bm PySem.F.plainAttrs_list PySem.F.slot_list_append PySem.F.type_list_append mt_append (pv 3) (pa_cons (pe_tup (pa_cons pe_bl (pa_cons (pe_lst pa_nil) pa_nil))) pa_nil)))) pss_nil)
      (pss_one (ps_ret (pv 3)))))))), ?_⟩
    rcases k with ⟨t, rfl, h1, h2, h3, h4, k⟩ | ⟨⟨c, tx, kt⟩, kE⟩
    rotate_left
    · refine ⟨_, rfl, _, _, _, _, false, rfl, .ty _, tx, kt, false, rfl, iteT ?_⟩
      exact ⟨_, rfl, by show 1 ≤ 1000; decide, fun a hn => text_made hn T.errT fun d n => kE d n⟩
    refine ⟨_, rfl, _, _, _, _, true, rfl, .ty _, .base (.str t), kit_ty (by decide +kernel), true, rfl, iteF ?_⟩
    refine ⟨_, rfl, ⟨_, rfl⟩, _, _, rfl, rfl, by decide +kernel, sz_of (by omega), fun a ha => ?_⟩
    generalize hls : Txt.split t "\n" = ls at *
    have hne : (ls.map V.str) ≠ [] := by
      intro z
      exact h3 (List.map_eq_nil_iff.mp z)
    have hlast : (ls.map V.str)[(ls.map V.str).length - 1]? = some (.str (ls.getLastD "")) := by
      rw [List.length_map, List.getElem?_map]
      have e : ls[ls.length - 1]? = some (ls.getLastD "") := by
        rw [← List.getLast?_eq_getElem?, List.getLastD_eq_getLast?, List.getLast?_eq_some_getLast h3]
        rfl
      rw [e]
      rfl
    refine ⟨_, rfl, .inl ⟨rfl, _, SqL.of upd_same⟩, a, _, _, rfl, rfl, upd_same, hlast, ?_⟩
    rw [← List.map_dropLast]
    have ea : upd (upd H a (.lst (ls.map V.str))) a (.lst (ls.dropLast.map V.str)) = upd H a (.lst (ls.dropLast.map V.str)) := by
      funext b
      by_cases c : b = a
      · rw [c, upd_same, upd_same]
      · rw [upd_ne c, upd_ne c, upd_ne c]
    rw [ea]
    have s1 : Same H (upd H a (.lst (ls.dropLast.map V.str))) := Same.new ha
    have hA : upd H a (.lst (ls.dropLast.map V.str)) a = some (.lst (ls.dropLast.map V.str)) := upd_same
    generalize upd H a (.lst (ls.dropLast.map V.str)) = H1 at *
    refine ⟨_, rfl, a, rfl, ⟨_, SqL.of hA⟩, fun D hD => ?_⟩
    have hls2 : ls.dropLast.length ≤ 50000 := by rw [List.length_dropLast]; omega
    refine lc_exP (walk_list (K := K) (a := a) (xs := ls.dropLast.map V.str)) hD (fun i v Hz => ∀ l, (ls.dropLast.map wordsOf)[i]? = some l → LineAt H D l v Hz) (fun _ _ _ _ kp _ h l e => (h l e).keep kp) (by rw [List.length_map]; omega) (fun Ha sa => SqL.of (sa _ _ hA)) (fun i Ha xa Hb hi sa hDn hy Qe qe => ?_) (fun Hc xs sc hxl hxs hDc => ?_)
    · obtain ⟨rfl, hy⟩ := hy
      obtain ⟨z, hz, rfl⟩ := map_get hy
      have zm := List.mem_of_getElem? hz
      refine ⟨rfl, _, rfl, z, rfl, h2 z (List.dropLast_subset _ zm), fun p c He se np nc hp hc => qe _ _ se fun l e => ?_⟩
      rw [List.getElem?_map, hz] at e
      have el : wordsOf z = l := Option.some.inj e
      subst el
      exact ⟨p, c, rfl, fun w => hDn (by rw [← w]; exact np), fun w => hDn (by rw [← w]; exact nc), none_of (s1.trans sa) nc, hp, hc⟩
    obtain ⟨ps, rfl, lat⟩ := lines_of (ls := ls.dropLast.map wordsOf) (by rw [hxl, List.length_map, List.length_map]) (fun i v l e1 e2 => hxs i v e1 l e2)
    have sHc := s1.trans sc
    have hDN : H D = none := none_of s1 hD
    unfold told at k
    rw [hls] at k
    refine ⟨_, rfl, rfl, _, rfl, ?_⟩
    by_cases cz : ls.getLastD "" = ""
    · refine ifF (by rw [cz]; rfl) ⟨_, rfl, ?_⟩
      rw [if_pos cz, List.append_nil] at k
      exact k D ps Hc sHc hDN hDc lat
    · refine ifT (by rw [decide_eq_false (fun z => cz (V.str.inj z))]; rfl) ?_
      rw [if_neg cz] at k
      refine ⟨_, rfl, .inl ⟨rfl, _, SqL.of hDc⟩, sz_of (by show 0 ≤ 100000; decide), fun e he => ⟨sz_of (by show 2 ≤ 100000; decide), fun p hp => ?_⟩⟩
      have s2 := Same.new (o := .lst []) he
      have s3 := Same.new (o := .tup [.bl false, .ref e]) hp
      have s23 := s2.trans s3
      have hD3 := s23 _ _ hDc
      have nD : ∀ {b o}, upd (upd Hc e (.lst [])) p (.tup [.bl false, .ref e]) b = some o → Hc b = none → b ≠ D := fun {b o} _ n w => by
        rw [w, hDc] at n
        cases n
      have he3 : upd (upd Hc e (.lst [])) p (.tup [.bl false, .ref e]) e = some (.lst []) := s3 _ _ upd_same
      have hp3 : upd (upd Hc e (.lst [])) p (.tup [.bl false, .ref e]) p = some (.tup [.bl false, .ref e]) := upd_same
      have neD : e ≠ D := nD he3 he
      have npD : p ≠ D := nD hp3 (none_of s2 hp)
      generalize upd (upd Hc e (.lst [])) p (.tup [.bl false, .ref e]) = H3 at *
      have pl : ps.length = ls.dropLast.length := by
        have := lat.1
        rw [List.length_map] at this
        exact this
      refine ⟨D, _, _, rfl, rfl, hD3, sz_lt (by rw [List.length_map, pl]; omega), ?_⟩
      refine ⟨_, rfl, k D (ps ++ [p]) _ (Same.mut (sHc.trans s23) hDN) hDN (by rw [upd_same, List.map_append]; rfl) ⟨by rw [List.length_append, List.length_append, lat.1]; rfl, fun i q l e1 e2 => ?_⟩⟩
      by_cases hi : i < ps.length
      · rw [List.getElem?_append_left hi] at e1
        rw [List.getElem?_append_left (by rw [← lat.1]; exact hi)] at e2
        have hxi : (ps.map V.ref)[i]? = some (.ref q) := by rw [List.getElem?_map, e1]; rfl
        obtain ⟨q2, a2, eq2, n1, n2, f2, h1, h2⟩ := hxs i _ hxi l e2
        cases eq2
        exact ⟨a2, f2, by rw [upd_ne n1]; exact s23 _ _ h1, by rw [upd_ne n2]; exact s23 _ _ h2⟩
      · have hi2 : i = ps.length := by
          have := (List.getElem?_eq_some_iff.mp e1).1
          rw [List.length_append, List.length_singleton] at this
          omega
        subst hi2
        rw [List.getElem?_append_right (Nat.le_refl _), Nat.sub_self] at e1
        rw [List.getElem?_append_right (Nat.le_of_eq lat.1.symm), lat.1, Nat.sub_self] at e2
        rw [← Option.some.inj e1, ← Option.some.inj e2]
        exact ⟨e, none_of sHc he, by rw [upd_ne npD]; exact hp3, by rw [upd_ne neD]; exact he3⟩

end
end W5
set_option Elab.async false
set_option linter.all false
set_option maxRecDepth 100000
set_option maxHeartbeats 4000000
namespace W5
open PySem PySem.Spec PyProof.Rows L2
section
variable {P : Program} {w : World} {K : PySem.W.Frag} {mg : Str → Option Value} {base : Heap}

/-- pairs of a name and a kind -/
structure PairsG (H : Hp) (ps : List Addr) (qs : List (Str × Str)) : Prop where
  len : ps.length = qs.length
  at_ : ∀ (i : Nat) p q, ps[i]? = some p → qs[i]? = some q → H p = some (.tup [.str q.1, .str q.2])
theorem PairsG.mono {H H' : Hp} {ps : List Addr} {qs : List (Str × Str)} (h : PairsG H ps qs) (e : Same H H') : PairsG H' ps qs := ⟨h.len, fun i p x a b => e _ _ (h.at_ i p x a b)⟩
theorem PairsG.get {H : Hp} {ps : List Addr} {qs : List (Str × Str)} (h : PairsG H ps qs) {i : Nat} {y : V} (e : (ps.map V.ref)[i]? = some y) : ∃ p q, y = .ref p ∧ ps[i]? = some p ∧ qs[i]? = some q ∧ H p = some (.tup [.str q.1, .str q.2]) := by
  obtain ⟨p, hp, rfl⟩ := map_get e
  have hi : i < qs.length := by
    rw [← h.len]
    exact (List.getElem?_eq_some_iff.mp hp).1
  have hx : qs[i]? = some qs[i] := List.getElem?_eq_getElem hi
  exact ⟨p, _, rfl, hp, hx, h.at_ i p _ hp hx⟩
def IsKind (q : Str) : Prop := q = "number" ∨ q = "object"
def spKindG : Sp := fun vs H Q _ => ∃ q, vs = [.str q] ∧ IsKind q ∧ Q (.bl true) H
def spNamedG : Sp := fun vs H Q _ => ∃ (a : Addr) (ps : List Addr) (qs : List (Str × Str)) (m : Int), vs = [.ref a, .int m] ∧ H a = some (.lst (ps.map V.ref)) ∧ PairsG H ps qs ∧ (∀ q ∈ qs, Nam q.1 ∧ IsKind q.2) ∧ (qs.map Prod.fst).Nodup ∧ (qs.length : Int) ≤ m ∧ qs.length ≤ 100 ∧ ∀ H', Same H H' → Q (.bl true) H' 
theorem sc_is_kindG : FnScope ["thing"] ["thing"] (defScope s_is_kind) := ⟨rfl, rfl, rfl, by decide +kernel, rfl, by decide +kernel, by decide +kernel⟩
theorem ok_is_kindG (T : Ctx w K mg) : Has P w K mg base 1 "is_kind" ["thing"] spKindG := by
  obtain ⟨fd, F⟩ := T.D_is_kind
  refine ⟨⟨fd, F.ok sc_is_kindG (fun vs H Q E h => ?_) (fun cdv A outer s H vs Q E hr h => ?_), F.bindsN fun _ _ _ _ _ _ us hl => match us, hl with | [_], _ => rfl⟩, F.kp, T.g_is_kind⟩
  · obtain ⟨q, rfl, hq, k⟩ := h; rfl
  · obtain ⟨q, rfl, hq, k⟩ := h
    have hu := hu_of hr
    refine ⟨_, PSs.nox (pss_one (ps_ret (pe_and (pe_callB call_isi (by rfl) T.f_isinstance (by decide +kernel) (pa_cons (pv 0) (pa_cons (pe_bltn (v := .ty "str") (u := .type "str") rfl T.f_str (by decide +kernel) rfl) pa_nil))) (pe_one (pe_cmpR op_in_seq (pv 0) (pe_glob (v := .ref (He.ga K "KINDS")) rfl T.g_KINDS rfl) rfl))))), ?_⟩
    refine ⟨_, rfl, _, _, _, _, true, rfl, .ty _, .base (.str _), kit_ty (by decide +kernel), true, rfl, iteT ?_⟩
    refine ⟨_, rfl, _, _, rfl, .inr (T.kinds H), rfl, rfl, qT ?_ k⟩
    rcases hq with rfl | rfl <;> rfl
theorem sc_are_named_kindsG : FnScope ["thing", "most", "names", "pair"] ["thing", "most"] (defScope s_are_named_kinds) := ⟨rfl, rfl, rfl, by decide +kernel, rfl, by decide +kernel, by decide +kernel⟩
theorem ok_are_named_kindsG (T : Ctx w K mg) (H_is_list_of : Has P w K mg base 1 "is_list_of" ["thing", "least", "most"] spListOf) (H_is_tuple_of : Has P w K mg base 1 "is_tuple_of" ["thing", "many"] spTupOf) (H_is_name : Has P w K mg base 1 "is_name" ["thing"] spName) (H_is_kind : Has P w K mg base 1 "is_kind" ["thing"] spKindG) : Has P w K mg base 2 "are_named_kinds" ["thing", "most"] spNamedG := by
  obtain ⟨fd, F⟩ := T.D_are_named_kinds
  obtain ⟨fd_is_list_of, G_is_list_of, b_is_list_of⟩ := H_is_list_of.ex
  obtain ⟨fd_is_tuple_of, G_is_tuple_of, b_is_tuple_of⟩ := H_is_tuple_of.ex
  obtain ⟨fd_is_name, G_is_name, b_is_name⟩ := H_is_name.ex
  obtain ⟨fd_is_kind, G_is_kind, b_is_kind⟩ := H_is_kind.ex
  refine ⟨⟨fd, F.ok sc_are_named_kindsG (fun vs H Q E h => ?_) (fun cdv A outer s H vs Q E hr h => ?_), F.bindsN fun _ _ _ _ _ _ us hl => match us, hl with | [_, _], _ => rfl⟩, F.kp, T.g_are_named_kinds⟩
  · obtain ⟨a, ps, qs, m, rfl, ha, hp, hN, hnd, hm, h100, k⟩ := h; rfl
  · obtain ⟨a, ps, qs, m, rfl, ha, hp, hN, hnd, hm, h100, k⟩ := h
    have hr_is_list_of : Room 1 _ := hr.mono (by decide)
    have hr_is_tuple_of : Room 1 _ := hr.mono (by decide)
    have hr_is_name : Room 1 _ := hr.mono (by decide)
    have hr_is_kind : Room 1 _ := hr.mono (by decide)
    have hu := hu_of hr
    refine ⟨_, PSs.nox (pss_cons (ps_if (pt_not (pt_val (pe_call G_is_list_of hr_is_list_of (by rfl) H_is_list_of.gl H_is_list_of.kp b_is_list_of .nil pass0 (pa_cons (pv 0) (pa_cons pe_int (pa_cons (pv 1) pa_nil)))))) (pss_one (ps_ret pe_bl)) pss_nil)
      (pss_cons (ps_set (i := 2) sc_are_named_kindsG.nd rfl (Or.inl rfl) pe_dnewK)
      (pss_cons (ps_for PassesOwn.never rfl (pi_list (pv 0)) (pg_name (i := 3) sc_are_named_kindsG.nd rfl (Or.inl rfl))
      (pss_cons (ps_if (PW.pt (pw_or (pt_not (pt_val (pe_call G_is_tuple_of hr_is_tuple_of (by rfl) H_is_tuple_of.gl H_is_tuple_of.kp b_is_tuple_of .nil pass0 (pa_cons (pv 3) (pa_cons pe_int pa_nil))))) (pw_or (pt_not (pt_val (pe_call G_is_name hr_is_name (by rfl) H_is_name.gl H_is_name.kp b_is_name .nil pass0 (pa_cons (pe_ix ix_tup (pv 3) pe_int (fun _ _ => rfl)) pa_nil)))) (pw_or1 (pt_not (pt_val (pe_call G_is_kind hr_is_kind (by rfl) H_is_kind.gl H_is_kind.kp b_is_kind .nil pass0 (pa_cons (pe_ix ix_tup (pv 3) pe_int (fun _ _ => rfl)) pa_nil)))))))) (pss_one (ps_ret pe_bl)) pss_nil)
      (pss_cons (ps_if (pt_cmp (pc_din hu (pe_ix ix_tup (pv 3) pe_int (fun _ _ => rfl)) (pv 2))) (pss_one (ps_ret pe_bl)) pss_nil)
      (pss_one (ps_dput hu (pv 2) (pe_ix ix_tup (pv 3) pe_int (fun _ _ => rfl)) pe_bl rfl)))))
      (pss_one (ps_ret pe_bl))))), ?_⟩
    have hlp : (ps.map V.ref).length = qs.length := by rw [List.length_map, hp.len]
    refine ⟨_, rfl, _, rfl, a, ps.map V.ref, 0, m, rfl, ha, by omega, by rw [hlp]; exact hm, _, rfl, iteF ?_⟩
    intro d hd
    have s1 : Same H (upd H d (.dK [])) := Same.new hd
    refine ⟨_, rfl, a, rfl, ⟨_, SqL.of (s1 _ _ ha)⟩, ?_⟩
    refine for_it (walk_list (K := K) (a := a) (xs := ps.map V.ref)) (fun i σ H1 => ∃ v : Option V, σ = [some (.ref a), some (.int m), some (.ref d), v] ∧ Same H H1 ∧ H1 d = some (.dK (kvT ((qs.map Prod.fst).take i) fun _ => .bl true))) ⟨none, rfl, s1, upd_same⟩ (fun i σ H1 _ ⟨v, _, s2, _⟩ => SqL.of (s2 _ _ ha)) ?_ ?_
    · rintro i y σ H1 H2 hi ⟨v, rfl, s2, h2⟩ ⟨rfl, hy⟩
      obtain ⟨p, x, rfl, hpi, hni, hpt⟩ := hp.get hy
      have hx := s2 _ _ hpt
      have hni1 : (qs.map Prod.fst)[i]? = some x.1 := by
        rw [List.getElem?_map, hni]
        rfl
      have hnot := not_in_take hnd hni1
      obtain ⟨n1, n2⟩ := hN x (List.mem_of_getElem? hni)
      refine ⟨_, rfl, p, _, 2, rfl, hx, rfl, _, rfl, ?_⟩
      refine iteF ⟨_, rfl, _, _, _, _, rfl, rfl, SqT.of hx, at0, x.1, rfl, n1, fun H3 s3 => ⟨_, rfl, iteF ?_⟩⟩
      have hx3 := s3 _ _ hx
      refine ⟨_, rfl, _, _, _, _, rfl, rfl, SqT.of hx3, at1, x.2, rfl, n2, _, rfl, iteF ?_⟩
      have h3 := s3 _ _ h2
      refine ⟨_, rfl, _, _, _, _, rfl, rfl, SqT.of hx3, at0, _, rfl, d, _, rfl, DGet.k (k := Sum.inr x.1) h3, _, rfl, ?_⟩
      refine ifF (by rw [valV_kvT hnot]; rfl) ?_
      refine ⟨_, rfl, _, rfl, _, _, _, _, rfl, rfl, SqT.of hx3, at0, d, _, rfl, DPut.k (k := Sum.inr x.1) h3 (small1000 ?_), ?_⟩
      · unfold kvT
        rw [List.length_map, List.length_take, List.length_map]
        omega
      · refine ⟨_, rfl, Same.mut (s2.trans s3) hd, ?_⟩
        rw [upd_same, take_snoc hni1]
        exact congrArg (fun l => some (HO.dK l)) (putK_kvT hnot)
    · rintro σ H1 ⟨v, rfl, s2, h2⟩
      exact k _ s2

end
end W5
set_option Elab.async false
set_option linter.all false
set_option maxRecDepth 100000
set_option maxHeartbeats 4000000
namespace W5
open PySem PySem.Spec PyProof.Rows L2
section
variable {P : Program} {w : World} {K : PySem.W.Frag} {mg : Str → Option Value} {base : Heap}

theorem PairsG.append {H : Hp} {ps qs : List Addr} {ns ms : List (Str × Str)} (h : PairsG H ps ns) (h2 : PairsG H qs ms) : PairsG H (ps ++ qs) (ns ++ ms) := by
  refine ⟨by rw [List.length_append, List.length_append, h.len, h2.len], fun i p x a b => ?_⟩
  by_cases hi : i < ps.length
  · rw [List.getElem?_append_left hi] at a
    rw [List.getElem?_append_left (by rw [← h.len]; exact hi)] at b
    exact h.at_ i p x a b
  · rw [List.getElem?_append_right (by omega)] at a
    rw [List.getElem?_append_right (by rw [← h.len]; omega), ← h.len] at b
    exact h2.at_ _ p x a b
/-- a function as it is handed in, all but its rows -/
structure EntryG (H : Hp) (e pa oa ra : Addr) (nm res : Str) (ps qs : List Addr) (ns ms : List (Str × Str)) (rs : List V) : Prop where
  he : H e = some (.tup [.str nm, .ref pa, .ref oa, .str res, .ref ra])
  nf : Nam nm
  kd : IsKind res
  hpa : H pa = some (.lst (ps.map V.ref))
  p1 : PairsG H ps ns
  hoa : H oa = some (.lst (qs.map V.ref))
  p2 : PairsG H qs ms
  nam : ∀ q ∈ ns ++ ms, Nam q.1 ∧ IsKind q.2
  nd : ((ns ++ ms).map Prod.fst).Nodup
  l1 : ns.length ≤ 4
  l2 : ms.length ≤ 8
  hra : H ra = some (.lst rs)
  l3 : 1 ≤ rs.length
  l4 : rs.length ≤ 40
def spHeadG : Sp := fun vs H Q _ => ∃ (e pa oa ra : Addr) (nm res : Str) (ps qs : List Addr) (ns ms : List (Str × Str)) (rs : List V), vs = [.ref e] ∧ EntryG H e pa oa ra nm res ps qs ns ms rs ∧ ∀ H', Same H H' → Q (.bl true) H'
/-- a class as it is handed in -/
def spClassG : Sp := fun vs H Q _ => ∃ (e fa : Addr) (nm : Str) (ps : List Addr) (ns : List (Str × Str)), vs = [.ref e] ∧ H e = some (.tup [.str nm, .ref fa]) ∧ Nam nm ∧ H fa = some (.lst (ps.map V.ref)) ∧ PairsG H ps ns ∧ (∀ q ∈ ns, Nam q.1 ∧ IsKind q.2) ∧ (ns.map Prod.fst).Nodup ∧ ns.length ≤ 4 ∧ ∀ H', Same H H' → Q (.bl true) H' 
theorem sc_is_head : FnScope ["entry"] ["entry"] (defScope s_is_head) := ⟨rfl, rfl, rfl, by decide +kernel, rfl, by decide +kernel, by decide +kernel⟩
theorem ok_is_head (T : Ctx w K mg) (H_is_tuple_of : Has P w K mg base 1 "is_tuple_of" ["thing", "many"] spTupOf) (H_is_name : Has P w K mg base 1 "is_name" ["thing"] spName) (H_is_kind : Has P w K mg base 1 "is_kind" ["thing"] spKindG) (H_are_named_kinds : Has P w K mg base 2 "are_named_kinds" ["thing", "most"] spNamedG) (H_is_list_of : Has P w K mg base 1 "is_list_of" ["thing", "least", "most"] spListOf) : Has P w K mg base 3 "_is_head" ["entry"] spHeadG := by
  obtain ⟨fd, F⟩ := T.D_is_head
  obtain ⟨fd_is_tuple_of, G_is_tuple_of, b_is_tuple_of⟩ := H_is_tuple_of.ex
  obtain ⟨fd_is_name, G_is_name, b_is_name⟩ := H_is_name.ex
  obtain ⟨fd_is_kind, G_is_kind, b_is_kind⟩ := H_is_kind.ex
  obtain ⟨fd_are_named_kinds, G_are_named_kinds, b_are_named_kinds⟩ := H_are_named_kinds.ex
  obtain ⟨fd_is_list_of, G_is_list_of, b_is_list_of⟩ := H_is_list_of.ex
  refine ⟨⟨fd, F.ok sc_is_head (fun vs H Q E h => ?_) (fun cdv A outer s H vs Q E hr h => ?_), F.bindsN fun _ _ _ _ _ _ us hl => match us, hl with | [_], _ => rfl⟩, F.kp, T.g_is_head⟩
  · obtain ⟨e, pa, oa, ra, nm, res, ps, qs, ns, ms, rs, rfl, E0, k⟩ := h; rfl
  · obtain ⟨e, pa, oa, ra, nm, res, ps, qs, ns, ms, rs, rfl, E0, k⟩ := h
    have hr_is_tuple_of : Room 1 _ := hr.mono (by decide)
    have hr_is_name : Room 1 _ := hr.mono (by decide)
    have hr_is_kind : Room 1 _ := hr.mono (by decide)
    have hr_are_named_kinds : Room 2 _ := hr.mono (by decide)
    have hr_is_list_of : Room 1 _ := hr.mono (by decide)
    have hu := hu_of hr
    obtain ⟨t_MOST_PARAMETERS, e_MOST_PARAMETERS⟩ := T.i_MOST_PARAMETERS
    obtain ⟨t_MOST_OTHERS, e_MOST_OTHERS⟩ := T.i_MOST_OTHERS
    obtain ⟨t_MOST_ROWS, e_MOST_ROWS⟩ := T.i_MOST_ROWS
    refine ⟨_, PSs.nox (pss_cons (ps_if (PW.pt (pw_or (pt_not (pt_val (pe_call G_is_tuple_of hr_is_tuple_of (by rfl) H_is_tuple_of.gl H_is_tuple_of.kp b_is_tuple_of .nil pass0 (pa_cons (pv 0) (pa_cons pe_int pa_nil))))) (pw_or (pt_not (pt_val (pe_call G_is_name hr_is_name (by rfl) H_is_name.gl H_is_name.kp b_is_name .nil pass0 (pa_cons (pe_ix ix_tup (pv 0) pe_int (fun _ _ => rfl)) pa_nil)))) (pw_or1 (pt_not (pt_val (pe_call G_is_kind hr_is_kind (by rfl) H_is_kind.gl H_is_kind.kp b_is_kind .nil pass0 (pa_cons (pe_ix ix_tup (pv 0) pe_int (fun _ _ => rfl)) pa_nil)))))))) (pss_one (ps_ret pe_bl)) pss_nil)
      (pss_cons (ps_if (PW.pt (pw_or (pt_not (pt_val (pe_call G_are_named_kinds hr_are_named_kinds (by rfl) H_are_named_kinds.gl H_are_named_kinds.kp b_are_named_kinds .nil pass0 (pa_cons (pe_ix ix_tup (pv 0) pe_int (fun _ _ => rfl)) (pa_cons (pe_glob (v := .int 4) rfl e_MOST_PARAMETERS ⟨_, rfl⟩) pa_nil))))) (pw_or1 (pt_not (pt_val (pe_call G_are_named_kinds hr_are_named_kinds (by rfl) H_are_named_kinds.gl H_are_named_kinds.kp b_are_named_kinds .nil pass0 (pa_cons (pe_ix ix_tup (pv 0) pe_int (fun _ _ => rfl)) (pa_cons (pe_glob (v := .int 8) rfl e_MOST_OTHERS ⟨_, rfl⟩) pa_nil)))))))) (pss_one (ps_ret pe_bl)) pss_nil)
      (pss_cons (ps_if (pt_not (pt_val (pe_call G_are_named_kinds hr_are_named_kinds (by rfl) H_are_named_kinds.gl H_are_named_kinds.kp b_are_named_kinds .nil pass0 (pa_cons (pe_op op_cat (pe_ix ix_tup (pv 0) pe_int (fun _ _ => rfl)) (pe_ix ix_tup (pv 0) pe_int (fun _ _ => rfl))) (pa_cons (pe_op op_add (pe_glob (v := .int 4) rfl e_MOST_PARAMETERS ⟨_, rfl⟩) (pe_glob (v := .int 8) rfl e_MOST_OTHERS ⟨_, rfl⟩)) pa_nil))))) (pss_one (ps_ret pe_bl)) pss_nil)
      (pss_one (ps_ret (pe_call G_is_list_of hr_is_list_of (by rfl) H_is_list_of.gl H_is_list_of.kp b_is_list_of .nil pass0 (pa_cons (pe_ix ix_tup (pv 0) pe_int (fun _ _ => rfl)) (pa_cons pe_int (pa_cons (pe_glob (v := .int 40) rfl e_MOST_ROWS ⟨_, rfl⟩) pa_nil))))))))), ?_⟩
    obtain ⟨he, nf, kd, hpa, hp1, hoa, hp2, hN, hnd, l1, l2, hra, l3, l4⟩ := E0
    have hnd0 := hnd
    rw [List.map_append] at hnd0
    have hnd1 := (List.nodup_append.mp hnd0).1
    have hnd2 := (List.nodup_append.mp hnd0).2.1
    refine ⟨_, rfl, e, _, 5, rfl, he, rfl, _, rfl, iteF ?_⟩
    refine ⟨_, rfl, _, _, _, _, rfl, rfl, SqT.of he, at0, nm, rfl, nf, fun H1 s1 => ⟨_, rfl, iteF ?_⟩⟩
    refine ⟨_, rfl, _, _, _, _, rfl, rfl, SqT.of (s1 _ _ he), at3, res, rfl, kd, _, rfl, iteF ?_⟩
    refine ⟨_, rfl, _, _, _, _, rfl, rfl, SqT.of (s1 _ _ he), at1, pa, ps, ns, 4, rfl, s1 _ _ hpa, hp1.mono s1, fun x m => hN x (List.mem_append_left _ m), hnd1, by omega, by omega, fun H2 s2 => ⟨_, rfl, iteF ?_⟩⟩
    have s12 := s1.trans s2
    refine ⟨_, rfl, _, _, _, _, rfl, rfl, SqT.of (s12 _ _ he), at2, oa, qs, ms, 8, rfl, s12 _ _ hoa, hp2.mono s12, fun x m => hN x (List.mem_append_right _ m), hnd2, by omega, by omega, fun H3 s3 => ⟨_, rfl, iteF ?_⟩⟩
    have s13 := s12.trans s3
    refine ⟨_, rfl, _, _, _, _, rfl, rfl, SqT.of (s13 _ _ he), at1, _, rfl, _, _, _, _, rfl, rfl, SqT.of (s13 _ _ he), at2, ?_⟩
    have hl1 : ps.length = ns.length := hp1.len
    have hl2 : qs.length = ms.length := hp2.len
    refine ⟨pa, oa, _, _, rfl, rfl, s13 _ _ hpa, s13 _ _ hoa, sz_of (by rw [List.length_map, List.length_map]; omega), fun c hc => ?_⟩
    have s4 := Same.new (o := .lst (ps.map V.ref ++ qs.map V.ref)) hc
    refine ⟨_, _, rfl, rfl, c, ps ++ qs, ns ++ ms, 12, rfl, by rw [upd_same, List.map_append], (hp1.append hp2).mono (s13.trans s4), hN, hnd, by rw [List.length_append]; omega, by rw [List.length_append]; omega, fun H5 s5 => ⟨_, rfl, iteF ?_⟩⟩
    have s15 := (s13.trans s4).trans s5
    exact ⟨_, rfl, _, _, _, _, rfl, rfl, SqT.of (s15 _ _ he), at4, ra, rs, 1, 40, rfl, s15 _ _ hra, by omega, by omega, k _ s15⟩
theorem sc_is_class : FnScope ["entry"] ["entry"] (defScope s_is_class) := ⟨rfl, rfl, rfl, by decide +kernel, rfl, by decide +kernel, by decide +kernel⟩
theorem ok_is_class (T : Ctx w K mg) (H_is_tuple_of : Has P w K mg base 1 "is_tuple_of" ["thing", "many"] spTupOf) (H_is_name : Has P w K mg base 1 "is_name" ["thing"] spName) (H_are_named_kinds : Has P w K mg base 2 "are_named_kinds" ["thing", "most"] spNamedG) : Has P w K mg base 3 "_is_class" ["entry"] spClassG := by
  obtain ⟨fd, F⟩ := T.D_is_class
  obtain ⟨fd_is_tuple_of, G_is_tuple_of, b_is_tuple_of⟩ := H_is_tuple_of.ex
  obtain ⟨fd_is_name, G_is_name, b_is_name⟩ := H_is_name.ex
  obtain ⟨fd_are_named_kinds, G_are_named_kinds, b_are_named_kinds⟩ := H_are_named_kinds.ex
  refine ⟨⟨fd, F.ok sc_is_class (fun vs H Q E h => ?_) (fun cdv A outer s H vs Q E hr h => ?_), F.bindsN fun _ _ _ _ _ _ us hl => match us, hl with | [_], _ => rfl⟩, F.kp, T.g_is_class⟩
  · obtain ⟨e, fa, nm, ps, ns, rfl, he, nf, hfa, hp, hN, hnd, hl, k⟩ := h; rfl
  · obtain ⟨e, fa, nm, ps, ns, rfl, he, nf, hfa, hp, hN, hnd, hl, k⟩ := h
    have hr_is_tuple_of : Room 1 _ := hr.mono (by decide)
    have hr_is_name : Room 1 _ := hr.mono (by decide)
    have hr_are_named_kinds : Room 2 _ := hr.mono (by decide)
    have hu := hu_of hr
    obtain ⟨t_MOST_FIELDS, e_MOST_FIELDS⟩ := T.i_MOST_FIELDS
    refine ⟨_, PSs.nox (pss_one (ps_ret (pe_and (pe_call G_is_tuple_of hr_is_tuple_of (by rfl) H_is_tuple_of.gl H_is_tuple_of.kp b_is_tuple_of .nil pass0 (pa_cons (pv 0) (pa_cons pe_int pa_nil))) (pe_and (pe_call G_is_name hr_is_name (by rfl) H_is_name.gl H_is_name.kp b_is_name .nil pass0 (pa_cons (pe_ix ix_tup (pv 0) pe_int (fun _ _ => rfl)) pa_nil)) (pe_one (pe_call G_are_named_kinds hr_are_named_kinds (by rfl) H_are_named_kinds.gl H_are_named_kinds.kp b_are_named_kinds .nil pass0 (pa_cons (pe_ix ix_tup (pv 0) pe_int (fun _ _ => rfl)) (pa_cons (pe_glob (v := .int 4) rfl e_MOST_FIELDS ⟨_, rfl⟩) pa_nil)))))))), ?_⟩
    refine ⟨_, rfl, e, _, 2, rfl, he, rfl, _, rfl, iteT ?_⟩
    refine ⟨_, rfl, _, _, _, _, rfl, rfl, SqT.of he, at0, nm, rfl, nf, fun H1 s1 => ⟨_, rfl, iteT ?_⟩⟩
    exact ⟨_, rfl, _, _, _, _, rfl, rfl, SqT.of (s1 _ _ he), at1, fa, ps, ns, 4, rfl, s1 _ _ hfa, hp.mono s1, hN, hnd, by omega, by omega, fun H2 s2 => k _ (s1.trans s2)⟩

end
end W5
set_option Elab.async false
set_option linter.all false
set_option maxRecDepth 100000
set_option maxHeartbeats 4000000
namespace W5
open PySem PySem.Spec PyProof.Rows L2 RZ
section
variable {P : Program} {w : World} {K : PySem.W.Frag} {mg : Str → Option Value} {base : Heap}

def FIGS : Str := "0123456789"
def figs (w : Str) : Str := if Txt.startswith w "-" = true then cutS w (some 1) none else w
/-- figures that are those of an integer; whole tells whether the word is 0 -/
def figOk (z : Str) (whole : Bool) : Bool := decide (1 ≤ z.cps.size) && (decide (z.cps.size ≤ 30) && ((z.cps.toList.all fun c => decide (c ∈ FIGS.cps.toList)) && ((z.cps[0]?.all fun c => !decide (V.str ⟨#[c]⟩ = V.str "0")) || whole)))
def intOk (w : Str) : Bool := figOk (figs w) (decide (V.str w = V.str "0"))
def readInt (w : Str) : Option Int := if intOk w = true then PySem.intText? w else none
def oI : Option Int → V
  | none => .non
  | some n => .int n
/-- a word of which int() can be asked, if it is one of an integer -/
structure WordOk (w : Str) : Prop where
  len : w.length ≤ 640
  num : intOk w = true → ∃ n, PySem.intText? w = some n
  cut : (Txt.partition w ":").1.length ≤ 640
def pairOf (w : Str) : Option (Str × Str) := if (namB (Txt.partition w ":").1 && kindB (Txt.partition w ":").2.2) = true then some ((Txt.partition w ":").1, (Txt.partition w ":").2.2) else none
def spPairs : Sp := fun vs H Q _ => ∃ (a : Addr) (ws : List Str), vs = [.ref a] ∧ H a = some (.lst (ws.map V.str)) ∧ (∀ w ∈ ws, WordOk w) ∧ ws.length ≤ 50000 ∧
  (ws.mapM pairOf = none → ∀ H', Same H H' → Q .non H') ∧ (∀ ps, ws.mapM pairOf = some ps → ∀ (q : Addr) (as : List Addr) (H' : Hp), Same H H' → H q = none → H' q = some (.lst (as.map V.ref)) → PairsG H' as ps → (∀ x ∈ as, H x = none) → Q (.ref q) H')
def spInt : Sp := fun vs H Q _ => ∃ w, vs = [.str w] ∧ WordOk w ∧ ∀ H', Same H H' → Q (oI (readInt w)) H'
def numRole (role : Str) : Bool := inV (V.str role) [.str "number", .str "row", .str "point"]
def partOf (role w : Str) : V := if numRole role = true then oI (readInt w) else if namB w = true then .str w else .non
def spPart : Sp := fun vs H Q _ => ∃ role w, vs = [.str role, .str w] ∧ WordOk w ∧ ∀ H', Same H H' → Q (partOf role w) H'
theorem mapM_snoc {α β : Type} (f : α → Option β) (l : List α) (x : α) : (l ++ [x]).mapM f = (l.mapM f).bind fun ys => (f x).map fun y => ys ++ [y] := by
  rw [List.mapM_append]
  cases l.mapM f with
  | none => rfl
  | some ys =>
    simp only [List.mapM_cons, List.mapM_nil, Option.bind_eq_bind, Option.bind_some, Option.pure_def]
    cases f x with
    | none => rfl
    | some y => rfl
theorem mapM_none {α β : Type} (f : α → Option β) : ∀ (l : List α) (x : α), x ∈ l → f x = none → l.mapM f = none
  | a :: l, x, m, e => by
    rw [List.mapM_cons]
    cases ha : f a with
    | none => rfl
    | some y =>
      rcases List.mem_cons.mp m with rfl | m
      · rw [ha] at e
        cases e
      · rw [mapM_none f l x m e]
        rfl
theorem sc_read_integer : FnScope ["word", "figures", "mark"] ["word"] (defScope s_read_integer) := ⟨rfl, rfl, rfl, by decide +kernel, rfl, by decide +kernel, by decide +kernel⟩
theorem ok_read_integer (T : Ctx w K mg) : Has P w K mg base 1 "read_integer" ["word"] spInt := by
  obtain ⟨fd, F⟩ := T.D_read_integer
  refine ⟨⟨fd, F.ok sc_read_integer (fun vs H Q E h => ?_) (fun cdv A outer s H vs Q E hr h => ?_), F.bindsN fun _ _ _ _ _ _ us hl => match us, hl with | [_], _ => rfl⟩, F.kp, T.g_read_integer⟩
  · obtain ⟨w, rfl, W, k⟩ := h; rfl
  · obtain ⟨w, rfl, W, k⟩ := h
    have hu := hu_of hr
    obtain ⟨tf, e_FIGURES⟩ := T.s_FIGURES
    obtain ⟨tm, e_MOST_FIGURES⟩ := T.i_MOST_FIGURES
    refine ⟨_, PSs.nox (pss_cons (ps_set (i := 1) sc_read_integer.nd rfl (Or.inl rfl) (pe_ifExp (pt_val (pe_m1 PySem.F.slot_str_startswith PySem.F.type_str_startswith mt_startswith (pv 0) pe_str)) (pe_slice sl_str (pv 0) (po_some pe_int) po_none) (pv 0)))
      (pss_cons (ps_if (PW.pt (pw_or (pt_not (pt_chain op_le op_le pe_int (pe_callB call_len_str (by rfl) T.f_len (by decide +kernel) (pa_cons (pv 1) pa_nil)) (pe_glob (v := .int 30) rfl e_MOST_FIGURES ⟨_, rfl⟩))) (pw_or1 (pt_not (pt_val (pe_callB (cr_all rfl) (by rfl) T.f_all (by decide +kernel) (pa_cons (pe_lc (own := [("mark", 2)]) (g := gName 2) (tt := tYes) rfl sc_read_integer.nd (pi_str (pv 1)) (blkOk_by (N := ["word", "figures", "mark"]) (sc := defScope s_read_integer) (by decide +kernel)) (fun _ _ _ _ _ => (pg_name (i := 2) sc_read_integer.nd rfl (Or.inl rfl))) (fun _ _ _ _ _ => pts_nil) (fun _ _ _ _ _ => (pe_cmpR op_in_sign (pv 2) (pe_glob (v := .str "0123456789") rfl e_FIGURES ⟨_, rfl⟩) rfl))) pa_nil))))))) (pss_one (ps_ret pe_non)) pss_nil)
      (pss_cons (ps_if (PW.pt (pw_and (pt_cmpR op_eq (pe_item_str (pv 1) pe_int (fun _ _ => rfl)) pe_str (nomark _)) (pw_and1 (pt_cmpR op_ne (pv 0) pe_str (nomark _))))) (pss_one (ps_ret pe_non)) pss_nil)
      (pss_one (ps_ret (pe_callTy call_int_str (by rfl) T.f_int (by decide +kernel) (pa_cons (pv 0) pa_nil))))))), ?_⟩
    have hz : w.length ≤ sizeLine := sz_of (by have := W.len; omega)
    unfold readInt at k
    have hw := W.num
    unfold intOk at k hw
    have hfl : (figs w).length ≤ w.length := by
      unfold figs
      split
      · exact cutS_len w _ _
      · exact Nat.le_refl _
    have hfz : (figs w).length ≤ sizeLine := Nat.le_trans hfl hz
    have hf100 : (figs w).cps.size < 100000 := Nat.lt_of_le_of_lt (show (figs w).cps.size ≤ w.length from hfl) (by have := W.len; omega)
    generalize hfg : figs w = z at *
    unfold figs at hfg
    refine ⟨_, rfl, ⟨_, rfl⟩, _, _, rfl, rfl, _, rfl, ?_⟩
    by_cases hs : Txt.startswith w "-" = true
    · rw [if_pos hs] at hfg
      refine ifT hs ⟨_, rfl, 1, rfl, w, rfl, hz, ?_⟩
      rw [hfg]
      refine ⟨_, rfl, _, rfl, hfz, _, _, rfl, rfl, _, rfl, ?_⟩
      unfold figOk at k hw
      by_cases h1 : 1 ≤ z.cps.size
      rotate_left
      · refine ifF (decide_eq_false (show ¬ (1 : Int) ≤ ((z.cps.size : Nat) : Int) by omega)) ⟨_, rfl, ifT rfl ?_⟩
        rw [decide_eq_false h1, Bool.false_and] at k
        exact k _ (Same.refl _)
      refine ifT (decide_eq_true (show (1 : Int) ≤ ((z.cps.size : Nat) : Int) by omega)) ⟨_, _, rfl, rfl, _, rfl, ?_⟩
      by_cases h30 : z.cps.size ≤ 30
      rotate_left
      · refine ifT (show (!decide (((z.cps.size : Nat) : Int) ≤ 30)) = true by rw [decide_eq_false (show ¬ ((z.cps.size : Nat) : Int) ≤ 30 by omega)]; rfl) ?_
        rw [decide_eq_false h30, Bool.false_and, Bool.and_false] at k
        exact k _ (Same.refl _)
      refine ifF (show (!decide (((z.cps.size : Nat) : Int) ≤ 30)) = false by rw [decide_eq_true (show ((z.cps.size : Nat) : Int) ≤ 30 by omega)]; rfl) ?_
      rw [decide_eq_true h1, decide_eq_true h30, Bool.true_and, Bool.true_and] at k hw
      refine ⟨_, rfl, _, rfl, fun D hD => ?_⟩
      refine lc_pure walk_str hD (fun i => .bl (decide (z.cps.toList.getD i 0 ∈ FIGS.cps.toList))) hf100 (fun _ _ => trivial) (fun i H1 y H2 hi s1 hy Qe qe => ?_) (fun H1 s1 h1' => ?_)
      · obtain ⟨rfl, c, hc, rfl⟩ := hy
        have ec : z.cps.toList.getD i 0 = c := by
          rw [List.getD_eq_getElem?_getD, Array.getElem?_toList, hc]
          rfl
        rw [ec] at qe
        exact ⟨rfl, _, rfl, _, _, rfl, rfl, qe _ (Same.refl _)⟩
      refine ⟨_, (List.range z.cps.size).map (fun i => decide (z.cps.toList.getD i 0 ∈ FIGS.cps.toList)), rfl, SqL.of (by rw [h1', List.map_map]; rfl), ?_⟩
      have e2 := all_range (0 : Nat) (fun c => decide (c ∈ FIGS.cps.toList)) z.cps.toList
      rw [Array.length_toList] at e2
      rw [e2]
      generalize hall : (z.cps.toList.all fun c => decide (c ∈ FIGS.cps.toList)) = al at *
      refine ⟨_, rfl, ?_⟩
      cases al with
      | false =>
        rw [Bool.false_and] at k
        exact ifT rfl (k _ s1)
      | true =>
        rw [Bool.true_and] at k hw
        refine ifF rfl ?_
        have hc0 : z.cps[0]? = some z.cps[0] := Array.getElem?_eq_getElem (by omega)
        rw [hc0] at k hw
        generalize z.cps[0] = c0 at *
        refine ⟨_, rfl, _, _, c0, rfl, rfl, by decide, by decide, Int.ofNat_lt.mpr (show 0 < z.cps.size by omega), hc0, rfl, _, rfl, ?_⟩
        have ea : (some c0).all (fun c => !decide (V.str ⟨#[c]⟩ = V.str "0")) = !decide (V.str ⟨#[c0]⟩ = V.str "0") := rfl
        rw [ea] at k hw
        generalize hd0 : decide (V.str ⟨#[c0]⟩ = V.str "0") = d0 at *
        cases d0 with
        | true =>
          refine ifT rfl ⟨_, rfl, rfl, _, rfl, ?_⟩
          generalize hdw : decide (V.str w = V.str "0") = dw at *
          cases dw with
          | false => exact ifT rfl (k _ s1)
          | true =>
            obtain ⟨n, hn⟩ := hw rfl
            refine ifF rfl ⟨_, rfl, w, n, rfl, hn, W.len, ?_⟩
            rw [hn] at k
            exact k _ s1
        | false =>
          obtain ⟨n, hn⟩ := hw rfl
          refine ifF rfl ⟨_, rfl, w, n, rfl, hn, W.len, ?_⟩
          rw [hn] at k
          exact k _ s1
    · rw [if_neg hs] at hfg
      subst hfg
      refine ifF (Bool.eq_false_iff.mpr hs) ⟨_, rfl, ?_⟩
      refine ⟨_, rfl, _, rfl, hz, _, _, rfl, rfl, _, rfl, ?_⟩
      unfold figOk at k hw
      by_cases h1 : 1 ≤ w.cps.size
      rotate_left
      · refine ifF (decide_eq_false (show ¬ (1 : Int) ≤ ((w.cps.size : Nat) : Int) by omega)) ⟨_, rfl, ifT rfl ?_⟩
        rw [decide_eq_false h1, Bool.false_and] at k
        exact k _ (Same.refl _)
      refine ifT (decide_eq_true (show (1 : Int) ≤ ((w.cps.size : Nat) : Int) by omega)) ⟨_, _, rfl, rfl, _, rfl, ?_⟩
      by_cases h30 : w.cps.size ≤ 30
      rotate_left
      · refine ifT (show (!decide (((w.cps.size : Nat) : Int) ≤ 30)) = true by rw [decide_eq_false (show ¬ ((w.cps.size : Nat) : Int) ≤ 30 by omega)]; rfl) ?_
        rw [decide_eq_false h30, Bool.false_and, Bool.and_false] at k
        exact k _ (Same.refl _)
      refine ifF (show (!decide (((w.cps.size : Nat) : Int) ≤ 30)) = false by rw [decide_eq_true (show ((w.cps.size : Nat) : Int) ≤ 30 by omega)]; rfl) ?_
      rw [decide_eq_true h1, decide_eq_true h30, Bool.true_and, Bool.true_and] at k hw
      refine ⟨_, rfl, _, rfl, fun D hD => ?_⟩
      refine lc_pure walk_str hD (fun i => .bl (decide (w.cps.toList.getD i 0 ∈ FIGS.cps.toList))) hf100 (fun _ _ => trivial) (fun i H1 y H2 hi s1 hy Qe qe => ?_) (fun H1 s1 h1' => ?_)
      · obtain ⟨rfl, c, hc, rfl⟩ := hy
        have ec : w.cps.toList.getD i 0 = c := by
          rw [List.getD_eq_getElem?_getD, Array.getElem?_toList, hc]
          rfl
        rw [ec] at qe
        exact ⟨rfl, _, rfl, _, _, rfl, rfl, qe _ (Same.refl _)⟩
      refine ⟨_, (List.range w.cps.size).map (fun i => decide (w.cps.toList.getD i 0 ∈ FIGS.cps.toList)), rfl, SqL.of (by rw [h1', List.map_map]; rfl), ?_⟩
      have e2 := all_range (0 : Nat) (fun c => decide (c ∈ FIGS.cps.toList)) w.cps.toList
      rw [Array.length_toList] at e2
      rw [e2]
      generalize hall : (w.cps.toList.all fun c => decide (c ∈ FIGS.cps.toList)) = al at *
      refine ⟨_, rfl, ?_⟩
      cases al with
      | false =>
        rw [Bool.false_and] at k
        exact ifT rfl (k _ s1)
      | true =>
        rw [Bool.true_and] at k hw
        refine ifF rfl ?_
        have hc0 : w.cps[0]? = some w.cps[0] := Array.getElem?_eq_getElem (by omega)
        rw [hc0] at k hw
        generalize w.cps[0] = c0 at *
        refine ⟨_, rfl, _, _, c0, rfl, rfl, by decide, by decide, Int.ofNat_lt.mpr (show 0 < w.cps.size by omega), hc0, rfl, _, rfl, ?_⟩
        have ea : (some c0).all (fun c => !decide (V.str ⟨#[c]⟩ = V.str "0")) = !decide (V.str ⟨#[c0]⟩ = V.str "0") := rfl
        rw [ea] at k hw
        generalize hd0 : decide (V.str ⟨#[c0]⟩ = V.str "0") = d0 at *
        cases d0 with
        | true =>
          refine ifT rfl ⟨_, rfl, rfl, _, rfl, ?_⟩
          generalize hdw : decide (V.str w = V.str "0") = dw at *
          cases dw with
          | false => exact ifT rfl (k _ s1)
          | true =>
            obtain ⟨n, hn⟩ := hw rfl
            refine ifF rfl ⟨_, rfl, w, n, rfl, hn, W.len, ?_⟩
            rw [hn] at k
            exact k _ s1
        | false =>
          obtain ⟨n, hn⟩ := hw rfl
          refine ifF rfl ⟨_, rfl, w, n, rfl, hn, W.len, ?_⟩
          rw [hn] at k
          exact k _ s1
theorem sc_read_part : FnScope ["role", "word"] ["role", "word"] (defScope s_read_part) := ⟨rfl, rfl, rfl, by decide +kernel, rfl, by decide +kernel, by decide +kernel⟩
theorem ok_read_part (T : Ctx w K mg) (H_read_integer : Has P w K mg base 1 "read_integer" ["word"] spInt) (H_is_name : Has P w K mg base 1 "is_name" ["thing"] spNameB) : Has P w K mg base 2 "_read_part" ["role", "word"] spPart := by
  obtain ⟨fd, F⟩ := T.D_read_part
  obtain ⟨fd_read_integer, G_read_integer, b_read_integer⟩ := H_read_integer.ex
  obtain ⟨fd_is_name, G_is_name, b_is_name⟩ := H_is_name.ex
  refine ⟨⟨fd, F.ok sc_read_part (fun vs H Q E h => ?_) (fun cdv A outer s H vs Q E hr h => ?_), F.bindsN fun _ _ _ _ _ _ us hl => match us, hl with | [_, _], _ => rfl⟩, F.kp, T.g_read_part⟩
  · obtain ⟨role, w, rfl, W, k⟩ := h; rfl
  · obtain ⟨role, w, rfl, W, k⟩ := h
    have hr_read_integer : Room 1 _ := hr.mono (by decide)
    have hr_is_name : Room 1 _ := hr.mono (by decide)
    have hu := hu_of hr
    refine ⟨_, PSs.nox (pss_cons (ps_if (pt_cmpR op_in_seq (pv 0) (pe_tup (pa_cons pe_str (pa_cons pe_str (pa_cons pe_str pa_nil)))) rfl) (pss_one (ps_ret (pe_call G_read_integer hr_read_integer (by rfl) H_read_integer.gl H_read_integer.kp b_read_integer .nil pass0 (pa_cons (pv 1) pa_nil)))) pss_nil)
      (pss_one (ps_ret (pe_ifExp (pt_val (pe_call G_is_name hr_is_name (by rfl) H_is_name.gl H_is_name.kp b_is_name .nil pass0 (pa_cons (pv 1) pa_nil))) (pv 1) pe_non)))), ?_⟩
    refine ⟨_, rfl, sz_of (by show 3 ≤ 100000; decide), fun t ht => ⟨t, _, rfl, .inr (SqT.of upd_same), rfl, rfl, _, rfl, ?_⟩⟩
    have s1 := Same.new (o := .tup [.str "number", .str "row", .str "point"]) ht
    unfold partOf at k
    by_cases c : numRole role = true
    · rw [if_pos c] at k
      exact ifT c ⟨_, rfl, w, rfl, W, fun H1 s2 => k _ (s1.trans s2)⟩
    · rw [if_neg c] at k
      refine ifF (Bool.eq_false_iff.mpr c) ⟨_, rfl, w, rfl, by have := W.len; omega, fun H1 s2 => ⟨_, rfl, ?_⟩⟩
      by_cases n : namB w = true
      · rw [if_pos n] at k
        exact ifT n ⟨_, rfl, k _ (s1.trans s2)⟩
      · rw [if_neg n] at k
        exact ifF (Bool.eq_false_iff.mpr n) (k _ (s1.trans s2))
theorem sc_read_pairs : FnScope ["words", "pairs", "word", "name", "_", "kind"] ["words"] (defScope s_read_pairs) := ⟨rfl, rfl, rfl, by decide +kernel, rfl, by decide +kernel, by decide +kernel⟩
theorem ok_read_pairs (T : Ctx w K mg) (H_is_name : Has P w K mg base 1 "is_name" ["thing"] spNameB) (H_is_kind : Has P w K mg base 1 "is_kind" ["thing"] spKindB) : Has P w K mg base 2 "read_pairs" ["words"] spPairs := by
  obtain ⟨fd, F⟩ := T.D_read_pairs
  obtain ⟨fd_is_name, G_is_name, b_is_name⟩ := H_is_name.ex
  obtain ⟨fd_is_kind, G_is_kind, b_is_kind⟩ := H_is_kind.ex
  refine ⟨⟨fd, F.ok sc_read_pairs (fun vs H Q E h => ?_) (fun cdv A outer s H vs Q E hr h => ?_), F.bindsN fun _ _ _ _ _ _ us hl => match us, hl with | [_], _ => rfl⟩, F.kp, T.g_read_pairs⟩
  · obtain ⟨a, ws, rfl, ha, hw, hl, kN, kS⟩ := h; rfl
  · obtain ⟨a, ws, rfl, ha, hw, hl, kN, kS⟩ := h
    have hr_is_name : Room 1 _ := hr.mono (by decide)
    have hr_is_kind : Room 1 _ := hr.mono (by decide)
    have hu := hu_of hr
    refine ⟨_, PSs.nox (pss_cons (ps_set (i := 1) sc_read_pairs.nd rfl (Or.inl rfl) (pe_lst pa_nil))
      (pss_cons (ps_for PassesOwn.never rfl (pi_list (pv 0)) (pg_name (i := 2) sc_read_pairs.nd rfl (Or.inl rfl))
      (pss_cons (ps_asg (pe_partition (pv 2) pe_str) (pg_tup rfl (pgs_cons (pg_name (i := 3) sc_read_pairs.nd rfl (Or.inl rfl)) (pgs_cons (pg_name (i := 4) sc_read_pairs.nd rfl (Or.inl rfl)) (pgs_cons (pg_name (i := 5) sc_read_pairs.nd rfl (Or.inl rfl)) pgs_nil)))))
      (pss_cons (ps_if (PW.pt (pw_or (pt_not (pt_val (pe_call G_is_name hr_is_name (by rfl) H_is_name.gl H_is_name.kp b_is_name .nil pass0 (pa_cons (pv 3) pa_nil)))) (pw_or1 (pt_not (pt_val (pe_call G_is_kind hr_is_kind (by rfl) H_is_kind.gl H_is_kind.kp b_is_kind .nil pass0 (pa_cons (pv 5) pa_nil))))))) (pss_one (ps_ret pe_non)) pss_nil)
      (pss_one (ps_expr (pe_bm PySem.F.plainAttrs_list PySem.F.slot_list_append PySem.F.type_list_append mt_append (pv 1) (pa_cons (pe_tup (pa_cons (pv 3) (pa_cons (pv 5) pa_nil))) pa_nil)))))))
      (pss_one (ps_ret (pv 1))))), ?_⟩
    refine ⟨sz_of (by show 0 ≤ 100000; decide), fun D hD => ?_⟩
    have sD : Same H (upd H D (.lst [])) := Same.new hD
    refine ⟨_, rfl, a, rfl, ⟨_, SqL.of (sD _ _ ha)⟩, ?_⟩
    refine for_it (walk_list (K := K) (a := a) (xs := ws.map V.str)) (fun i σ H1 => ∃ (v2 v3 v4 v5 : Option V) (as : List Addr) (ps : List (Str × Str)), σ = [some (.ref a), some (.ref D), v2, v3, v4, v5] ∧ (ws.take i).mapM pairOf = some ps ∧ as.length = i ∧ Same H H1 ∧ H1 D = some (.lst (as.map V.ref)) ∧ PairsG H1 as ps ∧ ∀ x ∈ as, H x = none) ⟨_, _, _, _, [], [], rfl, rfl, rfl, sD, upd_same, ⟨rfl, fun i p x e => by simp at e⟩, fun x m => by simp at m⟩ (fun i σ H1 _ q => by
      obtain ⟨_, _, _, _, _, _, _, _, _, s1, _⟩ := q
      exact SqL.of (s1 _ _ ha)) ?_ ?_
    · rintro i y σ H1' H1 hi ⟨v2, v3, v4, v5, as, ps, rfl, hm, hal, s1, hDD, hp, hf⟩ ⟨rfl, hy⟩
      obtain ⟨z, hz, rfl⟩ := map_get hy
      have zm := List.mem_of_getElem? hz
      have W := hw z zm
      refine ⟨_, rfl, ⟨_, rfl⟩, _, _, rfl, rfl, by decide +kernel, sz_of (by have := W.len; omega), fun t ht => ?_⟩
      have sT := Same.new (o := .tup [.str (Txt.partition z ":").1, .str (Txt.partition z ":").2.1, .str (Txt.partition z ":").2.2]) ht
      refine ⟨t, _, rfl, SqT.of upd_same, rfl, _, _, rfl, _, _, rfl, _, _, rfl, rfl, ?_⟩
      have hcut := W.cut
      have hpo : pairOf z = if (namB (Txt.partition z ":").1 && kindB (Txt.partition z ":").2.2) = true then some ((Txt.partition z ":").1, (Txt.partition z ":").2.2) else none := rfl
      generalize Txt.partition z ":" = pt at *
      obtain ⟨p1, p2, p3⟩ := pt
      have sT1 := s1.trans sT
      have hD1 := sT _ _ hDD
      have hp1 : PairsG (upd H1 t (.tup [.str p1, .str p2, .str p3])) as ps := hp.mono sT
      generalize upd H1 t (.tup [.str p1, .str p2, .str p3]) = H2 at *
      refine ⟨_, rfl, p1, rfl, by have h : p1.length ≤ 640 := hcut; omega, fun H3 s3 => ⟨_, rfl, ?_⟩⟩
      by_cases n : namB p1 = true
      rotate_left
      · refine ifT (by rw [Bool.eq_false_iff.mpr n]; rfl) (kN (mapM_none _ _ z zm ?_) H3 (sT1.trans s3))
        rw [hpo, Bool.eq_false_iff.mpr n]
        rfl
      refine ifF (by rw [n]; rfl) ⟨_, rfl, p3, rfl, _, rfl, ?_⟩
      by_cases q : kindB p3 = true
      rotate_left
      · refine ifT (by rw [Bool.eq_false_iff.mpr q]; rfl) (kN (mapM_none _ _ z zm ?_) H3 (sT1.trans s3))
        rw [hpo, Bool.eq_false_iff.mpr q, Bool.and_false]
        rfl
      have hD3 := s3 _ _ hD1
      refine ifF (by rw [q]; rfl) ⟨_, rfl, .inl ⟨rfl, _, SqL.of hD3⟩, _, rfl, _, rfl, sz_of (by show 2 ≤ 100000; decide), fun u hu3 => ?_⟩
      have s4 := Same.new (o := .tup [.str p1, .str p3]) hu3
      have hD4 := s4 _ _ hD3
      have uD : u ≠ D := fun z => by rw [z, hD3] at hu3; cases hu3
      have hu4 : upd H3 u (.tup [.str p1, .str p3]) u = some (.tup [.str p1, .str p3]) := upd_same
      have hp4 := (hp1.mono s3).mono s4
      generalize upd H3 u (.tup [.str p1, .str p3]) = H4 at *
      refine ⟨D, _, _, rfl, rfl, hD4, sz_lt (by rw [List.length_map, hal]; rw [List.length_map] at hi; omega), ?_⟩
      refine ⟨_, _, _, _, as ++ [u], ps ++ [(p1, p3)], rfl, ?_, by rw [List.length_append, hal]; rfl, Same.mut ((sT1.trans s3).trans s4) hD, by rw [upd_same, List.map_append]; rfl, ?_, fun x m => ?_⟩
      · rw [take_snoc hz, mapM_snoc, hm, hpo, n, q]
        rfl
      · refine ⟨by rw [List.length_append, List.length_append, hp4.len]; rfl, fun i2 x e e1 e2 => ?_⟩
        have key : ∀ y, y ≠ D → ∀ o, H4 y = some o → upd H4 D (.lst (as.map V.ref ++ [.ref u])) y = some o := fun y ny o h => by rw [upd_ne ny]; exact h
        by_cases hi2 : i2 < as.length
        · rw [List.getElem?_append_left hi2] at e1
          rw [List.getElem?_append_left (by rw [← hp4.len]; exact hi2)] at e2
          have h := hp4.at_ i2 x e e1 e2
          exact key x (fun z => by rw [z, hD4] at h; cases h) _ h
        · have hi3 : i2 = as.length := by
            have := (List.getElem?_eq_some_iff.mp e1).1
            rw [List.length_append, List.length_singleton] at this
            omega
          subst hi3
          rw [List.getElem?_append_right (Nat.le_refl _), Nat.sub_self] at e1
          rw [List.getElem?_append_right (Nat.le_of_eq hp4.len.symm), hp4.len, Nat.sub_self] at e2
          rw [← Option.some.inj e1, ← Option.some.inj e2]
          exact key u uD _ hu4
      · rcases List.mem_append.mp m with m | m
        · exact hf x m
        · rw [List.mem_singleton.mp m]
          exact none_of (sT1.trans s3) hu3
    · rintro σ H1 ⟨v2, v3, v4, v5, as, ps, rfl, hm, hal, s1, hDD, hp, hf⟩
      rw [List.length_map, List.take_length] at hm
      exact ⟨_, rfl, kS ps hm D as H1 s1 hD hDD hp hf⟩

end
end W5
set_option Elab.async false
set_option linter.all false
set_option maxRecDepth 100000
set_option maxHeartbeats 4000000
namespace W5
open PySem PySem.Spec PyProof.Rows L2 RZ
section
variable {P : Program} {w : World} {K : PySem.W.Frag} {mg : Str → Option Value} {base : Heap}

/-- a comprehension with a test, whose elements leave what stood as it was -/
theorem lc_filt {J : It} {n : Nat} {G : Hp → Prop} {Y : Nat → Hp → V → Hp → Prop} (w : Walk J n G Y) {g : TG} {tt : TT} {te : TE} {vs : List Nat} {σ : L2.St} {H0 : Hp} {D : Addr} {Qd : Hp → Prop} (hD : H0 D = none) (f : Nat → V) (b : Nat → Bool) (hn : n < 100000)
    (hG : ∀ H, Same H0 H → G H)
    (hs : ∀ i H x H', i < n → Same H0 H → Y i H x H' → ∀ (Qe : VK) (Qn : Hp → Prop), (∀ H4, Same H H4 → b i = true → Qe (f i) H4) → (∀ H4, Same H H4 → b i = false → Qn H4) → g x (wipe σ vs) H' fun σ2 H2 => wipe σ2 vs = wipe σ vs ∧ tt σ2 H2 fun c H3 => if c = true then te σ2 H3 Qe else Qn H3)
    (hd : ∀ H, Same H0 H → H D = some (.lst (((List.range n).filter b).map f)) → Qd H) :
    ∃ W : Nat → Nat → Hp → Prop, (∃ m, W 0 m (upd H0 D (.lst []))) ∧ ∀ i m H, W i m H →
      (J.stop i H ∧ Qd H) ∨ (J.go i H ∧ ∃ Nx : Hp → Prop, (∀ H', Nx H' → ∃ m', m' < m ∧ W (i + 1) m' H') ∧ ∀ x H', J.yld i H x H' → g x (wipe σ vs) H' fun σ2 H2 => wipe σ2 vs = wipe σ vs ∧ tt σ2 H2 fun b H3 =>
        if b = true then te σ2 H3 fun y H4 => ∃ acc, H4 D = some (.lst acc) ∧ acc.length < sizeLine ∧ Nx (upd H4 D (.lst (acc ++ [y]))) else Nx H3) := by
  refine lc_it w (fun i H => Same H0 H ∧ H D = some (.lst (((List.range i).filter b).map f))) ⟨Same.new hD, upd_same⟩ (fun i H _ p => hG H p.1) (fun i x H H' hi p y => ?_) (fun H p => hd H p.1 p.2)
  refine hs i H x H' hi p.1 y (fun y H4 => ∃ acc, H4 D = some (.lst acc) ∧ acc.length < sizeLine ∧ (Same H0 (upd H4 D (.lst (acc ++ [y]))) ∧ upd H4 D (.lst (acc ++ [y])) D = some (.lst (((List.range (i + 1)).filter b).map f)))) (fun H3 => Same H0 H3 ∧ H3 D = some (.lst (((List.range (i + 1)).filter b).map f))) (fun H4 s4 hb => ?_) (fun H4 s4 hb => ?_)
  · refine ⟨_, s4 _ _ p.2, sz_lt ?_, Same.mut (p.1.trans s4) hD, ?_⟩
    · rw [List.length_map]
      refine Nat.lt_of_le_of_lt (List.length_filter_le _ _) ?_
      rw [List.length_range]
      exact Nat.lt_trans hi hn
    · rw [upd_same, List.range_succ, List.filter_append, List.map_append, List.filter_cons_of_pos hb]
      rfl
  · refine ⟨p.1.trans s4, ?_⟩
    rw [s4 _ _ p.2, List.range_succ, List.filter_append, List.filter_cons_of_neg (by rw [hb]; decide)]
    simp
/-- what a comprehension with a test leaves of a list -/
theorem filt_range {α : Type} (d : α) (p : α → Bool) (l : List α) : ((List.range l.length).filter fun i => p (l.getD i d)).map (fun i => l.getD i d) = l.filter p := by
  have e : (List.range l.length).map (fun i => l.getD i d) = l := by
    apply List.ext_getElem
    · simp
    · intro i h1 h2
      simp [h2]
  have q : ((List.range l.length).map (fun i => l.getD i d)).filter p = ((List.range l.length).filter fun i => p (l.getD i d)).map (fun i => l.getD i d) := by
    rw [List.filter_map]
    rfl
  rw [← q, e]
def ROWL : List Str := ["number", "add", "sub", "times", "less", "nil", "new", "copy", "same", "get", "put", "call", "see", "if", "jump", "return"]
def rowB (w : Str) : Bool := inV (V.str w) (ROWL.map V.str)
def rolesOf (w : Str) : List Str := (roles.lookup w).getD []
def noMany (w : Str) : List Str := (rolesOf w).filter fun r => decide (r ≠ "many")
/-- a row's parts, and the names behind them if its word takes many -/
def rowOf2 (w0 : Str) (ws : List Str) : Option (List V × Option (List Str)) := if rowB w0 = false then none else
    if ((noMany w0).zip ws).length < (noMany w0).length then none else
    if inV .non (((noMany w0).zip ws).map fun q => partOf q.1 q.2) = true then none else
    if (noMany w0).length = (rolesOf w0).length then (if ws.drop (noMany w0).length = [] then some (.str w0 :: ((noMany w0).zip ws).map fun q => partOf q.1 q.2, none) else none)
    else if (ws.drop (noMany w0).length).all namB = true then some (.str w0 :: ((noMany w0).zip ws).map fun q => partOf q.1 q.2, some (ws.drop (noMany w0).length)) else none
def rowOf : List Str → Option (List V × Option (List Str))
  | [] => none
  | w0 :: ws => rowOf2 w0 ws
/-- a row that was read, at q -/
def RowRd (F H : Hp) (q : Addr) (vs : List V) : Option (List Str) → Prop
  | none => H q = some (.tup vs)
  | some ns => ∃ l, F l = none ∧ H q = some (.tup (vs ++ [.ref l])) ∧ H l = some (.lst (ns.map V.str))
def spRow (K : PySem.W.Frag) : Sp := fun vs H Q _ => ∃ (a : Addr) (ws : List Str), vs = [.ref a, .ref (He.ga K "ROW_WORDS")] ∧ H a = some (.lst (ws.map V.str)) ∧ (∀ w ∈ ws, WordOk w) ∧ ws.length ≤ 50000 ∧
  (rowOf ws = none → ∀ H', Same H H' → Q .non H') ∧ (∀ rv m, rowOf ws = some (rv, m) → ∀ (q : Addr) (H' : Hp), Same H H' → H q = none → RowRd H H' q rv m → Q (.ref q) H')
theorem rolesIn : ∀ x ∈ ROWL, (x, rolesOf x) ∈ roles := by decide +kernel
theorem rowB_in {w : Str} (h : rowB w = true) : w ∈ ROWL := by
  unfold rowB inV at h
  rw [List.any_map, List.any_eq_true] at h
  obtain ⟨x, m, e⟩ := h
  have e2 : x = w := of_decide_eq_true e
  rw [← e2]
  exact m
theorem cut_from {xs : List V} {n : Nat} : cutV xs (some (n : Int)) none = xs.drop n := by
  unfold cutV
  have e2 : HT.sIx xs.length xs.length none = xs.length := rfl
  have e1 : HT.sIx xs.length 0 (some (n : Int)) = min n xs.length := by
    unfold HT.sIx
    simp
    try omega
  rw [e1, e2]
  by_cases h : n ≤ xs.length
  · rw [Nat.min_eq_left h, List.take_of_length_le (by rw [List.length_drop]; exact Nat.le_refl _)]
  · rw [Nat.min_eq_right (by omega), Nat.sub_self, List.take_zero, List.drop_of_length_le (by omega)]
theorem partOf_flat (r w : Str) : flatV (partOf r w) = true := by
  unfold partOf
  split
  · cases readInt w <;> rfl
  · split <;> rfl
theorem sc_read_row : FnScope ["words", "allowed", "roles", "rest", "parts", "role", "word"] ["words", "allowed"] (defScope s_read_row) := ⟨rfl, rfl, rfl, by decide +kernel, rfl, by decide +kernel, by decide +kernel⟩
theorem ok_read_row (T : Ctx w K mg) (H_read_part : Has P w K mg base 2 "_read_part" ["role", "word"] spPart) (H_is_list_of_names : Has P w K mg base 2 "is_list_of_names" ["thing"] spNamesB) : Has P w K mg base 3 "read_row" ["words", "allowed"] (spRow K) := by
  obtain ⟨fd, F⟩ := T.D_read_row
  obtain ⟨fd_read_part, G_read_part, b_read_part⟩ := H_read_part.ex
  obtain ⟨fd_is_list_of_names, G_is_list_of_names, b_is_list_of_names⟩ := H_is_list_of_names.ex
  refine ⟨⟨fd, F.ok sc_read_row (fun vs H Q E h => ?_) (fun cdv A outer s H vs Q E hr h => ?_), F.bindsN fun _ _ _ _ _ _ us hl => match us, hl with | [_, _], _ => rfl⟩, F.kp, T.g_read_row⟩
  · obtain ⟨a, ws, rfl, ha, hw, hl, kN, kS⟩ := h; rfl
  · obtain ⟨a, ws, rfl, ha, hw, hl, kN, kS⟩ := h
    have hr_read_part : Room 2 _ := hr.mono (by decide)
    have hr_is_list_of_names : Room 2 _ := hr.mono (by decide)
    have hu := hu_of hr
    refine ⟨_, PSs.nox (pss_cons (ps_if (PW.pt (pw_or (pt_cmpR op_eq (pe_callB call_len_seq (by rfl) T.f_len (by decide +kernel) (pa_cons (pv 0) pa_nil)) pe_int (nomark _)) (pw_or1 (pt_cmpR op_notIn_seq (pe_ix ix_list (pv 0) pe_int (fun _ _ => rfl)) (pv 1) rfl)))) (pss_one (ps_ret pe_non)) pss_nil)
      (pss_cons (ps_setLc (i := 2) (own := [("role", 5)]) (g := gName 5) rfl sc_read_row.nd rfl rfl (sw_true rfl rfl rfl (by decide +kernel)) (pi_tup (pe_ix ix_kdict (pe_glob (v := .ref (He.ga K "ROLES")) rfl T.g_ROLES rfl) (pe_ix ix_list (pv 0) pe_int (fun _ _ => rfl)) (fun _ _ => rfl))) (blkOk_by (N := ["words", "allowed", "roles", "rest", "parts", "role", "word"]) (sc := defScope s_read_row) (by decide +kernel)) (fun _ _ _ _ _ => (pg_name (i := 5) sc_read_row.nd rfl (Or.inl rfl))) (fun _ _ _ _ _ => (pts_one (pt_cmpR op_ne (pv 5) pe_str (nomark _)))) (fun _ _ _ _ _ => (pv 5)))
      (pss_cons (ps_set (i := 3) sc_read_row.nd rfl (Or.inl rfl) (pe_slice sl_list (pv 0) (po_some (pe_op op_add (pe_callB call_len_seq (by rfl) T.f_len (by decide +kernel) (pa_cons (pv 2) pa_nil)) pe_int)) po_none))
      (pss_cons (ps_setLc (i := 4) (own := [("role", 5), ("word", 6)]) (g := gTup K 2 (gCons (gName 5) (gCons (gName 6) (gNil)))) (tt := tYes) rfl sc_read_row.nd rfl rfl (sw_true rfl rfl rfl (by decide +kernel)) (pi_zipA (by rfl) T.f_zip (pa_cons (pv 2) (pa_cons (pe_slice sl_list (pv 0) (po_some pe_int) po_none) pa_nil))) (blkOk_by (N := ["words", "allowed", "roles", "rest", "parts", "role", "word"]) (sc := defScope s_read_row) (by decide +kernel)) (fun _ _ _ _ _ => (pg_tup rfl (pgs_cons (pg_name (i := 5) sc_read_row.nd rfl (Or.inl rfl)) (pgs_cons (pg_name (i := 6) sc_read_row.nd rfl (Or.inl rfl)) pgs_nil)))) (fun _ _ _ _ _ => pts_nil) (fun _ _ _ _ _ => (pe_call G_read_part hr_read_part (by rfl) H_read_part.gl H_read_part.kp b_read_part .nil pass0 (pa_cons (pv 5) (pa_cons (pv 6) pa_nil)))))
      (pss_cons (ps_if (PW.pt (pw_or (pt_cmpR op_lt (pe_callB call_len_seq (by rfl) T.f_len (by decide +kernel) (pa_cons (pv 4) pa_nil)) (pe_callB call_len_seq (by rfl) T.f_len (by decide +kernel) (pa_cons (pv 2) pa_nil)) (nomark _)) (pw_or1 (pt_cmpR op_in_seq pe_non (pv 4) rfl)))) (pss_one (ps_ret pe_non)) pss_nil)
      (pss_cons (ps_if (pt_cmpR op_eq (pe_callB call_len_seq (by rfl) T.f_len (by decide +kernel) (pa_cons (pv 2) pa_nil)) (pe_callB call_len_seq (by rfl) T.f_len (by decide +kernel) (pa_cons (pe_ix ix_kdict (pe_glob (v := .ref (He.ga K "ROLES")) rfl T.g_ROLES rfl) (pe_ix ix_list (pv 0) pe_int (fun _ _ => rfl)) (fun _ _ => rfl)) pa_nil)) (nomark _)) (pss_one (ps_ret (pe_ifExp (pt_cmpR op_eq (pe_callB call_len_seq (by rfl) T.f_len (by decide +kernel) (pa_cons (pv 3) pa_nil)) pe_int (nomark _)) (pe_tup (pa_cons (pe_ix ix_list (pv 0) pe_int (fun _ _ => rfl)) (StX.pa_star (pv 4) pa_nil))) pe_non))) pss_nil)
      (pss_one (ps_ret (pe_ifExp (pt_val (pe_call G_is_list_of_names hr_is_list_of_names (by rfl) H_is_list_of_names.gl H_is_list_of_names.kp b_is_list_of_names .nil pass0 (pa_cons (pv 3) pa_nil))) (pe_tup (pa_cons (pe_ix ix_list (pv 0) pe_int (fun _ _ => rfl)) (StX.pa_star (pv 4) (pa_cons (pv 3) pa_nil)))) pe_non))))))))), ?_⟩
    cases ws with
    | nil =>
      refine ⟨_, rfl, a, _, rfl, .inl (SqL.of ha), rfl, _, rfl, ifT rfl ?_⟩
      exact kN rfl _ (Same.refl _)
    | cons w0 ws =>
      refine ⟨_, rfl, a, _, rfl, .inl (SqL.of ha), rfl, _, rfl, ifF (decide_eq_false (by rw [List.length_map, List.length_cons]; intro z; have := V.int.inj z; omega)) ?_⟩
      refine ⟨_, rfl, a, _, _, _, rfl, rfl, SqL.of ha, at0, _, rfl, _, _, rfl, .inr (T.rowwords H), rfl, rfl, _, rfl, ?_⟩
      have hw0 := hw w0 List.mem_cons_self
      have eB : inV (V.str w0) (v_ROW_WORDS.map (He.Dv.v K)) = rowB w0 := rfl
      rw [eB]
      have eR : rowOf (w0 :: ws) = rowOf2 w0 ws := rfl
      rw [eR] at kN kS
      unfold rowOf2 at kN kS
      cases c : rowB w0 with
      | false =>
        refine ifT rfl ?_
        rw [c, if_pos rfl] at kN
        exact kN rfl _ (Same.refl _)
      | true =>
      refine ifF rfl ?_
      rw [c, if_neg Bool.noConfusion] at kN kS
      have m0 := rolesIn w0 (rowB_in c)
      refine ⟨_, rfl, a, _, _, _, rfl, rfl, SqL.of ha, at0, _, _, _, rfl, rfl, T.roleK m0, rolA K w0, rfl, ⟨_, (T.role m0 H).2⟩, fun D hD => ?_⟩
      have rlen : (rolesOf w0).length ≤ 10 := (show ∀ x ∈ ROWL, (rolesOf x).length ≤ 10 by decide +kernel) w0 (rowB_in c)
      refine lc_filt (walk_tup (K := K) (a := rolA K w0) (xs := (rolesOf w0).map V.str)) hD (fun t => .str ((rolesOf w0).getD t "")) (fun t => decide ((rolesOf w0).getD t "" ≠ "many")) (by rw [List.length_map]; omega) (fun Ha sa => (T.role m0 Ha).2) (fun t Ha xa Hb ht sa hya Qe Qn qe qn => ?_) (fun Hd sd hdu => ?_)
      · obtain ⟨rfl, hya⟩ := hya
        obtain ⟨z, hz, rfl⟩ := map_get hya
        have ex : (rolesOf w0).getD t "" = z := by
          rw [List.getD_eq_getElem?_getD, hz]
          rfl
        rw [ex] at qe qn
        by_cases cz : z = "many"
        · exact ⟨rfl, _, rfl, rfl, _, rfl, ifF (by rw [cz]; rfl) (qn _ (Same.refl _) (by simp [cz]))⟩
        · exact ⟨rfl, _, rfl, rfl, _, rfl, ifT (by rw [decide_eq_false (fun z => cz (V.str.inj z))]; rfl) ⟨_, rfl, qe _ (Same.refl _) (by simp [cz])⟩⟩
      have hdu2 : Hd D = some (.lst ((noMany w0).map V.str)) := by
        rw [hdu, List.length_map]
        have q := filt_range ("" : Str) (fun z => decide (z ≠ "many")) (rolesOf w0)
        unfold noMany
        rw [← q, List.map_map]
        rfl
      have nlen : (noMany w0).length ≤ (rolesOf w0).length := List.length_filter_le _ _
      generalize hrs : noMany w0 = rs at *
      have hD0 : ∀ {b o}, H b = some o → b ≠ D := fun {b o} h z => by rw [z, hD] at h; cases h
      have ha1 := sd _ _ ha
      -- the rest
      refine ⟨_, rfl, _, rfl, D, _, rfl, .inl (SqL.of hdu2), _, _, rfl, rfl, _, rfl, a, _, rfl, SqL.of ha1, fun R hR => ?_⟩
      have eC : cutV ((w0 :: ws).map V.str) (some ((((rs.map V.str).length : Nat) : Int) + 1)) none = (ws.drop rs.length).map V.str := by
        have e1 : ((((rs.map V.str).length : Nat) : Int) + 1) = ((rs.length + 1 : Nat) : Int) := by rw [List.length_map]; rfl
        rw [e1, cut_from, List.map_cons, List.drop_succ_cons, List.map_drop]
      rw [eC]
      have s2 := Same.new (o := .lst ((ws.drop rs.length).map V.str)) hR
      have hR2 : upd Hd R (.lst ((ws.drop rs.length).map V.str)) R = some (.lst ((ws.drop rs.length).map V.str)) := upd_same
      have hRn : H R = none := none_of sd hR
      have ha2 := s2 _ _ ha1
      have hD2 := s2 _ _ hdu2
      generalize upd Hd R (.lst ((ws.drop rs.length).map V.str)) = H2 at *
      have sH2 := sd.trans s2
      refine ⟨_, rfl, _, rfl, 1, rfl, a, _, rfl, SqL.of ha2, fun W hW => ?_⟩
      have eW : cutV ((w0 :: ws).map V.str) (some 1) none = ws.map V.str := slice1.1
      rw [eW]
      have s3 := Same.new (o := .lst (ws.map V.str)) hW
      have hW3 : upd H2 W (.lst (ws.map V.str)) W = some (.lst (ws.map V.str)) := upd_same
      have hD3 := s3 _ _ hD2
      have hR3 := s3 _ _ hR2
      generalize upd H2 W (.lst (ws.map V.str)) = H3 at *
      have sH3 := sH2.trans s3
      refine ⟨D, W, _, _, rfl, .inl ⟨SqL.of hD3, SqL.of hW3, fun Pp hP => ?_⟩⟩
      have zl : ((rs.zip ws).map fun q => partOf q.1 q.2).length ≤ 10 := by
        rw [List.length_map, List.length_zip]
        omega
      refine lc_pure (walk_zip (K := K) (a := D) (b := W) (xs := rs.map V.str) (ys := ws.map V.str) rfl) hP (fun i => ((rs.zip ws).map fun q => partOf q.1 q.2).getD i .non) (by rw [List.length_map, List.length_map]; omega) (fun Ha sa => ⟨SqL.of (sa _ _ hD3), SqL.of (sa _ _ hW3)⟩) (fun i Ha y Hb hi sa hy Qe qe => ?_) (fun Hc sc hc => ?_)
      · obtain ⟨u, x, z, rfl, hu0, rfl, e1, e2⟩ := hy
        obtain ⟨r, hr1, rfl⟩ := map_get e1
        obtain ⟨z, hz1, rfl⟩ := map_get e2
        have ez : ((rs.zip ws).map fun q => partOf q.1 q.2).getD i .non = partOf r z := by
          have e0 : (rs.zip ws)[i]? = some (r, z) := List.getElem?_zip_eq_some.mpr ⟨hr1, hz1⟩
          rw [List.getD_eq_getElem?_getD, List.getElem?_map, e0]
          rfl
        rw [ez] at qe
        have su := Same.new (o := .tup [.str r, .str z]) hu0
        exact ⟨u, _, rfl, SqT.of upd_same, rfl, _, _, rfl, _, _, rfl, rfl, rfl, _, rfl, _, rfl, r, z, rfl, hw z (List.mem_cons_of_mem _ (List.mem_of_getElem? hz1)), fun He se => qe _ (su.trans se)⟩
      have hlen2 : min (rs.map V.str).length (ws.map V.str).length = ((rs.zip ws).map fun q => partOf q.1 q.2).length := by
        rw [List.length_map, List.length_map, List.length_map, List.length_zip]
      rw [hlen2, map_range_getD] at hc
      have pl : ((rs.zip ws).map fun q => partOf q.1 q.2).length = (rs.zip ws).length := List.length_map _
      have pf : (((rs.zip ws).map fun q => partOf q.1 q.2)).all flatV = true := List.all_eq_true.mpr fun v m => by
        obtain ⟨q, _, rfl⟩ := List.mem_map.mp m
        exact partOf_flat _ _
      generalize hparts : ((rs.zip ws).map fun q => partOf q.1 q.2) = parts at *
      have sHc := sH3.trans sc
      have hDc := sc _ _ hD3
      have hac := sc _ _ (s3 _ _ ha2)
      have hRc := sc _ _ hR3
      have zle : (rs.zip ws).length ≤ ws.length := by rw [List.length_zip]; omega
      refine ⟨_, rfl, Pp, _, rfl, .inl (SqL.of hc), _, rfl, D, _, rfl, .inl (SqL.of hDc), _, _, rfl, rfl, _, rfl, ?_⟩
      rw [List.length_map, pl]
      by_cases cl : (rs.zip ws).length < rs.length
      · rw [if_pos cl] at kN
        exact ifT (decide_eq_true (show (((rs.zip ws).length : Nat) : Int) < ((rs.length : Nat) : Int) by omega)) (kN rfl _ sHc)
      rw [if_neg cl] at kN kS
      refine ifF (decide_eq_false (show ¬ (((rs.zip ws).length : Nat) : Int) < ((rs.length : Nat) : Int) by omega)) ⟨_, rfl, Pp, _, rfl, .inl (SqL.of hc), rfl, pf, _, rfl, ?_⟩
      by_cases ci : inV .non parts = true
      · rw [if_pos ci] at kN
        exact ifT ci (kN rfl _ sHc)
      rw [if_neg ci] at kN kS
      refine ifF (Bool.eq_false_iff.mpr ci) ?_
      refine ⟨_, rfl, D, _, rfl, .inl (SqL.of hDc), _, rfl, a, _, _, _, rfl, rfl, SqL.of hac, at0, _, _, _, rfl, rfl, T.roleK m0, rolA K w0, _, rfl, .inr (T.role m0 _).2, rfl, _, rfl, ?_⟩
      rw [List.length_map, List.length_map]
      by_cases ce : rs.length = (rolesOf w0).length
      · rw [if_pos ce] at kN kS
        refine ifT (decide_eq_true (by rw [ce])) ?_
        refine ⟨_, rfl, R, _, rfl, .inl (SqL.of hRc), rfl, _, rfl, ?_⟩
        rw [List.length_map]
        by_cases cr : ws.drop rs.length = []
        · rw [if_pos cr] at kS
          refine ifT (decide_eq_true (by rw [cr]; rfl)) ?_
          refine ⟨_, rfl, a, _, _, _, rfl, rfl, SqL.of hac, at0, _, rfl, Pp, _, rfl, .inr (SqL.of hc), sz_of (by rw [List.length_cons, List.append_nil]; omega), fun q hq => ?_⟩
          rw [List.append_nil]
          exact kS _ _ rfl q _ (sHc.trans (Same.new hq)) (none_of sHc hq) upd_same
        · rw [if_neg cr] at kN
          exact ifF (decide_eq_false (fun z => cr (List.length_eq_zero_iff.mp (by have := V.int.inj z; omega)))) (kN rfl _ sHc)
      · rw [if_neg ce] at kN kS
        refine ifF (decide_eq_false (fun z => ce (by have := V.int.inj z; omega))) ?_
        have hall : ∀ x ∈ ws.drop rs.length, x.length ≤ 100000 := fun x m => by
          have := (hw x (List.mem_cons_of_mem _ (List.drop_subset _ _ m))).len
          omega
        have hln : (ws.drop rs.length).length < 100000 := by
          rw [List.length_drop]
          rw [List.length_cons] at hl
          omega
        refine ⟨_, rfl, R, _, rfl, hRc, hall, hln, fun He se => ⟨_, rfl, ?_⟩⟩
        by_cases cn : (ws.drop rs.length).all namB = true
        · rw [if_pos cn] at kS
          refine ifT cn ⟨_, rfl, a, _, _, _, rfl, rfl, SqL.of (se _ _ hac), at0, _, rfl, Pp, _, rfl, .inr (SqL.of (se _ _ hc)), _, rfl, sz_of (by rw [List.length_cons, List.length_append, List.length_singleton]; omega), fun q hq => ?_⟩
          have sq := Same.new (o := .tup (.str w0 :: (parts ++ [V.ref R]))) hq
          exact kS _ _ rfl q _ ((sHc.trans se).trans sq) (none_of (sHc.trans se) hq) ⟨R, hRn, upd_same, (se.trans sq) _ _ hRc⟩
        · rw [if_neg cn] at kN
          exact ifF (Bool.eq_false_iff.mpr cn) (kN rfl _ (sHc.trans se))

end
end W5
set_option Elab.async false
set_option linter.all false
set_option maxRecDepth 100000
set_option maxHeartbeats 4000000
namespace W5
open PySem PySem.Spec PyProof.Rows L2 RZ
section
variable {P : Program} {w : World} {K : PySem.W.Frag} {mg : Str → Option Value} {base : Heap}

abbrev RowV := List V × Option (List Str)
structure PFn where
  nm : Str
  kd : Str
  ns : List (Str × Str)
  ms : List (Str × Str)
  rws : List RowV
structure TSt where
  cls : List (Str × List (Str × Str))
  fns : List PFn
def PFn.more (f : PFn) (r : RowV) : PFn := { f with rws := f.rws ++ [r] }
def TSt.addRow (st : TSt) (f : PFn) (r : RowV) : TSt := { st with fns := st.fns.dropLast ++ [f.more r] }
def TSt.addCls (st : TSt) (c : Str × List (Str × Str)) : TSt := { st with cls := st.cls ++ [c] }
def TSt.addFn (st : TSt) (f : PFn) : TSt := { st with fns := st.fns ++ [f] }
def clsOf : List Str → Option (Str × List (Str × Str))
  | _ :: w1 :: ws => (ws.mapM pairOf).map fun fs => (w1, fs)
  | _ => none
def strokeAt (ws : List Str) : Nat := ws.findIdx fun w => eqV (V.str w) (V.str "/")
def fnOf : List Str → Option PFn
  | w0 :: w1 :: w2 :: w3 :: ws => if kindB w2 = false then none else
    if inV (V.str "/") ((w0 :: w1 :: w2 :: w3 :: ws).map V.str) = false then none else
    (((w3 :: ws).take (strokeAt (w0 :: w1 :: w2 :: w3 :: ws) - 3)).mapM pairOf).bind fun ns => (((w0 :: w1 :: w2 :: w3 :: ws).drop (strokeAt (w0 :: w1 :: w2 :: w3 :: ws) + 1)).mapM pairOf).map fun ms => ⟨w1, w2, ns, ms, []⟩
  | _ => none
def headOf (st : TSt) : List Str → Option TSt
  | w0 :: w1 :: ws => if namB w1 = false then none else
    if w0 = "class" ∧ st.fns = [] then (clsOf (w0 :: w1 :: ws)).map st.addCls
    else if w0 = "function" then (fnOf (w0 :: w1 :: ws)).map st.addFn else none
  | _ => none
/-- a line is taken -/
def step (st : TSt) (l : Bool × List Str) : Option TSt :=
  if l.1 = true then (match rowOf l.2, st.fns.getLast? with
    | some r, some f => some (st.addRow f r)
    | _, _ => none)
  else headOf st l.2
/-! ### what is read, in the heap; M: the lists that are still written -/
def At (M : List Addr) (H : Hp) (b : Addr) (o : HO) : Prop := H b = some o ∧ b ∉ M
def KeepM (M : List Addr) (H H' : Hp) : Prop := ∀ b u, H b = some u → b ∉ M → H' b = some u
theorem KeepM.of {M : List Addr} {H H' : Hp} (e : Same H H') : KeepM M H H' := fun b u h _ => e b u h
theorem KeepM.trans {M : List Addr} {H H1 H2 : Hp} (a : KeepM M H H1) (b : KeepM M H1 H2) : KeepM M H H2 := fun c u h n => b c u (a c u h n) n
theorem KeepM.upd {M : List Addr} {H : Hp} {d : Addr} {o : HO} (m : d ∈ M) : KeepM M H (upd H d o) := fun b u h n => by
  rw [upd_ne (fun z => n (by rw [z]; exact m))]
  exact h
theorem KeepM.wide {M N : List Addr} {H H' : Hp} (k : KeepM M H H') (s : ∀ x ∈ M, x ∈ N) : KeepM N H H' := fun b u h n => k b u h (fun m => n (s b m))
theorem At.keep {M : List Addr} {H H' : Hp} {b : Addr} {o : HO} (h : At M H b o) (k : KeepM M H H') : At M H' b o := ⟨k _ _ h.1 h.2, h.2⟩
theorem At.more {M : List Addr} {H : Hp} {b d : Addr} {o : HO} (h : At M H b o) (n : H d = none) : At (M ++ [d]) H b o := ⟨h.1, fun m => by
  rcases List.mem_append.mp m with m | m
  · exact h.2 m
  · rw [← List.mem_singleton.mp m, h.1] at n
    cases n⟩
/-- a step of the heap that keeps what stands apart from M, and does not touch N more -/
structure Step (M N : List Addr) (H H' : Hp) : Prop where
  at_ : ∀ {b o}, At M H b o → At N H' b o
theorem Step.of {M : List Addr} {H H' : Hp} (k : KeepM M H H') : Step M M H H' := ⟨fun h => h.keep k⟩
def PairsM (M : List Addr) (H : Hp) (as : List Addr) (ps : List (Str × Str)) : Prop := as.length = ps.length ∧ ∀ (i : Nat) a p, as[i]? = some a → ps[i]? = some p → At M H a (.tup [.str p.1, .str p.2])
def ClsM (M : List Addr) (H : Hp) (e : Addr) (c : Str × List (Str × Str)) : Prop := ∃ (la : Addr) (as : List Addr), At M H e (.tup [.str c.1, .ref la]) ∧ At M H la (.lst (as.map V.ref)) ∧ PairsM M H as c.2
def RowM (M : List Addr) (H : Hp) (a : Addr) (r : RowV) : Prop := match r.2 with
  | none => At M H a (.tup r.1)
  | some ns => ∃ l : Addr, At M H a (.tup (r.1 ++ [.ref l])) ∧ At M H l (.lst (ns.map V.str))
def FnM (M : List Addr) (H : Hp) (e ra : Addr) (f : PFn) : Prop := ∃ (pa oa : Addr) (as bs : List Addr), At M H e (.tup [.str f.nm, .ref pa, .ref oa, .str f.kd, .ref ra]) ∧ At M H pa (.lst (as.map V.ref)) ∧ At M H oa (.lst (bs.map V.ref)) ∧ PairsM M H as f.ns ∧ PairsM M H bs f.ms
theorem PairsM.step {M N : List Addr} {H H' : Hp} {as : List Addr} {ps : List (Str × Str)} (h : PairsM M H as ps) (k : Step M N H H') : PairsM N H' as ps := ⟨h.1, fun i a p x y => k.at_ (h.2 i a p x y)⟩
theorem ClsM.step {M N : List Addr} {H H' : Hp} {e : Addr} {c : Str × List (Str × Str)} (h : ClsM M H e c) (k : Step M N H H') : ClsM N H' e c := by
  obtain ⟨la, as, h1, h2, h3⟩ := h
  exact ⟨la, as, k.at_ h1, k.at_ h2, h3.step k⟩
theorem RowM.step {M N : List Addr} {H H' : Hp} {a : Addr} {r : RowV} (h : RowM M H a r) (k : Step M N H H') : RowM N H' a r := by
  obtain ⟨vs, m⟩ := r
  cases m with
  | none => exact k.at_ (show At M H a (.tup vs) from h)
  | some ns =>
    obtain ⟨l, h1, h2⟩ := (show ∃ l : Addr, At M H a (.tup (vs ++ [.ref l])) ∧ At M H l (.lst (ns.map V.str)) from h)
    exact ⟨l, k.at_ h1, k.at_ h2⟩
theorem FnM.step {M N : List Addr} {H H' : Hp} {e ra : Addr} {f : PFn} (h : FnM M H e ra f) (k : Step M N H H') : FnM N H' e ra f := by
  obtain ⟨pa, oa, as, bs, h1, h2, h3, h4, h5⟩ := h
  exact ⟨pa, oa, as, bs, k.at_ h1, k.at_ h2, k.at_ h3, h4.step k, h5.step k⟩
structure StM (H : Hp) (cl fl : Addr) (rs : List Addr) (st : TSt) : Prop where
  nd : (cl :: fl :: rs).Nodup
  cs : ∃ es : List Addr, H cl = some (.lst (es.map V.ref)) ∧ es.length = st.cls.length ∧ ∀ (i : Nat) e c, es[i]? = some e → st.cls[i]? = some c → ClsM (cl :: fl :: rs) H e c
  fs : ∃ es : List Addr, H fl = some (.lst (es.map V.ref)) ∧ es.length = st.fns.length ∧ rs.length = st.fns.length ∧ ∀ (i : Nat) e ra f, es[i]? = some e → rs[i]? = some ra → st.fns[i]? = some f → FnM (cl :: fl :: rs) H e ra f
  rw_ : ∀ (i : Nat) ra f, rs[i]? = some ra → st.fns[i]? = some f → ∃ as : List Addr, H ra = some (.lst (as.map V.ref)) ∧ as.length = f.rws.length ∧ ∀ (j : Nat) a r, as[j]? = some a → f.rws[j]? = some r → RowM (cl :: fl :: rs) H a r
theorem StM.same {H H' : Hp} {cl fl : Addr} {rs : List Addr} {st : TSt} (h : StM H cl fl rs st) (e : Same H H') : StM H' cl fl rs st := by
  have k := Step.of (KeepM.of (M := cl :: fl :: rs) e)
  obtain ⟨es, c1, c2, c3⟩ := h.cs
  obtain ⟨gs, f1, f2, f3, f4⟩ := h.fs
  refine ⟨h.nd, ⟨es, e _ _ c1, c2, fun i x c a b => (c3 i x c a b).step k⟩, ⟨gs, e _ _ f1, f2, f3, fun i x ra f a b c => (f4 i x ra f a b c).step k⟩, fun i ra f a b => ?_⟩
  obtain ⟨as, r1, r2, r3⟩ := h.rw_ i ra f a b
  exact ⟨as, e _ _ r1, r2, fun j y r m n => (r3 j y r m n).step k⟩
theorem StM.init {H : Hp} {cl fl : Addr} (h1 : H cl = some (.lst [])) (h2 : H fl = some (.lst [])) (n : cl ≠ fl) : StM H cl fl [] ⟨[], []⟩ :=
  ⟨by simp [n], ⟨[], h1, rfl, fun i e c a => by simp at a⟩, ⟨[], h2, rfl, rfl, fun i e ra f a => by simp at a⟩, fun i ra f a => by simp at a⟩
theorem refs_inj : ∀ {as bs : List Addr}, as.map V.ref = bs.map V.ref → as = bs
  | [], [], _ => rfl
  | [], _ :: _, h => by simp at h
  | _ :: _, [], h => by simp at h
  | a :: as, b :: bs, h => by
    simp only [List.map_cons, List.cons.injEq, V.ref.injEq] at h
    rw [h.1, refs_inj h.2]
theorem snoc_get {α : Type} {l : List α} {x y : α} {i : Nat} (h : (l ++ [x])[i]? = some y) : (i < l.length ∧ l[i]? = some y) ∨ (i = l.length ∧ x = y) := by
  by_cases c : i < l.length
  · rw [List.getElem?_append_left c] at h
    exact .inl ⟨c, h⟩
  · have hi : i = l.length := by
      have := (List.getElem?_eq_some_iff.mp h).1
      rw [List.length_append, List.length_singleton] at this
      omega
    subst hi
    rw [List.getElem?_append_right (Nat.le_refl _), Nat.sub_self] at h
    exact .inr ⟨rfl, Option.some.inj h⟩
theorem StM.addCls {H : Hp} {cl fl e : Addr} {rs es : List Addr} {st : TSt} {c : Str × List (Str × Str)} (h : StM H cl fl rs st) (he : H cl = some (.lst (es.map V.ref))) (hc : ClsM (cl :: fl :: rs) H e c) :
    StM (upd H cl (.lst (es.map V.ref ++ [.ref e]))) cl fl rs (st.addCls c) := by
  have k := Step.of (KeepM.upd (M := cl :: fl :: rs) (H := H) (d := cl) (o := .lst (es.map V.ref ++ [.ref e])) List.mem_cons_self)
  obtain ⟨es2, c1, c2, c3⟩ := h.cs
  obtain ⟨gs, f1, f2, f3, f4⟩ := h.fs
  have ee : es2 = es := by
    have z : (HO.lst (es2.map V.ref)) = .lst (es.map V.ref) := Option.some.inj (c1.symm.trans he)
    have z2 := HO.lst.inj z
    exact refs_inj z2
  subst ee
  obtain ⟨n1, n2⟩ := List.nodup_cons.mp h.nd
  have nfl : fl ≠ cl := fun z => n1 (by rw [← z]; exact List.mem_cons_self)
  refine ⟨h.nd, ⟨es2 ++ [e], by rw [upd_same, List.map_append]; rfl, by rw [List.length_append, c2]; exact (List.length_append (as := st.cls) (bs := [c])).symm, fun i x q a b => ?_⟩, ⟨gs, by rw [upd_ne nfl]; exact f1, f2, f3, fun i x ra f a b c => (f4 i x ra f a b c).step k⟩, fun i ra f a b => ?_⟩
  · rcases snoc_get a with ⟨a1, a2⟩ | ⟨a1, a2⟩
    · rcases snoc_get (show (st.cls ++ [c])[i]? = some q from b) with ⟨b1, b2⟩ | ⟨b1, b2⟩
      · exact (c3 i x q a2 b2).step k
      · omega
    · rcases snoc_get (show (st.cls ++ [c])[i]? = some q from b) with ⟨b1, b2⟩ | ⟨b1, b2⟩
      · omega
      · rw [← a2, ← b2]
        exact hc.step k
  · obtain ⟨as, r1, r2, r3⟩ := h.rw_ i ra f a b
    have nra : ra ≠ cl := fun z => n1 (List.mem_cons_of_mem _ (by rw [← z]; exact List.mem_of_getElem? a))
    exact ⟨as, by rw [upd_ne nra]; exact r1, r2, fun j y r m n => (r3 j y r m n).step k⟩
theorem StM.addFn {H0 H1 : Hp} {cl fl e ra : Addr} {rs es : List Addr} {st : TSt} {f : PFn} (h : StM H0 cl fl rs st) (s : Same H0 H1) (n : H0 ra = none) (hra : H1 ra = some (.lst [])) (he : H0 fl = some (.lst (es.map V.ref))) (hf : FnM ((cl :: fl :: rs) ++ [ra]) H1 e ra f) (hr : f.rws = []) :
    StM (upd H1 fl (.lst (es.map V.ref ++ [.ref e]))) cl fl (rs ++ [ra]) (st.addFn f) := by
  obtain ⟨cs2, c1, c2, c3⟩ := h.cs
  obtain ⟨gs, f1, f2, f3, f4⟩ := h.fs
  have ee : gs = es := refs_inj (HO.lst.inj (Option.some.inj (f1.symm.trans he)))
  subst ee
  have k : Step (cl :: fl :: rs) ((cl :: fl :: rs) ++ [ra]) H0 (upd H1 fl (.lst (gs.map V.ref ++ [.ref e]))) := ⟨fun {b o} a => by
    have a2 := a.more n
    have hb : b ≠ fl := fun z => a.2 (by rw [z]; exact List.mem_cons_of_mem _ List.mem_cons_self)
    exact ⟨by rw [upd_ne hb]; exact s _ _ a.1, a2.2⟩⟩
  have k1 : Step ((cl :: fl :: rs) ++ [ra]) ((cl :: fl :: rs) ++ [ra]) H1 (upd H1 fl (.lst (gs.map V.ref ++ [.ref e]))) := Step.of (KeepM.upd (by simp))
  obtain ⟨n1, n2⟩ := List.nodup_cons.mp h.nd
  obtain ⟨n3, n4⟩ := List.nodup_cons.mp n2
  have nd2 : ((cl :: fl :: rs) ++ [ra]).Nodup := by
    rw [List.nodup_append]
    refine ⟨h.nd, by simp, fun a m b mb => ?_⟩
    rw [List.mem_singleton.mp mb]
    rintro rfl
    have there : H0 a ≠ none := by
      rcases List.mem_cons.mp m with rfl | m
      · rw [c1]; simp
      · rcases List.mem_cons.mp m with rfl | m
        · rw [f1]; simp
        · obtain ⟨i, hi, rfl⟩ := List.getElem_of_mem m
          have hi2 : i < st.fns.length := by omega
          obtain ⟨as, r1, _⟩ := h.rw_ i _ _ (List.getElem?_eq_getElem hi) (List.getElem?_eq_getElem hi2)
          rw [r1]; simp
    exact there n
  have ncl : cl ≠ fl := fun z => n1 (by rw [z]; exact List.mem_cons_self)
  have nra : ra ≠ fl := fun z => by rw [z, he] at n; cases n
  refine ⟨nd2, ⟨cs2, by rw [upd_ne ncl]; exact s _ _ c1, c2, fun i x q a b => (c3 i x q a b).step k⟩, ⟨gs ++ [e], by rw [upd_same, List.map_append]; rfl, by rw [List.length_append, f2]; exact (List.length_append (as := st.fns) (bs := [f])).symm, by rw [List.length_append, f3]; exact (List.length_append (as := st.fns) (bs := [f])).symm, fun i x r g a b c => ?_⟩, fun i r g a b => ?_⟩
  · rcases snoc_get a with ⟨a1, a2⟩ | ⟨a1, a2⟩ <;> rcases snoc_get b with ⟨b1, b2⟩ | ⟨b1, b2⟩ <;> rcases snoc_get (show (st.fns ++ [f])[i]? = some g from c) with ⟨d1, d2⟩ | ⟨d1, d2⟩
    · exact (f4 i x r g a2 b2 d2).step k
    all_goals first
      | omega
      | (rw [← a2, ← b2, ← d2]; exact hf.step k1)
  · rcases snoc_get a with ⟨a1, a2⟩ | ⟨a1, a2⟩ <;> rcases snoc_get (show (st.fns ++ [f])[i]? = some g from b) with ⟨d1, d2⟩ | ⟨d1, d2⟩
    · obtain ⟨as, r1, r2, r3⟩ := h.rw_ i r g a2 d2
      have nr : r ≠ fl := fun z => n3 (by rw [← z]; exact List.mem_of_getElem? a2)
      exact ⟨as, by rw [upd_ne nr]; exact s _ _ r1, r2, fun j y q m n => (r3 j y q m n).step k⟩
    · omega
    · omega
    · rw [← a2, ← d2, hr]
      exact ⟨[], by rw [upd_ne nra]; exact hra, rfl, fun j y q m => by simp at m⟩
theorem last_get {α : Type} {l : List α} {x : α} (h : l.getLast? = some x) : l = l.dropLast ++ [x] ∧ l[l.length - 1]? = some x ∧ 0 < l.length := by
  have h2 := h
  rw [List.getLast?_eq_getElem?] at h2
  have hl := (List.getElem?_eq_some_iff.mp h2).1
  refine ⟨?_, h2, by omega⟩
  have hne : l ≠ [] := fun z => by rw [z] at hl; simp at hl
  rw [List.getLast?_eq_some_getLast hne] at h
  rw [← Option.some.inj h]
  exact (List.dropLast_concat_getLast hne).symm
theorem StM.addRow {H : Hp} {cl fl q ra : Addr} {rs as : List Addr} {st : TSt} {f : PFn} {r : RowV} (h : StM H cl fl rs st) (hf : st.fns.getLast? = some f) (ha : rs[st.fns.length - 1]? = some ra) (hl : H ra = some (.lst (as.map V.ref))) (hr : RowM (cl :: fl :: rs) H q r) :
    StM (upd H ra (.lst (as.map V.ref ++ [.ref q]))) cl fl rs (st.addRow f r) := by
  obtain ⟨e1, e2, e3⟩ := last_get hf
  have mra := List.mem_of_getElem? ha
  have k := Step.of (KeepM.upd (M := cl :: fl :: rs) (H := H) (d := ra) (o := .lst (as.map V.ref ++ [.ref q])) (List.mem_cons_of_mem _ (List.mem_cons_of_mem _ mra)))
  obtain ⟨cs2, c1, c2, c3⟩ := h.cs
  obtain ⟨gs, f1, f2, f3, f4⟩ := h.fs
  obtain ⟨n1, n2⟩ := List.nodup_cons.mp h.nd
  obtain ⟨n3, n4⟩ := List.nodup_cons.mp n2
  have ncl : cl ≠ ra := fun z => n1 (List.mem_cons_of_mem _ (by rw [z]; exact mra))
  have nfl : fl ≠ ra := fun z => n3 (by rw [z]; exact mra)
  have len : (st.addRow f r).fns.length = st.fns.length := by
    show (st.fns.dropLast ++ [f.more r]).length = _
    rw [List.length_append, List.length_dropLast]
    simp
    omega
  have low : ∀ (i : Nat) g, (st.addRow f r).fns[i]? = some g → (i < st.fns.length - 1 ∧ st.fns[i]? = some g) ∨ (i = st.fns.length - 1 ∧ g = f.more r) := fun i g a => by
    rcases snoc_get (show (st.fns.dropLast ++ [f.more r])[i]? = some g from a) with ⟨a1, a2⟩ | ⟨a1, a2⟩
    · rw [List.length_dropLast] at a1
      refine .inl ⟨a1, ?_⟩
      rw [List.getElem?_dropLast, if_pos a1] at a2
      exact a2
    · rw [List.length_dropLast] at a1
      exact .inr ⟨a1, a2.symm⟩
  refine ⟨h.nd, ⟨cs2, by rw [upd_ne ncl]; exact c1, c2, fun i x q a b => (c3 i x q a b).step k⟩, ⟨gs, by rw [upd_ne nfl]; exact f1, by rw [len]; exact f2, by rw [len]; exact f3, fun i x r2 g a b c => ?_⟩, fun i r2 g a b => ?_⟩
  · rcases low i g c with ⟨_, c2⟩ | ⟨ci, rfl⟩
    · exact (f4 i x r2 g a b c2).step k
    · have old : st.fns[i]? = some f := by rw [ci]; exact e2
      obtain ⟨pa, oa, as2, bs2, h1, h2, h3, h4, h5⟩ := (f4 i x r2 f a b old).step k
      exact ⟨pa, oa, as2, bs2, h1, h2, h3, h4, h5⟩
  · rcases low i g b with ⟨ci, c2⟩ | ⟨ci, rfl⟩
    · obtain ⟨as2, r1, rl, r3⟩ := h.rw_ i r2 g a c2
      have nr : r2 ≠ ra := fun z => by
        subst z
        have hi := (List.getElem?_eq_some_iff.mp a)
        have hj := (List.getElem?_eq_some_iff.mp ha)
        obtain ⟨i1, i2⟩ := hi
        obtain ⟨j1, j2⟩ := hj
        have := (List.getElem_inj n4).mp (i2.trans j2.symm)
        omega
      exact ⟨as2, by rw [upd_ne nr]; exact r1, rl, fun j y z m n => (r3 j y z m n).step k⟩
    · rw [ci] at a
      have er : ra = r2 := Option.some.inj (ha.symm.trans a)
      subst er
      obtain ⟨as2, r1, rl, r3⟩ := h.rw_ _ _ _ ha e2
      have ee : as2 = as := refs_inj (HO.lst.inj (Option.some.inj (r1.symm.trans hl)))
      subst ee
      refine ⟨as2 ++ [q], by rw [upd_same, List.map_append]; rfl, by rw [List.length_append, rl]; exact (List.length_append (as := f.rws) (bs := [r])).symm, fun j y z m n => ?_⟩
      rcases snoc_get m with ⟨m1, m2⟩ | ⟨m1, m2⟩ <;> rcases snoc_get (show (f.rws ++ [r])[j]? = some z from n) with ⟨d1, d2⟩ | ⟨d1, d2⟩
      · exact (r3 j y z m2 d2).step k
      · omega
      · omega
      · rw [← m2, ← d2]
        exact hr.step k

end
end W5
set_option Elab.async false
set_option linter.all false
set_option maxRecDepth 100000
set_option maxHeartbeats 4000000
namespace W5
open PySem PySem.Spec PyProof.Rows L2 RZ
section
variable {P : Program} {w : World} {K : PySem.W.Frag} {mg : Str → Option Value} {base : Heap}

theorem StM.there {H : Hp} {cl fl : Addr} {rs : List Addr} {st : TSt} (h : StM H cl fl rs st) : ∀ b ∈ cl :: fl :: rs, H b ≠ none := fun b m => by
  obtain ⟨cs2, c1, _⟩ := h.cs
  obtain ⟨gs, f1, _, f3, _⟩ := h.fs
  rcases List.mem_cons.mp m with rfl | m
  · rw [c1]; simp
  · rcases List.mem_cons.mp m with rfl | m
    · rw [f1]; simp
    · obtain ⟨i, hi, rfl⟩ := List.getElem_of_mem m
      have hi2 : i < st.fns.length := by omega
      obtain ⟨as, r1, _⟩ := h.rw_ i _ _ (List.getElem?_eq_getElem hi) (List.getElem?_eq_getElem hi2)
      rw [r1]; simp
theorem StM.new {H : Hp} {cl fl b : Addr} {rs : List Addr} {st : TSt} (h : StM H cl fl rs st) (n : H b = none) : b ∉ cl :: fl :: rs := fun m => h.there b m n
theorem pairsM_of {M : List Addr} {F H : Hp} {as : List Addr} {ps : List (Str × Str)} (h : PairsG H as ps) (f : ∀ x ∈ as, F x = none) (n : ∀ b, F b = none → b ∉ M) : PairsM M H as ps := ⟨h.len, fun i a p x y => ⟨h.at_ i a p x y, n a (f a (List.mem_of_getElem? x))⟩⟩
def spTakesC : Sp := fun vs H Q _ => ∃ (wa cl fl : Addr) (rs : List Addr) (st : TSt) (ws : List Str), vs = [.ref wa, .ref cl] ∧ H wa = some (.lst (ws.map V.str)) ∧ (∀ w ∈ ws, WordOk w) ∧ ws.length ≤ 50000 ∧ 2 ≤ ws.length ∧ StM H cl fl rs st ∧ st.cls.length ≤ 50000 ∧
  (clsOf ws = none → ∀ H', Same H H' → Q (.bl false) H') ∧ (∀ c, clsOf ws = some c → ∀ H', KeepM [cl] H H' → StM H' cl fl rs (st.addCls c) → Q (.bl true) H')
theorem clsOf_eq {w0 w1 : Str} {ws : List Str} : clsOf (w0 :: w1 :: ws) = (ws.mapM pairOf).map fun fs => (w1, fs) := rfl
theorem sc_takes_class : FnScope ["words", "classes", "fields"] ["words", "classes"] (defScope s_takes_class) := ⟨rfl, rfl, rfl, by decide +kernel, rfl, by decide +kernel, by decide +kernel⟩
theorem ok_takes_class (T : Ctx w K mg) (H_read_pairs : Has P w K mg base 2 "read_pairs" ["words"] spPairs) : Has P w K mg base 3 "_takes_class" ["words", "classes"] spTakesC := by
  obtain ⟨fd, F⟩ := T.D_takes_class
  obtain ⟨fd_read_pairs, G_read_pairs, b_read_pairs⟩ := H_read_pairs.ex
  refine ⟨⟨fd, F.ok sc_takes_class (fun vs H Q E h => ?_) (fun cdv A outer s H vs Q E hr h => ?_), F.bindsN fun _ _ _ _ _ _ us hl => match us, hl with | [_, _], _ => rfl⟩, F.kp, T.g_takes_class⟩
  · obtain ⟨wa, cl, fl, rs, st, ws, rfl, ha, hw, hl, h2, S, hcl, kN, kS⟩ := h; rfl
  · obtain ⟨wa, cl, fl, rs, st, ws, rfl, ha, hw, hl, h2, S, hcl, kN, kS⟩ := h
    have hr_read_pairs : Room 2 _ := hr.mono (by decide)
    have hu := hu_of hr
    refine ⟨_, PSs.nox (pss_cons (ps_set (i := 2) sc_takes_class.nd rfl (Or.inl rfl) (pe_call G_read_pairs hr_read_pairs (by rfl) H_read_pairs.gl H_read_pairs.kp b_read_pairs .nil pass0 (pa_cons (pe_slice sl_list (pv 0) (po_some pe_int) po_none) pa_nil)))
      (pss_cons (ps_if (pt_cmpR op_isN (pv 2) pe_non (nomark _)) (pss_one (ps_ret pe_bl)) pss_nil)
      (pss_cons (ps_expr (pe_bm PySem.F.plainAttrs_list PySem.F.slot_list_append PySem.F.type_list_append mt_append (pv 1) (pa_cons (pe_tup (pa_cons (pe_ix ix_list (pv 0) pe_int (fun _ _ => rfl)) (pa_cons (pv 2) pa_nil))) pa_nil)))
      (pss_one (ps_ret pe_bl))))), ?_⟩
    match ws, h2 with
    | w0 :: w1 :: ws, _ =>
    rw [clsOf_eq] at kN kS
    refine ⟨_, rfl, 2, rfl, wa, _, rfl, SqL.of ha, fun R hR => ?_⟩
    have eR : cutV ((w0 :: w1 :: ws).map V.str) (some 2) none = ws.map V.str := by
      have e := cut_from (xs := (w0 :: w1 :: ws).map V.str) (n := 2)
      exact e
    rw [eR]
    have s1 := Same.new (o := .lst (ws.map V.str)) hR
    have hlw : ws.length ≤ 50000 := by
      simp only [List.length_cons] at hl
      omega
    have hw2 : ∀ w ∈ ws, WordOk w := fun w m => hw w (List.mem_cons_of_mem _ (List.mem_cons_of_mem _ m))
    refine ⟨R, ws, rfl, upd_same, hw2, hlw, fun e H1 s2 => ?_, fun ps e q as H1 s2 hq hql hp hf => ?_⟩
    · rw [e] at kN
      exact ⟨_, rfl, rfl, _, rfl, ifT rfl (kN rfl _ (s1.trans s2))⟩
    · rw [e] at kS
      refine ⟨_, rfl, rfl, _, rfl, ifF rfl ?_⟩
      have s12 := s1.trans s2
      have S1 := S.same s12
      obtain ⟨es, c1, c2, _⟩ := S1.cs
      refine ⟨_, rfl, .inl ⟨rfl, _, SqL.of c1⟩, _, rfl, wa, _, _, _, rfl, rfl, SqL.of (s12 _ _ ha), at1, _, rfl, sz_of (by show 2 ≤ 100000; decide), fun x hx => ?_⟩
      have s3 := Same.new (o := .tup [.str w1, .ref q]) hx
      have hx3 : upd H1 x (.tup [.str w1, .ref q]) x = some (.tup [.str w1, .ref q]) := upd_same
      have S3 := S1.same s3
      have hql3 := s3 _ _ hql
      have hp3 := hp.mono s3
      have c13 := s3 _ _ c1
      generalize upd H1 x (.tup [.str w1, .ref q]) = H3 at *
      have nq : q ∉ cl :: fl :: rs := S.new (none_of s1 hq)
      have nx : x ∉ cl :: fl :: rs := S1.new hx
      have pm : PairsM (cl :: fl :: rs) H3 as ps := pairsM_of (F := H) hp3 (fun y m => none_of s1 (hf y m)) (fun b n => S.new n)
      refine ⟨cl, _, _, rfl, rfl, c13, sz_lt (by rw [List.length_map, c2]; omega), ?_⟩
      refine kS (w1, ps) rfl _ ?_ (S3.addCls c13 ⟨q, as, ⟨hx3, nx⟩, ⟨hql3, nq⟩, pm⟩)
      exact (KeepM.of (s12.trans s3)).trans (KeepM.upd (by simp))
def spTakesF : Sp := fun vs H Q _ => ∃ (wa cl fl : Addr) (rs : List Addr) (st : TSt) (ws : List Str), vs = [.ref wa, .ref fl] ∧ H wa = some (.lst (ws.map V.str)) ∧ (∀ w ∈ ws, WordOk w) ∧ ws.length ≤ 50000 ∧ 2 ≤ ws.length ∧ StM H cl fl rs st ∧ st.fns.length ≤ 50000 ∧
  (fnOf ws = none → ∀ H', Same H H' → Q (.bl false) H') ∧ (∀ f, fnOf ws = some f → ∀ (H' : Hp) (ra : Addr), H ra = none → KeepM [fl] H H' → StM H' cl fl (rs ++ [ra]) (st.addFn f) → Q (.bl true) H')
def fnOf4 (w0 w1 w2 w3 : Str) (ws : List Str) : Option PFn := if kindB w2 = false then none else
    if inV (V.str "/") ((w0 :: w1 :: w2 :: w3 :: ws).map V.str) = false then none else
    (((w3 :: ws).take (strokeAt (w0 :: w1 :: w2 :: w3 :: ws) - 3)).mapM pairOf).bind fun ns => (((w0 :: w1 :: w2 :: w3 :: ws).drop (strokeAt (w0 :: w1 :: w2 :: w3 :: ws) + 1)).mapM pairOf).map fun ms => ⟨w1, w2, ns, ms, []⟩
theorem fnOf_eq {w0 w1 w2 w3 : Str} {ws : List Str} : fnOf (w0 :: w1 :: w2 :: w3 :: ws) = fnOf4 w0 w1 w2 w3 ws := rfl
theorem cut_mid {xs : List V} {n m : Nat} (h : m ≤ xs.length) : cutV xs (some (n : Int)) (some (m : Int)) = (xs.drop n).take (m - n) := by
  unfold cutV
  have e1 : HT.sIx xs.length 0 (some (n : Int)) = min n xs.length := by
    unfold HT.sIx
    simp
    try omega
  have e2 : HT.sIx xs.length xs.length (some (m : Int)) = m := by
    unfold HT.sIx
    simp only [Option.elim]
    first
      | (rw [if_neg (by omega)]; omega)
      | (simp; rw [if_neg (by omega)]; omega)
      | (simp; omega)
  rw [e1, e2]
  by_cases c : n ≤ xs.length
  · rw [Nat.min_eq_left c]
  · rw [Nat.min_eq_right (by omega), List.drop_of_length_le (Nat.le_refl _), List.drop_of_length_le (by omega), List.take_nil, List.take_nil]
theorem stroke_spec {ws : List Str} (h : inV (V.str "/") (ws.map V.str) = true) : ∃ z, (ws.map V.str)[strokeAt ws]? = some (.str z) ∧ eqV (.str z) (V.str "/") = true ∧ strokeAt ws < ws.length ∧ ∀ (m : Nat) (z' : V), m < strokeAt ws → (ws.map V.str)[m]? = some z' → eqV z' (V.str "/") = false := by
  have hlt : strokeAt ws < ws.length := by
    unfold strokeAt
    rw [List.findIdx_lt_length]
    unfold inV at h
    rw [List.any_map, List.any_eq_true] at h
    obtain ⟨x, m, e⟩ := h
    exact ⟨x, m, e⟩
  refine ⟨ws[strokeAt ws], by rw [List.getElem?_map, List.getElem?_eq_getElem hlt]; rfl, List.findIdx_getElem (w := hlt), hlt, fun m z' hm e => ?_⟩
  rw [List.getElem?_map] at e
  obtain ⟨x, e1, rfl⟩ := Option.map_eq_some_iff.mp e
  obtain ⟨hm2, e2⟩ := List.getElem?_eq_some_iff.mp e1
  have := List.not_of_lt_findIdx hm
  rw [← e2]
  exact this
theorem four : ∀ {l : List Str}, ¬ l.length < 4 → ∃ a b c d r, l = a :: b :: c :: d :: r
  | a :: b :: c :: d :: r, _ => ⟨a, b, c, d, r, rfl⟩
  | [], h => absurd (by decide) h
  | [_], h => absurd (by decide : 1 < 4) h
  | [_, _], h => absurd (by decide : 2 < 4) h
  | [_, _, _], h => absurd (by decide : 3 < 4) h
theorem sc_takes_function : FnScope ["words", "functions", "stroke", "params", "others"] ["words", "functions"] (defScope s_takes_function) := ⟨rfl, rfl, rfl, by decide +kernel, rfl, by decide +kernel, by decide +kernel⟩
theorem ok_takes_function (T : Ctx w K mg) (H_read_pairs : Has P w K mg base 2 "read_pairs" ["words"] spPairs) (H_is_kind : Has P w K mg base 1 "is_kind" ["thing"] spKindB) : Has P w K mg base 3 "_takes_function" ["words", "functions"] spTakesF := by
  obtain ⟨fd, F⟩ := T.D_takes_function
  obtain ⟨fd_read_pairs, G_read_pairs, b_read_pairs⟩ := H_read_pairs.ex
  obtain ⟨fd_is_kind, G_is_kind, b_is_kind⟩ := H_is_kind.ex
  refine ⟨⟨fd, F.ok sc_takes_function (fun vs H Q E h => ?_) (fun cdv A outer s H vs Q E hr h => ?_), F.bindsN fun _ _ _ _ _ _ us hl => match us, hl with | [_, _], _ => rfl⟩, F.kp, T.g_takes_function⟩
  · obtain ⟨wa, cl, fl, rs, st, ws, rfl, ha, hw, hl, h2, S, hcl, kN, kS⟩ := h; rfl
  · obtain ⟨wa, cl, fl, rs, st, ws, rfl, ha, hw, hl, h2, S, hcl, kN, kS⟩ := h
    have hr_read_pairs : Room 2 _ := hr.mono (by decide)
    have hr_is_kind : Room 1 _ := hr.mono (by decide)
    have hu := hu_of hr
    obtain ⟨ts, e_STROKE⟩ := T.s_STROKE
    refine ⟨_, PSs.nox (pss_cons (ps_if (PW.pt (pw_or (pt_cmpR op_lt (pe_callB call_len_seq (by rfl) T.f_len (by decide +kernel) (pa_cons (pv 0) pa_nil)) pe_int (nomark _)) (pw_or (pt_not (pt_val (pe_call G_is_kind hr_is_kind (by rfl) H_is_kind.gl H_is_kind.kp b_is_kind .nil pass0 (pa_cons (pe_ix ix_list (pv 0) pe_int (fun _ _ => rfl)) pa_nil)))) (pw_or1 (pt_cmpR op_notIn_seq (pe_glob (v := .str "/") rfl e_STROKE ⟨_, rfl⟩) (pv 0) rfl))))) (pss_one (ps_ret pe_bl)) pss_nil)
      (pss_cons (ps_set (i := 2) sc_takes_function.nd rfl (Or.inl rfl) (pe_bm PySem.F.plainAttrs_list PySem.F.slot_list_index PySem.F.type_list_index mt_index (pv 0) (pa_cons (pe_glob (v := .str "/") rfl e_STROKE ⟨_, rfl⟩) pa_nil)))
      (pss_cons (ps_set (i := 3) sc_takes_function.nd rfl (Or.inl rfl) (pe_call G_read_pairs hr_read_pairs (by rfl) H_read_pairs.gl H_read_pairs.kp b_read_pairs .nil pass0 (pa_cons (pe_slice sl_list (pv 0) (po_some pe_int) (po_some (pv 2))) pa_nil)))
      (pss_cons (ps_set (i := 4) sc_takes_function.nd rfl (Or.inl rfl) (pe_call G_read_pairs hr_read_pairs (by rfl) H_read_pairs.gl H_read_pairs.kp b_read_pairs .nil pass0 (pa_cons (pe_slice sl_list (pv 0) (po_some (pe_op op_add (pv 2) pe_int)) po_none) pa_nil)))
      (pss_cons (ps_if (PW.pt (pw_or (pt_cmpR op_isN (pv 3) pe_non (nomark _)) (pw_or1 (pt_cmpR op_isN (pv 4) pe_non (nomark _))))) (pss_one (ps_ret pe_bl)) pss_nil)
      (pss_cons (ps_expr (pe_bm PySem.F.plainAttrs_list PySem.F.slot_list_append PySem.F.type_list_append mt_append (pv 1) (pa_cons (pe_tup (pa_cons (pe_ix ix_list (pv 0) pe_int (fun _ _ => rfl)) (pa_cons (pv 3) (pa_cons (pv 4) (pa_cons (pe_ix ix_list (pv 0) pe_int (fun _ _ => rfl)) (pa_cons (pe_lst pa_nil) pa_nil)))))) pa_nil)))
      (pss_one (ps_ret pe_bl)))))))), ?_⟩
    by_cases h4 : ws.length < 4
    · refine ⟨_, rfl, wa, _, rfl, .inl (SqL.of ha), _, _, rfl, rfl, _, rfl, ifT (decide_eq_true (by rw [List.length_map]; omega)) (kN ?_ _ (Same.refl _))⟩
      match ws, h4 with
      | [], _ => rfl
      | [_], _ => rfl
      | [_, _], _ => rfl
      | [_, _, _], _ => rfl
    obtain ⟨w0, w1, w2, w3, ws, rfl⟩ := four h4
    rw [fnOf_eq] at kN kS
    unfold fnOf4 at kN kS
    refine ⟨_, rfl, wa, _, rfl, .inl (SqL.of ha), _, _, rfl, rfl, _, rfl, ifF (decide_eq_false (by simp only [List.length_map, List.length_cons]; omega)) ?_⟩
    refine ⟨_, rfl, wa, _, _, _, rfl, rfl, SqL.of ha, at2, w2, rfl, _, rfl, ?_⟩
    cases ck : kindB w2 with
    | false =>
      rw [ck, if_pos rfl] at kN
      exact ifT rfl (kN rfl _ (Same.refl _))
    | true =>
    rw [ck, if_neg Bool.noConfusion] at kN kS
    refine ifF rfl ⟨_, rfl, wa, _, rfl, .inl (SqL.of ha), rfl, flat_strs _, _, rfl, ?_⟩
    generalize hall : w0 :: w1 :: w2 :: w3 :: ws = all at *
    have edr : all.drop 3 = w3 :: ws := by rw [← hall]; rfl
    rw [← edr] at kN kS
    cases cs : inV (V.str "/") (all.map V.str) with
    | false =>
      rw [cs, if_pos rfl] at kN
      exact ifT rfl (kN rfl _ (Same.refl _))
    | true =>
    rw [cs, if_neg Bool.noConfusion] at kN kS
    refine ifF rfl ?_
    obtain ⟨z, i1, i2, i3, i4⟩ := stroke_spec cs
    refine ⟨_, rfl, .inl ⟨rfl, _, SqL.of ha⟩, _, _, _, _, _, rfl, rfl, SqL.of ha, rfl, flat_strs _, i1, i2, i4, ?_⟩
    generalize strokeAt all = sk at *
    refine ⟨_, rfl, 3, rfl, _, rfl, _, rfl, wa, _, rfl, SqL.of ha, fun R hR => ?_⟩
    have eR : cutV (all.map V.str) (some 3) (some (sk : Int)) = ((all.drop 3).take (sk - 3)).map V.str := by
      have e := cut_mid (xs := all.map V.str) (n := 3) (m := sk) (by rw [List.length_map]; omega)
      rw [List.map_take, List.map_drop]
      exact e
    rw [eR]
    have s1 := Same.new (o := .lst (((all.drop 3).take (sk - 3)).map V.str)) hR
    have hw2 : ∀ w ∈ (all.drop 3).take (sk - 3), WordOk w := fun w m => hw w (List.drop_subset _ _ (List.take_subset _ _ m))
    have hl2 : ((all.drop 3).take (sk - 3)).length ≤ 50000 := by rw [List.length_take, List.length_drop]; omega
    refine ⟨R, _, rfl, upd_same, hw2, hl2, fun e H1 s2 => ?_, fun ns e q as H1 s2 hq hql hp hf => ?_⟩
    · rw [e] at kN
      refine ⟨_, rfl, _, rfl, _, _, rfl, rfl, _, rfl, wa, _, rfl, SqL.of ((s1.trans s2) _ _ ha), fun R2 hR2 => ?_⟩
      have eR2 : cutV (all.map V.str) (some ((sk : Int) + 1)) none = (all.drop (sk + 1)).map V.str := by
        have e1 : ((sk : Int) + 1) = ((sk + 1 : Nat) : Int) := rfl
        rw [e1, cut_from, List.map_drop]
      rw [eR2]
      have s3 := Same.new (o := .lst ((all.drop (sk + 1)).map V.str)) hR2
      have hw3 : ∀ w ∈ all.drop (sk + 1), WordOk w := fun w m => hw w (List.drop_subset _ _ m)
      have hl3 : (all.drop (sk + 1)).length ≤ 50000 := by rw [List.length_drop]; omega
      refine ⟨R2, _, rfl, upd_same, hw3, hl3, fun e2 H3 s4 => ?_, fun ms e2 q2 bs H3 s4 hq2 hql2 hp2 hf2 => ?_⟩
      · exact ⟨_, rfl, rfl, _, rfl, ifT rfl (kN rfl _ ((s1.trans s2).trans (s3.trans s4)))⟩
      · exact ⟨_, rfl, rfl, _, rfl, ifT rfl (kN rfl _ ((s1.trans s2).trans (s3.trans s4)))⟩
    · rw [e] at kN kS
      refine ⟨_, rfl, _, rfl, _, _, rfl, rfl, _, rfl, wa, _, rfl, SqL.of ((s1.trans s2) _ _ ha), fun R2 hR2 => ?_⟩
      have eR2 : cutV (all.map V.str) (some ((sk : Int) + 1)) none = (all.drop (sk + 1)).map V.str := by
        have e1 : ((sk : Int) + 1) = ((sk + 1 : Nat) : Int) := rfl
        rw [e1, cut_from, List.map_drop]
      rw [eR2]
      have s3 := Same.new (o := .lst ((all.drop (sk + 1)).map V.str)) hR2
      have hw3 : ∀ w ∈ all.drop (sk + 1), WordOk w := fun w m => hw w (List.drop_subset _ _ m)
      have hl3 : (all.drop (sk + 1)).length ≤ 50000 := by rw [List.length_drop]; omega
      refine ⟨R2, _, rfl, upd_same, hw3, hl3, fun e2 H3 s4 => ?_, fun ms e2 q2 bs H3 s4 hq2 hql2 hp2 hf2 => ?_⟩
      · rw [e2] at kN
        exact ⟨_, rfl, rfl, _, rfl, ifF rfl ⟨_, rfl, rfl, _, rfl, ifT rfl (kN rfl _ ((s1.trans s2).trans (s3.trans s4)))⟩⟩
      rw [e2] at kS
      have s34 := s3.trans s4
      have s12 := s1.trans s2
      have s14 := s12.trans s34
      have S4 := S.same s14
      obtain ⟨es, f1, f2, f3, _⟩ := S4.fs
      refine ⟨_, rfl, rfl, _, rfl, ifF rfl ⟨_, rfl, rfl, _, rfl, ifF rfl ?_⟩⟩
      refine ⟨_, rfl, .inl ⟨rfl, _, SqL.of f1⟩, ?_⟩
      have a1 : atI (all.map V.str) 1 = some (.str w1) := by rw [← hall]; exact at1
      have a2 : atI (all.map V.str) 2 = some (.str w2) := by rw [← hall]; exact at2
      refine ⟨_, rfl, wa, _, _, _, rfl, rfl, SqL.of (s14 _ _ ha), a1, _, rfl, _, rfl, _, rfl, wa, _, _, _, rfl, rfl, SqL.of (s14 _ _ ha), a2, sz_of (by show 0 ≤ 100000; decide), fun ra hra => ⟨sz_of (by show 5 ≤ 100000; decide), fun x hx => ?_⟩⟩
      have s5 := Same.new (o := .lst []) hra
      have s6 := Same.new (o := .tup [.str w1, .ref q, .ref q2, .str w2, .ref ra]) hx
      have hra6 : upd (upd H3 ra (.lst [])) x (.tup [.str w1, .ref q, .ref q2, .str w2, .ref ra]) ra = some (.lst []) := s6 _ _ upd_same
      have hx6 : upd (upd H3 ra (.lst [])) x (.tup [.str w1, .ref q, .ref q2, .str w2, .ref ra]) x = some (.tup [.str w1, .ref q, .ref q2, .str w2, .ref ra]) := upd_same
      have s56 := s5.trans s6
      have xn3 : H3 x = none := none_of s5 hx
      generalize upd (upd H3 ra (.lst [])) x (.tup [.str w1, .ref q, .ref q2, .str w2, .ref ra]) = H6 at *
      have xra : x ≠ ra := fun z => by rw [z, hra6] at hx6; cases hx6
      have f16 := s56 _ _ f1
      refine ⟨fl, _, _, rfl, rfl, f16, sz_lt (by rw [List.length_map, f2]; omega), ?_⟩
      have notM : ∀ b, H3 b = none ∨ H b = none → b ≠ ra → b ∉ (cl :: fl :: rs) ++ [ra] := fun b h n m => by
        rcases List.mem_append.mp m with m | m
        · rcases h with h | h
          · exact S4.new h m
          · exact S.new h m
        · exact n (List.mem_singleton.mp m)
      have old : ∀ {b o}, H3 b = some o → b ≠ ra := fun {b o} h z => by rw [z, hra] at h; cases h
      have hql3 := s34 _ _ hql
      have pr : ∀ y ∈ as, y ≠ ra := fun y m => by
        obtain ⟨i, hi, rfl⟩ := List.getElem_of_mem m
        have hi2 : i < ns.length := by rw [← hp.len]; exact hi
        exact old (s34 _ _ (hp.at_ i _ _ (List.getElem?_eq_getElem hi) (List.getElem?_eq_getElem hi2)))
      have pr2 : ∀ y ∈ bs, y ≠ ra := fun y m => by
        obtain ⟨i, hi, rfl⟩ := List.getElem_of_mem m
        have hi2 : i < ms.length := by rw [← hp2.len]; exact hi
        exact old (hp2.at_ i _ _ (List.getElem?_eq_getElem hi) (List.getElem?_eq_getElem hi2))
      have hp6 := (hp.mono s34).mono s56
      have hp26 := hp2.mono s56
      have F6 : FnM ((cl :: fl :: rs) ++ [ra]) H6 x ra ⟨w1, w2, ns, ms, []⟩ :=
        ⟨q, q2, as, bs, ⟨hx6, notM x (.inl xn3) xra⟩, ⟨s56 _ _ hql3, notM q (.inr (none_of s1 hq)) (old hql3)⟩, ⟨s56 _ _ hql2, notM q2 (.inr (none_of (s12.trans s3) hq2)) (old hql2)⟩,
          ⟨hp6.len, fun i a p e1 e2 => ⟨hp6.at_ i a p e1 e2, notM a (.inr (none_of s1 (hf a (List.mem_of_getElem? e1)))) (pr a (List.mem_of_getElem? e1))⟩⟩,
          ⟨hp26.len, fun i a p e1 e2 => ⟨hp26.at_ i a p e1 e2, notM a (.inr (none_of (s12.trans s3) (hf2 a (List.mem_of_getElem? e1)))) (pr2 a (List.mem_of_getElem? e1))⟩⟩⟩
      refine kS _ rfl _ ra (none_of s14 hra) ((KeepM.of (s14.trans s56)).trans (KeepM.upd (by simp))) (S4.addFn s56 hra hra6 f1 F6 rfl)

end
end W5
set_option Elab.async false
set_option linter.all false
set_option maxRecDepth 100000
set_option maxHeartbeats 4000000
namespace W5
open PySem PySem.Spec PyProof.Rows L2 RZ
section
variable {P : Program} {w : World} {K : PySem.W.Frag} {mg : Str → Option Value} {base : Heap}

structure Small (st : TSt) : Prop where
  c : st.cls.length ≤ 50000
  f : st.fns.length ≤ 50000
  r : ∀ f ∈ st.fns, f.rws.length ≤ 50000
def spTakesL : Sp := fun vs H Q _ => ∃ (inner : Bool) (wa cl fl : Addr) (rs : List Addr) (st : TSt) (ws : List Str), vs = [.bl inner, .ref wa, .ref cl, .ref fl] ∧ H wa = some (.lst (ws.map V.str)) ∧ (∀ w ∈ ws, WordOk w) ∧ ws.length ≤ 50000 ∧ StM H cl fl rs st ∧ Small st ∧
  (step st (inner, ws) = none → ∀ H', Same H H' → Q (.bl false) H') ∧ (∀ st', step st (inner, ws) = some st' → ∀ (H' : Hp) (rs' : List Addr), KeepM (cl :: fl :: rs) H H' → (∀ b ∈ rs', b ∈ rs ∨ H b = none) → StM H' cl fl rs' st' → Q (.bl true) H')
theorem rowM_of {M : List Addr} {F H : Hp} {q : Addr} {r : RowV} (h : RowRd F H q r.1 r.2) (n : ∀ b, F b = none → b ∉ M) (hq : F q = none) : RowM M H q r := by
  obtain ⟨vs, m⟩ := r
  cases m with
  | none => exact ⟨h, n q hq⟩
  | some ns =>
    obtain ⟨l, h1, h2, h3⟩ := (show ∃ l, F l = none ∧ H q = some (.tup (vs ++ [.ref l])) ∧ H l = some (.lst (ns.map V.str)) from h)
    exact ⟨l, ⟨h2, n q hq⟩, ⟨h3, n l h1⟩⟩
theorem step_in {st : TSt} {ws : List Str} : step st (true, ws) = (match rowOf ws, st.fns.getLast? with
    | some r, some f => some (st.addRow f r)
    | _, _ => none) := rfl
theorem step_out {st : TSt} {ws : List Str} : step st (false, ws) = headOf st ws := rfl
def head2 (st : TSt) (w0 w1 : Str) (ws : List Str) : Option TSt := if namB w1 = false then none else
    if w0 = "class" ∧ st.fns = [] then (clsOf (w0 :: w1 :: ws)).map st.addCls
    else if w0 = "function" then (fnOf (w0 :: w1 :: ws)).map st.addFn else none
theorem head_eq {st : TSt} {w0 w1 : Str} {ws : List Str} : headOf st (w0 :: w1 :: ws) = head2 st w0 w1 ws := rfl
theorem sc_takes_line : FnScope ["inner", "words", "classes", "functions", "row"] ["inner", "words", "classes", "functions"] (defScope s_takes_line) := ⟨rfl, rfl, rfl, by decide +kernel, rfl, by decide +kernel, by decide +kernel⟩
theorem ok_takes_line (T : Ctx w K mg) (H_read_row : Has P w K mg base 3 "read_row" ["words", "allowed"] (spRow K)) (H_is_name : Has P w K mg base 1 "is_name" ["thing"] spNameB) (H_takes_class : Has P w K mg base 3 "_takes_class" ["words", "classes"] spTakesC) (H_takes_function : Has P w K mg base 3 "_takes_function" ["words", "functions"] spTakesF) : Has P w K mg base 4 "_takes_line" ["inner", "words", "classes", "functions"] spTakesL := by
  obtain ⟨fd, F⟩ := T.D_takes_line
  obtain ⟨fd_read_row, G_read_row, b_read_row⟩ := H_read_row.ex
  obtain ⟨fd_is_name, G_is_name, b_is_name⟩ := H_is_name.ex
  obtain ⟨fd_takes_class, G_takes_class, b_takes_class⟩ := H_takes_class.ex
  obtain ⟨fd_takes_function, G_takes_function, b_takes_function⟩ := H_takes_function.ex
  refine ⟨⟨fd, F.ok sc_takes_line (fun vs H Q E h => ?_) (fun cdv A outer s H vs Q E hr h => ?_), F.bindsN fun _ _ _ _ _ _ us hl => match us, hl with | [_, _, _, _], _ => rfl⟩, F.kp, T.g_takes_line⟩
  · obtain ⟨inner, wa, cl, fl, rs, st, ws, rfl, ha, hw, hl, S, sm, kN, kS⟩ := h; rfl
  · obtain ⟨inner, wa, cl, fl, rs, st, ws, rfl, ha, hw, hl, S, sm, kN, kS⟩ := h
    have hr_read_row : Room 3 _ := hr.mono (by decide)
    have hr_is_name : Room 1 _ := hr.mono (by decide)
    have hr_takes_class : Room 3 _ := hr.mono (by decide)
    have hr_takes_function : Room 3 _ := hr.mono (by decide)
    have hu := hu_of hr
    refine ⟨_, PSs.nox (pss_cons (ps_if (pt_val (pv 0)) (pss_cons (ps_set (i := 4) sc_takes_line.nd rfl (Or.inl rfl) (pe_call G_read_row hr_read_row (by rfl) H_read_row.gl H_read_row.kp b_read_row .nil pass0 (pa_cons (pv 1) (pa_cons (pe_glob (v := .ref (He.ga K "ROW_WORDS")) rfl T.g_ROW_WORDS rfl) pa_nil))))
      (pss_cons (ps_if (PW.pt (pw_or (pt_cmpR op_isN (pv 4) pe_non (nomark _)) (pw_or1 (pt_cmpR op_eq (pe_callB call_len_seq (by rfl) T.f_len (by decide +kernel) (pa_cons (pv 3) pa_nil)) pe_int (nomark _))))) (pss_one (ps_ret pe_bl)) pss_nil)
      (pss_cons (ps_expr (pe_bm PySem.F.plainAttrs_list PySem.F.slot_list_append PySem.F.type_list_append mt_append (pe_ix ix_tup (pe_ix ix_list (pv 3) (pe_un un_neg pe_int) (fun _ _ => rfl)) pe_int (fun _ _ => rfl)) (pa_cons (pv 4) pa_nil)))
      (pss_one (ps_ret pe_bl))))) pss_nil)
      (pss_cons (ps_if (PW.pt (pw_or (pt_cmpR op_lt (pe_callB call_len_seq (by rfl) T.f_len (by decide +kernel) (pa_cons (pv 1) pa_nil)) pe_int (nomark _)) (pw_or1 (pt_not (pt_val (pe_call G_is_name hr_is_name (by rfl) H_is_name.gl H_is_name.kp b_is_name .nil pass0 (pa_cons (pe_ix ix_list (pv 1) pe_int (fun _ _ => rfl)) pa_nil))))))) (pss_one (ps_ret pe_bl)) pss_nil)
      (pss_cons (ps_if (PW.pt (pw_and (pt_cmpR op_eq (pe_ix ix_list (pv 1) pe_int (fun _ _ => rfl)) pe_str (nomark _)) (pw_and1 (pt_cmpR op_eq (pe_callB call_len_seq (by rfl) T.f_len (by decide +kernel) (pa_cons (pv 3) pa_nil)) pe_int (nomark _))))) (pss_one (ps_ret (pe_call G_takes_class hr_takes_class (by rfl) H_takes_class.gl H_takes_class.kp b_takes_class .nil pass0 (pa_cons (pv 1) (pa_cons (pv 2) pa_nil))))) pss_nil)
      (pss_one (ps_ret (pe_and (pe_cmpR op_eq (pe_ix ix_list (pv 1) pe_int (fun _ _ => rfl)) pe_str (nomark _)) (pe_one (pe_call G_takes_function hr_takes_function (by rfl) H_takes_function.gl H_takes_function.kp b_takes_function .nil pass0 (pa_cons (pv 1) (pa_cons (pv 3) pa_nil)))))))))), ?_⟩
    refine ⟨_, rfl, _, rfl, ?_⟩
    cases inner with
    | true =>
      rw [step_in] at kN kS
      refine ifT rfl ?_
      refine ⟨_, rfl, wa, ws, rfl, ha, hw, hl, fun e H1 s1 => ?_, fun rv m e q H1 s1 hq hr => ?_⟩
      · rw [e] at kN
        refine ⟨_, rfl, rfl, _, rfl, ifT rfl (kN ?_ _ s1)⟩
        rfl
      · rw [e] at kN kS
        have S1 := S.same s1
        obtain ⟨es, f1, f2, f3, f4⟩ := S1.fs
        refine ⟨_, rfl, rfl, _, rfl, ifF rfl ⟨_, rfl, fl, _, rfl, .inl (SqL.of f1), rfl, _, rfl, ?_⟩⟩
        cases el : st.fns.getLast? with
        | none =>
          have e0 : st.fns = [] := List.getLast?_eq_none_iff.mp el
          rw [el] at kN
          exact ifT (decide_eq_true (by rw [List.length_map, f2, e0]; rfl)) (kN rfl _ s1)
        | some f =>
          rw [el] at kS
          obtain ⟨l1, l2, l3⟩ := last_get el
          refine ifF (decide_eq_false (by rw [List.length_map, f2]; intro z; have := V.int.inj z; omega)) ?_
          have hes : es[st.fns.length - 1]? = some es[st.fns.length - 1] := List.getElem?_eq_getElem (by omega)
          have hrs : rs[st.fns.length - 1]? = some rs[st.fns.length - 1] := List.getElem?_eq_getElem (by omega)
          generalize hra : rs[st.fns.length - 1] = ra at *
          generalize hee : es[st.fns.length - 1] = ee at *
          obtain ⟨pa, oa, as, bs, g1, _⟩ := f4 _ _ _ _ hes hrs l2
          obtain ⟨rows, r1, r2, _⟩ := S1.rw_ _ _ _ hrs l2
          have hat : atI (es.map V.ref) (-1) = some (.ref ee) := by
            have e1 : es = es.dropLast ++ [ee] := by
              have hne : es ≠ [] := fun z => by rw [z] at f2; simp at f2; omega
              have := (List.dropLast_concat_getLast hne).symm
              rw [List.getLast_eq_getElem] at this
              have ix : es.length - 1 = st.fns.length - 1 := by omega
              simp only [ix, hee] at this
              exact this
            rw [e1, List.map_append]
            exact atI_last _ _
          refine ⟨_, rfl, _, rfl, fl, _, _, _, rfl, rfl, SqL.of f1, hat, ee, _, _, _, rfl, rfl, SqT.of g1.1, at4, .inl ⟨rfl, _, SqL.of r1⟩, _, rfl, ?_⟩
          refine ⟨ra, _, _, rfl, rfl, r1, sz_lt ?_, ?_⟩
          · rw [List.length_map, r2]
            have := sm.r f (List.mem_of_getElem? l2)
            omega
          exact kS _ rfl _ rs ((KeepM.of s1).trans (KeepM.upd (List.mem_cons_of_mem _ (List.mem_cons_of_mem _ (List.mem_of_getElem? hrs))))) (fun b m => .inl m) (S1.addRow el hrs r1 (rowM_of hr (fun b n => S.new n) hq))
    | false =>
      rw [step_out] at kN kS
      refine ifF rfl ⟨_, rfl, wa, _, rfl, .inl (SqL.of ha), _, _, rfl, rfl, _, rfl, ?_⟩
      by_cases h2 : ws.length < 2
      · refine ifT (decide_eq_true (by rw [List.length_map]; omega)) (kN ?_ _ (Same.refl _))
        match ws, h2 with
        | [], _ => rfl
        | [_], _ => rfl
      obtain ⟨w0, w1, ws, rfl⟩ : ∃ a b r, ws = a :: b :: r := by
        match ws, h2 with
        | a :: b :: r, _ => exact ⟨a, b, r, rfl⟩
        | [], h => exact absurd (by decide) h
        | [_], h => exact absurd (by decide : 1 < 2) h
      rw [head_eq] at kN kS
      unfold head2 at kN kS
      have hw1 := (hw w1 (List.mem_cons_of_mem _ List.mem_cons_self)).len
      refine ifF (decide_eq_false (by simp only [List.length_map, List.length_cons]; omega)) ⟨_, rfl, wa, _, _, _, rfl, rfl, SqL.of ha, at1, w1, rfl, by omega, fun H1 s1 => ⟨_, rfl, ?_⟩⟩
      cases cn : namB w1 with
      | false =>
        rw [cn, if_pos rfl] at kN
        exact ifT rfl (kN rfl _ s1)
      | true =>
      rw [cn, if_neg Bool.noConfusion] at kN kS
      have S1 := S.same s1
      obtain ⟨es, f1, f2, f3, f4⟩ := S1.fs
      refine ifF rfl ⟨_, rfl, wa, _, _, _, rfl, rfl, SqL.of (s1 _ _ ha), at0, rfl, _, rfl, ?_⟩
      by_cases cc : w0 = "class"
      · refine ifT (decide_eq_true (by rw [cc])) ⟨_, rfl, fl, _, rfl, .inl (SqL.of f1), rfl, _, rfl, ?_⟩
        by_cases c0 : st.fns = []
        · rw [if_pos ⟨cc, c0⟩] at kN kS
          refine ifT (decide_eq_true (by rw [List.length_map, f2, c0]; rfl)) ⟨_, rfl, _, rfl, wa, cl, fl, rs, st, _, rfl, s1 _ _ ha, hw, hl, by simp only [List.length_cons]; omega, S1, sm.c, fun e H2 s2 => ?_, fun c e H2 k2 S2 => ?_⟩
          · rw [e] at kN
            exact kN rfl _ (s1.trans s2)
          · rw [e] at kS
            exact kS _ rfl _ _ ((KeepM.of s1).trans (k2.wide (by simp))) (fun b m => .inl m) S2
        · rw [if_neg (fun z => c0 z.2)] at kN kS
          refine ifF (decide_eq_false (by rw [List.length_map, f2]; intro z; exact c0 (List.length_eq_zero_iff.mp (by have := V.int.inj z; omega)))) ?_
          refine ⟨_, rfl, wa, _, _, _, rfl, rfl, SqL.of (s1 _ _ ha), at0, rfl, _, rfl, ?_⟩
          by_cases cf : w0 = "function"
          rotate_left
          · rw [if_neg cf] at kN
            exact ifF (decide_eq_false (fun z => cf (V.str.inj z))) (kN rfl _ s1)
          rw [if_pos cf] at kN kS
          refine ifT (decide_eq_true (by rw [cf])) ⟨_, rfl, _, rfl, wa, cl, fl, rs, st, _, rfl, s1 _ _ ha, hw, hl, by simp only [List.length_cons]; omega, S1, sm.f, fun e H2 s2 => ?_, fun f e H2 ra hra k2 S2 => ?_⟩
          · rw [e] at kN
            exact kN rfl _ (s1.trans s2)
          · rw [e] at kS
            exact kS _ rfl _ _ ((KeepM.of s1).trans (k2.wide (by simp))) (fun b m => by
              rcases List.mem_append.mp m with m | m
              · exact .inl m
              · rw [List.mem_singleton.mp m]
                exact .inr (none_of s1 hra)) S2
      · rw [if_neg (fun z => cc z.1)] at kN kS
        refine ifF (decide_eq_false (fun z => cc (V.str.inj z))) ?_
        refine ⟨_, rfl, wa, _, _, _, rfl, rfl, SqL.of (s1 _ _ ha), at0, rfl, _, rfl, ?_⟩
        by_cases cf : w0 = "function"
        rotate_left
        · rw [if_neg cf] at kN
          exact ifF (decide_eq_false (fun z => cf (V.str.inj z))) (kN rfl _ s1)
        rw [if_pos cf] at kN kS
        refine ifT (decide_eq_true (by rw [cf])) ⟨_, rfl, _, rfl, wa, cl, fl, rs, st, _, rfl, s1 _ _ ha, hw, hl, by simp only [List.length_cons]; omega, S1, sm.f, fun e H2 s2 => ?_, fun f e H2 ra hra k2 S2 => ?_⟩
        · rw [e] at kN
          exact kN rfl _ (s1.trans s2)
        · rw [e] at kS
          exact kS _ rfl _ _ ((KeepM.of s1).trans (k2.wide (by simp))) (fun b m => by
            rcases List.mem_append.mp m with m | m
            · exact .inl m
            · rw [List.mem_singleton.mp m]
              exact .inr (none_of s1 hra)) S2

end
end W5
set_option Elab.async false
set_option linter.all false
set_option maxRecDepth 100000
set_option maxHeartbeats 4000000
namespace W5
open PySem PySem.Spec PyProof.Rows L2 RZ
section
variable {P : Program} {w : World} {K : PySem.W.Frag} {mg : Str → Option Value} {base : Heap}

/-- pairs as a dict -/
def kvP (ns : List (Str × Str)) : List (Key × V) := ns.map fun n => (Sum.inr n.1, V.str n.2)
theorem valV_kvP {x : Str} : ∀ {l : List (Str × Str)}, x ∉ l.map Prod.fst → valV (kvP l) (Sum.inr x : Key) = none
  | [], _ => rfl
  | a :: l, h => by
    have h1 : ¬ a.1 = x := fun z => h (by rw [← z]; exact List.mem_cons_self)
    have ih := valV_kvP (x := x) (l := l) fun m => h (List.mem_cons_of_mem _ m)
    unfold kvP at ih ⊢
    unfold valV at ih ⊢
    rw [List.map_cons, List.find?_cons_of_neg (by simpa using h1)]
    exact ih
theorem valV_kvP_in {q : Str × Str} : ∀ {l : List (Str × Str)}, (l.map Prod.fst).Nodup → q ∈ l → valV (kvP l) (Sum.inr q.1 : Key) = some (.str q.2)
  | [], _, m => by cases m
  | a :: l, nd, m => by
    obtain ⟨n1, n2⟩ := List.nodup_cons.mp (show (a.1 :: l.map Prod.fst).Nodup from nd)
    unfold kvP
    unfold valV
    rw [List.map_cons]
    by_cases c : a.1 = q.1
    · rw [List.find?_cons_of_pos (by simpa using c)]
      have e : a = q := by
        rcases List.mem_cons.mp m with m | m
        · exact m.symm
        · exact absurd (by rw [c]; exact List.mem_map.mpr ⟨q, m, rfl⟩) n1
      rw [e]
      rfl
    · rw [List.find?_cons_of_neg (by simpa using c)]
      have m2 : q ∈ l := by
        rcases List.mem_cons.mp m with m | m
        · exact absurd (by rw [m]) c
        · exact m
      exact valV_kvP_in n2 m2
theorem putK_new {k : Key} {v : V} {l : List (Key × V)} (h : ∀ q ∈ l, q.1 ≠ k) : putK l k v = l ++ [(k, v)] := by
  unfold putK
  rw [if_neg]
  intro z
  obtain ⟨q, m, e⟩ := List.any_eq_true.mp z
  exact h q m (of_decide_eq_true e)
theorem putK_kvP {q : Str × Str} {l : List (Str × Str)} (h : q.1 ∉ l.map Prod.fst) : putK (kvP l) (Sum.inr q.1 : Key) (.str q.2) = kvP (l ++ [q]) := by
  unfold kvP
  rw [List.map_append]
  refine putK_new fun r m e => h ?_
  obtain ⟨a, ma, rfl⟩ := List.mem_map.mp m
  exact List.mem_map.mpr ⟨a, ma, Sum.inr.inj e⟩
theorem pairFG {H : Hp} {ps : List Addr} {ns : List (Str × Str)} (h : PairsG H ps ns) : ∀ (i : Nat) (p : Addr), ps[i]? = some p → H p = some (.tup [.str (ns.getD i ("", "")).1, .str (ns.getD i ("", "")).2]) ∧ ([V.str (ns.getD i ("", "")).1, .str (ns.getD i ("", "")).2] : List V).length ≤ 100 ∧ ∀ x ∈ ([V.str (ns.getD i ("", "")).1, .str (ns.getD i ("", "")).2] : List V), Fl x := by
  intro i p e
  have hi : i < ns.length := by
    rw [← h.len]
    exact (List.getElem?_eq_some_iff.mp e).1
  refine ⟨?_, by simp, fun x m => ?_⟩
  · have q := h.at_ i p ns[i] e (List.getElem?_eq_getElem hi)
    rw [q, List.getD_eq_getElem?_getD, List.getElem?_eq_getElem hi]
    rfl
  · simp at m
    rcases m with rfl | rfl
    · exact .str _
    · exact .str _
theorem fPairG {H : Hp} {qs : List Addr} {ns : List (Str × Str)} (hl : qs.length = ns.length) (h : ∀ (i : Nat) (p : Addr), qs[i]? = some p → H p = some (.tup [.str (ns.getD i ("", "")).1, .str (ns.getD i ("", "")).2])) : PairsG H qs ns := by
  refine ⟨hl, fun i p x e1 e2 => ?_⟩
  rw [h i p e1, List.getD_eq_getElem?_getD, e2]
  rfl
def spDiff (K : PySem.W.Frag) : Sp := fun vs H Q _ => ∃ (p fa : Addr) (cs ks us : List (Key × V)) (ps : List Addr) (ns : List (Str × Str)), vs = [.ref p, .ref fa] ∧ SrcH K H p cs ks us ∧ H fa = some (.lst (ps.map V.ref)) ∧ PairsG H ps ns ∧ (∀ q ∈ ns, valV ks (Sum.inr q.1 : Key) = none ∨ valV ks (Sum.inr q.1 : Key) = some (.str q.2)) ∧ ns.length ≤ 100 ∧ ∀ H', Same H H' → Q (.bl false) H'
theorem any_false {n : Nat} : ((List.range n).map fun _ => false).any id = false := by
  rw [List.any_map]
  exact List.any_eq_false.mpr fun x _ => by simp
/-- all but what stands at the places of l -/
def ButL (l : List Addr) (H H' : Hp) : Prop := ∀ b u, H b = some u → b ∉ l → H' b = some u
/-- a class as it is handed in, with its fields -/
def ClsG (H : Hp) (e : Addr) (c : Str × List (Str × Str)) : Prop := ∃ (fa : Addr) (ps : List Addr), H e = some (.tup [.str c.1, .ref fa]) ∧ H fa = some (.lst (ps.map V.ref)) ∧ PairsG H ps c.2
theorem ClsG.mono {H H' : Hp} {e : Addr} {c : Str × List (Str × Str)} (h : ClsG H e c) (s : Same H H') : ClsG H' e c := by
  obtain ⟨fa, ps, h1, h2, h3⟩ := h
  exact ⟨fa, ps, s _ _ h1, s _ _ h2, h3.mono s⟩
def csM (cl : List (Str × List (Str × Str))) (qs : List Addr) : List (Key × V) := (cl.zip qs).map fun q => (Sum.inr q.1.1, V.ref q.2)
def ksF (ks : List (Key × V)) (ns : List (Str × Str)) : List (Key × V) := ns.foldl (fun ks q => putK ks (Sum.inr q.1) (.str q.2)) ks
def ksM (cl : List (Str × List (Str × Str))) : List (Key × V) := cl.foldl (fun ks c => ksF ks c.2) []
theorem putK_len (ks : List (Key × V)) (k : Key) (v : V) : (putK ks k v).length ≤ ks.length + 1 := by
  unfold putK
  split
  · rw [List.length_map]
    omega
  · rw [List.length_append]
    exact Nat.le_refl _
theorem ksF_len (ns : List (Str × Str)) : ∀ ks : List (Key × V), (ksF ks ns).length ≤ ks.length + ns.length := by
  induction ns with
  | nil => exact fun ks => Nat.le_refl _
  | cons a l ih =>
    intro ks
    have h1 := ih (putK ks (Sum.inr a.1) (.str a.2))
    have h2 := putK_len ks (Sum.inr a.1) (.str a.2)
    show (ksF (putK ks (Sum.inr a.1) (.str a.2)) l).length ≤ _
    rw [List.length_cons]
    omega
theorem ksF_snoc (ks : List (Key × V)) (ns : List (Str × Str)) (q : Str × Str) : ksF ks (ns ++ [q]) = putK (ksF ks ns) (Sum.inr q.1) (.str q.2) := by
  unfold ksF
  rw [List.foldl_append]
  rfl
theorem ksM_snoc (cl : List (Str × List (Str × Str))) (c : Str × List (Str × Str)) : ksM (cl ++ [c]) = ksF (ksM cl) c.2 := by
  unfold ksM
  rw [List.foldl_append]
  rfl
theorem ksM_len : ∀ (cl : List (Str × List (Str × Str))) (ks : List (Key × V)), (∀ c ∈ cl, c.2.length ≤ 4) → (cl.foldl (fun ks c => ksF ks c.2) ks).length ≤ ks.length + 4 * cl.length
  | [], ks, _ => by simp
  | c :: cl, ks, h => by
    have h1 := ksM_len cl (ksF ks c.2) fun d m => h d (List.mem_cons_of_mem _ m)
    have h2 := ksF_len c.2 ks
    have h3 := h c List.mem_cons_self
    rw [List.foldl_cons, List.length_cons]
    omega
theorem cs_ne {cl : List (Str × List (Str × Str))} {qs : List Addr} {i : Nat} {c : Str × List (Str × Str)} (nd : (cl.map Prod.fst).Nodup) (h : cl[i]? = some c) : ∀ q ∈ csM (cl.take i) qs, q.1 ≠ (Sum.inr c.1 : Key) := by
  intro q m e
  unfold csM at m
  obtain ⟨r, mr, rfl⟩ := List.mem_map.mp m
  have m1 := (List.of_mem_zip mr).1
  have e1 : r.1.1 = c.1 := Sum.inr.inj e
  have q1 : (cl.map Prod.fst)[i]? = some c.1 := by
    rw [List.getElem?_map, h]
    rfl
  refine not_in_take nd q1 ?_
  rw [← List.map_take, ← e1]
  exact List.mem_map.mpr ⟨r.1, m1, rfl⟩
theorem cs_snoc {cl : List (Str × List (Str × Str))} {qs : List Addr} {i : Nat} {c : Str × List (Str × Str)} {x : Addr} (h : cl[i]? = some c) (hl : qs.length = i) : csM (cl.take (i + 1)) (qs ++ [x]) = csM (cl.take i) qs ++ [(Sum.inr c.1, V.ref x)] := by
  unfold csM
  rw [take_snoc h, List.zip_append (by
    rw [List.length_take, hl]
    have := (List.getElem?_eq_some_iff.mp h).1
    omega), List.map_append]
  rfl
theorem valV_newC {k : Key} : ∀ {l : List (Key × V)}, (∀ q ∈ l, q.1 ≠ k) → valV l k = none
  | [], _ => rfl
  | a :: l, h => by
    have ih := valV_newC (k := k) (l := l) fun q m => h q (List.mem_cons_of_mem _ m)
    unfold valV at ih ⊢
    rw [List.find?_cons_of_neg (by simpa using h a List.mem_cons_self)]
    exact ih
/-- classes that are right, by themselves and beside one another -/
structure ClsOk (cl : List (Str × List (Str × Str))) : Prop where
  nd : (cl.map Prod.fst).Nodup
  one : ∀ c ∈ cl, Nam c.1 ∧ (∀ q ∈ c.2, Nam q.1 ∧ IsKind q.2) ∧ (c.2.map Prod.fst).Nodup ∧ c.2.length ≤ 4
  l6 : cl.length ≤ 6
  fit : ∀ (i : Nat) c, cl[i]? = some c → ∀ q ∈ c.2, valV (ksM (cl.take i)) (Sum.inr q.1 : Key) = none ∨ valV (ksM (cl.take i)) (Sum.inr q.1 : Key) = some (.str q.2)
def spTakeCM (K : PySem.W.Frag) : Sp := fun vs H Q _ => ∃ (p ca dx df dk du : Addr) (fs : List (Str × V)) (us : List (Key × V)) (cl : List (Str × List (Str × Str))) (es : List Addr), vs = [.ref p, .ref ca] ∧ SrcG K H p dx df dk du fs [] [] us ∧ df ≠ dk ∧ du ≠ df ∧ du ≠ dk ∧ H ca = some (.lst (es.map V.ref)) ∧ es.length = cl.length ∧
  (∀ (i : Nat) e c, es[i]? = some e → cl[i]? = some c → ClsG H e c) ∧ ClsOk cl ∧ ∀ (H' : Hp) (qs : List Addr), ButL [df, dk] H H' → qs.length = cl.length → H' df = some (.dK (csM cl qs)) → H' dk = some (.dK (ksM cl)) → Q .non H' 
theorem sc_Source_kinds_differ : FnScope ["self", "fields", "field", "kind"] ["self", "fields"] (defScope s_Source_kinds_differ) := ⟨rfl, rfl, rfl, by decide +kernel, rfl, by decide +kernel, by decide +kernel⟩
theorem ok_Source_kinds_differ (T : Ctx w K mg) : HasM P w K mg base 1 "Source" "_kinds_differ" ["self", "fields"] (spDiff K) := by
  obtain ⟨fd, F⟩ := T.D_Source_kinds_differ
  refine ⟨⟨fd, F.ok sc_Source_kinds_differ (fun vs H Q E h => ?_) (fun cdv A outer s H vs Q E hr h => ?_), F.bindsN fun _ _ _ _ _ _ us hl => match us, hl with | [_, _], _ => rfl⟩⟩
  · obtain ⟨p, fa, cs, ks, us, ps, ns, rfl, S0, hfa, hp, hk, hl, k⟩ := h; rfl
  · obtain ⟨p, fa, cs, ks, us, ps, ns, rfl, S0, hfa, hp, hk, hl, k⟩ := h
    have hu := hu_of hr
    refine ⟨_, PSs.nox (pss_one (ps_ret (pe_callB (cr_any rfl) (by rfl) T.f_any (by decide +kernel) (pa_cons (pe_lc (own := [("field", 2), ("kind", 3)]) (g := gTup K 2 (gCons (gName 2) (gCons (gName 3) (gNil)))) (tt := tYes) rfl sc_Source_kinds_differ.nd (pi_list (pv 1)) (blkOk_by (N := ["self", "fields", "field", "kind"]) (sc := defScope s_Source_kinds_differ) (by decide +kernel)) (fun _ _ _ _ _ => (pg_tup rfl (pgs_cons (pg_name (i := 2) sc_Source_kinds_differ.nd rfl (Or.inl rfl)) (pgs_cons (pg_name (i := 3) sc_Source_kinds_differ.nd rfl (Or.inl rfl)) pgs_nil)))) (fun _ _ _ _ _ => pts_nil) (fun _ _ _ _ _ => (pe_cmpR op_ne (pe_dget2 hu (pe_fldK (K := K) rfl (pv 0) (by rfl)) (pv 2) (pv 3) ⟨rfl, rfl, rfl, rfl⟩) (pv 3) (nomark _)))) pa_nil)))), ?_⟩
    obtain ⟨dx, df, dk, du, fs, S⟩ := S0
    refine ⟨_, rfl, fa, rfl, ⟨_, SqL.of hfa⟩, fun D hD => ?_⟩
    refine lc_pure (walk_list (K := K) (a := fa) (xs := ps.map V.ref)) hD (fun _ => .bl false) (by rw [List.length_map, hp.len]; omega) (fun H1 s1 => SqL.of (s1 _ _ hfa)) (fun i H1 y H2 hi s1 hy Qe qe => ?_) (fun H1 s1 h1 => ?_)
    · obtain ⟨rfl, hy⟩ := hy
      obtain ⟨p1, x, rfl, hp1, hx, hpt⟩ := (hp.mono s1).get hy
      have S1 := S.mono s1
      refine ⟨p1, _, rfl, SqT.of hpt, rfl, _, _, rfl, _, _, rfl, rfl, rfl, ?_⟩
      refine ⟨_, rfl, p, _, dx, fs, _, rfl, S1.ob, T.c_Source, T.n_Source_field_kinds, S1.f2, dk, rfl, .inl ⟨_, .inl S1.d2⟩, _, rfl, _, rfl, _, DGet.k (k := Sum.inr x.1) S1.d2, ?_⟩
      have e : (valV ks (Sum.inr x.1 : Key)).getD (.str x.2) = .str x.2 := by
        rcases hk x (List.mem_of_getElem? hx) with e | e <;> rw [e] <;> rfl
      rw [e]
      exact ⟨_, rfl, rfl, qF (by simp) (qe _ (Same.refl _))⟩
    · exact ⟨D, (List.range (ps.map V.ref).length).map (fun _ => false), rfl, SqL.of (by rw [h1, List.map_map]; rfl), qF any_false (k _ s1)⟩
theorem sc_Source_take_classes : FnScope ["self", "classes", "k", "entry", "field", "kind"] ["self", "classes"] (defScope s_Source_take_classes) := ⟨rfl, rfl, rfl, by decide +kernel, rfl, by decide +kernel, by decide +kernel⟩
theorem ok_Source_take_classes (T : Ctx w K mg) (H_is_list_of : Has P w K mg base 1 "is_list_of" ["thing", "least", "most"] spListOf) (H_is_class : Has P w K mg base 3 "_is_class" ["entry"] spClassG) (H_Source_kinds_differ : HasM P w K mg base 1 "Source" "_kinds_differ" ["self", "fields"] (spDiff K)) (H_frozen : Has P w K mg base 3 "frozen" ["thing"] spFz2) : HasM P w K mg base 4 "Source" "_take_classes" ["self", "classes"] (spTakeCM K) := by
  obtain ⟨fd, F⟩ := T.D_Source_take_classes
  obtain ⟨fd_is_list_of, G_is_list_of, b_is_list_of⟩ := H_is_list_of.ex
  obtain ⟨fd_is_class, G_is_class, b_is_class⟩ := H_is_class.ex
  obtain ⟨fd_Source_kinds_differ, G_Source_kinds_differ, b_Source_kinds_differ⟩ := H_Source_kinds_differ.ex
  obtain ⟨fd_frozen, G_frozen, b_frozen⟩ := H_frozen.ex
  refine ⟨⟨fd, F.ok sc_Source_take_classes (fun vs H Q E h => ?_) (fun cdv A outer s H vs Q E hr h => ?_), F.bindsN fun _ _ _ _ _ _ us hl => match us, hl with | [_, _], _ => rfl⟩⟩
  · obtain ⟨p, ca, dx, df, dk, du, fs, us, cl, es, rfl, S, hdd, hu1, hu2, hca, hel, hE, O, k⟩ := h; rfl
  · obtain ⟨p, ca, dx, df, dk, du, fs, us, cl, es, rfl, S, hdd, hu1, hu2, hca, hel, hE, O, k⟩ := h
    have hr_is_list_of : Room 1 _ := hr.mono (by decide)
    have hr_is_class : Room 3 _ := hr.mono (by decide)
    have hr_Source_kinds_differ : Room 1 _ := hr.mono (by decide)
    have hr_frozen : Room 3 _ := hr.mono (by decide)
    have hu := hu_of hr
    obtain ⟨t_c, e_MOST_CLASSES⟩ := T.i_MOST_CLASSES
    refine ⟨_, PSs.nox (pss_cons (ps_if (pt_not (pt_val (pe_call G_is_list_of hr_is_list_of (by rfl) H_is_list_of.gl H_is_list_of.kp b_is_list_of .nil pass0 (pa_cons (pv 1) (pa_cons pe_int (pa_cons (pe_glob (v := .int 6) rfl e_MOST_CLASSES ⟨_, rfl⟩) pa_nil)))))) (pss_one ps_never) pss_nil)
      (pss_one (ps_for PassesOwn.never rfl (pi_enum (by rfl) T.f_enumerate (pa_cons (pv 1) pa_nil)) (pg_tup rfl (pgs_cons (pg_name (i := 2) sc_Source_take_classes.nd rfl (Or.inl rfl)) (pgs_cons (pg_name (i := 3) sc_Source_take_classes.nd rfl (Or.inl rfl)) pgs_nil)))
      (pss_cons (ps_if (PW.pt (pw_or (pt_not (pt_val (pe_call G_is_class hr_is_class (by rfl) H_is_class.gl H_is_class.kp b_is_class .nil pass0 (pa_cons (pv 3) pa_nil)))) (pw_or (pt_cmp (pc_din hu (pe_ix ix_tup (pv 3) pe_int (fun _ _ => rfl)) (pe_fldK (K := K) rfl (pv 0) (by rfl)))) (pw_or1 (pt_val (pe_meth (pv 0) T.c_Source T.m_Source_kinds_differ G_Source_kinds_differ hr_Source_kinds_differ b_Source_kinds_differ .nil pass0 (pa_cons (pe_ix ix_tup (pv 3) pe_int (fun _ _ => rfl)) pa_nil))))))) (pss_one ps_never) pss_nil)
      (pss_cons (ps_dput hu (pe_fldK (K := K) rfl (pv 0) (by rfl)) (pe_ix ix_tup (pv 3) pe_int (fun _ _ => rfl)) (pe_call G_frozen hr_frozen (by rfl) H_frozen.gl H_frozen.kp b_frozen .nil pass0 (pa_cons (pe_ix ix_tup (pv 3) pe_int (fun _ _ => rfl)) pa_nil)) rfl)
      (pss_one (ps_for PassesOwn.never rfl (pi_list (pe_ix ix_tup (pv 3) pe_int (fun _ _ => rfl))) (pg_tup rfl (pgs_cons (pg_name (i := 4) sc_Source_take_classes.nd rfl (Or.inl rfl)) (pgs_cons (pg_name (i := 5) sc_Source_take_classes.nd rfl (Or.inl rfl)) pgs_nil)))
      (pss_one (ps_dput hu (pe_fldK (K := K) rfl (pv 0) (by rfl)) (pv 4) (pv 5) rfl))))))))), ?_⟩
    have hlr : (es.map V.ref).length = cl.length := by rw [List.length_map, hel]
    have ne : ∀ {b : Addr} {u : HO}, H b = some u → (∀ z, u ≠ .dK z) → b ∉ [df, dk] := fun q n m => by
      rcases List.mem_cons.mp m with m | m
      · rw [m, S.d1] at q
        exact n _ (Option.some.inj q).symm
      · rw [List.mem_singleton.mp m, S.d2] at q
        exact n _ (Option.some.inj q).symm
    have l6 := O.l6
    have lens : ∀ c ∈ cl, c.2.length ≤ 4 := fun c m => (O.one c m).2.2.2
    refine ⟨_, rfl, ca, _, 0, 6, rfl, hca, by omega, by omega, _, rfl, iteF ?_⟩
    refine ⟨_, rfl, ca, _, rfl, SqL.of hca, ?_⟩
    refine for_it (walk_enum (K := K) (a := ca) (xs := es.map V.ref)) (fun i σ H1 => ∃ v2 v3 v4 v5 : Option V, σ = [some (.ref p), some (.ref ca), v2, v3, v4, v5] ∧ ButL [df, dk] H H1 ∧ ∃ qs : List Addr, qs.length = i ∧ H1 df = some (.dK (csM (cl.take i) qs)) ∧ H1 dk = some (.dK (ksM (cl.take i)))) ⟨none, none, none, none, rfl, fun b u q _ => q, [], rfl, S.d1, S.d2⟩ (fun i σ H1 _ ⟨_, _, _, _, _, b1, _⟩ => SqL.of (b1 _ _ hca (ne hca (by intro z w; cases w)))) ?_ ?_
    · rintro i y σ H1 H2 hi ⟨v2, v3, v4, v5, rfl, b1, qs, ql, h1f, h1k⟩ ⟨u, a, b, rfl, hu0, rfl, h1, h2⟩
      have h2 : (es.map V.ref)[i]? = some b := h2
      obtain rfl : V.int (i : Nat) = a := Option.some.inj h1
      obtain ⟨e, hc, rfl⟩ := map_get h2
      have hif : i < cl.length := by rw [hlr] at hi; exact hi
      have hf : cl[i]? = some cl[i] := List.getElem?_eq_getElem hif
      obtain ⟨hC, hN, hnd, hl⟩ := O.one _ (List.mem_of_getElem? hf)
      have fit := O.fit i _ hf
      have hE0 := hE i e _ hc hf
      have hnm : ∀ q ∈ csM (cl.take i) qs, q.1 ≠ (Sum.inr cl[i].1 : Key) := cs_ne O.nd hf
      have hsn : ∀ x : Addr, csM (cl.take (i + 1)) (qs ++ [x]) = csM (cl.take i) qs ++ [(Sum.inr cl[i].1, V.ref x)] := fun x => cs_snoc hf ql
      have hks : ksM (cl.take (i + 1)) = ksF (ksM (cl.take i)) cl[i].2 := by rw [take_snoc hf, ksM_snoc]
      have kl : (ksM (cl.take i)).length ≤ 24 := by
        have h := ksM_len (cl.take i) [] fun c m => lens c (List.take_subset _ _ m)
        unfold ksM
        rw [List.length_take] at h
        rw [List.length_nil] at h
        omega
      have cll : (csM (cl.take i) qs).length ≤ 6 := by
        unfold csM
        rw [List.length_map, List.length_zip]
        omega
      generalize cl[i] = c0 at *
      obtain ⟨C, ns⟩ := c0
      obtain ⟨fa, ps, he, hfa, hp⟩ := hE0
      have hp : PairsG H ps ns := hp
      have hl : ns.length ≤ 4 := hl
      have s1 : Same H1 (upd H1 u (.tup [.int (i : Nat), .ref e])) := Same.new hu0
      have keep1 : ∀ {b : Addr} {o : HO}, H b = some o → (∀ z, o ≠ .dK z) → H1 b = some o := fun q n => b1 _ _ q (ne q n)
      have he1 := keep1 he (by intro z w; cases w)
      have hfa1 := keep1 hfa (by intro z w; cases w)
      have hp1 : PairsG H1 ps ns := ⟨hp.len, fun j x q e1 e2 => keep1 (hp.at_ j x q e1 e2) (by intro z w; cases w)⟩
      have ob1 := keep1 S.ob (by intro z w; cases w)
      have d31 : H1 du = some (.dK us) := b1 _ _ S.d3 (fun m => by
        rcases List.mem_cons.mp m with m | m
        · exact hu1 m
        · exact hu2 (List.mem_singleton.mp m))
      have S1 : SrcG K H1 p dx df dk du fs (csM (cl.take i) qs) (ksM (cl.take i)) us := ⟨ob1, S.f1, S.f2, S.f3, S.nm, h1f, h1k, d31⟩
      refine ⟨u, _, rfl, SqT.of upd_same, rfl, _, _, rfl, _, _, rfl, rfl, ?_⟩
      refine ⟨_, rfl, e, fa, C, ps, ns, rfl, s1 _ _ he1, hC, s1 _ _ hfa1, hp1.mono s1, hN, hnd, hl, fun H3 s3 => ⟨_, rfl, iteF ?_⟩⟩
      have s13 := s1.trans s3
      have he3 := s13 _ _ he1
      have ob3 := s13 _ _ ob1
      have f3 := s13 _ _ h1f
      have k3 := s13 _ _ h1k
      have g3 := DGet.k (k := Sum.inr C) f3
      rw [valV_newC hnm] at g3
      refine ⟨_, rfl, _, _, _, _, rfl, rfl, SqT.of he3, at0, _, rfl, p, _, dx, fs, _, rfl, ob3, T.c_Source, T.n_Source_fields, S.f1, df, none, rfl, g3, _, rfl, iteF ?_⟩
      refine ⟨_, rfl, p, dx, fs, rfl, ob3, S.nm _ (by decide +kernel), _, rfl, _, _, _, _, rfl, rfl, SqT.of he3, at1, ?_⟩
      refine ⟨p, fa, _, _, us, ps, ns, rfl, ⟨dx, df, dk, du, fs, S1.mono s13⟩, s13 _ _ hfa1, hp1.mono s13, fit, by omega, fun H4 s4 => ⟨_, rfl, iteF ?_⟩⟩
      have s14 := s13.trans s4
      have he4 := s14 _ _ he1
      refine ⟨_, rfl, _, _, _, _, rfl, rfl, SqT.of he4, at1, fa, ps, _, rfl, s14 _ _ hfa1, pairFG (hp1.mono s14), by rw [hp1.len]; omega, fun q qq H5 s5 tq hq fq => ?_⟩
      have s15 := s14.trans s5
      have S5 := S1.mono s15
      have he5 := s15 _ _ he1
      refine ⟨_, rfl, p, _, dx, fs, _, rfl, S5.ob, T.c_Source, T.n_Source_fields, S5.f1, _, rfl, _, _, _, _, rfl, rfl, SqT.of he5, at0, df, _, rfl, DPut.k (k := Sum.inr C) S5.d1 (sz_lt (by omega)), ?_⟩
      rw [putK_new hnm, ← hsn q]
      have b6 : ButL [df, dk] H1 (upd H5 df (.dK (csM (cl.take (i + 1)) (qs ++ [q])))) := fun b u q n => by
        rw [upd_ne (fun z => n (by rw [z]; exact List.mem_cons_self))]
        exact s15 _ _ q
      have hd6 : upd H5 df (.dK (csM (cl.take (i + 1)) (qs ++ [q]))) dk = some (.dK (ksM (cl.take i))) := by
        rw [upd_ne (Ne.symm hdd)]
        exact S5.d2
      have ne1 : ∀ {b : Addr} {u : HO}, H1 b = some u → (∀ z, u ≠ .dK z) → b ∉ [df, dk] := fun q n m => by
        rcases List.mem_cons.mp m with m | m
        · rw [m, h1f] at q
          exact n _ (Option.some.inj q).symm
        · rw [List.mem_singleton.mp m, h1k] at q
          exact n _ (Option.some.inj q).symm
      have he6 := b6 _ _ he1 (ne1 he1 (by intro z w; cases w))
      have hfa6 := b6 _ _ hfa1 (ne1 hfa1 (by intro z w; cases w))
      refine ⟨_, rfl, _, _, _, _, rfl, rfl, SqT.of he6, at1, fa, rfl, ⟨_, SqL.of hfa6⟩, ?_⟩
      have hd7 : upd H5 df (.dK (csM (cl.take (i + 1)) (qs ++ [q]))) df = some (.dK (csM (cl.take (i + 1)) (qs ++ [q]))) := upd_same
      generalize upd H5 df (.dK (csM (cl.take (i + 1)) (qs ++ [q]))) = H6 at *
      refine for_it (walk_list (K := K) (a := fa) (xs := ps.map V.ref)) (fun j σ H1' => ∃ v1 v2 : Option V, σ = [some (.ref p), some (.ref ca), some (.int (i : Nat)), some (.ref e), v1, v2] ∧ ButL [df, dk] H1 H1' ∧ H1' df = some (.dK (csM (cl.take (i + 1)) (qs ++ [q]))) ∧ H1' dk = some (.dK (ksF (ksM (cl.take i)) (ns.take j)))) ⟨v4, v5, rfl, b6, hd7, hd6⟩ (fun j σ H1' _ ⟨_, _, _, b7, _⟩ => SqL.of (b7 _ _ hfa1 (ne1 hfa1 (by intro z w; cases w)))) ?_ ?_
      · rintro j y σ H7 H8 hj ⟨v1, v2, rfl, b7, h7, k7⟩ ⟨rfl, hy⟩
        obtain ⟨p1, hp2, rfl⟩ := map_get hy
        have hin : j < ns.length := by
          rw [List.length_map, hp1.len] at hj
          exact hj
        have hx : ns[j]? = some ns[j] := List.getElem?_eq_getElem hin
        have hpt := hp1.at_ j p1 _ hp2 hx
        have hpt7 := b7 _ _ hpt (ne1 hpt (by intro z w; cases w))
        have ob7 := b7 _ _ ob1 (ne1 ob1 (by intro z w; cases w))
        refine ⟨p1, _, rfl, SqT.of hpt7, rfl, _, _, rfl, _, _, rfl, rfl, ?_⟩
        refine ⟨_, rfl, _, rfl, p, _, dx, fs, _, rfl, ob7, T.c_Source, T.n_Source_field_kinds, S.f2, _, rfl, dk, _, rfl, DPut.k (k := Sum.inr ns[j].1) k7 (sz_lt ?_), ?_⟩
        · have h := ksF_len (ns.take j) (ksM (cl.take i))
          rw [List.length_take] at h
          omega
        refine ⟨_, _, rfl, fun b u q n => ?_, ?_, ?_⟩
        · rw [upd_ne (fun z => n (by rw [z]; exact List.mem_cons_of_mem _ (List.mem_singleton_self _)))]
          exact b7 _ _ q n
        · rw [upd_ne hdd]
          exact h7
        · rw [upd_same, take_snoc hx, ksF_snoc]
      · rintro σ H7 ⟨v1, v2, rfl, b7, h7, k7⟩
        rw [List.length_map, hp1.len, List.take_length] at k7
        refine ⟨_, _, _, _, rfl, fun b u q n => b7 _ _ (b1 _ _ q n) n, qs ++ [q], by rw [List.length_append, ql]; rfl, h7, ?_⟩
        rw [hks]
        exact k7
    · rintro σ H1 ⟨v2, v3, v4, v5, rfl, b1, qs, ql, h1f, h1k⟩
      rw [hlr] at ql
      rw [hlr, List.take_length] at h1f h1k
      exact k H1 qs b1 ql h1f h1k

end
end W5
set_option Elab.async false
set_option linter.all false
set_option maxRecDepth 100000
set_option maxHeartbeats 4000000
namespace W5
open PySem PySem.Spec PyProof.Rows L2 RZ
section
variable {P : Program} {w : World} {K : PySem.W.Frag} {mg : Str → Option Value} {base : Heap}

/-- t + u of plain tuples, whichever is empty -/
def rCatPA : R2 := fun x y H Q => ∃ (a b : Addr) (xs ys : List V), x = .ref a ∧ y = .ref b ∧ TupP H a xs ∧ TupP H b ys ∧ xs.length + ys.length ≤ sizeLine ∧ ∀ (c : Addr) (H' : Hp), Same H H' → TupP H' c (xs ++ ys) → Q (.ref c) H'
theorem op_catPA {X : Cx} : OpR X (binaryOp .Add) rCatPA := by
  intro pins s σ H x y v u Q I rx ry h
  obtain ⟨a, b, xs, ys, rfl, rfl, ta, tb, hz, q⟩ := h
  have ha : SqT X.K H a xs := ta.sq
  have hb : SqT X.K H b ys := tb.sq
  cases rx
  cases ry
  obtain ⟨its, r1, p1, _⟩ := I.tuple ha
  obtain ⟨its2, r2, p2, _⟩ := I.tuple hb
  by_cases hx : xs = []
  · have e : its = [] := r1.nil_iff.mpr hx
    subst e
    refine cat_tup0 p1 p2 ⟨.ref b, H, I, rfl, q b H (Same.refl H) ?_⟩
    rw [hx]
    exact tb
  · refine HT.cat_tup p1 p2 (fun z => hx (r1.nil_iff.mp z)) (fun z => ⟨.ref a, H, I, rfl, q a H (Same.refl H) (by rw [r2.nil_iff.mp z, List.append_nil]; exact ta)⟩) (fun z => ?_) (by rw [← r1.length, ← r2.length]; exact hz)
    have hf := I.hok.fresh (Nat.le_refl s.heap.objs.size)
    refine ⟨.ref s.heap.objs.size, _, I.laid (t' := s.toks) (o := .frz { cls := .type "tuple", data := .seq (its ++ its2).toArray } (.tup (xs ++ ys))) (fun b ob q => Heap.get?_push_of_some _ q) (Nat.le_refl _) ?_, rfl, q _ _ (Same.new hf) ⟨_, upd_same, rfl, rfl⟩⟩
    exact ⟨Heap.get?_push_size _ rfl, by rw [List.length_append]; exact hz, _, r1.append r2, IsTup.new _ _⟩
theorem mergeK_kvP : ∀ (l2 l1 : List (Str × Str)), ((l1 ++ l2).map Prod.fst).Nodup → mergeK (kvP l1) (kvP l2) = kvP (l1 ++ l2)
  | [], l1, _ => by
    rw [List.append_nil]
    rfl
  | a :: r, l1, h => by
    have e : l1 ++ a :: r = (l1 ++ [a]) ++ r := by simp
    have h1 : a.1 ∉ l1.map Prod.fst := fun m => by
      rw [List.map_append, List.map_cons] at h
      have := List.nodup_append.mp h
      exact this.2.2 a.1 m a.1 (List.mem_cons_self) rfl
    show mergeK (putK (kvP l1) (Sum.inr a.1 : Key) (.str a.2)) (kvP r) = _
    rw [putK_kvP h1, e]
    exact mergeK_kvP r (l1 ++ [a]) (by rw [← e]; exact h)
theorem pairsG_paired {H : Hp} : ∀ {qs : List Addr} {ns : List (Str × Str)}, PairsG H qs ns → Paired (fun p (kv : Key × V) => SqT K H p [kV kv.1, kv.2]) qs (kvP ns)
  | [], [], _ => .nil
  | [], b :: ns, h => by have := h.len; simp at this
  | a :: qs, [], h => by have := h.len; simp at this
  | a :: qs, b :: ns, h => .cons (SqT.of (h.at_ 0 a b rfl rfl)) (pairsG_paired (qs := qs) (ns := ns) ⟨by have := h.len; simpa using this, fun i p x e1 e2 => h.at_ (i + 1) p x (by simpa using e1) (by simpa using e2)⟩)
theorem But.tupP {p a C dx : Addr} {fs : List (Str × V)} {H H' : Hp} {xs : List V} (b : But p H H') (hp : H p = some (.ins C dx fs)) (h : TupP H a xs) : TupP H' a xs := by
  obtain ⟨o, e, q⟩ := h
  exact ⟨o, b _ _ e (ne_of e hp (by intro z; cases z)), q⟩
theorem But.pairsG {p C dx : Addr} {fs : List (Str × V)} {H H' : Hp} {as : List Addr} {xs : List (Str × Str)} (b : But p H H') (hp : H p = some (.ins C dx fs)) (h : PairsG H as xs) : PairsG H' as xs :=
  ⟨h.len, fun i q x e1 e2 => b _ _ (h.at_ i q x e1 e2) (ne_of (h.at_ i q x e1 e2) hp (by intro z; cases z))⟩
theorem putF_le (f : Str) (v : V) : ∀ fs : List (Str × V), (putF f v fs).length ≤ fs.length + 1
  | [] => Nat.le_refl _
  | (g, u) :: r => by
    show (if g = f then (g, v) :: r else (g, u) :: putF f v r).length ≤ _
    split
    · simp
    · rw [List.length_cons, List.length_cons]
      have := putF_le f v r
      omega
theorem pl1 {f : Str} {v : V} {fs : List (Str × V)} {n : Nat} (h : fs.length ≤ n) : (putF f v fs).length ≤ n + 1 := Nat.le_trans (putF_le f v fs) (Nat.succ_le_succ h)
theorem pf0 : ([] : List (Str × V)).length ≤ 0 := Nat.le_refl _
theorem few {fs : List (Str × V)} {n : Nat} (h : fs.length ≤ n) (hn : n < 900 := by decide) : fs.length < 1000 := by omega
theorem few8 {fs : List (Str × V)} {n : Nat} (h : fs.length ≤ n) (hn : n ≤ 900 := by decide) : fs.length ≤ 900 := by omega
/-- a Function, all but its rows -/
structure FunG (K : PySem.W.Frag) (H : Hp) (p dx pa va : Addr) (fs : List (Str × V)) (ps : List Addr) (ns ms : List (Str × Str)) (res : Str) : Prop where
  ob : H p = some (.ins (He.ga K "Function") dx fs)
  f1 : fs.lookup ("params" : Str) = some (.ref pa)
  f2 : fs.lookup ("result" : Str) = some (.str res)
  f3 : fs.lookup ("variables" : Str) = some (.ref va)
  nohas : fs.lookup ("has_row" : Str) = none ∧ fs.lookup ("called_at" : Str) = none
  few : fs.length ≤ 900
  d1 : TupP H pa (ps.map V.ref)
  pr : PairsG H ps ns
  vd : H va = some (.dK (kvP (ns ++ ms)))
theorem FunG.mono {H H' : Hp} {p dx pa va : Addr} {fs : List (Str × V)} {ps : List Addr} {ns ms : List (Str × Str)} {res : Str} (h : FunG K H p dx pa va fs ps ns ms res) (e : Same H H') : FunG K H' p dx pa va fs ps ns ms res :=
  ⟨e _ _ h.ob, h.f1, h.f2, h.f3, h.nohas, h.few, h.d1.mono e, h.pr.mono e, e _ _ h.vd⟩
def spFnInitG (K : PySem.W.Frag) : Sp := fun vs H Q _ => ∃ (p dx pa oa : Addr) (nm res : Str) (ps qs : List Addr) (ns ms : List (Str × Str)), vs = [.ref p, .str nm, .ref pa, .ref oa, .str res] ∧ H p = some (.ins (He.ga K "Function") dx []) ∧
  H pa = some (.lst (ps.map V.ref)) ∧ PairsG H ps ns ∧ H oa = some (.lst (qs.map V.ref)) ∧ PairsG H qs ms ∧ ((ns ++ ms).map Prod.fst).Nodup ∧ ns.length ≤ 4 ∧ ms.length ≤ 8 ∧
  ∀ (H' : Hp) (ta va : Addr) (fs : List (Str × V)) (ps' : List Addr), But p H H' → FunG K H' p dx ta va fs ps' ns ms res → H va = none → Q .non H' 
theorem sc_Function_init : FnScope ["self", "name", "params", "others", "result"] ["self", "name", "params", "others", "result"] (defScope s_Function_init) := ⟨rfl, rfl, rfl, by decide +kernel, rfl, by decide +kernel, by decide +kernel⟩
theorem ok_Function_init (T : Ctx w K mg) (H_frozen : Has P w K mg base 3 "frozen" ["thing"] spFz2) : HasM P w K mg base 4 "Function" "__init__" ["self", "name", "params", "others", "result"] (spFnInitG K) := by
  obtain ⟨fd, F⟩ := T.D_Function_init
  obtain ⟨fd_frozen, G_frozen, b_frozen⟩ := H_frozen.ex
  refine ⟨⟨fd, F.ok sc_Function_init (fun vs H Q E h => ?_) (fun cdv A outer s H vs Q E hr h => ?_), F.bindsN fun _ _ _ _ _ _ us hl => match us, hl with | [_, _, _, _, _], _ => rfl⟩⟩
  · obtain ⟨p, dx, pa, oa, nm, res, ps, qs, ns, ms, rfl, hp, hpa, hp1, hoa, hp2, hnd, l1, l2, k⟩ := h; rfl
  · obtain ⟨p, dx, pa, oa, nm, res, ps, qs, ns, ms, rfl, hp, hpa, hp1, hoa, hp2, hnd, l1, l2, k⟩ := h
    have hr_frozen : Room 3 _ := hr.mono (by decide)
    have hu := hu_of hr
    refine ⟨_, PSs.nox (pss_cons (ps_fld (pv 0) (pv 1) rfl)
      (pss_cons (ps_fld (pv 0) (pe_call G_frozen hr_frozen (by rfl) H_frozen.gl H_frozen.kp b_frozen .nil pass0 (pa_cons (pv 2) pa_nil)) rfl)
      (pss_cons (ps_fld (pv 0) (pe_call G_frozen hr_frozen (by rfl) H_frozen.gl H_frozen.kp b_frozen .nil pass0 (pa_cons (pv 3) pa_nil)) rfl)
      (pss_cons (ps_fld (pv 0) (pv 4) rfl)
      (pss_cons (ps_fld (pv 0) (pe_callTy (call_dictT rfl) (by rfl) T.f_dict (by decide +kernel) (pa_cons (pe_op op_catPA (pe_fldK (K := K) rfl (pv 0) (by rfl)) (pe_fldK (K := K) rfl (pv 0) (by rfl))) pa_nil)) rfl)
      (pss_one (ps_fld (pv 0) (pe_tup pa_nil) rfl))))))), ?_⟩
    have npa : pa ≠ p := ne_of hpa hp (by intro z; cases z)
    have noa : oa ≠ p := ne_of hoa hp (by intro z; cases z)
    have hl1 : ps.length = ns.length := hp1.len
    have hl2 : qs.length = ms.length := hp2.len
    refine ⟨_, rfl, _, rfl, p, _, dx, _, rfl, hp, T.c_Function, T.n_Function_name, few pf0, ?_⟩
    have b1 : But p H (upd H p (.ins (He.ga K "Function") dx (putF "name" (.str nm) []))) := But.upd
    refine ⟨_, rfl, pa, ps, _, rfl, b1 _ _ hpa npa, pairFG (b1.pairsG hp hp1), by omega, fun q1 qs1 H2 s2 t1 h1 f1 => ?_⟩
    refine ⟨_, rfl, p, _, dx, _, rfl, s2 _ _ upd_same, T.c_Function, T.n_Function_params, few (pl1 pf0), ?_⟩
    have b2 : But p H H2 := b1.trans (But.of s2)
    have hp2' := s2 _ _ (upd_same (H := H) (a := p))
    have b3 : But p H2 (upd H2 p (.ins (He.ga K "Function") dx (putF "params" (.ref q1) (putF "name" (.str nm) [])))) := But.upd
    have b13 := b2.trans b3
    refine ⟨_, rfl, oa, qs, _, rfl, b13 _ _ hoa noa, pairFG (b13.pairsG hp hp2), by omega, fun q2 qs2 H4 s4 t2 h2 f2 => ?_⟩
    refine ⟨_, rfl, p, _, dx, _, rfl, s4 _ _ upd_same, T.c_Function, T.n_Function_others, few (pl1 (pl1 pf0)), ?_⟩
    have hp4 := s4 _ _ (upd_same (H := H2) (a := p))
    have b4 : But p H2 H4 := b3.trans (But.of s4)
    refine ⟨_, rfl, _, rfl, p, _, dx, _, rfl, upd_same, T.c_Function, T.n_Function_result, few (pl1 (pl1 (pl1 pf0))), ?_⟩
    refine ⟨_, rfl, p, _, dx, _, _, rfl, upd_same, T.c_Function, T.n_Function_params, rfl, _, rfl, p, _, dx, _, _, rfl, upd_same, T.c_Function, T.n_Function_others, rfl, ?_⟩
    refine ⟨q1, q2, _, _, rfl, rfl, But.tupP (b4.trans (But.upd.trans But.upd)) hp2' t1, But.tupP (But.upd.trans But.upd) hp4 t2, by rw [List.length_map, List.length_map]; exact sz_of (by omega), fun c H6 s6 tc => ?_⟩
    have t6 : TupP H6 q1 (qs1.map V.ref) := But.tupP ((b4.trans (But.upd.trans But.upd)).trans (But.of s6)) hp2' t1
    have pq1 : PairsG H6 qs1 ns := But.pairsG ((b4.trans (But.upd.trans But.upd)).trans (But.of s6)) hp2' (fPairG (h1.trans hl1) f1)
    have pq2 : PairsG H6 qs2 ms := But.pairsG ((But.upd.trans But.upd).trans (But.of s6)) hp4 (fPairG (h2.trans hl2) f2)
    refine ⟨c, qs1 ++ qs2, kvP (ns ++ ms), rfl, (by rw [List.map_append]; exact tc), pairsG_paired (pq1.append pq2), fun d hd => ?_⟩
    have hp6 := s6 p _ upd_same
    refine ⟨_, rfl, p, _, dx, _, rfl, Same.new hd _ _ hp6, T.c_Function, T.n_Function_variables, few (pl1 (pl1 (pl1 (pl1 pf0)))), ?_⟩
    refine ⟨sz_of (by decide), fun t ht => ?_⟩
    refine ⟨_, rfl, p, _, dx, _, rfl, Same.new ht _ _ upd_same, T.c_Function, T.n_Function_body, few (pl1 (pl1 (pl1 (pl1 (pl1 pf0))))), ?_⟩
    have ndp : d ≠ p := (ne_of_none hp6 hd).symm
    have ndt : d ≠ t := fun z => by
      rw [← z, upd_ne ndp, upd_same] at ht
      cases ht
    have b6 : But p H H6 := b2.trans (b4.trans ((But.upd.trans But.upd).trans (But.of s6)))
    have hq1p : q1 ≠ p := by
      obtain ⟨oo, e, _⟩ := t1
      exact ne_of e hp2' (by intro z; cases z)
    have dnone : H d = none := by
      cases z : H d with
      | none => rfl
      | some u => exact absurd (b6 _ _ z ndp) (by rw [hd]; intro z; cases z)
    refine k _ q1 d _ qs1 (b6.trans ((But.of (Same.new hd)).trans (But.upd.trans ((But.of (Same.new ht)).trans But.upd)))) ⟨upd_same, rfl, rfl, rfl, ⟨rfl, rfl⟩, few8 (pl1 (pl1 (pl1 (pl1 (pl1 (pl1 pf0)))))), But.tupP ((But.of (Same.new hd)).trans (But.upd.trans ((But.of (Same.new ht)).trans But.upd))) hp6 t6, But.pairsG ((But.of (Same.new hd)).trans (But.upd.trans ((But.of (Same.new ht)).trans But.upd))) hp6 pq1, ?_⟩ dnone
    · rw [upd_ne ndp, upd_ne ndt, upd_ne ndp, upd_same]
      exact congrArg (fun l => some (HO.dK l)) (mergeK_kvP _ [] hnd)

end
end W5
set_option Elab.async false
set_option linter.all false
set_option maxRecDepth 100000
set_option maxHeartbeats 4000000
namespace W5
open PySem PySem.Spec PyProof.Rows L2 RZ
section
variable {P : Program} {w : World} {K : PySem.W.Frag} {mg : Str → Option Value} {base : Heap}

/-- a function, as plain data -/
structure FdT where
  nm : Str
  res : Str
  ns : List (Str × Str)
  ms : List (Str × Str)
  rws : List Rx
/-- tuples and lists stay -/
def KeepTL (H H' : Hp) : Prop := (∀ b xs, H b = some (.tup xs) → H' b = some (.tup xs)) ∧ ∀ b xs, H b = some (.lst xs) → H' b = some (.lst xs)
theorem KeepTL.of {H H' : Hp} (e : Same H H') : KeepTL H H' := ⟨fun b xs h => e _ _ h, fun b xs h => e _ _ h⟩
theorem KeepTL.butD {H H' : Hp} {d : Addr} {ks : List (Key × V)} (hd : H d = some (.dK ks)) (b : ButL [d] H H') : KeepTL H H' :=
  ⟨fun a xs h => b _ _ h (fun m => by rw [List.mem_singleton.mp m, hd] at h; cases h), fun a xs h => b _ _ h (fun m => by rw [List.mem_singleton.mp m, hd] at h; cases h)⟩
theorem PairsG.keep {H H' : Hp} {ps : List Addr} {qs : List (Str × Str)} (h : PairsG H ps qs) (e : KeepTL H H') : PairsG H' ps qs := ⟨h.len, fun i p x a b => e.1 _ _ (h.at_ i p x a b)⟩
theorem EntryG.keep {H H' : Hp} {e pa oa ra : Addr} {nm res : Str} {ps qs : List Addr} {ns ms : List (Str × Str)} {rs : List V} (h : EntryG H e pa oa ra nm res ps qs ns ms rs) (k : KeepTL H H') : EntryG H' e pa oa ra nm res ps qs ns ms rs :=
  ⟨k.1 _ _ h.he, h.nf, h.kd, k.2 _ _ h.hpa, h.p1.keep k, k.2 _ _ h.hoa, h.p2.keep k, h.nam, h.nd, h.l1, h.l2, k.2 _ _ h.hra, h.l3, h.l4⟩
def EntryAt (H : Hp) (e : Addr) (f : FdT) : Prop := ∃ (pa oa ra : Addr) (ps qs : List Addr) (rs : List V), EntryG H e pa oa ra f.nm f.res ps qs f.ns f.ms rs
theorem EntryAt.keep {H H' : Hp} {e : Addr} {f : FdT} (h : EntryAt H e f) (k : KeepTL H H') : EntryAt H' e f := by
  obtain ⟨pa, oa, ra, ps, qs, rs, q⟩ := h
  exact ⟨pa, oa, ra, ps, qs, rs, q.keep k⟩
def usOf (fds : List FdT) (fps : List Addr) : List (Key × V) := (fds.zip fps).map fun q => (Sum.inr q.1.nm, V.ref q.2)
theorem valV_new {k : Key} : ∀ {l : List (Key × V)}, (∀ q ∈ l, q.1 ≠ k) → valV l k = none
  | [], _ => rfl
  | a :: l, h => by
    have ih := valV_new (k := k) (l := l) fun q m => h q (List.mem_cons_of_mem _ m)
    unfold valV at ih ⊢
    rw [List.find?_cons_of_neg (by simpa using h a List.mem_cons_self)]
    exact ih
theorem us_ne {fds : List FdT} {fps : List Addr} {i : Nat} {f : FdT} (nd : (fds.map FdT.nm).Nodup) (h : fds[i]? = some f) : ∀ q ∈ usOf (fds.take i) fps, q.1 ≠ (Sum.inr f.nm : Key) := by
  intro q m e
  unfold usOf at m
  obtain ⟨r, mr, rfl⟩ := List.mem_map.mp m
  have m1 := (List.of_mem_zip mr).1
  have e1 : r.1.nm = f.nm := Sum.inr.inj e
  have q1 : (fds.map FdT.nm)[i]? = some f.nm := by
    rw [List.getElem?_map, h]
    rfl
  refine not_in_take nd q1 ?_
  rw [← List.map_take, ← e1]
  exact List.mem_map.mpr ⟨r.1, m1, rfl⟩
theorem us_snoc {fds : List FdT} {fps : List Addr} {i : Nat} {f : FdT} {x : Addr} (h : fds[i]? = some f) (hl : fps.length = i) : usOf (fds.take (i + 1)) (fps ++ [x]) = usOf (fds.take i) fps ++ [(Sum.inr f.nm, V.ref x)] := by
  unfold usOf
  rw [take_snoc h, List.zip_append (by
    rw [List.length_take, hl]
    have := (List.getElem?_eq_some_iff.mp h).1
    omega), List.map_append]
  rfl
theorem us_at {fds : List FdT} {fps : List Addr} {i : Nat} {f : FdT} {x : Addr} (nd : (fds.map FdT.nm).Nodup) (h : fds[i]? = some f) (hx : fps[i]? = some x) : valV (usOf fds fps) (Sum.inr f.nm : Key) = some (.ref x) := by
  induction fds generalizing fps i with
  | nil => simp at h
  | cons a l ih =>
    cases fps with
    | nil => simp at hx
    | cons y fps =>
      obtain ⟨n1, n2⟩ := List.nodup_cons.mp (show (a.nm :: l.map FdT.nm).Nodup from nd)
      cases i with
      | zero =>
        have e1 : a = f := Option.some.inj h
        have e2 : y = x := Option.some.inj hx
        unfold usOf valV
        rw [List.zip_cons_cons, List.map_cons, List.find?_cons_of_pos (by simp [e1]), e2]
        rfl
      | succ i =>
        have h' : l[i]? = some f := by simpa using h
        have hx' : fps[i]? = some x := by simpa using hx
        have k := ih n2 h' hx'
        have c : ¬ a.nm = f.nm := fun z => n1 (by rw [z]; exact List.mem_map.mpr ⟨f, List.mem_of_getElem? h', rfl⟩)
        unfold usOf valV at k ⊢
        rw [List.zip_cons_cons, List.map_cons, List.find?_cons_of_neg (by simpa using c)]
        exact k
/-- the functions made, all but their rows -/
def Heads (K : PySem.W.Frag) (H : Hp) (du : Addr) (fds : List FdT) (fps : List Addr) : Prop := ∀ (j : Nat) (f : FdT) (a : Addr), fds[j]? = some f → fps[j]? = some a → ∃ (dx pa va : Addr) (fs : List (Str × V)) (ps : List Addr), va ≠ du ∧ FunG K H a dx pa va fs ps f.ns f.ms f.res
theorem FunG.butD {H H' : Hp} {d : Addr} {ks : List (Key × V)} {p dx pa va : Addr} {fs : List (Str × V)} {ps : List Addr} {ns ms : List (Str × Str)} {res : Str} (h : FunG K H p dx pa va fs ps ns ms res) (hd : H d = some (.dK ks)) (hv : va ≠ d) (b : ButL [d] H H') : FunG K H' p dx pa va fs ps ns ms res := by
  have n : ∀ {a : Addr} {u : HO}, H a = some u → a ≠ d → H' a = some u := fun q z => b _ _ q fun m => z (List.mem_singleton.mp m)
  obtain ⟨o, e, pl⟩ := h.d1
  exact ⟨n h.ob (ne_of h.ob hd (by intro z; cases z)), h.f1, h.f2, h.f3, h.nohas, h.few, ⟨o, n e (ne_of e hd (by intro z; cases z)), pl⟩, h.pr.keep (.butD hd b), n h.vd hv⟩
def spTakeHG (K : PySem.W.Frag) : Sp := fun vs H Q _ => ∃ (p dx df dk du fa : Addr) (fs : List (Str × V)) (cs ks : List (Key × V)) (es : List Addr) (fds : List FdT), vs = [.ref p, .ref fa] ∧ SrcG K H p dx df dk du fs cs ks [] ∧ H fa = some (.lst (es.map V.ref)) ∧ es.length = fds.length ∧ (∀ (i : Nat) e f, es[i]? = some e → fds[i]? = some f → EntryAt H e f) ∧ (fds.map FdT.nm).Nodup ∧ 1 ≤ fds.length ∧ fds.length ≤ 6 ∧
  ∀ (H' : Hp) (fps : List Addr), ButL [du] H H' → fps.length = fds.length → Heads K H' du fds fps → (∀ a ∈ fps, H a = none) → fps.Nodup → H' du = some (.dK (usOf fds fps)) → Q .non H' 
theorem sc_Source_take_heads : FnScope ["self", "functions", "k", "entry"] ["self", "functions"] (defScope s_Source_take_heads) := ⟨rfl, rfl, rfl, by decide +kernel, rfl, by decide +kernel, by decide +kernel⟩
theorem ok_Source_take_heads (T : Ctx w K mg) (H_is_list_of : Has P w K mg base 1 "is_list_of" ["thing", "least", "most"] spListOf) (H_is_head : Has P w K mg base 3 "_is_head" ["entry"] spHeadG) (H_Function_init : HasM P w K mg base 4 "Function" "__init__" ["self", "name", "params", "others", "result"] (spFnInitG K)) : HasM P w K mg base 6 "Source" "_take_heads" ["self", "functions"] (spTakeHG K) := by
  obtain ⟨fd, F⟩ := T.D_Source_take_heads
  obtain ⟨fd_is_list_of, G_is_list_of, b_is_list_of⟩ := H_is_list_of.ex
  obtain ⟨fd_is_head, G_is_head, b_is_head⟩ := H_is_head.ex
  obtain ⟨fd_Function_init, G_Function_init, b_Function_init⟩ := H_Function_init.ex
  refine ⟨⟨fd, F.ok sc_Source_take_heads (fun vs H Q E h => ?_) (fun cdv A outer s H vs Q E hr h => ?_), F.bindsN fun _ _ _ _ _ _ us hl => match us, hl with | [_, _], _ => rfl⟩⟩
  · obtain ⟨p, dx, df, dk, du, fa, fs, cs, ks, es, fds, rfl, S, hfa, hel, hE, hN, hl1, hl6, k⟩ := h; rfl
  · obtain ⟨p, dx, df, dk, du, fa, fs, cs, ks, es, fds, rfl, S, hfa, hel, hE, hN, hl1, hl6, k⟩ := h
    have hr_is_list_of : Room 1 _ := hr.mono (by decide)
    have hr_is_head : Room 3 _ := hr.mono (by decide)
    have hr_Function_init : Room 5 _ := hr.mono (by decide)
    have hu := hu_of hr
    obtain ⟨t_c, e_MOST_FUNCTIONS⟩ := T.i_MOST_FUNCTIONS
    refine ⟨_, PSs.nox (pss_cons (ps_if (pt_not (pt_val (pe_call G_is_list_of hr_is_list_of (by rfl) H_is_list_of.gl H_is_list_of.kp b_is_list_of .nil pass0 (pa_cons (pv 1) (pa_cons pe_int (pa_cons (pe_glob (v := .int 6) rfl e_MOST_FUNCTIONS ⟨_, rfl⟩) pa_nil)))))) (pss_one ps_never) pss_nil)
      (pss_one (ps_for PassesOwn.never rfl (pi_enum (by rfl) T.f_enumerate (pa_cons (pv 1) pa_nil)) (pg_tup rfl (pgs_cons (pg_name (i := 2) sc_Source_take_heads.nd rfl (Or.inl rfl)) (pgs_cons (pg_name (i := 3) sc_Source_take_heads.nd rfl (Or.inl rfl)) pgs_nil)))
      (pss_cons (ps_if (PW.pt (pw_or (pt_not (pt_val (pe_call G_is_head hr_is_head (by rfl) H_is_head.gl H_is_head.kp b_is_head .nil pass0 (pa_cons (pv 3) pa_nil)))) (pw_or1 (pt_cmp (pc_din hu (pe_ix ix_tup (pv 3) pe_int (fun _ _ => rfl)) (pe_fldK (K := K) rfl (pv 0) (by rfl))))))) (pss_one ps_never) pss_nil)
      (pss_one (ps_dput hu (pe_fldK (K := K) rfl (pv 0) (by rfl)) (pe_ix ix_tup (pv 3) pe_int (fun _ _ => rfl)) (pe_make T.k_Function G_Function_init hr_Function_init rfl T.g_Function b_Function_init .nil pass0 (pa_cons (pe_ix ix_tup (pv 3) pe_int (fun _ _ => rfl)) (pa_cons (pe_ix ix_tup (pv 3) pe_int (fun _ _ => rfl)) (pa_cons (pe_ix ix_tup (pv 3) pe_int (fun _ _ => rfl)) (pa_cons (pe_ix ix_tup (pv 3) pe_int (fun _ _ => rfl)) pa_nil))))) rfl)))))), ?_⟩
    have hlr : (es.map V.ref).length = fds.length := by rw [List.length_map, hel]
    have nd : ∀ {b : Addr} {u : HO}, H b = some u → (∀ z, u ≠ .dK z) → b ∉ [du] := fun q n m => by
      rw [List.mem_singleton.mp m, S.d3] at q
      exact n _ (Option.some.inj q).symm
    refine ⟨_, rfl, fa, _, 1, 6, rfl, hfa, by omega, by omega, _, rfl, iteF ?_⟩
    refine ⟨_, rfl, fa, _, rfl, SqL.of hfa, ?_⟩
    refine for_it (walk_enum (K := K) (a := fa) (xs := es.map V.ref)) (fun i σ H1 => ∃ v1 v2 : Option V, σ = [some (.ref p), some (.ref fa), v1, v2] ∧ ButL [du] H H1 ∧ ∃ fps : List Addr, fps.length = i ∧ H1 du = some (.dK (usOf (fds.take i) fps)) ∧ Heads K H1 du (fds.take i) fps ∧ (∀ a ∈ fps, H a = none ∧ ∃ u, H1 a = some u) ∧ fps.Nodup) ⟨none, none, rfl, fun b u q _ => q, [], rfl, S.d3, fun j f a e _ => by simp at e, (fun a m => by cases m), List.nodup_nil⟩ (fun i σ H1 _ ⟨_, _, _, b1, _⟩ => SqL.of (b1 _ _ hfa (nd hfa (by intro z w; cases w)))) ?_ ?_
    · rintro i y σ H1 H2 hi ⟨v1, v2, rfl, b1, fps, fl, h1d, hH, hfr, hnd⟩ ⟨u, a, b, rfl, hu0, rfl, h1, h2⟩
      have h2 : (es.map V.ref)[i]? = some b := h2
      obtain rfl : V.int (i : Nat) = a := Option.some.inj h1
      obtain ⟨e, hc, rfl⟩ := map_get h2
      have hif : i < fds.length := by rw [hlr] at hi; exact hi
      have hf : fds[i]? = some fds[i] := List.getElem?_eq_getElem hif
      obtain ⟨pa, oa, ra, ps, qs, rs, E0⟩ := hE i e _ hc hf
      have E1 := E0.keep (.butD S.d3 b1)
      have s1 : Same H1 (upd H1 u (.tup [.int (i : Nat), .ref e])) := Same.new hu0
      refine ⟨u, _, rfl, SqT.of upd_same, rfl, _, _, rfl, _, _, rfl, rfl, ?_⟩
      have A1 := E1.keep (.of s1)
      refine ⟨_, rfl, e, pa, oa, ra, fds[i].nm, fds[i].res, ps, qs, fds[i].ns, fds[i].ms, rs, rfl, A1, fun H3 s3 => ⟨_, rfl, iteF ?_⟩⟩
      have s13 := s1.trans s3
      have A3 := E1.keep (.of s13)
      have hp1 := b1 _ _ S.ob (nd S.ob (by intro z w; cases w))
      have ob3 := s13 _ _ hp1
      have d3 := s13 _ _ h1d
      refine ⟨_, rfl, _, _, _, _, rfl, rfl, SqT.of A3.he, at0, _, rfl, p, _, dx, fs, _, rfl, ob3, T.c_Source, T.n_Source_functions, S.f3, du, none, rfl, ?_, _, rfl, iteF ?_⟩
      · have q := DGet.k (k := Sum.inr fds[i].nm) d3
        rw [valV_new (us_ne hN hf)] at q
        exact q
      -- Function(..)
      refine ⟨_, rfl, _, _, _, _, rfl, rfl, SqT.of A3.he, at0, _, rfl, _, _, _, _, rfl, rfl, SqT.of A3.he, at1, _, rfl, _, _, _, _, rfl, rfl, SqT.of A3.he, at2, _, rfl, _, _, _, _, rfl, rfl, SqT.of A3.he, at3, fun x dy nx ny nxy => ?_⟩
      have s4 : Same H3 (upd (upd H3 dy (.own x)) x (.ins (He.ga K "Function") dy [])) := (Same.new ny).trans (Same.new (by rw [upd_ne nxy.symm]; exact nx))
      have A4 := A3.keep (.of s4)
      refine ⟨x, dy, pa, oa, fds[i].nm, fds[i].res, ps, qs, fds[i].ns, fds[i].ms, rfl, upd_same, A4.hpa, A4.p1, A4.hoa, A4.p2, A4.nd, A4.l1, A4.l2, fun H5 ta va gs ps' b5 F5 hva => ⟨rfl, ?_⟩⟩
      have s15 : Same H1 H5 := fun b o q => b5 b o (s4 _ _ (s13 _ _ q)) (ne_of_none (s13 _ _ q) nx)
      have A5 := E1.keep (.of s15)
      have d5 := s15 _ _ h1d
      have vne : va ≠ du := fun z => by
        rw [z, s4 _ _ d3] at hva
        cases hva
      have nxf : x ≠ du := fun z => by
        rw [z, d3] at nx
        cases nx
      refine ⟨_, rfl, p, _, dx, fs, _, rfl, s15 _ _ hp1, T.c_Source, T.n_Source_functions, S.f3, _, rfl, _, _, _, _, rfl, rfl, SqT.of A5.he, at0, du, _, rfl, DPut.k (k := Sum.inr fds[i].nm) d5 ?_, ?_⟩
      · unfold usOf
        rw [List.length_map, List.length_zip, fl]
        exact sz_lt (by omega)
      have b6 : ButL [du] H5 (upd H5 du (.dK (putK (usOf (fds.take i) fps) (Sum.inr fds[i].nm : Key) (.ref x)))) := fun b u q n => by
        rw [upd_ne (fun z => n (by rw [z]; exact List.mem_singleton_self _))]
        exact q
      refine ⟨_, _, rfl, fun b u q n => b6 _ _ (s15 _ _ (b1 _ _ q n)) n, fps ++ [x], by rw [List.length_append, fl]; rfl, ?_, ?_, ?_, ?_⟩
      · rw [upd_same, us_snoc hf fl, putK_new (us_ne hN hf)]
      · intro j f a e1 e2
        by_cases hj : j < i
        · rw [List.getElem?_append_left (by omega)] at e2
          rw [List.getElem?_take, if_pos (by omega)] at e1
          obtain ⟨dx', pa', va', fs', ps'', vn', F⟩ := hH j f a (by rw [List.getElem?_take, if_pos hj]; exact e1) e2
          exact ⟨dx', pa', va', fs', ps'', vn', (F.mono s15).butD d5 vn' b6⟩
        · by_cases hj2 : j = i
          · subst hj2
            rw [List.getElem?_append_right (by omega), fl, Nat.sub_self] at e2
            have e3 : x = a := Option.some.inj e2
            rw [List.getElem?_take, if_pos (by omega), hf] at e1
            have e4 : fds[j] = f := Option.some.inj e1
            rw [← e3, ← e4]
            exact ⟨dy, ta, va, gs, ps', vne, F5.butD d5 vne b6⟩
          · rw [List.getElem?_append_right (by omega)] at e2
            have := (List.getElem?_eq_some_iff.mp e2).1
            rw [List.length_singleton] at this
            omega
      · intro a m
        rcases List.mem_append.mp m with m | m
        · obtain ⟨q1, u', q2⟩ := hfr a m
          by_cases z : a = du
          · exact ⟨q1, by rw [z]; exact ⟨_, upd_same⟩⟩
          · exact ⟨q1, u', b6 _ _ (s15 _ _ q2) (fun w => z (List.mem_singleton.mp w))⟩
        · rw [List.mem_singleton.mp m]
          refine ⟨?_, _, b6 _ _ F5.ob (fun w => nxf (List.mem_singleton.mp w))⟩
          cases z : H x with
          | none => rfl
          | some o =>
            have := s13 _ _ (b1 _ _ z (fun w => nxf (List.mem_singleton.mp w)))
            rw [nx] at this
            cases this
      · refine List.nodup_append.mpr ⟨hnd, List.nodup_cons.mpr ⟨by simp, List.nodup_nil⟩, fun a ma b mb z => ?_⟩
        rw [List.mem_singleton.mp mb] at z
        obtain ⟨_, u', q2⟩ := hfr a ma
        have := s13 _ _ q2
        rw [z, nx] at this
        cases this
    · rintro σ H1 ⟨v1, v2, rfl, b1, fps, fl, h1d, hH, hfr, hnd⟩
      rw [hlr] at fl
      rw [hlr, List.take_length] at h1d hH
      exact k H1 fps b1 fl hH (fun a m => (hfr a m).1) hnd h1d

end
end W5
set_option Elab.async false
set_option linter.all false
set_option maxRecDepth 100000
set_option maxHeartbeats 4000000
namespace W5
open PySem PySem.Spec PyProof.Rows L2 RZ
section
variable {P : Program} {w : World} {K : PySem.W.Frag} {mg : Str → Option Value} {base : Heap}

abbrev ClsT := List (Str × List (Str × Str))
/-- rows whose goals are there, the last of which does not go on -/
structure OkG (rws : List Rx) : Prop where
  ok : ∀ r ∈ rws, ∀ g, r.goal = some g → g < rws.length
  last : ∃ r0 rl, rws = r0 ++ [rl] ∧ (rl.word = ("jump" : Str) ∨ rl.word = ("return" : Str))
  le : rws.length ≤ 40
theorem cs_at {cl : ClsT} {qs : List Addr} {i : Nat} {c : Str × List (Str × Str)} {x : Addr} (nd : (cl.map Prod.fst).Nodup) (h : cl[i]? = some c) (hx : qs[i]? = some x) : valV (csM cl qs) (Sum.inr c.1 : Key) = some (.ref x) := by
  induction cl generalizing qs i with
  | nil => simp at h
  | cons a l ih =>
    cases qs with
    | nil => simp at hx
    | cons y qs =>
      obtain ⟨n1, n2⟩ := List.nodup_cons.mp (show (a.1 :: l.map Prod.fst).Nodup from nd)
      cases i with
      | zero =>
        have e1 : a = c := Option.some.inj h
        have e2 : y = x := Option.some.inj hx
        unfold csM valV
        rw [List.zip_cons_cons, List.map_cons, List.find?_cons_of_pos (by simp [e1]), e2]
        rfl
      | succ i =>
        have h2 : l[i]? = some c := by simpa using h
        have hx2 : qs[i]? = some x := by simpa using hx
        have k := ih n2 h2 hx2
        have cc : ¬ a.1 = c.1 := fun z => n1 (by rw [z]; exact List.mem_map.mpr ⟨c, List.mem_of_getElem? h2, rfl⟩)
        unfold csM valV at k ⊢
        rw [List.zip_cons_cons, List.map_cons, List.find?_cons_of_neg (by simpa using cc)]
        exact k
/-- a variable of a function with its kind -/
def KO (f : FdT) (x q : Str) : Prop := (x, q) ∈ f.ns ++ f.ms
/-- a row that fits a function of a source -/
def RowOk (cl : ClsT) (fds : List FdT) (f : FdT) : Rx → Prop
  | .num x n => KO f x "number" ∧ -1000000000 ≤ n ∧ n ≤ 1000000000
  | .nil x => KO f x "object"
  | .copy x y => ∃ q, KO f x q ∧ KO f y q
  | .bin _ x y z => KO f x "number" ∧ KO f y "number" ∧ KO f z "number"
  | .same x y z => ∃ q, KO f x "number" ∧ KO f y q ∧ KO f z q
  | .new x c => KO f x "object" ∧ c ∈ cl.map Prod.fst
  | .get x y g => ∃ q, KO f y "object" ∧ KO f x q ∧ valV (ksM cl) (Sum.inr g : Key) = some (.str q)
  | .put x g y => ∃ q, KO f x "object" ∧ KO f y q ∧ valV (ksM cl) (Sum.inr g : Key) = some (.str q)
  | .call x F as => ∃ (j : Nat) (g : FdT), fds[j]? = some g ∧ g.nm = F ∧ as.length = g.ns.length ∧ (∀ (i : Nat) y q, as[i]? = some y → g.ns[i]? = some q → KO f y q.2) ∧ KO f x g.res
  | .see x => ∃ q, KO f x q
  | .ifz x _ => KO f x "number"
  | .jump _ => True
  | .ret x => KO f x f.res
structure FdOk (cl : ClsT) (fds : List FdT) (f : FdT) : Prop where
  nf : Nam f.nm
  kd : IsKind f.res
  nam : ∀ q ∈ f.ns ++ f.ms, Nam q.1 ∧ IsKind q.2
  nd : ((f.ns ++ f.ms).map Prod.fst).Nodup
  l1 : f.ns.length ≤ 4
  l2 : f.ms.length ≤ 8
  rows : ∀ r ∈ f.rws, RowOk cl fds f r
  ok : OkG f.rws
theorem FdOk.kind {cl : ClsT} {fds : List FdT} {f : FdT} (h : FdOk cl fds f) {x q : Str} (m : KO f x q) : KindOf (kvP (f.ns ++ f.ms)) x q := valV_kvP_in (q := (x, q)) h.nd m
theorem FdOk.name {cl : ClsT} {fds : List FdT} {f : FdT} (h : FdOk cl fds f) {x q : Str} (m : KO f x q) : Nam x := (h.nam (x, q) m).1
theorem args_kind {f g : FdT} {as : List Str} (hl : as.length = g.ns.length) (hk : ∀ (i : Nat) y q, as[i]? = some y → g.ns[i]? = some q → KO f y q.2) : ∀ y ∈ as, ∃ q, KO f y q := by
  intro y m
  obtain ⟨i, hi, e⟩ := List.getElem_of_mem m
  have e1 : as[i]? = some y := by rw [List.getElem?_eq_getElem hi, e]
  have hi2 : i < g.ns.length := by omega
  exact ⟨_, hk i y _ e1 (List.getElem?_eq_getElem hi2)⟩
theorem form_of {R : Str → V → Prop} : ∀ {rs : List Str} {vs : List V}, Paired R rs vs → ∀ (i : Nat) x v, rs[i]? = some x → vs[i]? = some v → R x v
  | _, _, .nil, i, x, v, h, _ => by simp at h
  | _, _, .cons h t, 0, x, v, e1, e2 => by
    rw [← Option.some.inj e1, ← Option.some.inj e2]
    exact h
  | _, _, .cons h t, i + 1, x, v, e1, e2 => form_of t i x v (by simpa using e1) (by simpa using e2)
theorem FdOk.form {cl : ClsT} {fds : List FdT} {f : FdT} {fps : List Addr} {H : Hp} {qs : List Addr} {l : Addr} (h : FdOk cl fds f) (hN : (fds.map FdT.nm).Nodup) (hl : fps.length = fds.length) (hF : (cl.map Prod.fst).Nodup) (hq : qs.length = cl.length) {r : Rx} (hr : RowOk cl fds f r) (hA : ArgsAt H l r) :
    FormG H (csM cl qs) (ksM cl) (usOf fds fps) (.ref l) r := by
  have fld : ∀ {g q : Str}, valV (ksM cl) (Sum.inr g : Key) = some (.str q) → FitsG H (csM cl qs) (ksM cl) (usOf fds fps) "field" (.str g) := fun {g q} m => .fld (v := .str q) m (by intro z; cases z)
  unfold FormG
  cases r with
  | num x n => exact form_of (.cons (.sets (h.name hr.1)) (.cons (.num hr.2.1 hr.2.2) .nil))
  | nil x => exact form_of (.cons (.sets (h.name hr)) .nil)
  | copy x y =>
    obtain ⟨q, h1, h2⟩ := hr
    exact form_of (.cons (.sets (h.name h1)) (.cons (.reads (h.name h2)) .nil))
  | bin kk x y z => exact form_of (.cons (.sets (h.name hr.1)) (.cons (.reads (h.name hr.2.1)) (.cons (.reads (h.name hr.2.2)) .nil)))
  | same x y z =>
    obtain ⟨q, h1, h2, h3⟩ := hr
    exact form_of (.cons (.sets (h.name h1)) (.cons (.reads (h.name h2)) (.cons (.reads (h.name h3)) .nil)))
  | new x c =>
    obtain ⟨h1, h2⟩ := hr
    obtain ⟨d, md, rfl⟩ := List.mem_map.mp h2
    obtain ⟨i, hi, rfl⟩ := List.getElem_of_mem md
    have hi2 : i < qs.length := by omega
    exact form_of (.cons (.sets (h.name h1)) (.cons (.cls (cs_at hF (List.getElem?_eq_getElem hi) (List.getElem?_eq_getElem hi2)) (by intro z; cases z)) .nil))
  | get x y g =>
    obtain ⟨q, h1, h2, h3⟩ := hr
    exact form_of (.cons (.sets (h.name h2)) (.cons (.reads (h.name h1)) (.cons (fld h3) .nil)))
  | put x g y =>
    obtain ⟨q, h1, h2, h3⟩ := hr
    exact form_of (.cons (.reads (h.name h1)) (.cons (fld h3) (.cons (.reads (h.name h2)) .nil)))
  | call x F as =>
    obtain ⟨j, g, h1, h2, h3, h4, h5⟩ := hr
    obtain ⟨a1, a2⟩ := hA as rfl
    obtain ⟨a, ha⟩ : ∃ a, fps[j]? = some a := ⟨fps[j]'(by rw [hl]; exact (List.getElem?_eq_some_iff.mp h1).1), List.getElem?_eq_getElem _⟩
    have e : valV (usOf fds fps) (Sum.inr F : Key) = some (.ref a) := by
      rw [← h2]
      exact us_at hN h1 ha
    refine form_of (.cons (.sets (h.name h5)) (.cons (.fn e (by intro z; cases z)) (.cons (.many a1 (fun y m => ?_) a2) .nil)))
    obtain ⟨q, hq⟩ := args_kind h3 h4 y m
    exact h.name hq
  | see x =>
    obtain ⟨q, h1⟩ := hr
    exact form_of (.cons (.reads (h.name h1)) .nil)
  | ifz x r => exact form_of (.cons (.reads (h.name hr)) (.cons (.row _) .nil))
  | jump r => exact form_of (.cons (.row _) .nil)
  | ret x => exact form_of (.cons (.reads (h.name hr)) .nil)
theorem kind_str {q : Str} (h : IsKind q) : PyData.strOk q = true := by
  rcases h with rfl | rfl <;> decide +kernel
theorem FdOk.kinds {cl : ClsT} {fds : List FdT} {f : FdT} {fps : List Addr} {H : Hp} (h : FdOk cl fds f) (hN : (fds.map FdT.nm).Nodup) (hK : ∀ g ∈ fds, FdOk cl fds g)
    (hH : ∀ (j : Nat) (g : FdT), fds[j]? = some g → ∃ a dx pa fs ps, fps[j]? = some a ∧ HeadG K H a dx pa fs ps g.ns g.res) {r : Rx} (hr : RowOk cl fds f r) :
    KindsG K H (ksM cl) (usOf fds fps) (kvP (f.ns ++ f.ms)) f.res r := by
  have fld : ∀ {g q : Str}, valV (ksM cl) (Sum.inr g : Key) = some (.str q) → valV (ksM cl) (Sum.inr g : Key) = some (.str q) := fun {g q} m => m
  cases r with
  | num x n => exact h.kind hr.1
  | nil x => exact h.kind hr
  | copy x y =>
    obtain ⟨q, h1, h2⟩ := hr
    exact ⟨q, h.kind h1, h.kind h2⟩
  | bin kk x y z => exact ⟨h.kind hr.1, h.kind hr.2.1, h.kind hr.2.2⟩
  | same x y z =>
    obtain ⟨q, h1, h2, h3⟩ := hr
    exact ⟨q, h.kind h1, h.kind h2, h.kind h3⟩
  | new x c => exact h.kind hr.1
  | get x y g =>
    obtain ⟨q, h1, h2, h3⟩ := hr
    exact ⟨q, h.kind h1, h.kind h2, fld h3⟩
  | put x g y =>
    obtain ⟨q, h1, h2, h3⟩ := hr
    exact ⟨q, h.kind h1, h.kind h2, fld h3⟩
  | call x F as =>
    obtain ⟨j, g, h1, h2, h3, h4, h5⟩ := hr
    obtain ⟨a, dx, pa, fs, ps, ha, hg⟩ := hH j g h1
    refine ⟨a, dx, pa, fs, ps, g.ns, g.res, ?_, hg, h3, fun i y q e1 e2 => h.kind (h4 i y q e1 e2), fun q m => kind_str ((hK g (List.mem_of_getElem? h1)).nam q (List.mem_append_left _ m)).2, h.kind h5⟩
    rw [← h2]
    exact us_at hN h1 ha
  | see x => trivial
  | ifz x r => exact h.kind hr
  | jump r => trivial
  | ret x => exact h.kind hr
theorem FdOk.names {cl : ClsT} {fds : List FdT} {f : FdT} (h : FdOk cl fds f) {r : Rx} (hr : RowOk cl fds f r) : ∀ x ∈ r.names, ∃ v, valV (kvP (f.ns ++ f.ms)) (Sum.inr x : Key) = some v := by
  have key : ∀ x ∈ r.names, ∃ q, KO f x q := by
    intro x m
    cases r with
    | num y n =>
      simp only [Rx.names, Rx.sets, Rx.reads, List.mem_cons, List.not_mem_nil, or_false] at m
      exact ⟨_, m ▸ hr.1⟩
    | nil y =>
      simp only [Rx.names, Rx.sets, Rx.reads, List.mem_cons, List.not_mem_nil, or_false] at m
      exact ⟨_, m ▸ hr⟩
    | copy y z =>
      obtain ⟨q, h1, h2⟩ := hr
      simp only [Rx.names, Rx.sets, Rx.reads, List.mem_cons, List.not_mem_nil, or_false] at m
      rcases m with m | m
      · exact ⟨_, m ▸ h1⟩
      · exact ⟨_, m ▸ h2⟩
    | bin kk y z t =>
      obtain ⟨h1, h2, h3⟩ := hr
      simp only [Rx.names, Rx.sets, Rx.reads, List.mem_cons, List.not_mem_nil, or_false] at m
      rcases m with m | m | m
      · exact ⟨_, m ▸ h1⟩
      · exact ⟨_, m ▸ h2⟩
      · exact ⟨_, m ▸ h3⟩
    | same y z t =>
      obtain ⟨q, h1, h2, h3⟩ := hr
      simp only [Rx.names, Rx.sets, Rx.reads, List.mem_cons, List.not_mem_nil, or_false] at m
      rcases m with m | m | m
      · exact ⟨_, m ▸ h1⟩
      · exact ⟨_, m ▸ h2⟩
      · exact ⟨_, m ▸ h3⟩
    | new y c =>
      simp only [Rx.names, Rx.sets, Rx.reads, List.mem_cons, List.not_mem_nil, or_false] at m
      exact ⟨_, m ▸ hr.1⟩
    | get y z g =>
      obtain ⟨q, h1, h2, h3⟩ := hr
      simp only [Rx.names, Rx.sets, Rx.reads, List.mem_cons, List.not_mem_nil, or_false] at m
      rcases m with m | m
      · exact ⟨_, m ▸ h2⟩
      · exact ⟨_, m ▸ h1⟩
    | put y g z =>
      obtain ⟨q, h1, h2, h3⟩ := hr
      simp only [Rx.names, Rx.sets, Rx.reads, List.mem_cons, List.not_mem_nil, or_false] at m
      rcases m with m | m
      · exact ⟨_, m ▸ h1⟩
      · exact ⟨_, m ▸ h2⟩
    | call y F as =>
      obtain ⟨j, g, h1, h2, h3, h4, h5⟩ := hr
      simp only [Rx.names, Rx.sets, Rx.reads, List.mem_cons] at m
      rcases m with m | m
      · exact ⟨_, m ▸ h5⟩
      · exact args_kind h3 h4 x m
    | see y =>
      obtain ⟨q, h1⟩ := hr
      simp only [Rx.names, Rx.sets, Rx.reads, List.mem_cons, List.not_mem_nil, or_false] at m
      exact ⟨_, m ▸ h1⟩
    | ifz y g =>
      simp only [Rx.names, Rx.sets, Rx.reads, List.mem_cons, List.not_mem_nil, or_false] at m
      exact ⟨_, m ▸ hr⟩
    | jump g =>
      simp only [Rx.names, Rx.sets, Rx.reads, List.not_mem_nil] at m
    | ret y =>
      simp only [Rx.names, Rx.sets, Rx.reads, List.mem_cons, List.not_mem_nil, or_false] at m
      exact ⟨_, m ▸ hr⟩
  intro x m
  obtain ⟨q, hq⟩ := key x m
  exact ⟨_, h.kind hq⟩
/-- a Function with its rows -/
structure FunB (K : PySem.W.Frag) (H : Hp) (p dx pa va ba : Addr) (fs : List (Str × V)) (ps rs : List Addr) (f : FdT) : Prop where
  ob : H p = some (.ins (He.ga K "Function") dx fs)
  f1 : fs.lookup ("params" : Str) = some (.ref pa)
  f2 : fs.lookup ("result" : Str) = some (.str f.res)
  f3 : fs.lookup ("variables" : Str) = some (.ref va)
  f4 : fs.lookup ("body" : Str) = some (.ref ba)
  nohas : fs.lookup ("has_row" : Str) = none ∧ fs.lookup ("called_at" : Str) = none
  d1 : TupP H pa (ps.map V.ref)
  pr : PairsG H ps f.ns
  vd : H va = some (.dK (kvP (f.ns ++ f.ms)))
  tb : TupP H ba (rs.map V.ref)
  kr : KeptRows H rs f.rws
theorem KeptRows.keep {H H' : Hp} {rs : List Addr} {rws : List Rx} (h : KeptRows H rs rws) (e : KeepTL H H') : KeptRows H' rs rws := ⟨h.len, fun i a r x y => by
  obtain ⟨l, h1, h2⟩ := h.at_ i a r x y
  exact ⟨l, e.1 _ _ h1, fun bs q => by
    have k := h2 bs q
    rw [if_pos rfl] at k ⊢
    exact e.1 _ _ k⟩⟩
theorem KeepTL.butF {H H' : Hp} {p C dx : Addr} {fs : List (Str × V)} (hp : H p = some (.ins C dx fs)) (b : But p H H') : KeepTL H H' :=
  ⟨fun a xs h => b _ _ h (ne_of h hp (by intro z; cases z)), fun a xs h => b _ _ h (ne_of h hp (by intro z; cases z))⟩
theorem FunB.mono {H H' : Hp} {p dx pa va ba : Addr} {fs : List (Str × V)} {ps rs : List Addr} {f : FdT} (h : FunB K H p dx pa va ba fs ps rs f) (e : Same H H') : FunB K H' p dx pa va ba fs ps rs f :=
  ⟨e _ _ h.ob, h.f1, h.f2, h.f3, h.f4, h.nohas, h.d1.mono e, h.pr.mono e, e _ _ h.vd, h.tb.mono e, h.kr.mono e⟩
theorem FunB.but {H H' : Hp} {p dx pa va ba b C dy : Addr} {fs gs : List (Str × V)} {ps rs : List Addr} {f : FdT} (h : FunB K H p dx pa va ba fs ps rs f) (hb : H b = some (.ins C dy gs)) (hn : p ≠ b) (e : But b H H') : FunB K H' p dx pa va ba fs ps rs f :=
  ⟨e _ _ h.ob hn, h.f1, h.f2, h.f3, h.f4, h.nohas, e.tupP hb h.d1, e.pairsG hb h.pr, e _ _ h.vd (ne_of h.vd hb (by intro z; cases z)), e.tupP hb h.tb, h.kr.keep (.butF hb e)⟩
theorem FunG.but {H H' : Hp} {p dx pa va b C dy : Addr} {fs gs : List (Str × V)} {ps : List Addr} {ns ms : List (Str × Str)} {res : Str} (h : FunG K H p dx pa va fs ps ns ms res) (hb : H b = some (.ins C dy gs)) (hn : p ≠ b) (e : But b H H') : FunG K H' p dx pa va fs ps ns ms res :=
  ⟨e _ _ h.ob hn, h.f1, h.f2, h.f3, h.nohas, h.few, e.tupP hb h.d1, e.pairsG hb h.pr, e _ _ h.vd (ne_of h.vd hb (by intro z; cases z))⟩
theorem FunG.head {H : Hp} {p dx pa va : Addr} {fs : List (Str × V)} {ps : List Addr} {ns ms : List (Str × Str)} {res : Str} (h : FunG K H p dx pa va fs ps ns ms res) (hl : ns.length ≤ 4) : HeadG K H p dx pa fs ps ns res :=
  ⟨h.ob, h.f1, h.f2, h.d1.sq, h.pr.len, by omega, fun i a q e1 e2 => SqT.of (h.pr.at_ i a q e1 e2)⟩
theorem FunB.head {H : Hp} {p dx pa va ba : Addr} {fs : List (Str × V)} {ps rs : List Addr} {f : FdT} (h : FunB K H p dx pa va ba fs ps rs f) (hl : f.ns.length ≤ 4) : HeadG K H p dx pa fs ps f.ns f.res :=
  ⟨h.ob, h.f1, h.f2, h.d1.sq, h.pr.len, by omega, fun i a q e1 e2 => SqT.of (h.pr.at_ i a q e1 e2)⟩
/-- a Source of one class and these functions -/
def SrcX (K : PySem.W.Frag) (H : Hp) (p : Addr) (cl : ClsT) (fds : List FdT) : Prop := ∃ (fps qs : List Addr), qs.length = cl.length ∧ SrcH K H p (csM cl qs) (ksM cl) (usOf fds fps) ∧ fps.length = fds.length ∧
  ∀ (j : Nat) (f : FdT) (a : Addr), fds[j]? = some f → fps[j]? = some a → ∃ (dx pa va ba : Addr) (fs : List (Str × V)) (ps rs : List Addr), FunB K H a dx pa va ba fs ps rs f
theorem SrcX.mono {H H' : Hp} {p : Addr} {cl : ClsT} {fds : List FdT} (h : SrcX K H p cl fds) (e : Same H H') : SrcX K H' p cl fds := by
  obtain ⟨fps, qs, hq, h1, h2, h3⟩ := h
  refine ⟨fps, qs, hq, h1.mono e, h2, fun j f a e1 e2 => ?_⟩
  obtain ⟨dx, pa, va, ba, fs, ps, rs, q⟩ := h3 j f a e1 e2
  exact ⟨dx, pa, va, ba, fs, ps, rs, q.mono e⟩

end
end W5
set_option Elab.async false
set_option linter.all false
set_option maxRecDepth 100000
set_option maxHeartbeats 4000000
namespace W5
open PySem PySem.Spec PyProof.Rows L2 RZ
section
variable {P : Program} {w : World} {K : PySem.W.Frag} {mg : Str → Option Value} {base : Heap}

theorem KeepTL.trans {H H1 H2 : Hp} (a : KeepTL H H1) (b : KeepTL H1 H2) : KeepTL H H2 := ⟨fun c xs h => b.1 _ _ (a.1 _ _ h), fun c xs h => b.2 _ _ (a.2 _ _ h)⟩
theorem KeepTL.butL {H H' : Hp} {l : List Addr} (hl : ∀ d ∈ l, ∀ xs, H d ≠ some (.tup xs) ∧ H d ≠ some (.lst xs)) (b : ButL l H H') : KeepTL H H' :=
  ⟨fun a xs h => b _ _ h fun m => (hl a m xs).1 h, fun a xs h => b _ _ h fun m => (hl a m xs).2 h⟩
theorem ClsG.keep {H H' : Hp} {e : Addr} {c : Str × List (Str × Str)} (h : ClsG H e c) (k : KeepTL H H') : ClsG H' e c := by
  obtain ⟨fa, ps, h1, h2, h3⟩ := h
  exact ⟨fa, ps, k.1 _ _ h1, k.2 _ _ h2, h3.keep k⟩
theorem RawRows.keep {H H' : Hp} {rs : List Addr} {rws : List Rx} (h : RawRows H rs rws) (e : KeepTL H H') : RawRows H' rs rws := ⟨h.len, fun i a r x y => by
  obtain ⟨l, q1, q2⟩ := h.at_ i a r x y
  exact ⟨l, e.1 _ _ q1, fun bs z => ⟨e.2 _ _ (q2 bs z).1, (q2 bs z).2⟩⟩⟩
/-- a function as it is handed in, with its rows -/
def EntryR (H : Hp) (e : Addr) (f : FdT) : Prop := ∃ (pa oa ra : Addr) (ps qs rs : List Addr), EntryG H e pa oa ra f.nm f.res ps qs f.ns f.ms (rs.map V.ref) ∧ RawRows H rs f.rws
theorem EntryR.keep {H H' : Hp} {e : Addr} {f : FdT} (h : EntryR H e f) (k : KeepTL H H') : EntryR H' e f := by
  obtain ⟨pa, oa, ra, ps, qs, rs, q, r⟩ := h
  exact ⟨pa, oa, ra, ps, qs, rs, q.keep k, r.keep k⟩
theorem EntryR.entry {H : Hp} {e : Addr} {f : FdT} (h : EntryR H e f) : EntryAt H e f := by
  obtain ⟨pa, oa, ra, ps, qs, rs, q, r⟩ := h
  exact ⟨pa, oa, ra, ps, qs, _, q⟩
/-- classes and functions as they are handed in -/
structure RawSrc (H : Hp) (ca fa : Addr) (cl : ClsT) (fds : List FdT) : Prop where
  cs : ∃ es : List Addr, H ca = some (.lst (es.map V.ref)) ∧ es.length = cl.length ∧ ∀ (i : Nat) e c, es[i]? = some e → cl[i]? = some c → ClsG H e c
  oc : ClsOk cl
  fn : ∃ es : List Addr, H fa = some (.lst (es.map V.ref)) ∧ es.length = fds.length ∧ ∀ (i : Nat) e f, es[i]? = some e → fds[i]? = some f → EntryR H e f
  nn : (fds.map FdT.nm).Nodup
  l1 : 1 ≤ fds.length
  l6 : fds.length ≤ 6
  ok : ∀ f ∈ fds, FdOk cl fds f
theorem RawSrc.keep {H H' : Hp} {ca fa : Addr} {cl : ClsT} {fds : List FdT} (h : RawSrc H ca fa cl fds) (k : KeepTL H H') : RawSrc H' ca fa cl fds := by
  obtain ⟨⟨cs, c1, c2, c3⟩, h1, ⟨es, f1, f2, f3⟩, h5, h6, h7, h8⟩ := h
  exact ⟨⟨cs, k.2 _ _ c1, c2, fun i e c a b => (c3 i e c a b).keep k⟩, h1, ⟨es, k.2 _ _ f1, f2, fun i e f a b => (f3 i e f a b).keep k⟩, h5, h6, h7, h8⟩
def spSrcInitG (K : PySem.W.Frag) : Sp := fun vs H Q _ => ∃ (p dx ca fa : Addr) (cl : ClsT) (fds : List FdT), vs = [.ref p, .ref ca, .ref fa] ∧ H p = some (.ins (He.ga K "Source") dx []) ∧ RawSrc H ca fa cl fds ∧ ∀ H', But p H H' → SrcX K H' p cl fds → Q .non H' 
theorem sc_Source_init : FnScope ["self", "classes", "functions", "k", "entry"] ["self", "classes", "functions"] (defScope s_Source_init) := ⟨rfl, rfl, rfl, by decide +kernel, rfl, by decide +kernel, by decide +kernel⟩
theorem ok_Source_init (T : Ctx w K mg) (H_Source_take_classes : HasM P w K mg base 4 "Source" "_take_classes" ["self", "classes"] (spTakeCM K)) (H_Source_take_heads : HasM P w K mg base 6 "Source" "_take_heads" ["self", "functions"] (spTakeHG K)) (H_Source_take_rows : HasM P w K mg base 7 "Source" "_take_rows" ["self", "k", "function", "rows"] (spTakeRG K)) : HasM P w K mg base 8 "Source" "__init__" ["self", "classes", "functions"] (spSrcInitG K) := by
  obtain ⟨fd, F⟩ := T.D_Source_init
  obtain ⟨fd_Source_take_classes, G_Source_take_classes, b_Source_take_classes⟩ := H_Source_take_classes.ex
  obtain ⟨fd_Source_take_heads, G_Source_take_heads, b_Source_take_heads⟩ := H_Source_take_heads.ex
  obtain ⟨fd_Source_take_rows, G_Source_take_rows, b_Source_take_rows⟩ := H_Source_take_rows.ex
  refine ⟨⟨fd, F.ok sc_Source_init (fun vs H Q E h => ?_) (fun cdv A outer s H vs Q E hr h => ?_), F.bindsN fun _ _ _ _ _ _ us hl => match us, hl with | [_, _, _], _ => rfl⟩⟩
  · obtain ⟨p, dx, ca, fa, cl, fds, rfl, hp, HR, k⟩ := h; rfl
  · obtain ⟨p, dx, ca, fa, cl, fds, rfl, hp, HR, k⟩ := h
    have hr_Source_take_classes : Room 4 _ := hr.mono (by decide)
    have hr_Source_take_heads : Room 6 _ := hr.mono (by decide)
    have hr_Source_take_rows : Room 7 _ := hr.mono (by decide)
    have hu := hu_of hr
    refine ⟨_, PSs.nox (pss_cons (ps_fld (pv 0) pe_dnewK rfl)
      (pss_cons (ps_fld (pv 0) pe_dnewK rfl)
      (pss_cons (ps_fld (pv 0) pe_dnewK rfl)
      (pss_cons (ps_expr (pe_meth (pv 0) T.c_Source T.m_Source_take_classes G_Source_take_classes hr_Source_take_classes b_Source_take_classes .nil pass0 (pa_cons (pv 1) pa_nil)))
      (pss_cons (ps_expr (pe_meth (pv 0) T.c_Source T.m_Source_take_heads G_Source_take_heads hr_Source_take_heads b_Source_take_heads .nil pass0 (pa_cons (pv 2) pa_nil)))
      (pss_one (ps_for PassesOwn.never rfl (pi_enum (by rfl) T.f_enumerate (pa_cons (pv 2) pa_nil)) (pg_tup rfl (pgs_cons (pg_name (i := 3) sc_Source_init.nd rfl (Or.inl rfl)) (pgs_cons (pg_name (i := 4) sc_Source_init.nd rfl (Or.inl rfl)) pgs_nil)))
      (pss_one (ps_expr (pe_meth (pv 0) T.c_Source T.m_Source_take_rows G_Source_take_rows hr_Source_take_rows b_Source_take_rows .nil pass0 (pa_cons (pv 3) (pa_cons (pe_dget hu (pe_fldK (K := K) rfl (pv 0) (by rfl)) (pe_ix ix_tup (pv 4) pe_int (fun _ _ => rfl)) (fun _ _ => rfl)) (pa_cons (pe_ix ix_tup (pv 4) pe_int (fun _ _ => rfl)) pa_nil))))))))))))), ?_⟩
    intro d1 hd1
    have nd1 : d1 ≠ p := (ne_of_none hp hd1).symm
    refine ⟨_, rfl, p, _, dx, _, rfl, Same.new hd1 _ _ hp, T.c_Source, T.n_Source_field_kinds, few pf0, ?_⟩
    have b1 : But p H (upd (upd H d1 (.dK [])) p (.ins (He.ga K "Source") dx (putF "_field_kinds" (.ref d1) []))) := (But.of (Same.new hd1)).trans But.upd
    intro d2 hd2
    have nd2 : d2 ≠ p := fun z => by rw [z, upd_same] at hd2; cases hd2
    have n21 : d2 ≠ d1 := fun z => by rw [z, upd_ne nd1, upd_same] at hd2; cases hd2
    refine ⟨_, rfl, p, _, dx, _, rfl, Same.new hd2 _ _ upd_same, T.c_Source, T.n_Source_fields, few (pl1 pf0), ?_⟩
    have b2 := b1.trans ((But.of (Same.new (o := .dK []) hd2)).trans (But.upd (o := .ins (He.ga K "Source") dx (putF "_fields" (.ref d2) (putF "_field_kinds" (.ref d1) [])))))
    intro d3 hd3
    have nd3 : d3 ≠ p := fun z => by rw [z, upd_same] at hd3; cases hd3
    have n32 : d3 ≠ d2 := fun z => by rw [z, upd_ne nd2, upd_same] at hd3; cases hd3
    have n31 : d3 ≠ d1 := fun z => by rw [z, upd_ne nd1, upd_ne n21.symm, upd_ne nd1, upd_same] at hd3; cases hd3
    refine ⟨_, rfl, p, _, dx, _, rfl, Same.new hd3 _ _ upd_same, T.c_Source, T.n_Source_functions, few (pl1 (pl1 pf0)), ?_⟩
    have b3 := b2.trans ((But.of (Same.new (o := .dK []) hd3)).trans (But.upd (o := .ins (He.ga K "Source") dx (putF "_functions" (.ref d3) (putF "_fields" (.ref d2) (putF "_field_kinds" (.ref d1) []))))))
    generalize hH3 : upd (upd (upd (upd (upd (upd H d1 (.dK [])) p (.ins (He.ga K "Source") dx (putF "_field_kinds" (.ref d1) []))) d2 (.dK [])) p (.ins (He.ga K "Source") dx (putF "_fields" (.ref d2) (putF "_field_kinds" (.ref d1) [])))) d3 (.dK [])) p (.ins (He.ga K "Source") dx (putF "_functions" (.ref d3) (putF "_fields" (.ref d2) (putF "_field_kinds" (.ref d1) [])))) = H3 at b3 ⊢
    have S3 : SrcG K H3 p dx d2 d1 d3 (putF "_functions" (.ref d3) (putF "_fields" (.ref d2) (putF "_field_kinds" (.ref d1) []))) [] [] [] := by
      subst hH3
      refine ⟨upd_same, rfl, rfl, rfl, fun m hm => ?_, ?_, ?_, ?_⟩
      · simp only [List.mem_cons, List.not_mem_nil, or_false] at hm
        rcases hm with rfl | rfl | rfl | rfl | rfl | rfl | rfl | rfl <;> rfl
      · rw [upd_ne nd2, upd_ne n32.symm, upd_ne nd2, upd_same]
      · rw [upd_ne nd1, upd_ne n31.symm, upd_ne nd1, upd_ne n21.symm, upd_ne nd1, upd_same]
      · rw [upd_ne nd3, upd_same]
    generalize putF "_functions" (V.ref d3) (putF "_fields" (.ref d2) (putF "_field_kinds" (.ref d1) [])) = fs at S3
    have k3 : KeepTL H H3 := .butF hp b3
    have R3 := HR.keep k3
    clear hH3 b1 b2
    obtain ⟨ces, c1, c2, c3⟩ := R3.cs
    obtain ⟨es, f1, f2, f3⟩ := R3.fn
    refine ⟨_, rfl, p, dx, _, rfl, S3.ob, S3.nm _ (by decide +kernel), _, rfl, ?_⟩
    refine ⟨p, ca, dx, d2, d1, d3, fs, [], cl, ces, rfl, S3, n21, n32, n31, c1, c2, c3, HR.oc, fun H4 qs b4 hqs df4 dk4 => ?_⟩
    have k4 : KeepTL H3 H4 := .butL (fun d m xs => by
      rcases List.mem_cons.mp m with m | m
      · rw [m, S3.d1]
        exact ⟨(by intro z; cases z), (by intro z; cases z)⟩
      · rw [List.mem_singleton.mp m, S3.d2]
        exact ⟨(by intro z; cases z), (by intro z; cases z)⟩) b4
    have nin : ∀ {b : Addr}, b ≠ d2 → b ≠ d1 → b ∉ [d2, d1] := fun h1 h2 m => by
      rcases List.mem_cons.mp m with m | m
      · exact h1 m
      · exact h2 (List.mem_singleton.mp m)
    have S4 : SrcG K H4 p dx d2 d1 d3 fs (csM cl qs) (ksM cl) [] := ⟨b4 _ _ S3.ob (nin nd2.symm nd1.symm), S3.f1, S3.f2, S3.f3, S3.nm, df4, dk4, b4 _ _ S3.d3 (nin n32 n31)⟩
    refine ⟨_, rfl, p, dx, _, rfl, S4.ob, S4.nm _ (by decide +kernel), _, rfl, ?_⟩
    refine ⟨p, dx, d2, d1, d3, fa, fs, _, _, es, fds, rfl, S4, k4.2 _ _ f1, f2, fun i e f a b => ((f3 i e f a b).keep k4).entry, HR.nn, HR.l1, HR.l6, fun H5 fps b5 fl hH hfr hnd d5 => ?_⟩
    have k5 : KeepTL H4 H5 := .butD S4.d3 b5
    have n5 : ∀ {b : Addr}, b ≠ d3 → b ∉ [d3] := fun h m => h (List.mem_singleton.mp m)
    have fin : ∀ a ∈ fps, ∃ (dy pa va : Addr) (gs : List (Str × V)) (ps' : List Addr) (f : FdT), FunG K H5 a dy pa va gs ps' f.ns f.ms f.res := fun a m => by
      obtain ⟨j, hj, e⟩ := List.getElem_of_mem m
      have e1 : fps[j]? = some a := by rw [List.getElem?_eq_getElem hj, e]
      have hj2 : j < fds.length := by omega
      obtain ⟨dy, pa, va, gs, ps', _, F⟩ := hH j _ a (List.getElem?_eq_getElem hj2) e1
      exact ⟨dy, pa, va, gs, ps', _, F⟩
    have nfp : ∀ {b : Addr} {u : HO}, H5 b = some u → (∀ dz gz, u ≠ .ins (He.ga K "Function") dz gz) → b ∉ fps := fun q n m => by
      obtain ⟨dy, pa, va, gs, ps', f, F⟩ := fin _ m
      rw [F.ob] at q
      exact n _ _ (Option.some.inj q).symm
    have p4 : H4 p = some (.ins (He.ga K "Source") dx fs) := S4.ob
    have npf : p ∉ fps := fun m => by
      have q := hfr p m
      rw [p4] at q
      cases q
    have S5 : SrcG K H5 p dx d2 d1 d3 fs (csM cl qs) (ksM cl) (usOf fds fps) := ⟨b5 _ _ S4.ob (n5 nd3.symm), S4.f1, S4.f2, S4.f3, S4.nm, b5 _ _ S4.d1 (n5 n32.symm), b5 _ _ S4.d2 (n5 n31.symm), d5⟩
    have k35 := k4.trans k5
    have fa5 := k35.2 _ _ f1
    have hlr : (es.map V.ref).length = fds.length := by rw [List.length_map, f2]
    refine ⟨_, rfl, fa, _, rfl, SqL.of fa5, ?_⟩
    refine for_it (walk_enum (K := K) (a := fa) (xs := es.map V.ref)) (fun i σ H1 => ∃ v1 v2 : Option V, σ = [some (.ref p), some (.ref ca), some (.ref fa), v1, v2] ∧ ButL fps H5 H1 ∧ (∀ (j : Nat) f a, fds[j]? = some f → fps[j]? = some a → j < i → ∃ (dy pa va ba : Addr) (gs : List (Str × V)) (ps' rs' : List Addr), FunB K H1 a dy pa va ba gs ps' rs' f) ∧
      (∀ (j : Nat) f a, fds[j]? = some f → fps[j]? = some a → i ≤ j → ∃ (dy pa va : Addr) (gs : List (Str × V)) (ps' : List Addr), FunG K H1 a dy pa va gs ps' f.ns f.ms f.res)) ⟨none, none, rfl, fun b u q _ => q, fun j f a _ _ h => absurd h (Nat.not_lt_zero j), fun j f a e1 e2 _ => by
        obtain ⟨dy, pa, va, gs, ps', _, F⟩ := hH j f a e1 e2
        exact ⟨dy, pa, va, gs, ps', F⟩⟩ (fun i σ H1 _ ⟨_, _, _, b6, _⟩ => SqL.of (b6 _ _ fa5 (nfp fa5 (by intro _ _ z; cases z)))) ?_ ?_
    · rintro i y σ H1 H2 hi ⟨v1, v2, rfl, b6, hB, hG⟩ ⟨u, a, b, rfl, hu0, rfl, h1, h2⟩
      have h2 : (es.map V.ref)[i]? = some b := h2
      obtain rfl : V.int (i : Nat) = a := Option.some.inj h1
      obtain ⟨e, hc, rfl⟩ := map_get h2
      have hif : i < fds.length := by rw [hlr] at hi; exact hi
      have hf : fds[i]? = some fds[i] := List.getElem?_eq_getElem hif
      have hip : i < fps.length := by omega
      have ha : fps[i]? = some fps[i] := List.getElem?_eq_getElem hip
      have hfm : fds[i] ∈ fds := List.getElem_mem hif
      have k6 : KeepTL H5 H1 := .butL (fun d m xs => by
        obtain ⟨dy, pa, va, gs, ps', f, F⟩ := fin _ m
        rw [F.ob]
        exact ⟨(by intro z; cases z), (by intro z; cases z)⟩) b6
      obtain ⟨pa, oa, ra, pp, qq, rs, E3, RR3⟩ := f3 i e _ hc hf
      have k36 := k35.trans k6
      have E1 := E3.keep k36
      have RR1 := RR3.keep k36
      have s1 : Same H1 (upd H1 u (.tup [.int (i : Nat), .ref e])) := Same.new hu0
      have S1 : SrcG K H1 p dx d2 d1 d3 fs (csM cl qs) (ksM cl) (usOf fds fps) := ⟨b6 _ _ S5.ob npf, S5.f1, S5.f2, S5.f3, S5.nm, b6 _ _ S5.d1 (nfp S5.d1 (by intro _ _ z; cases z)), b6 _ _ S5.d2 (nfp S5.d2 (by intro _ _ z; cases z)), b6 _ _ S5.d3 (nfp S5.d3 (by intro _ _ z; cases z))⟩
      have S2 := S1.mono s1
      have E2 := E1.keep (.of s1)
      have RR2 := RR1.mono s1
      obtain ⟨dy, ta, va, gs, ps', F0⟩ := hG i _ _ hf ha (Nat.le_refl _)
      have F2 := F0.mono s1
      have O := HR.ok _ hfm
      have hLen : rs.length = fds[i].rws.length := RR1.len
      refine ⟨u, _, rfl, SqT.of upd_same, rfl, _, _, rfl, _, _, rfl, rfl, ?_⟩
      refine ⟨_, rfl, p, dx, _, rfl, S2.ob, S2.nm _ (by decide +kernel), _, rfl, _, rfl, p, _, dx, _, _, rfl, S2.ob, T.c_Source, T.n_Source_functions, S2.f3, _, rfl, _, _, _, _, rfl, rfl, SqT.of E2.he, at0, d3, .ref fps[i], rfl, ?_, ?_⟩
      · have q := DGet.k (k := Sum.inr fds[i].nm) S2.d3
        rw [us_at HR.nn hf ha] at q
        exact q
      refine ⟨_, rfl, _, _, _, _, rfl, rfl, SqT.of E2.he, at4, ?_⟩
      have hHead : ∀ (j : Nat) (g : FdT), fds[j]? = some g → ∃ a dx pa fs ps, fps[j]? = some a ∧ HeadG K (upd H1 u (.tup [.int (i : Nat), .ref e])) a dx pa fs ps g.ns g.res := fun j g ej => by
        have hj : j < fps.length := by
          have := (List.getElem?_eq_some_iff.mp ej).1
          omega
        have aj : fps[j]? = some fps[j] := List.getElem?_eq_getElem hj
        have lj := (HR.ok g (List.mem_of_getElem? ej)).l1
        by_cases c : j < i
        · obtain ⟨dz, pz, vz, bz, gz, psz, rsz, Fz⟩ := hB j g _ ej aj c
          exact ⟨_, _, _, _, _, aj, (Fz.mono s1).head lj⟩
        · obtain ⟨dz, pz, vz, gz, psz, Fz⟩ := hG j g _ ej aj (by omega)
          exact ⟨_, _, _, _, _, aj, (Fz.mono s1).head lj⟩
      refine ⟨p, fps[i], dy, va, ra, (i : Nat), gs, _, _, _, _, _, rs, fds[i].rws, rfl, ⟨dx, d2, d1, d3, fs, S2⟩, F2.few, ⟨F2.ob, F2.f3, F2.f2, F2.vd⟩, E2.hra, RR2, fun j c r l e1 e2 e3 => ?_, fun r m => ⟨O.kinds HR.nn HR.ok hHead (O.rows r m), O.names (O.rows r m), O.ok.ok r m⟩, O.ok.last, O.ok.le, fun H7 q qs b7 F7 t7 q7 => ?_⟩
      · obtain ⟨l2, q1, q2⟩ := RR2.at_ j c r e1 e2
        refine O.form HR.nn fl HR.oc.nd hqs (O.rows r (List.mem_of_getElem? e2)) fun bs hb => ?_
        have el : l2 = l ∨ r.args = none := by
          cases r with
          | call x F as =>
            left
            rw [q1] at e3
            have := (HO.tup.inj (Option.some.inj e3))
            simp [Rx.parts] at this
            exact this
          | _ => exact .inr rfl
        rcases el with rfl | el
        · exact q2 bs hb
        · rw [el] at hb
          cases hb
      · have ob2 := F2.ob
        refine ⟨_, _, rfl, fun b u q n => ?_, fun j f a e1 e2 hj => ?_, fun j f a e1 e2 hj => ?_⟩
        · exact b7 _ _ (s1 _ _ (b6 _ _ q n)) fun z => n (by rw [z]; exact List.getElem_mem hip)
        · by_cases c : j = i
          · subst c
            rw [hf] at e1
            rw [ha] at e2
            have ef := Option.some.inj e1
            have ea := Option.some.inj e2
            subst ef
            subst ea
            refine ⟨dy, ta, va, q, _, ps', qs, F7.ob, ?_, F7.res, F7.vars, ?_, ?_, b7.tupP ob2 F2.d1, b7.pairsG ob2 F2.pr, F7.vd, t7, q7⟩
            · rw [lookup_putF, if_neg (by decide +kernel)]
              exact F2.f1
            · rw [lookup_putF, if_pos rfl]
            · rw [lookup_putF, lookup_putF, if_neg (by decide +kernel), if_neg (by decide +kernel)]
              exact F2.nohas
          · obtain ⟨dz, pz, vz, bz, gz, psz, rsz, Fz⟩ := hB j f a e1 e2 (by omega)
            refine ⟨dz, pz, vz, bz, gz, psz, rsz, (Fz.mono s1).but ob2 (fun z => c ?_) b7⟩
            exact (List.getElem?_inj (List.getElem?_eq_some_iff.mp e2).1 hnd).mp (by rw [e2, z, ha])
        · obtain ⟨dz, pz, vz, gz, psz, Fz⟩ := hG j f a e1 e2 (by omega)
          refine ⟨dz, pz, vz, gz, psz, (Fz.mono s1).but ob2 (fun z => ?_) b7⟩
          have := (List.getElem?_inj (List.getElem?_eq_some_iff.mp e2).1 hnd).mp (show fps[j]? = fps[i]? by rw [e2, z, ha])
          omega
    · rintro σ H1 ⟨v1, v2, rfl, b6, hB, hG⟩
      rw [hlr] at hB
      have S1 : SrcG K H1 p dx d2 d1 d3 fs (csM cl qs) (ksM cl) (usOf fds fps) := ⟨b6 _ _ S5.ob npf, S5.f1, S5.f2, S5.f3, S5.nm, b6 _ _ S5.d1 (nfp S5.d1 (by intro _ _ z; cases z)), b6 _ _ S5.d2 (nfp S5.d2 (by intro _ _ z; cases z)), b6 _ _ S5.d3 (nfp S5.d3 (by intro _ _ z; cases z))⟩
      refine k H1 (fun b o q n => ?_) ⟨fps, qs, hqs, ⟨dx, d2, d1, d3, fs, S1⟩, fl, fun j f a e1 e2 => hB j f a e1 e2 (List.getElem?_eq_some_iff.mp e1).1⟩
      have old : ∀ {d : Addr}, H d = none → b ≠ d := fun hd z => by
        rw [z, hd] at q
        cases q
      have q3 := b3 _ _ q n
      have m1 : b ≠ d1 := old hd1
      have m2 : b ≠ d2 := fun z => by
        rw [upd_ne nd2] at hd2
        by_cases w : d2 = d1
        · exact n21 w
        · rw [upd_ne w] at hd2
          exact old hd2 z
      have m3 : b ≠ d3 := fun z => by
        rw [upd_ne nd3, upd_ne n32, upd_ne nd3, upd_ne n31] at hd3
        exact old hd3 z
      have q4 := b4 _ _ q3 (nin m2 m1)
      have q5 := b5 _ _ q4 (n5 m3)
      exact b6 _ _ q5 fun m => by
        have := hfr b m
        rw [q4] at this
        cases this

end
end W5
set_option Elab.async false
set_option linter.all false
set_option maxRecDepth 100000
set_option maxHeartbeats 4000000
namespace W5
open PySem PySem.Spec PyProof.Rows L2 RZ
section
variable {P : Program} {w : World} {K : PySem.W.Frag} {mg : Str → Option Value} {base : Heap}

theorem FnOk.up {k : Nat} {f : Addr} {fd : FuncData} {ps : List Str} {sp : Sp} (F : FnOk P w K mg base CX0 k f fd ps sp) : FnOk P w K mg base (L2.CX P w) k f fd ps sp :=
  ⟨F.len, fun A outer s H args us vs Q E hr he hb hv hs => codeAny_mono (F.run A outer s H args us vs Q E hr he hb hv hs) fun r s2 z => by
    match r, z with
    | .ok (.ret u), z => exact z
    | .error e, z => exact z.elim⟩
theorem FnOk.or {CX : CXT} {k : Nat} {f : Addr} {fd : FuncData} {ps : List Str} {sp sp2 : Sp} (F : FnOk P w K mg base CX k f fd ps sp) (G : FnOk P w K mg base CX k f fd ps sp2) : FnOk P w K mg base CX k f fd ps (fun vs H Q E => sp vs H Q E ∨ sp2 vs H Q E) :=
  ⟨fun vs H Q E h => h.elim (F.len _ _ _ _) (G.len _ _ _ _), fun A outer s H args us vs Q E hr he hb hv hs => hs.elim (fun h => F.run A outer s H args us vs Q E hr he hb hv h) (fun h => G.run A outer s H args us vs Q E hr he hb hv h)⟩
/-- is_list_of of a list, both answers -/
def spListB : Sp := fun vs H Q _ => ∃ (a : Addr) (xs : List V) (lo hi : Int), vs = [.ref a, .int lo, .int hi] ∧ H a = some (.lst xs) ∧ Q (.bl (decide (lo ≤ (xs.length : Int)) && decide ((xs.length : Int) ≤ hi))) H
/-- a function as it is handed in, without rows -/
structure EntryZ (H : Hp) (e : Addr) : Prop where
  ex : ∃ (pa oa ra : Addr) (nm res : Str) (ps qs : List Addr) (ns ms : List (Str × Str)), H e = some (.tup [.str nm, .ref pa, .ref oa, .str res, .ref ra]) ∧ Nam nm ∧ IsKind res ∧ H pa = some (.lst (ps.map V.ref)) ∧ PairsG H ps ns ∧ H oa = some (.lst (qs.map V.ref)) ∧ PairsG H qs ms ∧
    (∀ q ∈ ns ++ ms, Nam q.1 ∧ IsKind q.2) ∧ ((ns ++ ms).map Prod.fst).Nodup ∧ ns.length ≤ 4 ∧ ms.length ≤ 8 ∧ H ra = some (.lst [])
def spHeadB : Sp := fun vs H Q _ => ∃ e, vs = [.ref e] ∧ ((∃ f, EntryAt H e f ∧ ∀ H', Same H H' → Q (.bl true) H') ∨ (EntryZ H e ∧ ∀ H', Same H H' → Q (.bl false) H'))
theorem EntryZ.keep {H H' : Hp} {e : Addr} (h : EntryZ H e) (k : KeepTL H H') : EntryZ H' e := by
  obtain ⟨pa, oa, ra, nm, res, ps, qs, ns, ms, h1, h2, h3, h4, h5, h6, h7, h8, h9, h10, h11, h12⟩ := h.ex
  exact ⟨pa, oa, ra, nm, res, ps, qs, ns, ms, k.1 _ _ h1, h2, h3, k.2 _ _ h4, h5.keep k, k.2 _ _ h6, h7.keep k, h8, h9, h10, h11, k.2 _ _ h12⟩
theorem scB_is_list_of : FnScope ["thing", "least", "most"] ["thing", "least", "most"] (defScope s_is_list_of) := ⟨rfl, rfl, rfl, by decide +kernel, rfl, by decide +kernel, by decide +kernel⟩
theorem okB_is_list_of (T : Ctx w K mg) : Has P w K mg base 1 "is_list_of" ["thing", "least", "most"] spListB := by
  obtain ⟨fd, F⟩ := T.D_is_list_of
  refine ⟨⟨fd, F.ok scB_is_list_of (fun vs H Q E h => ?_) (fun cdv A outer s H vs Q E hr h => ?_), F.bindsN fun _ _ _ _ _ _ us hl => match us, hl with | [_, _, _], _ => rfl⟩, F.kp, T.g_is_list_of⟩
  · obtain ⟨a, xs, lo, hi, rfl, ha, k⟩ := h; rfl
  · obtain ⟨a, xs, lo, hi, rfl, ha, k⟩ := h
    have hu := hu_of hr
    refine ⟨_, PSs.nox (pss_one (ps_ret (pe_and (pe_callB call_isi (by rfl) T.f_isinstance (by decide +kernel) (pa_cons (pv 0) (pa_cons (pe_bltn (v := .ty "list") (u := .type "list") rfl T.f_list (by decide +kernel) rfl) pa_nil))) (pe_one (pe_chain op_le op_le (pv 1) (pe_callB call_len_seq (by rfl) T.f_len (by decide +kernel) (pa_cons (pv 0) pa_nil)) (pv 2)))))), ?_⟩
    refine ⟨_, rfl, _, _, _, _, true, rfl, .ty _, .base (.lst ha), kit_ty (by decide +kernel), true, rfl, iteT ?_⟩
    by_cases h1 : lo ≤ (xs.length : Int)
    · refine ⟨_, rfl, _, rfl, _, _, rfl, .inl (SqL.of ha), _, _, rfl, rfl, _, rfl, ifT (decide_eq_true h1) ⟨_, rfl, _, _, rfl, rfl, ?_⟩⟩
      rw [decide_eq_true h1, Bool.true_and] at k
      exact k
    · refine ⟨_, rfl, _, rfl, _, _, rfl, .inl (SqL.of ha), _, _, rfl, rfl, _, rfl, ifF (decide_eq_false h1) ?_⟩
      rw [decide_eq_false h1, Bool.false_and] at k
      exact k
theorem scB_is_head : FnScope ["entry"] ["entry"] (defScope s_is_head) := ⟨rfl, rfl, rfl, by decide +kernel, rfl, by decide +kernel, by decide +kernel⟩
theorem okB_is_head (T : Ctx w K mg) (H_is_tuple_of : Has P w K mg base 1 "is_tuple_of" ["thing", "many"] spTupOf) (H_is_name : Has P w K mg base 1 "is_name" ["thing"] spName) (H_is_kind : Has P w K mg base 1 "is_kind" ["thing"] spKindG) (H_are_named_kinds : Has P w K mg base 2 "are_named_kinds" ["thing", "most"] spNamedG) (H_is_list_of : Has P w K mg base 1 "is_list_of" ["thing", "least", "most"] spListB) : Has P w K mg base 3 "_is_head" ["entry"] spHeadB := by
  obtain ⟨fd, F⟩ := T.D_is_head
  obtain ⟨fd_is_tuple_of, G_is_tuple_of, b_is_tuple_of⟩ := H_is_tuple_of.ex
  obtain ⟨fd_is_name, G_is_name, b_is_name⟩ := H_is_name.ex
  obtain ⟨fd_is_kind, G_is_kind, b_is_kind⟩ := H_is_kind.ex
  obtain ⟨fd_are_named_kinds, G_are_named_kinds, b_are_named_kinds⟩ := H_are_named_kinds.ex
  obtain ⟨fd_is_list_of, G_is_list_of, b_is_list_of⟩ := H_is_list_of.ex
  refine ⟨⟨fd, F.ok scB_is_head (fun vs H Q E h => ?_) (fun cdv A outer s H vs Q E hr h => ?_), F.bindsN fun _ _ _ _ _ _ us hl => match us, hl with | [_], _ => rfl⟩, F.kp, T.g_is_head⟩
  · obtain ⟨e, rfl, k⟩ := h; rfl
  · obtain ⟨e, rfl, k⟩ := h
    have hr_is_tuple_of : Room 1 _ := hr.mono (by decide)
    have hr_is_name : Room 1 _ := hr.mono (by decide)
    have hr_is_kind : Room 1 _ := hr.mono (by decide)
    have hr_are_named_kinds : Room 2 _ := hr.mono (by decide)
    have hr_is_list_of : Room 1 _ := hr.mono (by decide)
    have hu := hu_of hr
    obtain ⟨t_MOST_PARAMETERS, e_MOST_PARAMETERS⟩ := T.i_MOST_PARAMETERS
    obtain ⟨t_MOST_OTHERS, e_MOST_OTHERS⟩ := T.i_MOST_OTHERS
    obtain ⟨t_MOST_ROWS, e_MOST_ROWS⟩ := T.i_MOST_ROWS
    refine ⟨_, PSs.nox (pss_cons (ps_if (PW.pt (pw_or (pt_not (pt_val (pe_call G_is_tuple_of hr_is_tuple_of (by rfl) H_is_tuple_of.gl H_is_tuple_of.kp b_is_tuple_of .nil pass0 (pa_cons (pv 0) (pa_cons pe_int pa_nil))))) (pw_or (pt_not (pt_val (pe_call G_is_name hr_is_name (by rfl) H_is_name.gl H_is_name.kp b_is_name .nil pass0 (pa_cons (pe_ix ix_tup (pv 0) pe_int (fun _ _ => rfl)) pa_nil)))) (pw_or1 (pt_not (pt_val (pe_call G_is_kind hr_is_kind (by rfl) H_is_kind.gl H_is_kind.kp b_is_kind .nil pass0 (pa_cons (pe_ix ix_tup (pv 0) pe_int (fun _ _ => rfl)) pa_nil)))))))) (pss_one (ps_ret pe_bl)) pss_nil)
      (pss_cons (ps_if (PW.pt (pw_or (pt_not (pt_val (pe_call G_are_named_kinds hr_are_named_kinds (by rfl) H_are_named_kinds.gl H_are_named_kinds.kp b_are_named_kinds .nil pass0 (pa_cons (pe_ix ix_tup (pv 0) pe_int (fun _ _ => rfl)) (pa_cons (pe_glob (v := .int 4) rfl e_MOST_PARAMETERS ⟨_, rfl⟩) pa_nil))))) (pw_or1 (pt_not (pt_val (pe_call G_are_named_kinds hr_are_named_kinds (by rfl) H_are_named_kinds.gl H_are_named_kinds.kp b_are_named_kinds .nil pass0 (pa_cons (pe_ix ix_tup (pv 0) pe_int (fun _ _ => rfl)) (pa_cons (pe_glob (v := .int 8) rfl e_MOST_OTHERS ⟨_, rfl⟩) pa_nil)))))))) (pss_one (ps_ret pe_bl)) pss_nil)
      (pss_cons (ps_if (pt_not (pt_val (pe_call G_are_named_kinds hr_are_named_kinds (by rfl) H_are_named_kinds.gl H_are_named_kinds.kp b_are_named_kinds .nil pass0 (pa_cons (pe_op op_cat (pe_ix ix_tup (pv 0) pe_int (fun _ _ => rfl)) (pe_ix ix_tup (pv 0) pe_int (fun _ _ => rfl))) (pa_cons (pe_op op_add (pe_glob (v := .int 4) rfl e_MOST_PARAMETERS ⟨_, rfl⟩) (pe_glob (v := .int 8) rfl e_MOST_OTHERS ⟨_, rfl⟩)) pa_nil))))) (pss_one (ps_ret pe_bl)) pss_nil)
      (pss_one (ps_ret (pe_call G_is_list_of hr_is_list_of (by rfl) H_is_list_of.gl H_is_list_of.kp b_is_list_of .nil pass0 (pa_cons (pe_ix ix_tup (pv 0) pe_int (fun _ _ => rfl)) (pa_cons pe_int (pa_cons (pe_glob (v := .int 40) rfl e_MOST_ROWS ⟨_, rfl⟩) pa_nil))))))))), ?_⟩
    have both : ∃ (pa oa ra : Addr) (nm res : Str) (ps qs : List Addr) (ns ms : List (Str × Str)) (rs : List V), H e = some (.tup [.str nm, .ref pa, .ref oa, .str res, .ref ra]) ∧ Nam nm ∧ IsKind res ∧ H pa = some (.lst (ps.map V.ref)) ∧ PairsG H ps ns ∧ H oa = some (.lst (qs.map V.ref)) ∧ PairsG H qs ms ∧
        (∀ q ∈ ns ++ ms, Nam q.1 ∧ IsKind q.2) ∧ ((ns ++ ms).map Prod.fst).Nodup ∧ ns.length ≤ 4 ∧ ms.length ≤ 8 ∧ H ra = some (.lst rs) ∧ ∀ H', Same H H' → Q (.bl (decide ((1 : Int) ≤ (rs.length : Int)) && decide ((rs.length : Int) ≤ 40))) H' := by
      rcases k with ⟨f, ⟨pa, oa, ra, ps, qs, rs, he, nf, kd, hpa, hp1, hoa, hp2, hN, hnd, l1, l2, hra, l3, l4⟩, k⟩ | ⟨⟨pa, oa, ra, nm, res, ps, qs, ns, ms, he, nf, kd, hpa, hp1, hoa, hp2, hN, hnd, l1, l2, hra⟩, k⟩
      · refine ⟨pa, oa, ra, _, _, ps, qs, _, _, rs, he, nf, kd, hpa, hp1, hoa, hp2, hN, hnd, l1, l2, hra, fun H2 s2 => ?_⟩
        rw [decide_eq_true (show (1 : Int) ≤ (rs.length : Int) by omega), decide_eq_true (show (rs.length : Int) ≤ 40 by omega)]
        exact k _ s2
      · exact ⟨pa, oa, ra, _, _, ps, qs, _, _, [], he, nf, kd, hpa, hp1, hoa, hp2, hN, hnd, l1, l2, hra, fun H2 s2 => k _ s2⟩
    clear k
    obtain ⟨pa, oa, ra, nm, res, ps, qs, ns, ms, rs, he, nf, kd, hpa, hp1, hoa, hp2, hN, hnd, l1, l2, hra, kk⟩ := both
    have hnd0 := hnd
    rw [List.map_append] at hnd0
    have hnd1 := (List.nodup_append.mp hnd0).1
    have hnd2 := (List.nodup_append.mp hnd0).2.1
    refine ⟨_, rfl, e, _, 5, rfl, he, rfl, _, rfl, iteF ?_⟩
    refine ⟨_, rfl, _, _, _, _, rfl, rfl, SqT.of he, at0, nm, rfl, nf, fun H1 s1 => ⟨_, rfl, iteF ?_⟩⟩
    refine ⟨_, rfl, _, _, _, _, rfl, rfl, SqT.of (s1 _ _ he), at3, res, rfl, kd, _, rfl, iteF ?_⟩
    refine ⟨_, rfl, _, _, _, _, rfl, rfl, SqT.of (s1 _ _ he), at1, pa, ps, ns, 4, rfl, s1 _ _ hpa, hp1.mono s1, fun x m => hN x (List.mem_append_left _ m), hnd1, by omega, by omega, fun H2 s2 => ⟨_, rfl, iteF ?_⟩⟩
    have s12 := s1.trans s2
    refine ⟨_, rfl, _, _, _, _, rfl, rfl, SqT.of (s12 _ _ he), at2, oa, qs, ms, 8, rfl, s12 _ _ hoa, hp2.mono s12, fun x m => hN x (List.mem_append_right _ m), hnd2, by omega, by omega, fun H3 s3 => ⟨_, rfl, iteF ?_⟩⟩
    have s13 := s12.trans s3
    refine ⟨_, rfl, _, _, _, _, rfl, rfl, SqT.of (s13 _ _ he), at1, _, rfl, _, _, _, _, rfl, rfl, SqT.of (s13 _ _ he), at2, ?_⟩
    have hl1 : ps.length = ns.length := hp1.len
    have hl2 : qs.length = ms.length := hp2.len
    refine ⟨pa, oa, _, _, rfl, rfl, s13 _ _ hpa, s13 _ _ hoa, sz_of (by rw [List.length_map, List.length_map]; omega), fun c hc => ?_⟩
    have s4 := Same.new (o := .lst (ps.map V.ref ++ qs.map V.ref)) hc
    refine ⟨_, _, rfl, rfl, c, ps ++ qs, ns ++ ms, 12, rfl, by rw [upd_same, List.map_append], (hp1.append hp2).mono (s13.trans s4), hN, hnd, by rw [List.length_append]; omega, by rw [List.length_append]; omega, fun H5 s5 => ⟨_, rfl, iteF ?_⟩⟩
    have s15 := (s13.trans s4).trans s5
    exact ⟨_, rfl, _, _, _, _, rfl, rfl, SqT.of (s15 _ _ he), at4, ra, rs, 1, 40, rfl, s15 _ _ hra, kk _ s15⟩

end
end W5
set_option Elab.async false
set_option linter.all false
set_option maxRecDepth 100000
set_option maxHeartbeats 4000000
namespace W5
open PySem PySem.Spec PyProof.Rows L2 RZ
section
variable {P : Program} {w : World} {K : PySem.W.Frag} {mg : Str → Option Value} {base : Heap}

def BadHead (H : Hp) (f0 : FdT) (e1 : Addr) : Prop := EntryZ H e1 ∨ ∃ f1, EntryAt H e1 f1 ∧ f1.nm = f0.nm
theorem BadHead.keep {H H' : Hp} {f0 : FdT} {e : Addr} (h : BadHead H f0 e) (k : KeepTL H H') : BadHead H' f0 e := by
  rcases h with h | ⟨f1, h, n⟩
  · exact .inl (h.keep k)
  · exact .inr ⟨f1, h.keep k, n⟩
def spHeadsE (K : PySem.W.Frag) : Sp := fun vs H _ E => ∃ (p dx df dk du fa : Addr) (fs : List (Str × V)) (cs ks : List (Key × V)), vs = [.ref p, .ref fa] ∧ SrcG K H p dx df dk du fs cs ks [] ∧
  ((H fa = some (.lst []) ∧ SrcE K H (.str "functions") (.int (-1)) E) ∨
    ∃ (e0 e1 : Addr) (f0 : FdT), H fa = some (.lst [.ref e0, .ref e1]) ∧ EntryAt H e0 f0 ∧ BadHead H f0 e1 ∧ ∀ (H' : Hp) (t : Addr), ButL [du] H H' → H' t = some (.tup [.int 1]) → SrcE K H' (.str "functions") (.ref t) E)
theorem scE_Source_take_heads : FnScope ["self", "functions", "k", "entry"] ["self", "functions"] (defScope s_Source_take_heads) := ⟨rfl, rfl, rfl, by decide +kernel, rfl, by decide +kernel, by decide +kernel⟩
theorem okE_Source_take_heads (T : Ctx w K mg) (H_errS : HasM P w K mg base 1 "InvalidSource" "__init__" ["self", "part", "at"] (spSrcErr K)) (H_is_list_of : Has P w K mg base 1 "is_list_of" ["thing", "least", "most"] spListB) (H_is_head : Has P w K mg base 3 "_is_head" ["entry"] spHeadB) (H_Function_init : HasM P w K mg base 4 "Function" "__init__" ["self", "name", "params", "others", "result"] (spFnInitG K)) : HasMX P w K mg base 6 "Source" "_take_heads" ["self", "functions"] (spHeadsE K) := by
  obtain ⟨fd, F⟩ := T.D_Source_take_heads
  obtain ⟨fd_is_list_of, G_is_list_of, b_is_list_of⟩ := H_is_list_of.ex
  obtain ⟨fd_is_head, G_is_head, b_is_head⟩ := H_is_head.ex
  obtain ⟨fd_Function_init, G_Function_init, b_Function_init⟩ := H_Function_init.ex
  refine ⟨⟨fd, F.ok scE_Source_take_heads (fun vs H Q E h => ?_) (fun cdv A outer s H vs Q E hr h => ?_), F.bindsN fun _ _ _ _ _ _ us hl => match us, hl with | [_, _], _ => rfl⟩⟩
  · obtain ⟨p, dx, df, dk, du, fa, fs, cs, ks, rfl, S, k⟩ := h; rfl
  · obtain ⟨p, dx, df, dk, du, fa, fs, cs, ks, rfl, S, k⟩ := h
    have hr_is_list_of : Room 1 _ := hr.mono (by decide)
    have hr_is_head : Room 3 _ := hr.mono (by decide)
    have hr_Function_init : Room 5 _ := hr.mono (by decide)
    have hu := hu_of hr
    obtain ⟨t_c, e_MOST_FUNCTIONS⟩ := T.i_MOST_FUNCTIONS
    obtain ⟨fd_errS, G_errS, b_errS⟩ := H_errS.ex
    have hr_errS : Room 2 _ := hr.mono (by decide)
    refine ⟨_, (pss_cons (ps_if (pt_not (pt_val (pe_call G_is_list_of hr_is_list_of (by rfl) H_is_list_of.gl H_is_list_of.kp b_is_list_of .nil pass0 (pa_cons (pv 1) (pa_cons pe_int (pa_cons (pe_glob (v := .int 6) rfl e_MOST_FUNCTIONS ⟨_, rfl⟩) pa_nil)))))) (pss_one (ps_raiseE (x := "InvalidSource") rfl (takes_of rfl rfl rfl rfl) T.errS G_errS b_errS hr_errS rfl T.g_InvalidSource (by exact (pa_cons pe_str (pa_cons (pe_un un_neg pe_int) pa_nil))))) pss_nil)
      (pss_one (ps_for (passes_of rfl) rfl (pi_enum (by rfl) T.f_enumerate (pa_cons (pv 1) pa_nil)) (pg_tup rfl (pgs_cons (pg_name (i := 2) scE_Source_take_heads.nd rfl (Or.inl rfl)) (pgs_cons (pg_name (i := 3) scE_Source_take_heads.nd rfl (Or.inl rfl)) pgs_nil)))
      (pss_cons (ps_if (PW.pt (pw_or (pt_not (pt_val (pe_call G_is_head hr_is_head (by rfl) H_is_head.gl H_is_head.kp b_is_head .nil pass0 (pa_cons (pv 3) pa_nil)))) (pw_or1 (pt_cmp (pc_din hu (pe_ix ix_tup (pv 3) pe_int (fun _ _ => rfl)) (pe_fldK (K := K) rfl (pv 0) (by rfl))))))) (pss_one (ps_raiseE (x := "InvalidSource") rfl (takes_of rfl rfl rfl rfl) T.errS G_errS b_errS hr_errS rfl T.g_InvalidSource (by exact (pa_cons pe_str (pa_cons (pe_tup (pa_cons (pv 2) pa_nil)) pa_nil))))) pss_nil)
      (pss_one (ps_dput hu (pe_fldK (K := K) rfl (pv 0) (by rfl)) (pe_ix ix_tup (pv 3) pe_int (fun _ _ => rfl)) (pe_make T.k_Function G_Function_init hr_Function_init rfl T.g_Function b_Function_init .nil pass0 (pa_cons (pe_ix ix_tup (pv 3) pe_int (fun _ _ => rfl)) (pa_cons (pe_ix ix_tup (pv 3) pe_int (fun _ _ => rfl)) (pa_cons (pe_ix ix_tup (pv 3) pe_int (fun _ _ => rfl)) (pa_cons (pe_ix ix_tup (pv 3) pe_int (fun _ _ => rfl)) pa_nil))))) rfl)))))), ?_⟩
    rcases k with ⟨hfa, kE⟩ | ⟨e0, e1, f0, hfa, E0, Bad, kE⟩
    · refine ⟨_, rfl, fa, _, 1, 6, rfl, hfa, _, rfl, ifT rfl ?_⟩
      exact ⟨_, rfl, by show 2 ≤ 1000; decide, fun a hn => src_made hn T.errS fun d n => kE d n⟩
    have nd : ∀ {b : Addr} {u : HO}, H b = some u → (∀ z, u ≠ .dK z) → b ∉ [du] := fun q n m => by
      rw [List.mem_singleton.mp m, S.d3] at q
      exact n _ (Option.some.inj q).symm
    refine ⟨_, rfl, fa, _, 1, 6, rfl, hfa, _, rfl, ifF rfl ?_⟩
    refine ⟨_, rfl, fa, _, rfl, SqL.of hfa, ?_⟩
    refine for_it (walk_enum (K := K) (a := fa) (xs := [V.ref e0, V.ref e1])) (fun i σ H1 => i ≤ 1 ∧ ∃ v1 v2 : Option V, σ = [some (.ref p), some (.ref fa), v1, v2] ∧ ButL [du] H H1 ∧ ((i = 0 ∧ H1 du = some (.dK [])) ∨ (i = 1 ∧ ∃ x : Addr, H1 du = some (.dK [(Sum.inr f0.nm, .ref x)])))) ⟨by omega, none, none, rfl, fun b u q _ => q, .inl ⟨rfl, S.d3⟩⟩ (fun i σ H1 _ ⟨_, _, _, _, b1, _⟩ => SqL.of (b1 _ _ hfa (nd hfa (by intro z w; cases w)))) ?_ ?_
    · rintro i y σ H1 H2 hi ⟨hi1, v1, v2, rfl, b1, hst⟩ ⟨u, a, b, rfl, hu0, rfl, h1, h2⟩
      have h2 : ([V.ref e0, V.ref e1] : List V)[i]? = some b := h2
      obtain rfl : V.int (i : Nat) = a := Option.some.inj h1
      have s1 : ∀ o : HO, Same H1 (upd H1 u o) := fun o => Same.new hu0
      have kb : KeepTL H H1 := .butD S.d3 b1
      have obH := b1 _ _ S.ob (nd S.ob (by intro z w; cases w))
      rcases hst with ⟨rfl, hdu⟩ | ⟨rfl, x0, hdu⟩
      · obtain rfl : V.ref e0 = b := Option.some.inj h2
        have s1 := s1 (.tup [.int ((0 : Nat) : Int), .ref e0])
        have E1 := (E0.keep kb).keep (.of s1)
        refine ⟨u, _, rfl, SqT.of upd_same, rfl, _, _, rfl, _, _, rfl, rfl, ?_⟩
        refine ⟨_, rfl, e0, rfl, .inl ⟨f0, E1, fun H3 s3 => ⟨_, rfl, ifF rfl ?_⟩⟩⟩
        have s13 := s1.trans s3
        obtain ⟨pa, oa, ra, ps, qs, rs, A3⟩ := E1.keep (.of s3)
        have ob3 := s13 _ _ obH
        have d3 := s13 _ _ hdu
        refine ⟨_, rfl, _, _, _, _, rfl, rfl, SqT.of A3.he, at0, _, rfl, p, _, dx, fs, _, rfl, ob3, T.c_Source, T.n_Source_functions, S.f3, du, none, rfl, DGet.k (k := Sum.inr f0.nm) d3, _, rfl, iteF ?_⟩
        refine ⟨_, rfl, _, _, _, _, rfl, rfl, SqT.of A3.he, at0, _, rfl, _, _, _, _, rfl, rfl, SqT.of A3.he, at1, _, rfl, _, _, _, _, rfl, rfl, SqT.of A3.he, at2, _, rfl, _, _, _, _, rfl, rfl, SqT.of A3.he, at3, fun x dy nx ny nxy => ?_⟩
        have s4 : Same H3 (upd (upd H3 dy (.own x)) x (.ins (He.ga K "Function") dy [])) := (Same.new ny).trans (Same.new (by rw [upd_ne nxy.symm]; exact nx))
        have A4 := A3.keep (.of s4)
        refine ⟨x, dy, pa, oa, f0.nm, f0.res, ps, qs, f0.ns, f0.ms, rfl, upd_same, A4.hpa, A4.p1, A4.hoa, A4.p2, A4.nd, A4.l1, A4.l2, fun H5 ta va gs ps' b5 F5 hva => ⟨rfl, ?_⟩⟩
        have s15 : Same H1 H5 := fun b o q => b5 b o (s4 _ _ (s13 _ _ q)) (ne_of_none (s13 _ _ q) nx)
        have A5 := (((E0.keep kb).keep (.of s15)))
        obtain ⟨pa2, oa2, ra2, ps2, qs2, rs2, A5⟩ := A5
        have d5 := s15 _ _ hdu
        refine ⟨_, rfl, p, _, dx, fs, _, rfl, s15 _ _ obH, T.c_Source, T.n_Source_functions, S.f3, _, rfl, _, _, _, _, rfl, rfl, SqT.of A5.he, at0, du, _, rfl, DPut.k (k := Sum.inr f0.nm) d5 (sz_lt (by show 0 < 100000; decide)), ?_⟩
        refine ⟨by omega, _, _, rfl, fun b u q n => ?_, .inr ⟨rfl, x, ?_⟩⟩
        · rw [upd_ne (fun z => n (by rw [z]; exact List.mem_singleton_self _))]
          exact s15 _ _ (b1 _ _ q n)
        · rw [upd_same]
          rfl
      · obtain rfl : V.ref e1 = b := Option.some.inj h2
        have s1 := s1 (.tup [.int ((1 : Nat) : Int), .ref e1])
        have Bd := (Bad.keep kb).keep (.of s1)
        refine ⟨u, _, rfl, SqT.of upd_same, rfl, _, _, rfl, _, _, rfl, rfl, ?_⟩
        have fin : ∀ (H3 : Hp), H3 = H3 → True := fun _ _ => trivial
        rcases Bd with Z | ⟨f1, E1, en⟩
        · refine ⟨_, rfl, e1, rfl, .inr ⟨Z, fun H3 s3 => ⟨_, rfl, ifT rfl ?_⟩⟩⟩
          have s13 := s1.trans s3
          exact ⟨_, rfl, sz_of (by show 1 ≤ 100000; decide), fun t ht => ⟨by show 2 ≤ 1000; decide, fun a hn => src_made hn T.errS fun d n => kE _ t (fun b o q m => Same.new ht _ _ (s13 _ _ (b1 _ _ q m))) upd_same d n⟩⟩
        · refine ⟨_, rfl, e1, rfl, .inl ⟨f1, E1, fun H3 s3 => ⟨_, rfl, ifF rfl ?_⟩⟩⟩
          have s13 := s1.trans s3
          obtain ⟨pa, oa, ra, ps, qs, rs, A3⟩ := E1.keep (.of s3)
          have ob3 := s13 _ _ obH
          have d3 := s13 _ _ hdu
          have g3 := DGet.k (k := Sum.inr f1.nm) d3
          have ev : valV [((Sum.inr f0.nm : Key), V.ref x0)] (Sum.inr f1.nm : Key) = some (.ref x0) := by
            rw [en]
            unfold valV
            rw [List.find?_cons_of_pos (by simp)]
            rfl
          rw [ev] at g3
          refine ⟨_, rfl, _, _, _, _, rfl, rfl, SqT.of A3.he, at0, _, rfl, p, _, dx, fs, _, rfl, ob3, T.c_Source, T.n_Source_functions, S.f3, du, some (.ref x0), rfl, g3, _, rfl, iteT ?_⟩
          exact ⟨_, rfl, sz_of (by show 1 ≤ 100000; decide), fun t ht => ⟨by show 2 ≤ 1000; decide, fun a hn => src_made hn T.errS fun d n => kE _ t (fun b o q m => Same.new ht _ _ (s13 _ _ (b1 _ _ q m))) upd_same d n⟩⟩
    · rintro σ H1 ⟨h, _⟩
      exact absurd h (by simp)

end
end W5
set_option Elab.async false
set_option linter.all false
set_option maxRecDepth 100000
set_option maxHeartbeats 4000000
namespace W5
open PySem PySem.Spec PyProof.Rows L2 RZ
section
variable {P : Program} {w : World} {K : PySem.W.Frag} {mg : Str → Option Value} {base : Heap}

def spSrcInitE (K : PySem.W.Frag) : Sp := fun vs H _ E => ∃ (p dx ca fa : Addr) (cl : ClsT), vs = [.ref p, .ref ca, .ref fa] ∧ H p = some (.ins (He.ga K "Source") dx []) ∧ (∃ es : List Addr, H ca = some (.lst (es.map V.ref)) ∧ es.length = cl.length ∧ ∀ (i : Nat) e c, es[i]? = some e → cl[i]? = some c → ClsG H e c) ∧ ClsOk cl ∧
  ((H fa = some (.lst []) ∧ ∀ H', But p H H' → SrcE K H' (.str "functions") (.int (-1)) E) ∨
    ∃ (e0 e1 : Addr) (f0 : FdT), H fa = some (.lst [.ref e0, .ref e1]) ∧ EntryAt H e0 f0 ∧ BadHead H f0 e1 ∧ ∀ (H' : Hp) (t : Addr), But p H H' → H' t = some (.tup [.int 1]) → SrcE K H' (.str "functions") (.ref t) E)
theorem okS_Source_init {fd : FuncData} (T : Ctx w K mg) (F : FunD K "__init__" "Source.__init__" (defArgs s_Source_init) (defBody s_Source_init) (defScope s_Source_init) [] [] (He.ma K (He.ga K "Source") "__init__") fd) (H_Source_take_classes : HasM P w K mg base 4 "Source" "_take_classes" ["self", "classes"] (spTakeCM K)) (H_Source_take_heads : HasM P w K mg base 6 "Source" "_take_heads" ["self", "functions"] (spTakeHG K)) (H_Source_take_rows : HasM P w K mg base 7 "Source" "_take_rows" ["self", "k", "function", "rows"] (spTakeRG K)) : FnOk P w K mg base CX0 8 (He.ma K (He.ga K "Source") "__init__") fd ["self", "classes", "functions"] (spSrcInitG K) := by
  obtain ⟨fd_Source_take_classes, G_Source_take_classes, b_Source_take_classes⟩ := H_Source_take_classes.ex
  obtain ⟨fd_Source_take_heads, G_Source_take_heads, b_Source_take_heads⟩ := H_Source_take_heads.ex
  obtain ⟨fd_Source_take_rows, G_Source_take_rows, b_Source_take_rows⟩ := H_Source_take_rows.ex
  refine F.ok sc_Source_init (fun vs H Q E h => ?_) (fun cdv A outer s H vs Q E hr h => ?_)
  · obtain ⟨p, dx, ca, fa, cl, fds, rfl, hp, HR, k⟩ := h; rfl
  · obtain ⟨p, dx, ca, fa, cl, fds, rfl, hp, HR, k⟩ := h
    have hr_Source_take_classes : Room 4 _ := hr.mono (by decide)
    have hr_Source_take_heads : Room 6 _ := hr.mono (by decide)
    have hr_Source_take_rows : Room 7 _ := hr.mono (by decide)
    have hu := hu_of hr
    refine ⟨_, PSs.nox (pss_cons (ps_fld (pv 0) pe_dnewK rfl)
      (pss_cons (ps_fld (pv 0) pe_dnewK rfl)
      (pss_cons (ps_fld (pv 0) pe_dnewK rfl)
      (pss_cons (ps_expr (pe_meth (pv 0) T.c_Source T.m_Source_take_classes G_Source_take_classes hr_Source_take_classes b_Source_take_classes .nil pass0 (pa_cons (pv 1) pa_nil)))
      (pss_cons (ps_expr (pe_meth (pv 0) T.c_Source T.m_Source_take_heads G_Source_take_heads hr_Source_take_heads b_Source_take_heads .nil pass0 (pa_cons (pv 2) pa_nil)))
      (pss_one (ps_for PassesOwn.never rfl (pi_enum (by rfl) T.f_enumerate (pa_cons (pv 2) pa_nil)) (pg_tup rfl (pgs_cons (pg_name (i := 3) sc_Source_init.nd rfl (Or.inl rfl)) (pgs_cons (pg_name (i := 4) sc_Source_init.nd rfl (Or.inl rfl)) pgs_nil)))
      (pss_one (ps_expr (pe_meth (pv 0) T.c_Source T.m_Source_take_rows G_Source_take_rows hr_Source_take_rows b_Source_take_rows .nil pass0 (pa_cons (pv 3) (pa_cons (pe_dget hu (pe_fldK (K := K) rfl (pv 0) (by rfl)) (pe_ix ix_tup (pv 4) pe_int (fun _ _ => rfl)) (fun _ _ => rfl)) (pa_cons (pe_ix ix_tup (pv 4) pe_int (fun _ _ => rfl)) pa_nil))))))))))))), ?_⟩
    intro d1 hd1
    have nd1 : d1 ≠ p := (ne_of_none hp hd1).symm
    refine ⟨_, rfl, p, _, dx, _, rfl, Same.new hd1 _ _ hp, T.c_Source, T.n_Source_field_kinds, few pf0, ?_⟩
    have b1 : But p H (upd (upd H d1 (.dK [])) p (.ins (He.ga K "Source") dx (putF "_field_kinds" (.ref d1) []))) := (But.of (Same.new hd1)).trans But.upd
    intro d2 hd2
    have nd2 : d2 ≠ p := fun z => by rw [z, upd_same] at hd2; cases hd2
    have n21 : d2 ≠ d1 := fun z => by rw [z, upd_ne nd1, upd_same] at hd2; cases hd2
    refine ⟨_, rfl, p, _, dx, _, rfl, Same.new hd2 _ _ upd_same, T.c_Source, T.n_Source_fields, few (pl1 pf0), ?_⟩
    have b2 := b1.trans ((But.of (Same.new (o := .dK []) hd2)).trans (But.upd (o := .ins (He.ga K "Source") dx (putF "_fields" (.ref d2) (putF "_field_kinds" (.ref d1) [])))))
    intro d3 hd3
    have nd3 : d3 ≠ p := fun z => by rw [z, upd_same] at hd3; cases hd3
    have n32 : d3 ≠ d2 := fun z => by rw [z, upd_ne nd2, upd_same] at hd3; cases hd3
    have n31 : d3 ≠ d1 := fun z => by rw [z, upd_ne nd1, upd_ne n21.symm, upd_ne nd1, upd_same] at hd3; cases hd3
    refine ⟨_, rfl, p, _, dx, _, rfl, Same.new hd3 _ _ upd_same, T.c_Source, T.n_Source_functions, few (pl1 (pl1 pf0)), ?_⟩
    have b3 := b2.trans ((But.of (Same.new (o := .dK []) hd3)).trans (But.upd (o := .ins (He.ga K "Source") dx (putF "_functions" (.ref d3) (putF "_fields" (.ref d2) (putF "_field_kinds" (.ref d1) []))))))
    generalize hH3 : upd (upd (upd (upd (upd (upd H d1 (.dK [])) p (.ins (He.ga K "Source") dx (putF "_field_kinds" (.ref d1) []))) d2 (.dK [])) p (.ins (He.ga K "Source") dx (putF "_fields" (.ref d2) (putF "_field_kinds" (.ref d1) [])))) d3 (.dK [])) p (.ins (He.ga K "Source") dx (putF "_functions" (.ref d3) (putF "_fields" (.ref d2) (putF "_field_kinds" (.ref d1) [])))) = H3 at b3 ⊢
    have S3 : SrcG K H3 p dx d2 d1 d3 (putF "_functions" (.ref d3) (putF "_fields" (.ref d2) (putF "_field_kinds" (.ref d1) []))) [] [] [] := by
      subst hH3
      refine ⟨upd_same, rfl, rfl, rfl, fun m hm => ?_, ?_, ?_, ?_⟩
      · simp only [List.mem_cons, List.not_mem_nil, or_false] at hm
        rcases hm with rfl | rfl | rfl | rfl | rfl | rfl | rfl | rfl <;> rfl
      · rw [upd_ne nd2, upd_ne n32.symm, upd_ne nd2, upd_same]
      · rw [upd_ne nd1, upd_ne n31.symm, upd_ne nd1, upd_ne n21.symm, upd_ne nd1, upd_same]
      · rw [upd_ne nd3, upd_same]
    generalize putF "_functions" (V.ref d3) (putF "_fields" (.ref d2) (putF "_field_kinds" (.ref d1) [])) = fs at S3
    have k3 : KeepTL H H3 := .butF hp b3
    have R3 := HR.keep k3
    clear hH3 b1 b2
    obtain ⟨ces, c1, c2, c3⟩ := R3.cs
    obtain ⟨es, f1, f2, f3⟩ := R3.fn
    refine ⟨_, rfl, p, dx, _, rfl, S3.ob, S3.nm _ (by decide +kernel), _, rfl, ?_⟩
    refine ⟨p, ca, dx, d2, d1, d3, fs, [], cl, ces, rfl, S3, n21, n32, n31, c1, c2, c3, HR.oc, fun H4 qs b4 hqs df4 dk4 => ?_⟩
    have k4 : KeepTL H3 H4 := .butL (fun d m xs => by
      rcases List.mem_cons.mp m with m | m
      · rw [m, S3.d1]
        exact ⟨(by intro z; cases z), (by intro z; cases z)⟩
      · rw [List.mem_singleton.mp m, S3.d2]
        exact ⟨(by intro z; cases z), (by intro z; cases z)⟩) b4
    have nin : ∀ {b : Addr}, b ≠ d2 → b ≠ d1 → b ∉ [d2, d1] := fun h1 h2 m => by
      rcases List.mem_cons.mp m with m | m
      · exact h1 m
      · exact h2 (List.mem_singleton.mp m)
    have S4 : SrcG K H4 p dx d2 d1 d3 fs (csM cl qs) (ksM cl) [] := ⟨b4 _ _ S3.ob (nin nd2.symm nd1.symm), S3.f1, S3.f2, S3.f3, S3.nm, df4, dk4, b4 _ _ S3.d3 (nin n32 n31)⟩
    refine ⟨_, rfl, p, dx, _, rfl, S4.ob, S4.nm _ (by decide +kernel), _, rfl, ?_⟩
    refine ⟨p, dx, d2, d1, d3, fa, fs, _, _, es, fds, rfl, S4, k4.2 _ _ f1, f2, fun i e f a b => ((f3 i e f a b).keep k4).entry, HR.nn, HR.l1, HR.l6, fun H5 fps b5 fl hH hfr hnd d5 => ?_⟩
    have k5 : KeepTL H4 H5 := .butD S4.d3 b5
    have n5 : ∀ {b : Addr}, b ≠ d3 → b ∉ [d3] := fun h m => h (List.mem_singleton.mp m)
    have fin : ∀ a ∈ fps, ∃ (dy pa va : Addr) (gs : List (Str × V)) (ps' : List Addr) (f : FdT), FunG K H5 a dy pa va gs ps' f.ns f.ms f.res := fun a m => by
      obtain ⟨j, hj, e⟩ := List.getElem_of_mem m
      have e1 : fps[j]? = some a := by rw [List.getElem?_eq_getElem hj, e]
      have hj2 : j < fds.length := by omega
      obtain ⟨dy, pa, va, gs, ps', _, F⟩ := hH j _ a (List.getElem?_eq_getElem hj2) e1
      exact ⟨dy, pa, va, gs, ps', _, F⟩
    have nfp : ∀ {b : Addr} {u : HO}, H5 b = some u → (∀ dz gz, u ≠ .ins (He.ga K "Function") dz gz) → b ∉ fps := fun q n m => by
      obtain ⟨dy, pa, va, gs, ps', f, F⟩ := fin _ m
      rw [F.ob] at q
      exact n _ _ (Option.some.inj q).symm
    have p4 : H4 p = some (.ins (He.ga K "Source") dx fs) := S4.ob
    have npf : p ∉ fps := fun m => by
      have q := hfr p m
      rw [p4] at q
      cases q
    have S5 : SrcG K H5 p dx d2 d1 d3 fs (csM cl qs) (ksM cl) (usOf fds fps) := ⟨b5 _ _ S4.ob (n5 nd3.symm), S4.f1, S4.f2, S4.f3, S4.nm, b5 _ _ S4.d1 (n5 n32.symm), b5 _ _ S4.d2 (n5 n31.symm), d5⟩
    have k35 := k4.trans k5
    have fa5 := k35.2 _ _ f1
    have hlr : (es.map V.ref).length = fds.length := by rw [List.length_map, f2]
    refine ⟨_, rfl, fa, _, rfl, SqL.of fa5, ?_⟩
    refine for_it (walk_enum (K := K) (a := fa) (xs := es.map V.ref)) (fun i σ H1 => ∃ v1 v2 : Option V, σ = [some (.ref p), some (.ref ca), some (.ref fa), v1, v2] ∧ ButL fps H5 H1 ∧ (∀ (j : Nat) f a, fds[j]? = some f → fps[j]? = some a → j < i → ∃ (dy pa va ba : Addr) (gs : List (Str × V)) (ps' rs' : List Addr), FunB K H1 a dy pa va ba gs ps' rs' f) ∧
      (∀ (j : Nat) f a, fds[j]? = some f → fps[j]? = some a → i ≤ j → ∃ (dy pa va : Addr) (gs : List (Str × V)) (ps' : List Addr), FunG K H1 a dy pa va gs ps' f.ns f.ms f.res)) ⟨none, none, rfl, fun b u q _ => q, fun j f a _ _ h => absurd h (Nat.not_lt_zero j), fun j f a e1 e2 _ => by
        obtain ⟨dy, pa, va, gs, ps', _, F⟩ := hH j f a e1 e2
        exact ⟨dy, pa, va, gs, ps', F⟩⟩ (fun i σ H1 _ ⟨_, _, _, b6, _⟩ => SqL.of (b6 _ _ fa5 (nfp fa5 (by intro _ _ z; cases z)))) ?_ ?_
    · rintro i y σ H1 H2 hi ⟨v1, v2, rfl, b6, hB, hG⟩ ⟨u, a, b, rfl, hu0, rfl, h1, h2⟩
      have h2 : (es.map V.ref)[i]? = some b := h2
      obtain rfl : V.int (i : Nat) = a := Option.some.inj h1
      obtain ⟨e, hc, rfl⟩ := map_get h2
      have hif : i < fds.length := by rw [hlr] at hi; exact hi
      have hf : fds[i]? = some fds[i] := List.getElem?_eq_getElem hif
      have hip : i < fps.length := by omega
      have ha : fps[i]? = some fps[i] := List.getElem?_eq_getElem hip
      have hfm : fds[i] ∈ fds := List.getElem_mem hif
      have k6 : KeepTL H5 H1 := .butL (fun d m xs => by
        obtain ⟨dy, pa, va, gs, ps', f, F⟩ := fin _ m
        rw [F.ob]
        exact ⟨(by intro z; cases z), (by intro z; cases z)⟩) b6
      obtain ⟨pa, oa, ra, pp, qq, rs, E3, RR3⟩ := f3 i e _ hc hf
      have k36 := k35.trans k6
      have E1 := E3.keep k36
      have RR1 := RR3.keep k36
      have s1 : Same H1 (upd H1 u (.tup [.int (i : Nat), .ref e])) := Same.new hu0
      have S1 : SrcG K H1 p dx d2 d1 d3 fs (csM cl qs) (ksM cl) (usOf fds fps) := ⟨b6 _ _ S5.ob npf, S5.f1, S5.f2, S5.f3, S5.nm, b6 _ _ S5.d1 (nfp S5.d1 (by intro _ _ z; cases z)), b6 _ _ S5.d2 (nfp S5.d2 (by intro _ _ z; cases z)), b6 _ _ S5.d3 (nfp S5.d3 (by intro _ _ z; cases z))⟩
      have S2 := S1.mono s1
      have E2 := E1.keep (.of s1)
      have RR2 := RR1.mono s1
      obtain ⟨dy, ta, va, gs, ps', F0⟩ := hG i _ _ hf ha (Nat.le_refl _)
      have F2 := F0.mono s1
      have O := HR.ok _ hfm
      have hLen : rs.length = fds[i].rws.length := RR1.len
      refine ⟨u, _, rfl, SqT.of upd_same, rfl, _, _, rfl, _, _, rfl, rfl, ?_⟩
      refine ⟨_, rfl, p, dx, _, rfl, S2.ob, S2.nm _ (by decide +kernel), _, rfl, _, rfl, p, _, dx, _, _, rfl, S2.ob, T.c_Source, T.n_Source_functions, S2.f3, _, rfl, _, _, _, _, rfl, rfl, SqT.of E2.he, at0, d3, .ref fps[i], rfl, ?_, ?_⟩
      · have q := DGet.k (k := Sum.inr fds[i].nm) S2.d3
        rw [us_at HR.nn hf ha] at q
        exact q
      refine ⟨_, rfl, _, _, _, _, rfl, rfl, SqT.of E2.he, at4, ?_⟩
      have hHead : ∀ (j : Nat) (g : FdT), fds[j]? = some g → ∃ a dx pa fs ps, fps[j]? = some a ∧ HeadG K (upd H1 u (.tup [.int (i : Nat), .ref e])) a dx pa fs ps g.ns g.res := fun j g ej => by
        have hj : j < fps.length := by
          have := (List.getElem?_eq_some_iff.mp ej).1
          omega
        have aj : fps[j]? = some fps[j] := List.getElem?_eq_getElem hj
        have lj := (HR.ok g (List.mem_of_getElem? ej)).l1
        by_cases c : j < i
        · obtain ⟨dz, pz, vz, bz, gz, psz, rsz, Fz⟩ := hB j g _ ej aj c
          exact ⟨_, _, _, _, _, aj, (Fz.mono s1).head lj⟩
        · obtain ⟨dz, pz, vz, gz, psz, Fz⟩ := hG j g _ ej aj (by omega)
          exact ⟨_, _, _, _, _, aj, (Fz.mono s1).head lj⟩
      refine ⟨p, fps[i], dy, va, ra, (i : Nat), gs, _, _, _, _, _, rs, fds[i].rws, rfl, ⟨dx, d2, d1, d3, fs, S2⟩, F2.few, ⟨F2.ob, F2.f3, F2.f2, F2.vd⟩, E2.hra, RR2, fun j c r l e1 e2 e3 => ?_, fun r m => ⟨O.kinds HR.nn HR.ok hHead (O.rows r m), O.names (O.rows r m), O.ok.ok r m⟩, O.ok.last, O.ok.le, fun H7 q qs b7 F7 t7 q7 => ?_⟩
      · obtain ⟨l2, q1, q2⟩ := RR2.at_ j c r e1 e2
        refine O.form HR.nn fl HR.oc.nd hqs (O.rows r (List.mem_of_getElem? e2)) fun bs hb => ?_
        have el : l2 = l ∨ r.args = none := by
          cases r with
          | call x F as =>
            left
            rw [q1] at e3
            have := (HO.tup.inj (Option.some.inj e3))
            simp [Rx.parts] at this
            exact this
          | _ => exact .inr rfl
        rcases el with rfl | el
        · exact q2 bs hb
        · rw [el] at hb
          cases hb
      · have ob2 := F2.ob
        refine ⟨_, _, rfl, fun b u q n => ?_, fun j f a e1 e2 hj => ?_, fun j f a e1 e2 hj => ?_⟩
        · exact b7 _ _ (s1 _ _ (b6 _ _ q n)) fun z => n (by rw [z]; exact List.getElem_mem hip)
        · by_cases c : j = i
          · subst c
            rw [hf] at e1
            rw [ha] at e2
            have ef := Option.some.inj e1
            have ea := Option.some.inj e2
            subst ef
            subst ea
            refine ⟨dy, ta, va, q, _, ps', qs, F7.ob, ?_, F7.res, F7.vars, ?_, ?_, b7.tupP ob2 F2.d1, b7.pairsG ob2 F2.pr, F7.vd, t7, q7⟩
            · rw [lookup_putF, if_neg (by decide +kernel)]
              exact F2.f1
            · rw [lookup_putF, if_pos rfl]
            · rw [lookup_putF, lookup_putF, if_neg (by decide +kernel), if_neg (by decide +kernel)]
              exact F2.nohas
          · obtain ⟨dz, pz, vz, bz, gz, psz, rsz, Fz⟩ := hB j f a e1 e2 (by omega)
            refine ⟨dz, pz, vz, bz, gz, psz, rsz, (Fz.mono s1).but ob2 (fun z => c ?_) b7⟩
            exact (List.getElem?_inj (List.getElem?_eq_some_iff.mp e2).1 hnd).mp (by rw [e2, z, ha])
        · obtain ⟨dz, pz, vz, gz, psz, Fz⟩ := hG j f a e1 e2 (by omega)
          refine ⟨dz, pz, vz, gz, psz, (Fz.mono s1).but ob2 (fun z => ?_) b7⟩
          have := (List.getElem?_inj (List.getElem?_eq_some_iff.mp e2).1 hnd).mp (show fps[j]? = fps[i]? by rw [e2, z, ha])
          omega
    · rintro σ H1 ⟨v1, v2, rfl, b6, hB, hG⟩
      rw [hlr] at hB
      have S1 : SrcG K H1 p dx d2 d1 d3 fs (csM cl qs) (ksM cl) (usOf fds fps) := ⟨b6 _ _ S5.ob npf, S5.f1, S5.f2, S5.f3, S5.nm, b6 _ _ S5.d1 (nfp S5.d1 (by intro _ _ z; cases z)), b6 _ _ S5.d2 (nfp S5.d2 (by intro _ _ z; cases z)), b6 _ _ S5.d3 (nfp S5.d3 (by intro _ _ z; cases z))⟩
      refine k H1 (fun b o q n => ?_) ⟨fps, qs, hqs, ⟨dx, d2, d1, d3, fs, S1⟩, fl, fun j f a e1 e2 => hB j f a e1 e2 (List.getElem?_eq_some_iff.mp e1).1⟩
      have old : ∀ {d : Addr}, H d = none → b ≠ d := fun hd z => by
        rw [z, hd] at q
        cases q
      have q3 := b3 _ _ q n
      have m1 : b ≠ d1 := old hd1
      have m2 : b ≠ d2 := fun z => by
        rw [upd_ne nd2] at hd2
        by_cases w : d2 = d1
        · exact n21 w
        · rw [upd_ne w] at hd2
          exact old hd2 z
      have m3 : b ≠ d3 := fun z => by
        rw [upd_ne nd3, upd_ne n32, upd_ne nd3, upd_ne n31] at hd3
        exact old hd3 z
      have q4 := b4 _ _ q3 (nin m2 m1)
      have q5 := b5 _ _ q4 (n5 m3)
      exact b6 _ _ q5 fun m => by
        have := hfr b m
        rw [q4] at this
        cases this
theorem okE_Source_init {fd : FuncData} (T : Ctx w K mg) (F : FunD K "__init__" "Source.__init__" (defArgs s_Source_init) (defBody s_Source_init) (defScope s_Source_init) [] [] (He.ma K (He.ga K "Source") "__init__") fd) (H_Source_take_classes : HasM P w K mg base 4 "Source" "_take_classes" ["self", "classes"] (spTakeCM K)) (H_Source_take_heads : HasMX P w K mg base 6 "Source" "_take_heads" ["self", "functions"] (spHeadsE K)) (H_Source_take_rows : HasM P w K mg base 7 "Source" "_take_rows" ["self", "k", "function", "rows"] (spTakeRG K)) : FnOk P w K mg base (L2.CX P w) 8 (He.ma K (He.ga K "Source") "__init__") fd ["self", "classes", "functions"] (spSrcInitE K) := by
  obtain ⟨fd_Source_take_classes, G_Source_take_classes, b_Source_take_classes⟩ := H_Source_take_classes.ex
  obtain ⟨fd_Source_take_heads, G_Source_take_heads, b_Source_take_heads⟩ := H_Source_take_heads.ex
  obtain ⟨fd_Source_take_rows, G_Source_take_rows, b_Source_take_rows⟩ := H_Source_take_rows.ex
  refine F.ok sc_Source_init (fun vs H Q E h => ?_) (fun cdv A outer s H vs Q E hr h => ?_)
  · obtain ⟨p, dx, ca, fa, cl, rfl, hp, HC, OC, k⟩ := h; rfl
  · obtain ⟨p, dx, ca, fa, cl, rfl, hp, HC, OC, k⟩ := h
    have hr_Source_take_classes : Room 4 _ := hr.mono (by decide)
    have hr_Source_take_heads : Room 6 _ := hr.mono (by decide)
    have hr_Source_take_rows : Room 7 _ := hr.mono (by decide)
    have hu := hu_of hr
    refine ⟨_, (pss_cons (ps_fld (pv 0) pe_dnewK rfl)
      (pss_cons (ps_fld (pv 0) pe_dnewK rfl)
      (pss_cons (ps_fld (pv 0) pe_dnewK rfl)
      (pss_cons (ps_expr (pe_meth (pv 0) T.c_Source T.m_Source_take_classes G_Source_take_classes hr_Source_take_classes b_Source_take_classes .nil pass0 (pa_cons (pv 1) pa_nil)))
      (pss_cons (ps_expr (pe_meth (pv 0) T.c_Source T.m_Source_take_heads G_Source_take_heads hr_Source_take_heads b_Source_take_heads .nil (passes_call (takes_of rfl rfl rfl rfl) (fun _ _ _ _ h => h)) (pa_cons (pv 2) pa_nil)))
      (pss_one (ps_for (passes_of rfl) rfl (pi_enum (by rfl) T.f_enumerate (pa_cons (pv 2) pa_nil)) (pg_tup rfl (pgs_cons (pg_name (i := 3) sc_Source_init.nd rfl (Or.inl rfl)) (pgs_cons (pg_name (i := 4) sc_Source_init.nd rfl (Or.inl rfl)) pgs_nil)))
      (pss_one (ps_expr (pe_meth (pv 0) T.c_Source T.m_Source_take_rows G_Source_take_rows hr_Source_take_rows b_Source_take_rows .nil pass0 (pa_cons (pv 3) (pa_cons (pe_dget hu (pe_fldK (K := K) rfl (pv 0) (by rfl)) (pe_ix ix_tup (pv 4) pe_int (fun _ _ => rfl)) (fun _ _ => rfl)) (pa_cons (pe_ix ix_tup (pv 4) pe_int (fun _ _ => rfl)) pa_nil))))))))))))), ?_⟩
    intro d1 hd1
    have nd1 : d1 ≠ p := (ne_of_none hp hd1).symm
    refine ⟨_, rfl, p, _, dx, _, rfl, Same.new hd1 _ _ hp, T.c_Source, T.n_Source_field_kinds, few pf0, ?_⟩
    have b1 : But p H (upd (upd H d1 (.dK [])) p (.ins (He.ga K "Source") dx (putF "_field_kinds" (.ref d1) []))) := (But.of (Same.new hd1)).trans But.upd
    intro d2 hd2
    have nd2 : d2 ≠ p := fun z => by rw [z, upd_same] at hd2; cases hd2
    have n21 : d2 ≠ d1 := fun z => by rw [z, upd_ne nd1, upd_same] at hd2; cases hd2
    refine ⟨_, rfl, p, _, dx, _, rfl, Same.new hd2 _ _ upd_same, T.c_Source, T.n_Source_fields, few (pl1 pf0), ?_⟩
    have b2 := b1.trans ((But.of (Same.new (o := .dK []) hd2)).trans (But.upd (o := .ins (He.ga K "Source") dx (putF "_fields" (.ref d2) (putF "_field_kinds" (.ref d1) [])))))
    intro d3 hd3
    have nd3 : d3 ≠ p := fun z => by rw [z, upd_same] at hd3; cases hd3
    have n32 : d3 ≠ d2 := fun z => by rw [z, upd_ne nd2, upd_same] at hd3; cases hd3
    have n31 : d3 ≠ d1 := fun z => by rw [z, upd_ne nd1, upd_ne n21.symm, upd_ne nd1, upd_same] at hd3; cases hd3
    refine ⟨_, rfl, p, _, dx, _, rfl, Same.new hd3 _ _ upd_same, T.c_Source, T.n_Source_functions, few (pl1 (pl1 pf0)), ?_⟩
    have b3 := b2.trans ((But.of (Same.new (o := .dK []) hd3)).trans (But.upd (o := .ins (He.ga K "Source") dx (putF "_functions" (.ref d3) (putF "_fields" (.ref d2) (putF "_field_kinds" (.ref d1) []))))))
    generalize hH3 : upd (upd (upd (upd (upd (upd H d1 (.dK [])) p (.ins (He.ga K "Source") dx (putF "_field_kinds" (.ref d1) []))) d2 (.dK [])) p (.ins (He.ga K "Source") dx (putF "_fields" (.ref d2) (putF "_field_kinds" (.ref d1) [])))) d3 (.dK [])) p (.ins (He.ga K "Source") dx (putF "_functions" (.ref d3) (putF "_fields" (.ref d2) (putF "_field_kinds" (.ref d1) [])))) = H3 at b3 ⊢
    have S3 : SrcG K H3 p dx d2 d1 d3 (putF "_functions" (.ref d3) (putF "_fields" (.ref d2) (putF "_field_kinds" (.ref d1) []))) [] [] [] := by
      subst hH3
      refine ⟨upd_same, rfl, rfl, rfl, fun m hm => ?_, ?_, ?_, ?_⟩
      · simp only [List.mem_cons, List.not_mem_nil, or_false] at hm
        rcases hm with rfl | rfl | rfl | rfl | rfl | rfl | rfl | rfl <;> rfl
      · rw [upd_ne nd2, upd_ne n32.symm, upd_ne nd2, upd_same]
      · rw [upd_ne nd1, upd_ne n31.symm, upd_ne nd1, upd_ne n21.symm, upd_ne nd1, upd_same]
      · rw [upd_ne nd3, upd_same]
    generalize putF "_functions" (V.ref d3) (putF "_fields" (.ref d2) (putF "_field_kinds" (.ref d1) [])) = fs at S3
    have k3 : KeepTL H H3 := .butF hp b3
    clear hH3 b1 b2
    obtain ⟨ces, c1, c2, c3⟩ := HC
    have c1 := k3.2 _ _ c1
    have c3 : ∀ (i : Nat) e c, ces[i]? = some e → cl[i]? = some c → ClsG H3 e c := fun i e c a b => (c3 i e c a b).keep k3
    refine ⟨_, rfl, p, dx, _, rfl, S3.ob, S3.nm _ (by decide +kernel), _, rfl, ?_⟩
    refine ⟨p, ca, dx, d2, d1, d3, fs, [], cl, ces, rfl, S3, n21, n32, n31, c1, c2, c3, OC, fun H4 qs b4 hqs df4 dk4 => ?_⟩
    have k4 : KeepTL H3 H4 := .butL (fun d m xs => by
      rcases List.mem_cons.mp m with m | m
      · rw [m, S3.d1]
        exact ⟨(by intro z; cases z), (by intro z; cases z)⟩
      · rw [List.mem_singleton.mp m, S3.d2]
        exact ⟨(by intro z; cases z), (by intro z; cases z)⟩) b4
    have nin : ∀ {b : Addr}, b ≠ d2 → b ≠ d1 → b ∉ [d2, d1] := fun h1 h2 m => by
      rcases List.mem_cons.mp m with m | m
      · exact h1 m
      · exact h2 (List.mem_singleton.mp m)
    have S4 : SrcG K H4 p dx d2 d1 d3 fs (csM cl qs) (ksM cl) [] := ⟨b4 _ _ S3.ob (nin nd2.symm nd1.symm), S3.f1, S3.f2, S3.f3, S3.nm, df4, dk4, b4 _ _ S3.d3 (nin n32 n31)⟩
    refine ⟨_, rfl, p, dx, _, rfl, S4.ob, S4.nm _ (by decide +kernel), _, rfl, ?_⟩
    refine ⟨p, dx, d2, d1, d3, fa, fs, _, _, rfl, S4, ?_⟩
    have k34 := k3.trans k4
    have old : ∀ {b d : Addr} {o : HO}, H b = some o → H d = none → b ≠ d := fun q hd z => by
      rw [z, hd] at q
      cases q
    have hd2H : H d2 = none := by
      rw [upd_ne nd2] at hd2
      by_cases w : d2 = d1
      · exact absurd w n21
      · rw [upd_ne w] at hd2
        exact hd2
    have hd3H : H d3 = none := by
      rw [upd_ne nd3, upd_ne n32, upd_ne nd3, upd_ne n31] at hd3
      exact hd3
    have b34 : But p H H4 := fun b o q n => b4 _ _ (b3 _ _ q n) (nin (old q hd2H) (old q hd1))
    rcases k with ⟨h1, kE⟩ | ⟨e0, e1, f0, h1, h2, h3, kE⟩
    · exact .inl ⟨k34.2 _ _ h1, kE _ b34⟩
    · exact .inr ⟨e0, e1, f0, k34.2 _ _ h1, h2.keep k34, h3.keep k34, fun H' t b5 => kE H' t fun b o q n => b5 _ _ (b34 _ _ q n) fun m => old q hd3H (List.mem_singleton.mp m)⟩
/-- making a Source: it is made, or its functions are refused -/
def spSrcB (K : PySem.W.Frag) : Sp := fun vs H Q E => spSrcInitG K vs H Q E ∨ spSrcInitE K vs H Q E
theorem okB_Source_init (T : Ctx w K mg) (h1 : HasM P w K mg base 4 "Source" "_take_classes" ["self", "classes"] (spTakeCM K)) (h2 : HasM P w K mg base 6 "Source" "_take_heads" ["self", "functions"] (spTakeHG K)) (h3 : HasM P w K mg base 7 "Source" "_take_rows" ["self", "k", "function", "rows"] (spTakeRG K)) (h4 : HasMX P w K mg base 6 "Source" "_take_heads" ["self", "functions"] (spHeadsE K)) :
    HasMX P w K mg base 8 "Source" "__init__" ["self", "classes", "functions"] (spSrcB K) := by
  obtain ⟨fd, F⟩ := T.D_Source_init
  exact ⟨⟨fd, W5.FnOk.or (W5.FnOk.up (okS_Source_init T F h1 h2 h3)) (okE_Source_init T F h1 h4 h3), F.bindsN fun _ _ _ _ _ _ us hl => match us, hl with | [_, _, _], _ => rfl⟩⟩

end
end W5
set_option Elab.async false
set_option linter.all false
set_option maxRecDepth 100000
set_option maxHeartbeats 4000000
namespace W5
open PySem PySem.Spec PyProof.Rows L2 RZ
section
variable {P : Program} {w : World} {K : PySem.W.Frag} {mg : Str → Option Value} {base : Heap}

/-- lines taken, one behind the other -/
def runL (st : TSt) : List (Bool × List Str) → Option TSt
  | [] => some st
  | l :: ls => (step st l).bind fun s => runL s ls
theorem runL_snoc {l : Bool × List Str} : ∀ (ls : List (Bool × List Str)) (st : TSt), runL st (ls ++ [l]) = (runL st ls).bind fun s => step s l
  | [], st => by
    show (step st l).bind (fun s => runL s []) = step st l
    cases step st l <;> rfl
  | x :: ls, st => by
    show (step st x).bind (fun s => runL s (ls ++ [l])) = ((step st x).bind fun s => runL s ls).bind fun s => step s l
    cases step st x with
    | none => rfl
    | some s => exact runL_snoc ls s
structure SmallN (n : Nat) (st : TSt) : Prop where
  c : st.cls.length ≤ n
  f : st.fns.length ≤ n
  r : ∀ f ∈ st.fns, f.rws.length ≤ n
theorem fnOf_rws {ws : List Str} {f : PFn} (h : fnOf ws = some f) : f.rws = [] := by
  match ws, h with
  | w0 :: w1 :: w2 :: w3 :: ws, h =>
    have h : fnOf4 w0 w1 w2 w3 ws = some f := h
    unfold fnOf4 at h
    split at h
    · cases h
    split at h
    · cases h
    obtain ⟨ns, _, h⟩ := Option.bind_eq_some_iff.mp h
    obtain ⟨ms, _, rfl⟩ := Option.map_eq_some_iff.mp h
    rfl
theorem step_cases {st st' : TSt} {l : Bool × List Str} (h : step st l = some st') : (∃ f r, st.fns.getLast? = some f ∧ st' = st.addRow f r) ∨ (∃ c, st' = st.addCls c) ∨ ∃ f, f.rws = [] ∧ st' = st.addFn f := by
  obtain ⟨b, ws⟩ := l
  cases b with
  | true =>
    rw [step_in] at h
    split at h
    · rename_i r f e1 e2
      exact .inl ⟨f, r, e2, (Option.some.inj h).symm⟩
    · cases h
  | false =>
    rw [step_out] at h
    match ws, h with
    | w0 :: w1 :: ws, h =>
      rw [head_eq] at h
      unfold head2 at h
      split at h
      · cases h
      split at h
      · obtain ⟨c, _, rfl⟩ := Option.map_eq_some_iff.mp h
        exact .inr (.inl ⟨c, rfl⟩)
      split at h
      · obtain ⟨f, hf, rfl⟩ := Option.map_eq_some_iff.mp h
        exact .inr (.inr ⟨f, fnOf_rws hf, rfl⟩)
      · cases h
theorem SmallN.step {n : Nat} {st st' : TSt} {l : Bool × List Str} (s : SmallN n st) (h : W5.step st l = some st') : SmallN (n + 1) st' := by
  rcases step_cases h with ⟨f, r, hf, rfl⟩ | ⟨c, rfl⟩ | ⟨f, hr, rfl⟩
  · obtain ⟨e1, e2, e3⟩ := last_get hf
    refine ⟨by show st.cls.length ≤ n + 1; have := s.c; omega, ?_, fun g m => ?_⟩
    · show (st.fns.dropLast ++ [f.more r]).length ≤ n + 1
      rw [List.length_append, List.length_dropLast, List.length_singleton]
      have := s.f
      omega
    · rcases List.mem_append.mp (show g ∈ st.fns.dropLast ++ [f.more r] from m) with m | m
      · have := s.r g (List.dropLast_subset _ m)
        omega
      · rw [List.mem_singleton.mp m]
        show (f.rws ++ [r]).length ≤ n + 1
        rw [List.length_append, List.length_singleton]
        have := s.r f (List.mem_of_getElem? e2)
        omega
  · refine ⟨?_, by show st.fns.length ≤ n + 1; have := s.f; omega, fun g m => by have := s.r g m; omega⟩
    show (st.cls ++ [c]).length ≤ n + 1
    rw [List.length_append, List.length_singleton]
    have := s.c
    omega
  · refine ⟨by show st.cls.length ≤ n + 1; have := s.c; omega, ?_, fun g m => ?_⟩
    · show (st.fns ++ [f]).length ≤ n + 1
      rw [List.length_append, List.length_singleton]
      have := s.f
      omega
    · rcases List.mem_append.mp (show g ∈ st.fns ++ [f] from m) with m | m
      · have := s.r g m
        omega
      · rw [List.mem_singleton.mp m, hr]
        exact Nat.zero_le _
/-! ### what was read, as plain data -/
def RowIs (v : RowV) (r : Rx) : Prop := match v.2 with
  | none => r.args = none ∧ ∀ l, v.1 = .str r.word :: r.parts l
  | some ns => r.args = some ns ∧ ns.length ≤ 1000 ∧ ∀ l, v.1 ++ [.ref l] = .str r.word :: r.parts (.ref l)
theorem RowM.raw {M : List Addr} {H : Hp} {a : Addr} {v : RowV} {r : Rx} (h : RowM M H a v) (e : RowIs v r) : ∃ l, H a = some (.tup (.str r.word :: r.parts (.ref l))) ∧ ArgsAt H l r := by
  obtain ⟨vs, m⟩ := v
  cases m with
  | none =>
    obtain ⟨e1, e2⟩ := (show r.args = none ∧ ∀ l, vs = .str r.word :: r.parts l from e)
    refine ⟨0, ?_, fun bs z => by rw [e1] at z; cases z⟩
    rw [← e2 (.ref 0)]
    exact (show At M H a (.tup vs) from h).1
  | some ns =>
    obtain ⟨e1, e3, e2⟩ := (show r.args = some ns ∧ ns.length ≤ 1000 ∧ ∀ l, vs ++ [.ref l] = .str r.word :: r.parts (.ref l) from e)
    obtain ⟨l, h1, h2⟩ := (show ∃ l : Addr, At M H a (.tup (vs ++ [.ref l])) ∧ At M H l (.lst (ns.map V.str)) from h)
    refine ⟨l, ?_, fun bs z => ?_⟩
    · rw [← e2 l]
      exact h1.1
    · rw [e1] at z
      rw [← Option.some.inj z]
      exact ⟨h2.1, e3⟩
structure FnIs (f : PFn) (g : FdT) : Prop where
  nm : f.nm = g.nm
  kd : f.kd = g.res
  ns : f.ns = g.ns
  ms : f.ms = g.ms
  len : f.rws.length = g.rws.length
  rw_ : ∀ (i : Nat) v r, f.rws[i]? = some v → g.rws[i]? = some r → RowIs v r
structure HeadOk (g : FdT) : Prop where
  nf : Nam g.nm
  kd : IsKind g.res
  nam : ∀ q ∈ g.ns ++ g.ms, Nam q.1 ∧ IsKind q.2
  nd : ((g.ns ++ g.ms).map Prod.fst).Nodup
  l1 : g.ns.length ≤ 4
  l2 : g.ms.length ≤ 8
theorem PairsM.g {M : List Addr} {H : Hp} {as : List Addr} {ps : List (Str × Str)} (h : PairsM M H as ps) : PairsG H as ps := ⟨h.1, fun i p q a b => (h.2 i p q a b).1⟩
theorem ClsM.g {M : List Addr} {H : Hp} {e : Addr} {c : Str × List (Str × Str)} (h : ClsM M H e c) : ClsG H e c := by
  obtain ⟨la, as, h1, h2, h3⟩ := h
  exact ⟨la, as, h1.1, h2.1, h3.g⟩
def RowsM (M : List Addr) (H : Hp) (ra : Addr) (f : PFn) : Prop := ∃ as : List Addr, H ra = some (.lst (as.map V.ref)) ∧ as.length = f.rws.length ∧ ∀ (j : Nat) a r, as[j]? = some a → f.rws[j]? = some r → RowM M H a r
theorem FnM.entryR {M : List Addr} {H : Hp} {e ra : Addr} {f : PFn} {g : FdT} (h : FnM M H e ra f) (r : RowsM M H ra f) (i : FnIs f g) (k : HeadOk g) (h1 : 1 ≤ g.rws.length) (h40 : g.rws.length ≤ 40) : EntryR H e g := by
  obtain ⟨pa, oa, as, bs, q1, q2, q3, q4, q5⟩ := h
  obtain ⟨rs, r1, r2, r3⟩ := r
  have rl : rs.length = g.rws.length := by rw [r2, i.len]
  refine ⟨pa, oa, ra, as, bs, rs, ⟨?_, k.nf, k.kd, q2.1, by rw [← i.ns]; exact q4.g, q3.1, by rw [← i.ms]; exact q5.g, k.nam, k.nd, k.l1, k.l2, r1, by rw [List.length_map]; omega, by rw [List.length_map]; omega⟩, rl, fun j a x e1 e2 => ?_⟩
  · rw [← i.nm, ← i.kd]
    exact q1.1
  · have hj : j < f.rws.length := by
      rw [i.len]
      exact (List.getElem?_eq_some_iff.mp e2).1
    have e3 : f.rws[j]? = some f.rws[j] := List.getElem?_eq_getElem hj
    exact (r3 j a _ e1 e3).raw (i.rw_ j _ _ e3 e2)
theorem FnM.entryZ {M : List Addr} {H : Hp} {e ra : Addr} {f : PFn} {g : FdT} (h : FnM M H e ra f) (r : RowsM M H ra f) (i : FnIs f g) (k : HeadOk g) (h0 : f.rws = []) : EntryZ H e := by
  obtain ⟨pa, oa, as, bs, q1, q2, q3, q4, q5⟩ := h
  obtain ⟨rs, r1, r2, r3⟩ := r
  have e0 : rs = [] := List.length_eq_zero_iff.mp (by rw [r2, h0]; rfl)
  subst e0
  refine ⟨pa, oa, ra, g.nm, g.res, as, bs, g.ns, g.ms, ?_, k.nf, k.kd, q2.1, by rw [← i.ns]; exact q4.g, q3.1, by rw [← i.ms]; exact q5.g, k.nam, k.nd, k.l1, k.l2, r1⟩
  rw [← i.nm, ← i.kd]
  exact q1.1
theorem FdOk.head {cl : ClsT} {fds : List FdT} {f : FdT} (h : FdOk cl fds f) : HeadOk f := ⟨h.nf, h.kd, h.nam, h.nd, h.l1, h.l2⟩
theorem OkG.pos {rws : List Rx} (h : OkG rws) : 1 ≤ rws.length := by
  obtain ⟨r0, rl, e, _⟩ := h.last
  rw [e, List.length_append]
  exact Nat.le_add_left _ _
def FnsIs (fs : List PFn) (gs : List FdT) : Prop := fs.length = gs.length ∧ ∀ (i : Nat) f g, fs[i]? = some f → gs[i]? = some g → FnIs f g
theorem StM.raw {H : Hp} {cl fl : Addr} {rs : List Addr} {st : TSt} {fds : List FdT} (S : StM H cl fl rs st) (oc : ClsOk st.cls) (hf : FnsIs st.fns fds) (nn : (fds.map FdT.nm).Nodup) (l1 : 1 ≤ fds.length) (l6 : fds.length ≤ 6) (ok : ∀ f ∈ fds, FdOk st.cls fds f) : RawSrc H cl fl st.cls fds := by
  obtain ⟨cs, c1, c2, c3⟩ := S.cs
  obtain ⟨es, f1, f2, f3, f4⟩ := S.fs
  refine ⟨⟨cs, c1, c2, fun i e c a b => (c3 i e c a b).g⟩, oc, ⟨es, f1, by rw [f2, hf.1], fun i e g a b => ?_⟩, nn, l1, l6, ok⟩
  have hi : i < st.fns.length := by
    rw [hf.1]
    exact (List.getElem?_eq_some_iff.mp b).1
  have ef : st.fns[i]? = some st.fns[i] := List.getElem?_eq_getElem hi
  have er : rs[i]? = some (rs[i]'(by omega)) := List.getElem?_eq_getElem (by omega)
  have O := ok g (List.mem_of_getElem? b)
  exact (f4 i e _ _ a er ef).entryR (S.rw_ i _ _ er ef) (hf.2 i _ g ef b) O.head O.ok.pos O.ok.le
/-- what a Source of what was read comes to; H: the heap ahead -/
def ToldSrc (K : PySem.W.Frag) (st : TSt) (H : Hp) (Q : VK) (E : XK) : Prop := ClsOk st.cls ∧
  ((∃ fds, FnsIs st.fns fds ∧ (fds.map FdT.nm).Nodup ∧ 1 ≤ fds.length ∧ fds.length ≤ 6 ∧ (∀ f ∈ fds, FdOk st.cls fds f) ∧ ∀ H' p, Same H H' → SrcX K H' p st.cls fds → Q (.ref p) H') ∨
    (st.fns = [] ∧ ∀ H', Same H H' → SrcE K H' (.str "functions") (.int (-1)) E) ∨
    ∃ f0 f1 g0 g1, st.fns = [f0, f1] ∧ FnIs f0 g0 ∧ HeadOk g0 ∧ 1 ≤ g0.rws.length ∧ g0.rws.length ≤ 40 ∧ FnIs f1 g1 ∧ HeadOk g1 ∧ g1.rws.length ≤ 40 ∧ (g1.rws = [] ∨ g1.nm = g0.nm) ∧ ∀ (H' : Hp) (t : Addr), Same H H' → H' t = some (.tup [.int 1]) → SrcE K H' (.str "functions") (.ref t) E)
structure TextOk (t : Str) : Prop where
  len : t.length ≤ 50000
  lines : ∀ l ∈ Txt.split t "\n", l.length ≤ 50000
  ne : Txt.split t "\n" ≠ []
  many : (Txt.split t "\n").length ≤ 50000
  words : ∀ l ∈ told t, (∀ w ∈ l.2, WordOk w) ∧ l.2.length ≤ 50000
def spRead (K : PySem.W.Frag) : Sp := fun vs H Q E => ∃ v, vs = [v] ∧ (((∃ c, (∀ H', Same H H' → TyX K H' v c) ∧ PySem.W.kitOne K c (.type "str") = some false) ∧ ∀ H', Same H H' → LineE K H' (-1) E) ∨
  ∃ t, v = .str t ∧ TextOk t ∧ (∀ (i : Nat) st l, runL ⟨[], []⟩ ((told t).take i) = some st → (told t)[i]? = some l → step st l = none → ∀ H', Same H H' → LineE K H' i E) ∧
    ∀ st, runL ⟨[], []⟩ (told t) = some st → ToldSrc K st H Q E)
theorem told_len {t : Str} (h : Txt.split t "\n" ≠ []) : (told t).length ≤ (Txt.split t "\n").length := by
  have hp : 0 < (Txt.split t "\n").length := List.length_pos_iff.mpr h
  unfold told
  rw [List.length_append, List.length_map, List.length_dropLast]
  split
  · simp
  · simp
    omega

theorem sc_read_source : FnScope ["text", "classes", "functions", "at", "inner", "words"] ["text"] (defScope s_read_source) := ⟨rfl, rfl, rfl, by decide +kernel, rfl, by decide +kernel, by decide +kernel⟩
theorem ok_read_source (T : Ctx w K mg) (H_errT : HasM P w K mg base 1 "InvalidText" "__init__" ["self", "line"] (spTextInit K)) (H_text_lines : HasX P w K mg base 3 "text_lines" ["text"] (spLines K)) (H_takes_line : Has P w K mg base 4 "_takes_line" ["inner", "words", "classes", "functions"] spTakesL) (H_Source_init : HasMX P w K mg base 8 "Source" "__init__" ["self", "classes", "functions"] (spSrcB K)) : HasX P w K mg base 10 "read_source" ["text"] (spRead K) := by
  obtain ⟨fd, F⟩ := T.D_read_source
  obtain ⟨fd_text_lines, G_text_lines, b_text_lines⟩ := H_text_lines.ex
  obtain ⟨fd_takes_line, G_takes_line, b_takes_line⟩ := H_takes_line.ex
  obtain ⟨fd_Source_init, G_Source_init, b_Source_init⟩ := H_Source_init.ex
  refine ⟨⟨fd, F.ok sc_read_source (fun vs H Q E h => ?_) (fun cdv A outer s H vs Q E hr h => ?_), F.bindsN fun _ _ _ _ _ _ us hl => match us, hl with | [_], _ => rfl⟩, F.kp, T.g_read_source⟩
  · obtain ⟨v, rfl, k⟩ := h; rfl
  · obtain ⟨v, rfl, k⟩ := h
    have hr_text_lines : Room 3 _ := hr.mono (by decide)
    have hr_takes_line : Room 4 _ := hr.mono (by decide)
    have hr_Source_init : Room 9 _ := hr.mono (by decide)
    have hu := hu_of hr
    obtain ⟨fd_errT, G_errT, b_errT⟩ := H_errT.ex
    have hr_errT : Room 2 _ := hr.mono (by decide)
    refine ⟨_, (pss_cons (ps_set (i := 1) sc_read_source.nd rfl (Or.inl rfl) (pe_lst pa_nil))
      (pss_cons (ps_set (i := 2) sc_read_source.nd rfl (Or.inl rfl) (pe_lst pa_nil))
      (pss_cons (ps_for (passes_of rfl) rfl (pi_enum (by rfl) T.f_enumerate (pa_cons (pe_call G_text_lines hr_text_lines (by rfl) H_text_lines.gl H_text_lines.kp b_text_lines .nil (passes_call (takes_of rfl rfl rfl rfl) (fun _ _ _ _ h => h)) (pa_cons (pv 0) pa_nil)) pa_nil)) (pg_tup rfl (pgs_cons (pg_name (i := 3) sc_read_source.nd rfl (Or.inl rfl)) (pgs_cons (pg_tup rfl (pgs_cons (pg_name (i := 4) sc_read_source.nd rfl (Or.inl rfl)) (pgs_cons (pg_name (i := 5) sc_read_source.nd rfl (Or.inl rfl)) pgs_nil))) pgs_nil)))
      (pss_one (ps_if (pt_not (pt_val (pe_call G_takes_line hr_takes_line (by rfl) H_takes_line.gl H_takes_line.kp b_takes_line .nil pass0 (pa_cons (pv 4) (pa_cons (pv 5) (pa_cons (pv 1) (pa_cons (pv 2) pa_nil))))))) (pss_one (ps_raiseE (x := "InvalidText") rfl (takes_of rfl rfl rfl rfl) T.errT G_errT b_errT hr_errT rfl T.g_InvalidText (by exact (pa_cons (pv 3) pa_nil)))) pss_nil)))
      (pss_one (ps_ret (pe_make T.k_Source G_Source_init hr_Source_init rfl T.g_Source b_Source_init .nil (passes_call (takes_of rfl rfl rfl rfl) (fun _ _ _ _ h => h)) (pa_cons (pv 1) (pa_cons (pv 2) pa_nil)))))))), ?_⟩
    refine ⟨sz_of (by show 0 ≤ 100000; decide), fun cl hcl => ⟨sz_of (by show 0 ≤ 100000; decide), fun fl hfl => ?_⟩⟩
    have s1 := Same.new (o := .lst []) hcl
    have s2 := Same.new (o := .lst []) hfl
    have s12 := s1.trans s2
    have hcl2 : upd (upd H cl (.lst [])) fl (.lst []) cl = some (.lst []) := s2 _ _ upd_same
    have hfl2 : upd (upd H cl (.lst [])) fl (.lst []) fl = some (.lst []) := upd_same
    have ncf : cl ≠ fl := fun z => by rw [← z, upd_same] at hfl; cases hfl
    generalize upd (upd H cl (.lst [])) fl (.lst []) = H2 at *
    rcases k with ⟨⟨c, tx, kt⟩, kE⟩ | ⟨t, rfl, TO, kE, kS⟩
    · exact ⟨_, rfl, v, rfl, .inr ⟨⟨c, tx _ s12, kt⟩, kE _ s12⟩⟩
    refine ⟨_, rfl, _, rfl, .inl ⟨t, rfl, TO.len, TO.lines, TO.ne, TO.many, fun q ps H3 s3 hq hq3 lat => ?_⟩⟩
    have hlen : ps.length ≤ 50000 := by
      rw [lat.1]
      exact Nat.le_trans (told_len TO.ne) TO.many
    have hW := TO.words
    generalize told t = ls at *
    have hB1 := s3 _ _ hcl2
    have hB2 := s3 _ _ hfl2
    have hflH : H fl = none := none_of s1 hfl
    have sameH : ∀ {H1 : Hp}, (∀ b o, H3 b = some o → b ≠ cl → b ≠ fl → H1 b = some o) → Same H H1 := fun kp b o e => kp _ _ ((s12.trans s3) _ _ e) (fun z => by rw [z, hcl] at e; cases e) (fun z => by rw [z, hflH] at e; cases e)
    refine ⟨q, _, rfl, SqL.of hq3, ?_⟩
    refine for_it (walk_enum (K := K) (a := q) (xs := ps.map V.ref)) (fun i σ H1 => ∃ (v1 v2 v3 : Option V) (rs : List Addr) (st : TSt), σ = [some (.str t), some (.ref cl), some (.ref fl), v1, v2, v3] ∧ runL ⟨[], []⟩ (ls.take i) = some st ∧ StM H1 cl fl rs st ∧ SmallN i st ∧ (∀ b o, H3 b = some o → b ≠ cl → b ≠ fl → H1 b = some o) ∧ ∀ b ∈ rs, H3 b = none) ⟨none, none, none, [], ⟨[], []⟩, rfl, rfl, StM.init hB1 hB2 ncf, ⟨Nat.le_refl _, Nat.le_refl _, fun f m => by cases m⟩, fun b o e _ _ => e, fun b m => by cases m⟩ ?_ ?_ ?_
    · rintro i σ H1 _ ⟨_, _, _, rs, st, rfl, _, S, _, kp, _⟩
      refine SqL.of (kp _ _ hq3 (fun z => ?_) (fun z => ?_))
      · rw [z, hcl2] at hq
        cases hq
      · rw [z, hfl2] at hq
        cases hq
    · rintro i y σ H1 H4 hi ⟨v1, v2, v3, rs, st, rfl, hrun, S, sm, kp, hrs⟩ ⟨u, a, b, rfl, hu0, rfl, h1, h2⟩
      have h2 : (ps.map V.ref)[i]? = some b := h2
      obtain rfl : V.int (i : Nat) = a := Option.some.inj h1
      obtain ⟨p, hp, rfl⟩ := map_get h2
      have hil : i < ls.length := by
        rw [← lat.1]
        exact (List.getElem?_eq_some_iff.mp hp).1
      have hl : ls[i]? = some ls[i] := List.getElem?_eq_getElem hil
      generalize hLi : ls[i] = l at hl
      obtain ⟨wa, hwn, hp3, hw3⟩ := lat.2 i p l hp hl
      have pcl : p ≠ cl := fun z => by rw [z, hB1] at hp3; cases hp3
      have pfl : p ≠ fl := fun z => by rw [z, hB2] at hp3; cases hp3
      have wcl : wa ≠ cl := fun z => by rw [z, hcl2] at hwn; cases hwn
      have wfl : wa ≠ fl := fun z => by rw [z, hfl2] at hwn; cases hwn
      have hp1 := kp _ _ hp3 pcl pfl
      have hw1 := kp _ _ hw3 wcl wfl
      have sH := sameH kp
      have s4 : Same H1 (upd H1 u (.tup [.int (i : Nat), .ref p])) := Same.new hu0
      have S4 := S.same s4
      have ml := List.mem_of_getElem? hl
      have i5 : i ≤ 50000 := by
        have := lat.1
        omega
      refine ⟨u, _, rfl, SqT.of upd_same, rfl, _, _, rfl, _, _, rfl, p, _, rfl, SqT.of (s4 _ _ hp1), rfl, _, _, rfl, _, _, rfl, rfl, rfl, ?_⟩
      refine ⟨_, rfl, _, rfl, _, rfl, _, rfl, l.1, wa, cl, fl, rs, st, l.2, rfl, s4 _ _ hw1, (hW l ml).1, (hW l ml).2, S4, ⟨Nat.le_trans sm.c i5, Nat.le_trans sm.f i5, fun f m => Nat.le_trans (sm.r f m) i5⟩, fun e H5 s5 => ⟨_, rfl, ifT rfl ?_⟩, fun st' e H5 rs' k5 nrs S5 => ⟨_, rfl, ifF rfl ?_⟩⟩
      · exact ⟨_, rfl, by show 1 ≤ 1000; decide, fun a hn => text_made hn T.errT fun d n => kE i st l hrun hl e H5 ((sH.trans s4).trans s5) d n⟩
      · refine ⟨_, _, _, rs', st', rfl, ?_, S5, sm.step e, fun b o e n1 n2 => k5 _ _ (s4 _ _ (kp _ _ e n1 n2)) (fun m => ?_), fun b m => ?_⟩
        · rw [take_snoc hl, runL_snoc, hrun]
          exact e
        · rcases List.mem_cons.mp m with m | m
          · exact n1 m
          rcases List.mem_cons.mp m with m | m
          · exact n2 m
          · rw [hrs b m] at e
            cases e
        · rcases nrs b m with m | m
          · exact hrs b m
          · have n1 := none_of s4 m
            cases c : H3 b with
            | none => rfl
            | some o =>
              obtain ⟨es, c1, _⟩ := S.cs
              obtain ⟨gs, f1, _⟩ := S.fs
              by_cases e1 : b = cl
              · rw [e1, c1] at n1
                cases n1
              by_cases e2 : b = fl
              · rw [e2, f1] at n1
                cases n1
              rw [kp _ _ c e1 e2] at n1
              cases n1
    · rintro σ H1 ⟨v1, v2, v3, rs, st, rfl, hrun, S, _, kp, hrs⟩
      have sH := sameH kp
      rw [List.take_of_length_le (by rw [List.length_map, lat.1]; exact Nat.le_refl _)] at hrun
      refine ⟨_, rfl, _, rfl, fun x dy nx ny nxy => ?_⟩
      have s4 : Same H1 (upd (upd H1 dy (.own x)) x (.ins (He.ga K "Source") dy [])) := (Same.new ny).trans (Same.new (by rw [upd_ne nxy.symm]; exact nx))
      have hx : upd (upd H1 dy (.own x)) x (.ins (He.ga K "Source") dy []) x = some (.ins (He.ga K "Source") dy []) := upd_same
      generalize upd (upd H1 dy (.own x)) x (.ins (He.ga K "Source") dy []) = H4 at *
      have sx := S.same s4
      have fin : ∀ {H' : Hp}, But x H4 H' → Same H H' := fun b y o e => b _ _ (s4 _ _ (sH _ _ e)) (ne_of_none (sH _ _ e) nx)
      obtain ⟨oc, q⟩ := kS st hrun
      rcases q with ⟨fds, hf, nn, l1, l6, ok, kA⟩ | ⟨h0, kB⟩ | ⟨f0, f1, g0, g1, hfs, i0, k0, r1, r2, i1, k1, r3, bad, kC⟩
      · exact .inl ⟨x, dy, cl, fl, st.cls, fds, rfl, hx, sx.raw oc hf nn l1 l6 ok, fun H' b X => ⟨rfl, kA H' x (fin b) X⟩⟩
      · obtain ⟨cs, c1, c2, c3⟩ := sx.cs
        obtain ⟨es, f1, f2, _⟩ := sx.fs
        have e0 : es = [] := List.length_eq_zero_iff.mp (by rw [f2, h0]; rfl)
        subst e0
        exact .inr ⟨x, dy, cl, fl, st.cls, rfl, hx, ⟨cs, c1, c2, fun i e c a b => (c3 i e c a b).g⟩, oc, .inl ⟨f1, fun H' b => kB H' (fin b)⟩⟩
      · obtain ⟨cs, c1, c2, c3⟩ := sx.cs
        obtain ⟨es, h1, h2, h3, h4⟩ := sx.fs
        have hr := sx.rw_
        rw [hfs] at h2 h3 h4 hr
        match es, h1, h2, rs, h3, h4, hr with
        | [e0, e1], h1, _, [ra, rb], _, h4, hr =>
          have R0 := hr 0 ra f0 rfl rfl
          have R1 := hr 1 rb f1 rfl rfl
          have F0 := h4 0 e0 ra f0 rfl rfl rfl
          have F1 := h4 1 e1 rb f1 rfl rfl rfl
          refine .inr ⟨x, dy, cl, fl, st.cls, rfl, hx, ⟨cs, c1, c2, fun i e c a b => (c3 i e c a b).g⟩, oc, .inr ⟨e0, e1, g0, h1, (F0.entryR R0 i0 k0 r1 r2).entry, ?_, fun H' t b ht => kC H' t (fin b) ht⟩⟩
          by_cases z : g1.rws = []
          · exact .inl (F1.entryZ R1 i1 k1 (List.length_eq_zero_iff.mp (by rw [i1.len, z]; rfl)))
          · rcases bad with b | b
            · exact absurd b z
            · exact .inr ⟨g1, (F1.entryR R1 i1 k1 (List.length_pos_iff.mpr z) r3).entry, b⟩

end
end W5
set_option Elab.async false
set_option linter.all false
set_option maxRecDepth 100000
set_option maxHeartbeats 4000000
namespace W5
open PySem PySem.Spec PyProof.Rows L2 RZ
section
variable {P : Program} {w : World} {K : PySem.W.Frag} {mg : Str → Option Value} {base : Heap}

/-- lines taken, or the first that is not -/
def runI (st : TSt) (i : Nat) : List (Bool × List Str) → Nat ⊕ TSt
  | [] => .inr st
  | l :: ls => match step st l with
    | none => .inl i
    | some s => runI s (i + 1) ls
theorem runI_ok : ∀ {ls : List (Bool × List Str)} {st s : TSt} {i : Nat}, runL st ls = some s → runI st i ls = .inr s
  | [], st, s, i, h => by rw [← Option.some.inj (show some st = some s from h)]; rfl
  | l :: ls, st, s, i, h => by
    obtain ⟨s1, h1, h2⟩ := Option.bind_eq_some_iff.mp (show (step st l).bind (fun s => runL s ls) = some s from h)
    unfold runI
    rw [h1]
    exact runI_ok h2
theorem runI_bad : ∀ {ls : List (Bool × List Str)} {st s : TSt} {k i : Nat} {l : Bool × List Str}, runL st (ls.take i) = some s → ls[i]? = some l → step s l = none → runI st k ls = .inl (k + i)
  | [], st, s, k, i, l, _, h, _ => by simp at h
  | x :: ls, st, s, k, 0, l, h1, h2, h3 => by
    have e1 : st = s := Option.some.inj (show some st = some s from h1)
    have e2 : x = l := Option.some.inj h2
    unfold runI
    rw [e1, e2, h3]
    rfl
  | x :: ls, st, s, k, i + 1, l, h1, h2, h3 => by
    obtain ⟨s1, q1, q2⟩ := Option.bind_eq_some_iff.mp (show (step st x).bind (fun s => runL s (ls.take i)) = some s from h1)
    unfold runI
    rw [q1]
    show runI s1 (k + 1) ls = _
    rw [runI_bad q2 (by simpa using h2) h3, Nat.add_right_comm, Nat.add_assoc]
def init0 : TSt := ⟨[], []⟩
theorem takesNo {X : Cx} : Takes X (fun _ _ _ _ => False) := fun _ _ ⟨_, _, _, _, _, _, _, _, _, _, _, _, _, _, _, _, h⟩ => h.elim
theorem Ctx.exmTT (T : Ctx w K mg) : PySem.W.exmOne K (.ref (He.ga K "InvalidText")) (.ref (He.ga K "InvalidText")) = some true := He.exm_ok (T.says.d.fact 70 rfl)
theorem Ctx.exmST (T : Ctx w K mg) : PySem.W.exmOne K (.ref (He.ga K "InvalidSource")) (.ref (He.ga K "InvalidText")) = some false := He.exm_ok (T.says.d.fact 71 rfl)
theorem Ctx.exmSS (T : Ctx w K mg) : PySem.W.exmOne K (.ref (He.ga K "InvalidSource")) (.ref (He.ga K "InvalidSource")) = some true := He.exm_ok (T.says.d.fact 72 rfl)
/-- a suite whose error is of a known class and has its dict -/
theorem pss_kn {X : Cx} {ss : List Stmt} {cls : Value} {C : Addr} {d : Option Addr} {t : Addr → TS} (h : ∀ dd, cls = .ref C → d = some dd → PSs X ss (t dd)) : PSs X ss (fun D σ H => ∃ dd, cls = .ref C ∧ d = some dd ∧ t dd D σ H) :=
  ⟨fun pins s σ H D I ⟨dd, e1, e2, q⟩ => (h dd e1 e2).run pins s σ H D I q⟩
theorem call_isD2 {X : Cx} {a D dd : Addr} {oe : Obj} {pn : List (Addr × Obj)} (C : ExcC X.K D) (hz : Zc (.ref D) (some dd) oe) (hf : ∃ vs, oe.data = .fields vs) :
    CallR (X.suite a ((a, oe) :: pn)) (.builtin "isinstance") (fun xs H Q => ∃ fs, H dd = some (.xd fs) ∧ rIsE X.K D a xs H Q) := by
  intro pins s σ H xs us Q I r ⟨fs, h⟩
  exact AE.call_isD (fs := fs) C hz hf pins s σ H xs us Q I r h
/-- what is told of a text; H: the heap ahead -/
def Tells (K : PySem.W.Frag) (t : Str) (H : Hp) (Q : VK) : Prop := match runI init0 0 (told t) with
  | .inl i => ∀ H', Same H H' → Q (.int (i : Nat)) H'
  | .inr st => ClsOk st.cls ∧ ((∃ fds, FnsIs st.fns fds ∧ (fds.map FdT.nm).Nodup ∧ 1 ≤ fds.length ∧ fds.length ≤ 6 ∧ (∀ f ∈ fds, FdOk st.cls fds f) ∧ ∀ H', Same H H' → Q .non H') ∨
    (st.fns = [] ∧ ∀ (H' : Hp) (q : Addr), Same H H' → H' q = some (.tup [.str "functions", .int (-1)]) → Q (.ref q) H') ∨
    ∃ f0 f1 g0 g1, st.fns = [f0, f1] ∧ FnIs f0 g0 ∧ HeadOk g0 ∧ 1 ≤ g0.rws.length ∧ g0.rws.length ≤ 40 ∧ FnIs f1 g1 ∧ HeadOk g1 ∧ g1.rws.length ≤ 40 ∧ (g1.rws = [] ∨ g1.nm = g0.nm) ∧ ∀ (H' : Hp) (q t : Addr), Same H H' → H' t = some (.tup [.int 1]) → H' q = some (.tup [.str "functions", .ref t]) → Q (.ref q) H')
def spTold (K : PySem.W.Frag) : Sp := fun vs H Q _ => ∃ v, vs = [v] ∧ (((∃ c, (∀ H', Same H H' → TyX K H' v c) ∧ PySem.W.kitOne K c (.type "str") = some false) ∧ ∀ H', Same H H' → Q (.int (-1)) H') ∨
  ∃ t, v = .str t ∧ TextOk t ∧ Tells K t H Q)
theorem sc_L_told : FnScope ["_law_text", "e"] ["_law_text"] (defScope s_L_told) := ⟨rfl, rfl, rfl, by decide +kernel, rfl, by decide +kernel, by decide +kernel⟩
theorem ok_L_told (T : Ctx w K mg) (H_read_source : HasX P w K mg base 10 "read_source" ["text"] (spRead K)) : Has P w K mg base 11 "_law_told" ["_law_text"] (spTold K) := by
  obtain ⟨fd, F⟩ := T.D_L_told
  obtain ⟨fd_c, G_c, b_c⟩ := H_read_source.ex
  refine ⟨⟨fd, F.ok sc_L_told (fun vs H Q E h => ?_) (fun cdv A outer s H vs Q E hr h => ?_), F.bindsN fun _ _ _ _ _ _ us hl => match us, hl with | [_], _ => rfl⟩, F.kp, T.g_L_told⟩
  · obtain ⟨v, rfl, k⟩ := h; rfl
  · obtain ⟨v, rfl, k⟩ := h
    have hr_c : Room 10 _ := hr.mono (by decide)
    have OT := T.errT
    have OS := T.errS
    refine ⟨_, PSs.nox (pss_cons (TR.ps_try (W := fun _ _ _ _ => False) rfl rfl sc_L_told.nd takesNo
      (fun W' pn xe tk hp => pss_one (ps_expr (by exact (pe_callS G_c hr_c rfl H_read_source.gl H_read_source.kp b_c (fun σ => passAt tk σ) (by exact (pa_cons (pv 0) pa_nil))))))
      (TR.Cls.as (q := ⟨.ref (He.ga K "InvalidText"), some 1, fun a cls d => _⟩) ⟨rfl, rfl, .inl T.g_InvalidText⟩ rfl rfl rfl (fun a oe cls d pn hz hf => pss_kn (C := He.ga K "InvalidText") fun dd e1 e2 => by
          exact (pss_one (ps_ret (pe_ifExp (PW.pt (pw_and (pt_not (pt_val (pe_callB (call_isD2 T.excT (by rw [← e1, ← e2]; exact hz) hf) (by rfl) T.f_isinstance (by decide +kernel) (pa_cons (pv 1) (pa_cons (pe_glob (v := .ref (He.ga K "InvalidSource")) rfl T.g_InvalidSource rfl) pa_nil))))) (pw_and1 (pt_val (pe_callB (call_isD2 T.excT (by rw [← e1, ← e2]; exact hz) hf) (by rfl) T.f_isinstance (by decide +kernel) (pa_cons (pv 1) (pa_cons (pe_bltn (v := .ty "ArithmeticError") (u := .type "ArithmeticError") rfl T.f_ArithmeticError (by decide +kernel) rfl) pa_nil))))))) (pe_xf OT.xf (OT.no "line" (by simp)) hz hf (pv 1)) pe_str))))
        (TR.Cls.as (q := ⟨.ref (He.ga K "InvalidSource"), some 1, _⟩) ⟨rfl, rfl, .inl T.g_InvalidSource⟩ rfl rfl rfl (fun a oe cls d pn hz hf => by exact (pss_one (ps_ret (pe_tup (pa_cons (pe_xf OS.xf (OS.no "part" (by simp)) hz hf (pv 1)) (pa_cons (pe_xf OS.xf (OS.no "at" (by simp)) hz hf (pv 1)) pa_nil))))))
          (TR.Cls.bare (q := ⟨.ref (He.ga K "CodeError"), none, _⟩) ⟨rfl, rfl, .inl T.g_CodeError⟩ rfl (fun a oe cls d pn hz hf => by exact (pss_one (ps_ret pe_str))) TR.Cls.nil))))
      (pss_one (ps_ret pe_non))), ?_⟩
    have suite : ∀ (D : Ends) (σ : L2.St) (H' : Hp) (d : Addr) (i : Int), True := fun _ _ _ _ _ => trivial
    rcases k with ⟨tx, k⟩ | ⟨t, rfl, TO, k⟩
    · refine ⟨_, rfl, v, rfl, .inl ⟨tx, fun H' s1 d hd => ⟨true, T.exmTT, fun _ a ha => ?_, fun z => by cases z⟩⟩⟩
      refine ⟨d, rfl, rfl, _, rfl, _, upd_same, _, _, false, rfl, fun u r => r, T.isT.1, false, rfl, iteT ⟨_, rfl, _, upd_same, _, _, true, rfl, fun u r => r, T.isT.2, true, rfl, iteT ?_⟩⟩
      exact ⟨_, rfl, rfl, rfl, d, _, _, rfl, upd_same, rfl, k _ (s1.trans (Same.new hd))⟩
    · refine ⟨_, rfl, _, rfl, .inr ⟨t, rfl, TO, fun i st l h1 h2 h3 H' s1 d hd => ⟨true, T.exmTT, fun _ a ha => ?_, fun z => by cases z⟩, fun st h => ?_⟩⟩
      · have e := runI_bad (k := 0) h1 h2 h3
        rw [Nat.zero_add] at e
        unfold Tells init0 at k
        rw [e] at k
        refine ⟨d, rfl, rfl, _, rfl, _, upd_same, _, _, false, rfl, fun u r => r, T.isT.1, false, rfl, iteT ⟨_, rfl, _, upd_same, _, _, true, rfl, fun u r => r, T.isT.2, true, rfl, iteT ?_⟩⟩
        exact ⟨_, rfl, rfl, rfl, d, _, _, rfl, upd_same, rfl, k _ (s1.trans (Same.new hd))⟩
      · have e := runI_ok (i := 0) h
        unfold Tells init0 at k
        rw [e] at k
        obtain ⟨oc, k⟩ := k
        refine ⟨oc, ?_⟩
        rcases k with ⟨fds, i1, i2, i3, i4, i5, k⟩ | ⟨h0, k⟩ | ⟨f0, f1, g0, g1, i1, i2, i3, i4, i5, i6, i7, i8, i9, k⟩
        · exact .inl ⟨fds, i1, i2, i3, i4, i5, fun H' p s1 _ => k H' s1⟩
        · refine .inr (.inl ⟨h0, fun H' s1 d hd => ⟨false, T.exmST, (fun z => by cases z), fun _ => ⟨true, T.exmSS, fun _ a ha => ?_, fun z => by cases z⟩⟩⟩)
          exact ⟨_, rfl, rfl, rfl, d, _, _, rfl, upd_same, rfl, _, rfl, rfl, rfl, d, _, _, rfl, upd_same, rfl, sz_of (by show 2 ≤ 100000; decide), fun q hq => k _ q ((s1.trans (Same.new hd)).trans (Same.new hq)) upd_same⟩
        · refine .inr (.inr ⟨f0, f1, g0, g1, i1, i2, i3, i4, i5, i6, i7, i8, i9, fun H' t1 s1 ht d hd => ⟨false, T.exmST, (fun z => by cases z), fun _ => ⟨true, T.exmSS, fun _ a ha => ?_, fun z => by cases z⟩⟩⟩)
          exact ⟨_, rfl, rfl, rfl, d, _, _, rfl, upd_same, rfl, _, rfl, rfl, rfl, d, _, _, rfl, upd_same, rfl, sz_of (by show 2 ≤ 100000; decide), fun q hq => k _ q t1 ((s1.trans (Same.new hd)).trans (Same.new hq)) ((Same.new hq) _ _ ((Same.new hd) _ _ ht)) upd_same⟩

end
end W5
set_option Elab.async false
set_option linter.all false
set_option maxRecDepth 100000
set_option maxHeartbeats 4000000
namespace W5
open PySem PySem.Spec PyProof.Rows L2 RZ TL
/-! ### texts of lines -/
def txtL (ls : List Str) (e : Str) : List Nat := (ls.flatMap fun l => tl l ++ [10]) ++ tl e
def txt (ls : List Str) (e : Str) : Str := ⟨(txtL ls e).toArray⟩
theorem tl_txt (ls : List Str) (e : Str) : tl (txt ls e) = txtL ls e := rfl
theorem tl_inj {a b : Str} (h : tl a = tl b) : a = b := by rw [← mk_tl a, ← mk_tl b, h]
theorem joinL_txt (e : Str) : ∀ ls : List Str, joinL [10] ((ls ++ [e]).map tl) = txtL ls e
  | [] => rfl
  | [l] => by
    show tl l ++ ([10] ++ tl e) = ((tl l ++ [10]) ++ []) ++ tl e
    simp
  | l :: m :: ls => by
    show tl l ++ ([10] ++ joinL [10] (((m :: ls) ++ [e]).map tl)) = _
    rw [joinL_txt e (m :: ls)]
    show _ = ((tl l ++ [10]) ++ ((m :: ls).flatMap fun l => tl l ++ [10])) ++ tl e
    unfold txtL
    simp
def NL : Str := "\n"
theorem txt_join (ls : List Str) (e : Str) : txt ls e = Txt.join NL (ls ++ [e]) := tl_inj (by
  rw [tl_txt, join_eq, tl_join, ← joinL_txt e ls]
  rfl)
theorem split_txt {ls : List Str} {e : Str} (h : ∀ l ∈ ls ++ [e], 10 ∉ tl l) : Txt.split (txt ls e) NL = ls ++ [e] := by
  rw [txt_join]
  exact split_join (y := NL) (s := 10) (S := []) rfl (by decide +kernel) (by simp) h
theorem told_txt {ls : List Str} {e : Str} (h : ∀ l ∈ ls ++ [e], 10 ∉ tl l) : told (txt ls e) = ls.map wordsOf ++ (if e = "" then [] else [(false, [])]) := by
  unfold told
  have q := split_txt h
  unfold NL at q
  rw [q, List.dropLast_concat, List.getLastD_concat]
def wordB (w : Str) : Bool := decide (w.cps.size ≤ 640) && ((!intOk w || (PySem.intText? w).isSome) && decide ((Txt.partition w ":").1.cps.size ≤ 640))
theorem wordB_ok {w : Str} (h : wordB w = true) : WordOk w := by
  obtain ⟨h1, h⟩ := He.ba h
  obtain ⟨h2, h3⟩ := He.ba h
  refine ⟨of_decide_eq_true h1, fun e => ?_, of_decide_eq_true h3⟩
  rw [e] at h2
  exact Option.isSome_iff_exists.mp h2
def lineB (l : Str) : Bool := decide (l.cps.size ≤ 60) && (decide (10 ∉ tl l) && (((wordsOf l).2.all wordB) && decide ((wordsOf l).2.length ≤ 60)))
structure LineOk (l : Str) : Prop where
  len : l.length ≤ 60
  nl : 10 ∉ tl l
  ws : (∀ w ∈ (wordsOf l).2, WordOk w) ∧ (wordsOf l).2.length ≤ 60
theorem lineB_ok {l : Str} (h : lineB l = true) : LineOk l := by
  obtain ⟨h1, h⟩ := He.ba h
  obtain ⟨h2, h⟩ := He.ba h
  obtain ⟨h3, h4⟩ := He.ba h
  exact ⟨of_decide_eq_true h1, of_decide_eq_true h2, fun w m => wordB_ok (List.all_eq_true.mp h3 w m), of_decide_eq_true h4⟩
theorem txtL_len {e : Str} (he : e.length ≤ 60) : ∀ {ls : List Str}, (∀ l ∈ ls, l.length ≤ 60) → (txtL ls e).length ≤ 61 * ls.length + 60
  | [], _ => by
    show ([] ++ tl e).length ≤ _
    have : (tl e).length = e.cps.size := Array.length_toList
    have he : e.cps.size ≤ 60 := he
    simp
    omega
  | l :: ls, h => by
    have ih := txtL_len he (ls := ls) fun x m => h x (List.mem_cons_of_mem _ m)
    have hl := h l List.mem_cons_self
    have e1 : (tl l).length = l.length := Array.length_toList
    unfold txtL at ih ⊢
    rw [List.flatMap_cons]
    simp only [List.length_append, List.length_cons, List.length_nil] at ih ⊢
    omega
theorem text_ok {ls : List Str} {e : Str} (h : ∀ l ∈ ls ++ [e], LineOk l) (hn : ls.length ≤ 100) : TextOk (txt ls e) := by
  have nl : ∀ l ∈ ls ++ [e], 10 ∉ tl l := fun l m => (h l m).nl
  have q := split_txt nl
  unfold NL at q
  have he := (h e (List.mem_append_right _ (List.mem_singleton_self _))).len
  refine ⟨?_, fun l m => ?_, ?_, ?_, fun l m => ?_⟩
  · have := txtL_len he (ls := ls) fun x m => (h x (List.mem_append_left _ m)).len
    show (txtL ls e).toArray.size ≤ 50000
    rw [List.size_toArray]
    omega
  · rw [q] at m
    have := (h l m).len
    omega
  · rw [q]
    simp
  · rw [q, List.length_append, List.length_singleton]
    omega
  · rw [told_txt nl] at m
    rcases List.mem_append.mp m with m | m
    · obtain ⟨x, mx, rfl⟩ := List.mem_map.mp m
      have := (h x (List.mem_append_left _ mx)).ws
      exact ⟨this.1, by omega⟩
    · split at m
      · cases m
      · rw [List.mem_singleton.mp m]
        exact ⟨(fun w m => by cases m), Nat.zero_le _⟩
/-! ### lines that no text can have there -/
def noStep (hasF : Bool) (l : Bool × List Str) : Bool :=
  if l.1 = true then (rowOf l.2).isNone || !hasF else match l.2 with
  | w0 :: w1 :: ws => !namB w1 || (if w0 = "class" ∧ hasF = false then (clsOf (w0 :: w1 :: ws)).isNone else if w0 = "function" then (fnOf (w0 :: w1 :: ws)).isNone else true)
  | _ => true
theorem noStep_ok {st : TSt} {l : Bool × List Str} (h : noStep (!st.fns.isEmpty) l = true) : step st l = none := by
  obtain ⟨b, ws⟩ := l
  cases b with
  | true =>
    rw [step_in]
    have h : ((rowOf ws).isNone || !(!st.fns.isEmpty)) = true := h
    rw [Bool.not_not] at h
    cases hr : rowOf ws with
    | none => rfl
    | some r =>
      rw [hr] at h
      have h : st.fns.isEmpty = true := h
      rw [List.isEmpty_iff.mp h]
      rfl
  | false =>
    rw [step_out]
    match ws, h with
    | [], _ => rfl
    | [_], _ => rfl
    | w0 :: w1 :: ws, h =>
      rw [head_eq]
      have h : (!namB w1 || (if w0 = "class" ∧ (!st.fns.isEmpty) = false then (clsOf (w0 :: w1 :: ws)).isNone else if w0 = "function" then (fnOf (w0 :: w1 :: ws)).isNone else true)) = true := h
      unfold head2
      cases hn : namB w1 with
      | false => rfl
      | true =>
        rw [hn] at h
        rw [if_neg Bool.noConfusion]
        have h : (if w0 = "class" ∧ (!st.fns.isEmpty) = false then (clsOf (w0 :: w1 :: ws)).isNone else if w0 = "function" then (fnOf (w0 :: w1 :: ws)).isNone else true) = true := h
        by_cases c : w0 = "class" ∧ st.fns = []
        · rw [if_pos ⟨c.1, by rw [c.2]; rfl⟩] at h
          rw [if_pos c, Option.isNone_iff_eq_none.mp h]
          rfl
        · rw [if_neg (fun z => c ⟨z.1, List.isEmpty_iff.mp (by simpa using z.2)⟩)] at h
          rw [if_neg c]
          by_cases f : w0 = "function"
          · rw [if_pos f] at h
            rw [if_pos f, Option.isNone_iff_eq_none.mp h]
            rfl
          · rw [if_neg f]
theorem runI_app {b : List (Bool × List Str)} : ∀ {a : List (Bool × List Str)} {st s : TSt} {k : Nat}, runL st a = some s → runI st k (a ++ b) = runI s (k + a.length) b
  | [], st, s, k, h => by
    rw [Option.some.inj (show some st = some s from h)]
    rfl
  | l :: a, st, s, k, h => by
    obtain ⟨s1, q1, q2⟩ := Option.bind_eq_some_iff.mp (show (step st l).bind (fun s => runL s a) = some s from h)
    show (match step st l with | none => (.inl k : Nat ⊕ TSt) | some s => runI s (k + 1) (a ++ b)) = _
    rw [q1]
    show runI s1 (k + 1) (a ++ b) = _
    rw [runI_app q2, List.length_cons]
    congr 1
    omega
theorem runI_no {st : TSt} {k : Nat} {l : Bool × List Str} {ls : List (Bool × List Str)} (h : step st l = none) : runI st k (l :: ls) = .inl k := by
  show (match step st l with | none => (.inl k : Nat ⊕ TSt) | some s => runI s (k + 1) ls) = _
  rw [h]
theorem runL_app {b : List (Bool × List Str)} : ∀ {a : List (Bool × List Str)} {st : TSt}, runL st (a ++ b) = (runL st a).bind fun s => runL s b
  | [], st => rfl
  | l :: a, st => by
    show (step st l).bind (fun s => runL s (a ++ b)) = ((step st l).bind fun s => runL s a).bind fun s => runL s b
    cases step st l with
    | none => rfl
    | some s => exact runL_app
end W5
set_option Elab.async false
set_option linter.all false
set_option maxRecDepth 100000
set_option maxHeartbeats 4000000
namespace W5
open PySem PySem.Spec PyProof.Rows L2 RZ TL
def oddL : List Str := (["", " ", "  ", "   jump 0", " jump 0", "jump 0", "  jump", "  jump  0", "  jump 0 ", "  jump x", "  jump 00", "  jump +0", "  jump -0", "  jump 1.0", "  jump 1111111111111111111111111111111", "\tjump 0", "  Jump 0", "  jump 0 0", "  number x", "  number x y"] : List Str) ++ (["  number 1 x", "  number X 1", "  number x 1_0", "  number x 0x1", "  add x y", "  add x y z w", "  add x y 1", "  less x,y,z", "  call", "  call x", "  call x f 1", "  call x f  y", "  if x", "  if 1 x", "  see", "  see x y", "  see abcdefghi", "  see a-b", "  see 1a", "  return"] : List Str) ++ (["  return x y", "  new x", "  get x y", "  put x f", "  nil", "  wait x", "  class c", "function", "function f", "function f number", "function f number x:number", "function f numbers /", "function F number /", "function f number / x", "function f number x /", "function f number / /", "function f number x:Number /", "function f number x: /", "function f number :number /", "function f number x:number:number /"] : List Str) ++ (["function  f number /", "function f number / ", "Function f number /", "function f object x :number /", "class c", "class", "classes c"] : List Str)
def oddC : List Str := ["class", "class ", "class C", "class c ", "class c x", "class c x:", "class c x:numbers", "class c x:number:", "class  c", "class c  x:number", " class c", "  class c", "class c x;number", "class c 1x:number", "class abcdefghi", "", "  jump 0", "  return x", "class c /", "class c x:number / y:number"]
def cAll : List Str := ["class c0 x:number", "class c1 x:number", "class c2 x:number", "class c3 x:number"]
def headL : Str := "function f number n:number / o:object"
def seeL : Str := "  see n"
def retL : Str := "  return n"
def fL : Str := "function f number /"
def gL : Str := "function g number /"
def jL : Str := "  jump 0"
def endsL : List Str := ["x", " ", "  see n", "class c", "\t"]
theorem odd_ok : ∀ l ∈ oddL, LineOk l := fun l m => lineB_ok ((show ∀ l ∈ oddL, lineB l = true by decide +kernel) l m)
theorem oddC_ok : ∀ l ∈ oddC, LineOk l := fun l m => lineB_ok ((show ∀ l ∈ oddC, lineB l = true by decide +kernel) l m)
theorem good_ok : ∀ l ∈ cAll ++ [headL, seeL, retL, fL, gL, jL, ""] ++ endsL, LineOk l := fun l m => lineB_ok ((show ∀ l ∈ cAll ++ [headL, seeL, retL, fL, gL, jL, ""] ++ endsL, lineB l = true by decide +kernel) l m)
theorem odd_no : ∀ l ∈ oddL, noStep true (wordsOf l) = true := by decide +kernel
theorem oddC_no : ∀ l ∈ oddC, noStep false (wordsOf l) = true := by decide +kernel
end W5
set_option Elab.async false
set_option linter.all false
set_option maxRecDepth 100000
set_option maxHeartbeats 4000000
namespace W5
open PySem PySem.Spec PyProof.Rows L2 RZ TL
theorem namB_ok {x : Str} (h : namB x = true) : Nam x := by
  obtain ⟨h1, h⟩ := He.ba h
  obtain ⟨h2, h⟩ := He.ba h
  obtain ⟨h3, h4⟩ := He.ba h
  refine ⟨of_decide_eq_true h1, of_decide_eq_true h2, ?_, fun i c e => ?_⟩
  · cases e : x.cps[0]? with
    | none =>
      rw [e] at h3
      cases h3
    | some c =>
      rw [e] at h3
      exact ⟨c, rfl, of_decide_eq_true h3⟩
  · refine of_decide_eq_true (List.all_eq_true.mp h4 c ?_)
    rw [Array.mem_toList_iff]
    exact Array.mem_of_getElem? e
def cAllT : ClsT := [("c0", [("x", "number")]), ("c1", [("x", "number")]), ("c2", [("x", "number")]), ("c3", [("x", "number")])]
def f0 (rws : List RowV) : PFn := ⟨"f", "number", [("n", "number")], [("o", "object")], rws⟩
def seeV : RowV := ([.str "see", .str "n"], none)
def retV : RowV := ([.str "return", .str "n"], none)
def jumpV : RowV := ([.str "jump", .int 0], none)
theorem run_cls {n : Nat} (h : n < 4) : runL ⟨[], []⟩ ((cAll.take n).map wordsOf) = some ⟨cAllT.take n, []⟩ := by
  match n, h with
  | 0, _ => kernel_rfl
  | 1, _ => kernel_rfl
  | 2, _ => kernel_rfl
  | 3, _ => kernel_rfl
theorem st_head (c : ClsT) : step ⟨c, []⟩ (wordsOf headL) = some ⟨c, [f0 []]⟩ := by kernel_rfl
theorem st_see (c : ClsT) (rws : List RowV) : step ⟨c, [f0 rws]⟩ (wordsOf seeL) = some ⟨c, [f0 (rws ++ [seeV])]⟩ := by kernel_rfl
theorem st_ret (c : ClsT) (rws : List RowV) : step ⟨c, [f0 rws]⟩ (wordsOf retL) = some ⟨c, [f0 (rws ++ [retV])]⟩ := by kernel_rfl
theorem st_f (c : ClsT) (f : PFn) : step ⟨c, [f]⟩ (wordsOf fL) = some ⟨c, [f, ⟨"f", "number", [], [], []⟩]⟩ := by kernel_rfl
theorem st_g (c : ClsT) (f : PFn) : step ⟨c, [f]⟩ (wordsOf gL) = some ⟨c, [f, ⟨"g", "number", [], [], []⟩]⟩ := by kernel_rfl
theorem st_j (c : ClsT) (f : PFn) : step ⟨c, [f, ⟨"f", "number", [], [], []⟩]⟩ (wordsOf jL) = some ⟨c, [f, ⟨"f", "number", [], [], [jumpV]⟩]⟩ := by kernel_rfl
theorem run_see (c : ClsT) : ∀ (m : Nat) (rws : List RowV), runL ⟨c, [f0 rws]⟩ ((List.replicate m seeL).map wordsOf) = some ⟨c, [f0 (rws ++ List.replicate m seeV)]⟩
  | 0, rws => by rw [List.replicate_zero, List.replicate_zero, List.append_nil]; rfl
  | m + 1, rws => by
    rw [List.replicate_succ, List.map_cons]
    show (step ⟨c, [f0 rws]⟩ (wordsOf seeL)).bind (fun s => runL s ((List.replicate m seeL).map wordsOf)) = _
    rw [st_see]
    show runL ⟨c, [f0 (rws ++ [seeV])]⟩ _ = _
    rw [run_see c m, List.append_assoc]
    rfl
def rowsV (m : Nat) : List RowV := List.replicate m seeV ++ [retV]
def rLn (m : Nat) : List Str := headL :: (List.replicate m seeL ++ [retL])
theorem run_head (c : ClsT) (m : Nat) : runL ⟨c, []⟩ ((headL :: List.replicate m seeL).map wordsOf) = some ⟨c, [f0 (List.replicate m seeV)]⟩ := by
  rw [List.map_cons]
  show (step ⟨c, []⟩ (wordsOf headL)).bind (fun s => runL s ((List.replicate m seeL).map wordsOf)) = _
  rw [st_head]
  show runL ⟨c, [f0 []]⟩ _ = _
  rw [run_see c m]
  rfl
theorem run_rows (c : ClsT) (m : Nat) : runL ⟨c, []⟩ ((rLn m).map wordsOf) = some ⟨c, [f0 (rowsV m)]⟩ := by
  have e : rLn m = (headL :: List.replicate m seeL) ++ [retL] := rfl
  rw [e, List.map_append, runL_app, run_head]
  show (step ⟨c, [f0 (List.replicate m seeV)]⟩ (wordsOf retL)).bind (fun s => runL s []) = _
  rw [st_ret]
  rfl
/-- the good lines -/
def gln (n m : Nat) : List Str := cAll.take n ++ rLn m
theorem run_gln {n : Nat} (h : n < 4) (m : Nat) : runL ⟨[], []⟩ ((gln n m).map wordsOf) = some ⟨cAllT.take n, [f0 (rowsV m)]⟩ := by
  unfold gln
  rw [List.map_append, runL_app, run_cls h]
  exact run_rows _ m
theorem gln_len {n : Nat} (h : n < 4) (m : Nat) : (gln n m).length = n + m + 2 := by
  unfold gln rLn cAll
  simp
  omega
/-! ### what is told -/
section
variable {K : PySem.W.Frag} {H : Hp} {Q : VK}
theorem tells_at {pre post : List Str} {bad e : Str} {s : TSt} (hl : (pre ++ bad :: post).length ≤ 100) (h : ∀ l ∈ (pre ++ bad :: post) ++ [e], LineOk l) (hr : runL ⟨[], []⟩ (pre.map wordsOf) = some s) (hn : step s (wordsOf bad) = none) (k : ∀ H', Same H H' → Q (.int pre.length) H') : TextOk (txt (pre ++ bad :: post) e) ∧ Tells K (txt (pre ++ bad :: post) e) H Q := by
  refine ⟨text_ok h hl, ?_⟩
  unfold Tells
  rw [told_txt fun l m => (h l m).nl, List.map_append, List.map_cons, List.append_assoc]
  unfold init0
  rw [runI_app hr]
  rw [List.cons_append, runI_no hn, Nat.zero_add, List.length_map]
  exact k
theorem tells_end {pre : List Str} {e : Str} {s : TSt} (hl : pre.length ≤ 100) (h : ∀ l ∈ pre ++ [e], LineOk l) (ne : e ≠ "") (hr : runL ⟨[], []⟩ (pre.map wordsOf) = some s) (k : ∀ H', Same H H' → Q (.int pre.length) H') : TextOk (txt pre e) ∧ Tells K (txt pre e) H Q := by
  refine ⟨text_ok h hl, ?_⟩
  unfold Tells
  rw [told_txt fun l m => (h l m).nl, if_neg ne]
  unfold init0
  rw [runI_app hr]
  rw [runI_no (show step s (false, []) = none from rfl), Nat.zero_add, List.length_map]
  exact k
theorem tells_all {pre : List Str} {s : TSt} (hl : pre.length ≤ 100) (h : ∀ l ∈ pre ++ ([""] : List Str), LineOk l) (hr : runL ⟨[], []⟩ (pre.map wordsOf) = some s) (k : ClsOk s.cls ∧ ((∃ fds, FnsIs s.fns fds ∧ (fds.map FdT.nm).Nodup ∧ 1 ≤ fds.length ∧ fds.length ≤ 6 ∧ (∀ f ∈ fds, FdOk s.cls fds f) ∧ ∀ H', Same H H' → Q .non H') ∨
    (s.fns = [] ∧ ∀ (H' : Hp) (q : Addr), Same H H' → H' q = some (.tup [.str "functions", .int (-1)]) → Q (.ref q) H') ∨
    ∃ f0 f1 g0 g1, s.fns = [f0, f1] ∧ FnIs f0 g0 ∧ HeadOk g0 ∧ 1 ≤ g0.rws.length ∧ g0.rws.length ≤ 40 ∧ FnIs f1 g1 ∧ HeadOk g1 ∧ g1.rws.length ≤ 40 ∧ (g1.rws = [] ∨ g1.nm = g0.nm) ∧ ∀ (H' : Hp) (q t : Addr), Same H H' → H' t = some (.tup [.int 1]) → H' q = some (.tup [.str "functions", .ref t]) → Q (.ref q) H')) : TextOk (txt pre "") ∧ Tells K (txt pre "") H Q := by
  refine ⟨text_ok h hl, ?_⟩
  unfold Tells
  rw [told_txt fun l m => (h l m).nl, if_pos rfl, List.append_nil]
  unfold init0
  rw [runI_ok hr]
  exact k
end
/-! ### the functions and classes are right -/
def fdF (m : Nat) : FdT := ⟨"f", "number", [("n", "number")], [("o", "object")], List.replicate m (.see "n") ++ [.ret "n"]⟩
theorem rows_is {m i : Nat} {v : RowV} {r : Rx} (h1 : (rowsV m)[i]? = some v) (h2 : (List.replicate m (Rx.see "n") ++ [.ret "n"])[i]? = some r) : RowIs v r := by
  rcases snoc_get h1 with ⟨a1, a2⟩ | ⟨a1, a2⟩ <;> rcases snoc_get h2 with ⟨b1, b2⟩ | ⟨b1, b2⟩
  · have e1 := List.eq_of_mem_replicate (List.mem_of_getElem? a2)
    have e2 := List.eq_of_mem_replicate (List.mem_of_getElem? b2)
    subst e1
    subst e2
    exact ⟨rfl, fun _ => rfl⟩
  · simp at a1 b1; omega
  · simp at a1 b1; omega
  · subst a2
    subst b2
    exact ⟨rfl, fun _ => rfl⟩
theorem fnF (m : Nat) : FnIs (f0 (rowsV m)) (fdF m) := ⟨rfl, rfl, rfl, rfl, by simp [f0, rowsV, fdF], fun i v r a b => rows_is a b⟩
theorem nam_n : Nam "n" := namB_ok (by decide +kernel)
theorem nam_o : Nam "o" := namB_ok (by decide +kernel)
theorem nam_f : Nam "f" := namB_ok (by decide +kernel)
theorem nam_g : Nam "g" := namB_ok (by decide +kernel)
theorem headF (m : Nat) : HeadOk (fdF m) := by
  refine ⟨nam_f, .inl rfl, fun q h => ?_, by show (["n", "o"] : List Str).Nodup; decide +kernel, by show 1 ≤ 4; decide, by show 1 ≤ 8; decide⟩
  simp only [fdF, List.cons_append, List.nil_append, List.mem_cons, List.not_mem_nil, or_false] at h
  rcases h with rfl | rfl
  · exact ⟨nam_n, .inl rfl⟩
  · exact ⟨nam_o, .inr rfl⟩
theorem fdF_len (m : Nat) : (fdF m).rws.length = m + 1 := by simp [fdF]
theorem okF {m : Nat} (hm : m ≤ 30) (cl : ClsT) : FdOk cl [fdF m] (fdF m) := by
  have h := headF m
  refine ⟨h.nf, h.kd, h.nam, h.nd, h.l1, h.l2, fun r mr => ?_, ⟨fun r mr g e => ?_, ⟨_, _, rfl, .inr rfl⟩, by rw [fdF_len]; omega⟩⟩
  · rcases List.mem_append.mp (show r ∈ List.replicate m (Rx.see "n") ++ [.ret "n"] from mr) with c | c
    · rw [List.eq_of_mem_replicate c]
      exact ⟨"number", by show (("n", "number") : Str × Str) ∈ ([("n", "number"), ("o", "object")] : List (Str × Str)); exact List.mem_cons_self⟩
    · rw [List.mem_singleton.mp c]
      show (("n", "number") : Str × Str) ∈ ([("n", "number"), ("o", "object")] : List (Str × Str))
      exact List.mem_cons_self
  · rcases List.mem_append.mp (show r ∈ List.replicate m (Rx.see "n") ++ [.ret "n"] from mr) with c | c
    · rw [List.eq_of_mem_replicate c] at e
      cases e
    · rw [List.mem_singleton.mp c] at e
      cases e
theorem fnsF (m : Nat) : FnsIs [f0 (rowsV m)] [fdF m] := ⟨rfl, fun i f g a b => by
  match i, a, b with
  | 0, a, b =>
    rw [← Option.some.inj a, ← Option.some.inj b]
    exact fnF m⟩
theorem clsB : ∀ c ∈ cAllT, namB c.1 = true ∧ c.2 = ([("x", "number")] : List (Str × Str)) := by decide +kernel
theorem cls_one {c : Str × List (Str × Str)} (m : c ∈ cAllT) : Nam c.1 ∧ (∀ q ∈ c.2, Nam q.1 ∧ IsKind q.2) ∧ (c.2.map Prod.fst).Nodup ∧ c.2.length ≤ 4 := by
  obtain ⟨h1, h2⟩ := clsB c m
  rw [h2]
  exact ⟨namB_ok h1, fun q mq => by rw [List.mem_singleton.mp mq]; exact ⟨namB_ok (by decide +kernel), .inl rfl⟩, by simp, by show 1 ≤ 4; decide⟩
def fitB (cl : ClsT) : Bool := (List.range cl.length).all fun i => match cl[i]? with
  | some c => c.2.all fun q => decide (valV (ksM (cl.take i)) (Sum.inr q.1 : Key) = none) || decide (valV (ksM (cl.take i)) (Sum.inr q.1 : Key) = some (.str q.2))
  | none => true
theorem fitB_ok {cl : ClsT} (h : fitB cl = true) : ∀ (i : Nat) c, cl[i]? = some c → ∀ q ∈ c.2, valV (ksM (cl.take i)) (Sum.inr q.1 : Key) = none ∨ valV (ksM (cl.take i)) (Sum.inr q.1 : Key) = some (.str q.2) := fun i c e q m => by
  have hi := (List.getElem?_eq_some_iff.mp e).1
  have h2 := List.all_eq_true.mp h i (List.mem_range.mpr hi)
  rw [e] at h2
  have h3 := List.all_eq_true.mp h2 q m
  rcases Bool.or_eq_true_iff.mp h3 with z | z
  · exact .inl (of_decide_eq_true z)
  · exact .inr (of_decide_eq_true z)
theorem clsOk {n : Nat} (h : n < 4) : ClsOk (cAllT.take n) := by
  have key : ((cAllT.take n).map Prod.fst).Nodup ∧ fitB (cAllT.take n) = true := by
    match n, h with
    | 0, _ => decide +kernel
    | 1, _ => decide +kernel
    | 2, _ => decide +kernel
    | 3, _ => decide +kernel
  exact ⟨key.1, fun c m => cls_one (List.take_subset _ _ m), by rw [List.length_take]; omega, fitB_ok key.2⟩
end W5
set_option Elab.async false
set_option linter.all false
set_option maxRecDepth 100000
set_option maxHeartbeats 4000000
namespace W5
open PySem PySem.Spec PyProof.Rows L2 RZ TL
theorem joinL_nil : ∀ l : List (List Nat), joinL [] l = l.flatten
  | [] => rfl
  | [p] => by show p = p ++ []; simp
  | p :: q :: r => by
    show p ++ ([] ++ joinL [] (q :: r)) = p ++ (q :: r).flatten
    rw [joinL_nil (q :: r), List.nil_append]
theorem join0 (ls : List Str) : Txt.join "" (ls.map fun l => l ++ NL) = txt ls "" := tl_inj (by
  rw [join_eq, tl_join]
  show joinL [] _ = txtL ls ""
  rw [joinL_nil, List.map_map]
  unfold txtL
  show _ = _ ++ ([] : List Nat)
  rw [List.append_nil, ← List.flatMap_def]
  refine congrArg (fun f => List.flatMap f ls) (funext fun l => ?_)
  show tl (l ++ NL) = _
  rw [tl_append]
  rfl)
theorem cat_txt (ls : List Str) (e : Str) : txt ls "" ++ e = txt ls e := tl_inj (by
  rw [tl_append, tl_txt, tl_txt]
  unfold txtL
  show _ ++ ([] : List Nat) ++ _ = _
  rw [List.append_nil])
theorem txt_app (ls ms : List Str) : txt (ls ++ ms) "" = txt ls "" ++ txt ms "" := tl_inj (by
  rw [tl_append, tl_txt, tl_txt, tl_txt]
  unfold txtL
  rw [List.flatMap_append]
  show _ ++ ([] : List Nat) = (_ ++ ([] : List Nat)) ++ (_ ++ ([] : List Nat))
  rw [List.append_nil, List.append_nil, List.append_nil])
theorem cat_f (ls : List Str) : txt ls "" ++ "function f number /\n  jump 0\n" = txt (ls ++ [fL, jL]) "" := by
  rw [txt_app]
  exact congrArg (fun z => txt ls "" ++ z) (show ("function f number /\n  jump 0\n" : Str) = txt [fL, jL] "" by decide +kernel)
theorem cat_g (ls : List Str) : txt ls "" ++ "function g number /\n" = txt (ls ++ [gL]) "" := by
  rw [txt_app]
  exact congrArg (fun z => txt ls "" ++ z) (show ("function g number /\n" : Str) = txt [gL] "" by decide +kernel)
theorem cut_txt (ls : List Str) (l : Str) : cutS (txt (ls ++ [l]) "") none (some (-1)) = txt ls l := tl_inj (by
  have e : txtL (ls ++ [l]) "" = txtL ls l ++ [10] := by
    unfold txtL
    rw [List.flatMap_append, List.flatMap_singleton]
    show (_ ++ (tl l ++ [10])) ++ ([] : List Nat) = _
    rw [List.append_nil, List.append_assoc]
  have hl : (txt (ls ++ [l]) "").length = (txtL ls l).length + 1 := by
    show (txtL (ls ++ [l]) "").toArray.size = _
    rw [List.size_toArray, e, List.length_append]
    rfl
  have h1 : HT.sIx (txt (ls ++ [l]) "").length 0 none = 0 := rfl
  have h2 : HT.sIx (txt (ls ++ [l]) "").length (txt (ls ++ [l]) "").length (some (-1)) = (txtL ls l).length := by
    rw [hl]
    unfold HT.sIx
    simp
    try omega
  show ((((txt (ls ++ [l]) "").cps.toList.drop (HT.sIx (txt (ls ++ [l]) "").length 0 none)).take (HT.sIx (txt (ls ++ [l]) "").length (txt (ls ++ [l]) "").length (some (-1)) - HT.sIx (txt (ls ++ [l]) "").length 0 none))) = txtL ls l
  rw [h1, h2, List.drop_zero, Nat.sub_zero]
  show (txtL (ls ++ [l]) "").take _ = _
  rw [e, List.take_left'] 
  rfl)
theorem class_line : ∀ k : Nat, k < 4 → cAll[k]? = some (("class c" ++ Str.ofString (toString ((k : Nat) : Int))) ++ " x:number") := by
  intro k h
  match k, h with
  | 0, _ => decide +kernel
  | 1, _ => decide +kernel
  | 2, _ => decide +kernel
  | 3, _ => decide +kernel
/-! ### two functions -/
section
variable {K : PySem.W.Frag} {H : Hp} {Q : VK}
theorem good_mem {l : Str} (h : l ∈ cAll ∨ l = headL ∨ l = seeL ∨ l = retL ∨ l = fL ∨ l = gL ∨ l = jL ∨ l = "" ∨ l ∈ endsL) : LineOk l := good_ok l (by
  rcases h with h | h | h | h | h | h | h | h | h
  · exact List.mem_append_left _ (List.mem_append_left _ h)
  all_goals first
    | exact List.mem_append_right _ h
    | (subst h; exact List.mem_append_left _ (List.mem_append_right _ (by simp))))
theorem rLn_ok {m : Nat} {l : Str} (h : l ∈ rLn m) : LineOk l := by
  rcases List.mem_cons.mp h with h | h
  · exact good_mem (.inr (.inl h))
  rcases List.mem_append.mp h with h | h
  · exact good_mem (.inr (.inr (.inl (List.eq_of_mem_replicate h))))
  · exact good_mem (.inr (.inr (.inr (.inl (List.mem_singleton.mp h)))))
theorem cls_ok {n : Nat} {l : Str} (h : l ∈ cAll.take n) : LineOk l := good_mem (.inl (List.take_subset _ _ h))
theorem gln_ok {n m : Nat} {l : Str} (h : l ∈ gln n m) : LineOk l := by
  rcases List.mem_append.mp h with h | h
  · exact cls_ok h
  · exact rLn_ok h
theorem nil_ok : LineOk "" := good_mem (by simp)
def g1F : FdT := ⟨"f", "number", [], [], [.jump 0]⟩
def g1G : FdT := ⟨"g", "number", [], [], []⟩
theorem head1F : HeadOk g1F := ⟨nam_f, .inl rfl, (fun q m => by cases m), List.nodup_nil, by show 0 ≤ 4; decide, by show 0 ≤ 8; decide⟩
theorem head1G : HeadOk g1G := ⟨nam_g, .inl rfl, (fun q m => by cases m), List.nodup_nil, by show 0 ≤ 4; decide, by show 0 ≤ 8; decide⟩
theorem fnIs1F : FnIs ⟨"f", "number", [], [], [jumpV]⟩ g1F := ⟨rfl, rfl, rfl, rfl, rfl, fun i v r a b => by
  match i, a, b with
  | 0, a, b =>
    rw [← Option.some.inj a, ← Option.some.inj b]
    exact ⟨rfl, fun _ => rfl⟩⟩
theorem fnIs1G : FnIs ⟨"g", "number", [], [], []⟩ g1G := ⟨rfl, rfl, rfl, rfl, rfl, fun i v r a b => by simp at a⟩
theorem run_f {n : Nat} (h : n < 4) (m : Nat) : runL ⟨[], []⟩ ((gln n m ++ [fL, jL]).map wordsOf) = some ⟨cAllT.take n, [f0 (rowsV m), ⟨"f", "number", [], [], [jumpV]⟩]⟩ := by
  rw [List.map_append, runL_app, run_gln h m]
  show (step ⟨cAllT.take n, [f0 (rowsV m)]⟩ (wordsOf fL)).bind (fun s => runL s [wordsOf jL]) = _
  rw [st_f]
  show (step _ (wordsOf jL)).bind (fun s => runL s []) = _
  rw [st_j]
  rfl
theorem run_g {n : Nat} (h : n < 4) (m : Nat) : runL ⟨[], []⟩ ((gln n m ++ [gL]).map wordsOf) = some ⟨cAllT.take n, [f0 (rowsV m), ⟨"g", "number", [], [], []⟩]⟩ := by
  rw [List.map_append, runL_app, run_gln h m]
  show (step ⟨cAllT.take n, [f0 (rowsV m)]⟩ (wordsOf gL)).bind (fun s => runL s []) = _
  rw [st_g]
  rfl
theorem lines_app {ls : List Str} {e : Str} (h : ∀ l ∈ ls, LineOk l) (he : LineOk e) : ∀ l ∈ ls ++ [e], LineOk l := fun l m => by
  rcases List.mem_append.mp m with m | m
  · exact h l m
  · rw [List.mem_singleton.mp m]
    exact he
theorem f_lines {n m : Nat} : ∀ l ∈ gln n m ++ [fL, jL], LineOk l := fun l q => by
  rcases List.mem_append.mp q with q | q
  · exact gln_ok q
  · simp only [List.mem_cons, List.not_mem_nil, or_false] at q
    rcases q with rfl | rfl <;> exact good_mem (by simp)
theorem g_lines {n m : Nat} : ∀ l ∈ gln n m ++ [gL], LineOk l := lines_app (fun l q => gln_ok q) (good_mem (by simp))
theorem tells_f {n m : Nat} (h : n < 4) (hm : m ≤ 30) (k : ∀ (H' : Hp) (q t : Addr), Same H H' → H' t = some (.tup [.int 1]) → H' q = some (.tup [.str "functions", .ref t]) → Q (.ref q) H') : TextOk (txt (gln n m ++ [fL, jL]) "") ∧ Tells K (txt (gln n m ++ [fL, jL]) "") H Q :=
  tells_all (hl := (by simp only [gln, rLn, List.length_append, List.length_cons, List.length_take, List.length_replicate, List.length_nil]; omega)) (lines_app f_lines nil_ok) (run_f h m) ⟨clsOk h, .inr (.inr ⟨_, _, fdF m, g1F, rfl, fnF m, headF m, by rw [fdF_len]; omega, by rw [fdF_len]; omega, fnIs1F, head1F, by show 1 ≤ 40; decide, .inr rfl, k⟩)⟩
theorem tells_g {n m : Nat} (h : n < 4) (hm : m ≤ 30) (k : ∀ (H' : Hp) (q t : Addr), Same H H' → H' t = some (.tup [.int 1]) → H' q = some (.tup [.str "functions", .ref t]) → Q (.ref q) H') : TextOk (txt (gln n m ++ [gL]) "") ∧ Tells K (txt (gln n m ++ [gL]) "") H Q :=
  tells_all (hl := (by simp only [gln, rLn, List.length_append, List.length_cons, List.length_take, List.length_replicate, List.length_nil]; omega)) (lines_app g_lines nil_ok) (run_g h m) ⟨clsOk h, .inr (.inr ⟨_, _, fdF m, g1G, rfl, fnF m, headF m, by rw [fdF_len]; omega, by rw [fdF_len]; omega, fnIs1G, head1G, by show 0 ≤ 40; decide, .inl rfl, k⟩)⟩
theorem tells_good {n m : Nat} (h : n < 4) (hm : m ≤ 30) (k : ∀ H', Same H H' → Q .non H') : TextOk (txt (gln n m) "") ∧ Tells K (txt (gln n m) "") H Q :=
  tells_all (hl := (by simp only [gln, rLn, List.length_append, List.length_cons, List.length_take, List.length_replicate, List.length_nil]; omega)) (lines_app (fun l q => gln_ok q) nil_ok) (run_gln h m) ⟨clsOk h, .inl ⟨[fdF m], fnsF m, by simp, by show 1 ≤ 1; decide, by show 1 ≤ 6; decide, fun f mf => by rw [List.mem_singleton.mp mf]; exact okF hm _, k⟩⟩
theorem clsOk0 : ClsOk [] := clsOk (n := 0) (by decide)
theorem tells_none (k : ∀ (H' : Hp) (q : Addr), Same H H' → H' q = some (.tup [.str "functions", .int (-1)]) → Q (.ref q) H') : TextOk (txt [] "") ∧ Tells K (txt [] "") H Q :=
  tells_all (hl := (by simp only [gln, rLn, List.length_append, List.length_cons, List.length_take, List.length_replicate, List.length_nil]; omega)) (s := ⟨[], []⟩) (fun l m => by rw [List.mem_singleton.mp (show l ∈ ([""] : List Str) from m)]; exact nil_ok) rfl ⟨clsOk0, .inr (.inl ⟨rfl, k⟩)⟩
/-- a class's line that is none -/
theorem tells_c {n m : Nat} {bad : Str} (h : n < 4) (hm : m ≤ 30) (hb : bad ∈ oddC) (k : ∀ H', Same H H' → Q (.int (n : Nat)) H') : TextOk (txt (cAll.take n ++ bad :: rLn m) "") ∧ Tells K (txt (cAll.take n ++ bad :: rLn m) "") H Q := by
  refine tells_at (hl := (by simp only [gln, rLn, List.length_append, List.length_cons, List.length_take, List.length_replicate, List.length_nil]; omega)) (s := ⟨cAllT.take n, []⟩) (lines_app (fun l q => ?_) nil_ok) (run_cls h) (noStep_ok (oddC_no bad hb)) (fun H' s => ?_)
  · rcases List.mem_append.mp q with q | q
    · exact cls_ok q
    rcases List.mem_cons.mp q with q | q
    · rw [q]
      exact oddC_ok bad hb
    · exact rLn_ok q
  · have e : (cAll.take n).length = n := by rw [List.length_take]; show min n 4 = n; omega
    rw [e]
    exact k H' s
theorem tells_b {n m : Nat} {bad : Str} (h : n < 4) (hm : m ≤ 30) (hb : bad ∈ oddL) (k : ∀ H', Same H H' → Q (.int ((n + m + 2 : Nat) : Int)) H') : TextOk (txt (gln n m ++ [bad]) "") ∧ Tells K (txt (gln n m ++ [bad]) "") H Q := by
  refine tells_at (hl := (by simp only [gln, rLn, List.length_append, List.length_cons, List.length_take, List.length_replicate, List.length_nil]; omega)) (post := []) (s := ⟨cAllT.take n, [f0 (rowsV m)]⟩) (lines_app (fun l q => ?_) nil_ok) (run_gln h m) (noStep_ok (odd_no bad hb)) (fun H' s => ?_)
  · rcases List.mem_append.mp q with q | q
    · exact gln_ok q
    · rw [List.mem_singleton.mp q]
      exact odd_ok bad hb
  · rw [gln_len h m]
    exact k H' s
theorem tells_h {n m : Nat} {bad : Str} (h : n < 4) (hm : m ≤ 30) (hb : bad ∈ oddL) (k : ∀ H', Same H H' → Q (.int ((n + 1 : Nat) : Int)) H') : TextOk (txt ((cAll.take n ++ [headL]) ++ bad :: (List.replicate m seeL ++ [retL])) "") ∧ Tells K (txt ((cAll.take n ++ [headL]) ++ bad :: (List.replicate m seeL ++ [retL])) "") H Q := by
  refine tells_at (hl := (by simp only [gln, rLn, List.length_append, List.length_cons, List.length_take, List.length_replicate, List.length_nil]; omega)) (s := ⟨cAllT.take n, [f0 []]⟩) (lines_app (fun l q => ?_) nil_ok) ?_ (noStep_ok (odd_no bad hb)) (fun H' s => ?_)
  · rcases List.mem_append.mp q with q | q
    · rcases List.mem_append.mp q with q | q
      · exact cls_ok q
      · rw [List.mem_singleton.mp q]
        exact good_mem (by simp)
    rcases List.mem_cons.mp q with q | q
    · rw [q]
      exact odd_ok bad hb
    · exact rLn_ok (m := m) (List.mem_cons_of_mem _ q)
  · rw [List.map_append, runL_app, run_cls h]
    show (step ⟨cAllT.take n, []⟩ (wordsOf headL)).bind (fun s => runL s []) = _
    rw [st_head]
    rfl
  · have e : (cAll.take n ++ [headL]).length = n + 1 := by rw [List.length_append, List.length_take]; show min n 4 + 1 = n + 1; omega
    rw [e]
    exact k H' s
theorem tells_e {n m : Nat} {e : Str} (h : n < 4) (hm : m ≤ 30) (hb : e ∈ endsL) (k : ∀ H', Same H H' → Q (.int ((n + m + 2 : Nat) : Int)) H') : TextOk (txt (gln n m) e) ∧ Tells K (txt (gln n m) e) H Q := by
  refine tells_end (hl := (by simp only [gln, rLn, List.length_append, List.length_cons, List.length_take, List.length_replicate, List.length_nil]; omega)) (s := ⟨cAllT.take n, [f0 (rowsV m)]⟩) (lines_app (fun l q => gln_ok q) (good_mem (by simp [hb]))) (fun z => ?_) (run_gln h m) (fun H' s => ?_)
  · rw [z] at hb
    exact absurd hb (by decide +kernel)
  · rw [gln_len h m]
    exact k H' s
theorem gln_cut (n m : Nat) : gln n m = (cAll.take n ++ headL :: List.replicate m seeL) ++ [retL] := by
  unfold gln rLn
  simp
theorem tells_cut {n m : Nat} (h : n < 4) (hm : m ≤ 30) (k : ∀ H', Same H H' → Q (.int ((n + m + 1 : Nat) : Int)) H') : TextOk (txt (cAll.take n ++ headL :: List.replicate m seeL) retL) ∧ Tells K (txt (cAll.take n ++ headL :: List.replicate m seeL) retL) H Q := by
  refine tells_end (hl := (by simp only [gln, rLn, List.length_append, List.length_cons, List.length_take, List.length_replicate, List.length_nil]; omega)) (s := ⟨cAllT.take n, [f0 (List.replicate m seeV)]⟩) (lines_app (fun l q => ?_) (good_mem (by simp))) (by decide +kernel) ?_ (fun H' s => ?_)
  · rcases List.mem_append.mp q with q | q
    · exact cls_ok q
    · exact rLn_ok (m := m) (by
        rcases List.mem_cons.mp q with q | q
        · rw [q]
          exact List.mem_cons_self
        · exact List.mem_cons_of_mem _ (List.mem_append_left _ q))
  · rw [List.map_append, runL_app, run_cls h]
    exact run_head _ m
  · have e : (cAll.take n ++ headL :: List.replicate m seeL).length = n + m + 1 := by
      rw [List.length_append, List.length_take, List.length_cons, List.length_replicate]
      show min n 4 + (m + 1) = _
      omega
    rw [e]
    exact k H' s
end
end W5
set_option Elab.async false
set_option linter.all false
set_option maxRecDepth 100000
set_option maxHeartbeats 4000000
namespace W5
open PySem PySem.Spec PyProof.Rows L2 RZ TL CA
section
variable {P : Program} {w : World} {K : PySem.W.Frag} {mg : Str → Option Value} {base : Heap}

/-- a source of draws -/
def WellAt (H : Hp) (p : Addr) : Prop := ∃ a b c : Int, H p = some (.lst [.int a, .int b, .int c])
theorem fm {a : Int} {m : Nat} (h : 0 < m) : ∃ k : Nat, k < m ∧ a.fmod (m : Int) = (k : Int) := by
  have h0 : (0 : Int) < (m : Int) := by omega
  have h1 : 0 ≤ a.fmod (m : Int) := Int.fmod_nonneg_of_pos a h0
  have h2 : a.fmod (m : Int) < (m : Int) := Int.fmod_lt_of_pos a h0
  exact ⟨(a.fmod (m : Int)).toNat, by omega, by omega⟩
theorem mb {a m : Int} (h : 0 < m) (h2 : m < 2 ^ 64) : -(2 ^ 64) < a.fmod m ∧ a.fmod m < 2 ^ 64 := by
  have h1 : 0 ≤ a.fmod m := Int.fmod_nonneg_of_pos a h
  have h3 : a.fmod m < m := Int.fmod_lt_of_pos a h
  omega
theorem bb (b : Bool) : -(2 ^ 64) < b2i b ∧ b2i b < 2 ^ 64 := by cases b <;> decide
theorem sql_mono {H H' : Hp} {a : Addr} {xs : List V} (h : SqL K H a xs) (e : Same H H') : SqL K H' a xs := Or.imp (fun r => Or.imp (e _ _) (fun ⟨o, q⟩ => ⟨o, e _ _ q⟩) r) id h
def spMix : Sp := fun vs H Q _ => ∃ c k : Int, vs = [.int c, .int k] ∧ ∀ z : Int, Q (.int z) H
def spWell (K : PySem.W.Frag) : Sp := fun vs H Q _ => ∃ (a : Addr) (ns : List Int) (k : Nat), vs = [.ref a, .int k] ∧ SqL K H a (ns.map V.int) ∧ ns.length ≤ 1000 ∧ ∀ p H', Same H H' → H p = none → WellAt H' p → Q (.ref p) H'
def spDraw : Sp := fun vs H Q _ => ∃ (p : Addr) (m : Nat), vs = [.ref p, .int m] ∧ WellAt H p ∧ 0 < m ∧ m ≤ 1000 ∧ ∀ (k : Nat) (H' : Hp), k < m → But p H H' → WellAt H' p → Q (.int k) H' 
theorem sc_L_mix : FnScope ["_law_cell", "_law_lap", "_law_blend"] ["_law_cell", "_law_lap"] (defScope s_L_mix) := ⟨rfl, rfl, rfl, by decide +kernel, rfl, by decide +kernel, by decide +kernel⟩
theorem ok_L_mix (T : Ctx w K mg) : Has P w K mg base 1 "_law_mix" ["_law_cell", "_law_lap"] spMix := by
  obtain ⟨fd, F⟩ := T.D_L_mix
  refine ⟨⟨fd, F.ok sc_L_mix (fun vs H Q E h => ?_) (fun cdv A outer s H vs Q E hr h => ?_), F.bindsN fun _ _ _ _ _ _ us hl => match us, hl with | [_, _], _ => rfl⟩, F.kp, T.g_L_mix⟩
  · obtain ⟨c, kk, rfl, k⟩ := h; rfl
  · obtain ⟨c, kk, rfl, k⟩ := h
    have hu := hu_of hr
    refine ⟨_, PSs.nox (pss_cons (ps_set (i := 2) sc_L_mix.nd rfl (Or.inl rfl) (pe_op op_add (pe_op op_add (pe_op op_add (pe_op op_modN (pe_callTy call_int1 (by rfl) T.f_int (by decide +kernel) (pa_cons (pv 0) pa_nil)) pe_int) (pe_op op_mul pe_int (pv 1))) (pe_op op_modN (pe_callTy call_int1 (by rfl) T.f_int (by decide +kernel) (pa_cons (pe_op op_fdivW (pv 0) pe_int) pa_nil)) pe_int)) pe_int))
      (pss_cons (ps_set (i := 2) sc_L_mix.nd rfl (Or.inl rfl) (pe_op op_modN (pe_callTy call_int1 (by rfl) T.f_int (by decide +kernel) (pa_cons (pe_op op_mul (pv 2) pe_int) pa_nil)) pe_int))
      (pss_cons (ps_set (i := 2) sc_L_mix.nd rfl (Or.inl rfl) (pe_op op_modN (pe_callTy call_int1 (by rfl) T.f_int (by decide +kernel) (pa_cons (pe_op op_mul (pv 2) (pe_op op_add (pe_op op_add (pe_op op_fdivN (pv 2) pe_int) pe_int) (pv 1))) pa_nil)) pe_int))
      (pss_one (ps_ret (pe_op op_modN (pe_callTy call_int1 (by rfl) T.f_int (by decide +kernel) (pa_cons (pe_op op_mul (pv 2) (pe_op op_add (pe_op op_fdivN (pv 2) pe_int) pe_int)) pa_nil)) pe_int)))))), ?_⟩
    refine ⟨_, rfl, .inl ⟨_, rfl, _, _, rfl, rfl, (by show (2147483629 : Int) ≠ 0; decide), _, rfl, _, _, rfl, rfl, .inl ⟨by decide, by decide⟩, _, _, rfl, rfl, ?_⟩⟩
    refine ⟨_, rfl, _, _, rfl, rfl, wide_div (b := 40) (by decide) (by decide) (by decide) (by decide), .inl ⟨_, rfl, _, _, rfl, rfl, (by show (1000003 : Int) ≠ 0; decide), _, _, rfl, rfl, _, _, rfl, rfl, ?_⟩⟩
    refine ⟨_, rfl, _, _, rfl, rfl, .inr ⟨by decide, by decide⟩, .inl ⟨_, rfl, _, _, rfl, rfl, (by show (2147483629 : Int) ≠ 0; decide), ?_⟩⟩
    refine ⟨_, rfl, _, rfl, _, _, rfl, rfl, ⟨by show (1021 : Int) ≠ 0; decide, by show (1021 : Int).natAbs < 1073741824; decide⟩, _, _, rfl, rfl, _, rfl, _, _, rfl, rfl, _, _, rfl, rfl, .inl (mb (by decide) (by decide)), .inl ⟨_, rfl, _, _, rfl, rfl, (by show (2147483587 : Int) ≠ 0; decide), ?_⟩⟩
    exact ⟨_, rfl, _, rfl, _, _, rfl, rfl, ⟨by show (2011 : Int) ≠ 0; decide, by show (2011 : Int).natAbs < 1073741824; decide⟩, _, _, rfl, rfl, _, _, rfl, rfl, .inl (mb (by decide) (by decide)), .inl ⟨_, rfl, _, _, rfl, rfl, (by show (2147483563 : Int) ≠ 0; decide), k _⟩⟩
theorem sc_L_well : FnScope ["_law_script", "_law_k", "_law_cell"] ["_law_script", "_law_k"] (defScope s_L_well) := ⟨rfl, rfl, rfl, by decide +kernel, rfl, by decide +kernel, by decide +kernel⟩
theorem ok_L_well (T : Ctx w K mg) : Has P w K mg base 1 "_law_well" ["_law_script", "_law_k"] (spWell K) := by
  obtain ⟨fd, F⟩ := T.D_L_well
  refine ⟨⟨fd, F.ok sc_L_well (fun vs H Q E h => ?_) (fun cdv A outer s H vs Q E hr h => ?_), F.bindsN fun _ _ _ _ _ _ us hl => match us, hl with | [_, _], _ => rfl⟩, F.kp, T.g_L_well⟩
  · obtain ⟨a, ns, kk, rfl, hS, hl, k⟩ := h; rfl
  · obtain ⟨a, ns, kk, rfl, hS, hl, k⟩ := h
    have hu := hu_of hr
    refine ⟨_, PSs.nox (pss_cons (ps_set (i := 2) sc_L_well.nd rfl (Or.inl rfl) (pe_op op_add (pe_ix ix_list (pe_op op_catL (pv 0) (pe_lst (pa_cons pe_int pa_nil))) pe_int (fun _ _ => rfl)) (pe_op op_mul pe_int (pv 1))))
      (pss_cons (ps_if (pt_cmpR op_lt (pv 1) (pe_callB call_len_seq (by rfl) T.f_len (by decide +kernel) (pa_cons (pv 0) pa_nil)) (nomark _)) (pss_one (ps_set (i := 2) sc_L_well.nd rfl (Or.inl rfl) (pe_ix ix_list (pv 0) (pv 1) (fun _ _ => rfl)))) pss_nil)
      (pss_one (ps_ret (pe_lst (pa_cons (pe_op op_mul (pv 2) (pe_callTy call_int1 (by rfl) T.f_int (by decide +kernel) (pa_cons (pe_cmpR op_ge (pv 2) (pe_op op_pow pe_int pe_int) (nomark _)) pa_nil))) (pa_cons (pv 2) (pa_cons pe_int pa_nil)))))))), ?_⟩
    have hz : (ns.map V.int).length ≤ 1000 := by rw [List.length_map]; exact hl
    refine ⟨_, rfl, sz_of (by show 1 ≤ 100000; decide), fun z hz0 => ⟨a, z, _, _, rfl, rfl, sql_mono hS (Same.new hz0), SqL.of upd_same, sz_of (by rw [List.length_singleton]; omega), fun q hq => ?_⟩⟩
    have s1 := Same.new (o := .lst [.int 0]) hz0
    have s2 := Same.new (o := .lst (ns.map V.int ++ [.int 0])) hq
    have s12 := s1.trans s2
    obtain ⟨c0, hc0⟩ : ∃ c : Int, atI (ns.map V.int ++ [V.int 0]) 0 = some (.int c) := by
      cases ns with
      | nil => exact ⟨0, at0⟩
      | cons x xs => exact ⟨x, at0⟩
    refine ⟨q, _, _, _, rfl, rfl, SqL.of upd_same, hc0, _, rfl, _, _, rfl, rfl, .inl ⟨by decide, by decide⟩, _, _, rfl, rfl, ?_⟩
    have fin : ∀ (c : Int) (σ : L2.St), σ = σ → True := fun _ _ _ => trivial
    have hS2 := sql_mono hS s12
    refine ⟨_, rfl, _, rfl, _, _, rfl, .inl hS2, _, _, rfl, rfl, _, rfl, ?_⟩
    rw [List.length_map]
    by_cases ck : (kk : Int) < (ns.length : Int)
    · refine ifT (decide_eq_true ck) ?_
      have hkk : kk < ns.length := by omega
      refine ⟨_, rfl, _, rfl, a, _, _, _, rfl, rfl, hS2, atI_nat (by rw [List.getElem?_map, List.getElem?_eq_getElem hkk]; rfl), ?_⟩
      refine ⟨_, rfl, _, rfl, _, _, rfl, rfl, ⟨by decide, by decide, by decide⟩, _, _, rfl, rfl, .inr ⟨_, rfl, _, _, rfl, rfl, .inr (bb _), ?_⟩⟩
      exact ⟨_, rfl, sz_of (by show 3 ≤ 100000; decide), fun l hl => k l _ (s12.trans (Same.new hl)) (none_of s12 hl) ⟨_, _, _, upd_same⟩⟩
    · refine ifF (decide_eq_false ck) ?_
      refine ⟨_, rfl, _, rfl, _, _, rfl, rfl, ⟨by decide, by decide, by decide⟩, _, _, rfl, rfl, .inr ⟨_, rfl, _, _, rfl, rfl, .inr (bb _), ?_⟩⟩
      exact ⟨_, rfl, sz_of (by show 3 ≤ 100000; decide), fun l hl => k l _ (s12.trans (Same.new hl)) (none_of s12 hl) ⟨_, _, _, upd_same⟩⟩
theorem sc_L_draw : FnScope ["_law_well_here", "_law_many", "_law_drawn"] ["_law_well_here", "_law_many"] (defScope s_L_draw) := ⟨rfl, rfl, rfl, by decide +kernel, rfl, by decide +kernel, by decide +kernel⟩
theorem ok_L_draw (T : Ctx w K mg) (H_L_mix : Has P w K mg base 1 "_law_mix" ["_law_cell", "_law_lap"] spMix) : Has P w K mg base 2 "_law_draw" ["_law_well_here", "_law_many"] spDraw := by
  obtain ⟨fd, F⟩ := T.D_L_draw
  obtain ⟨fd_L_mix, G_L_mix, b_L_mix⟩ := H_L_mix.ex
  refine ⟨⟨fd, F.ok sc_L_draw (fun vs H Q E h => ?_) (fun cdv A outer s H vs Q E hr h => ?_), F.bindsN fun _ _ _ _ _ _ us hl => match us, hl with | [_, _], _ => rfl⟩, F.kp, T.g_L_draw⟩
  · obtain ⟨p, m, rfl, hw, hm, hm2, k⟩ := h; rfl
  · obtain ⟨p, m, rfl, hw, hm, hm2, k⟩ := h
    have hr_L_mix : Room 1 _ := hr.mono (by decide)
    have hu := hu_of hr
    refine ⟨_, PSs.nox (pss_cons (ps_if (pt_cmpR op_gt (pe_ix ix_list (pv 0) pe_int (fun _ _ => rfl)) pe_int (nomark _)) (pss_cons (ps_set (i := 2) sc_L_draw.nd rfl (Or.inl rfl) (pe_op op_modN (pe_callTy call_int1 (by rfl) T.f_int (by decide +kernel) (pa_cons (pe_ix ix_list (pv 0) pe_int (fun _ _ => rfl)) pa_nil)) (pv 1)))
      (pss_cons (ps_asg (pe_op op_fdivN (pe_ix ix_list (pv 0) pe_int (fun _ _ => rfl)) (pv 1)) (pg_sub (pv 0) pe_int set_list))
      (pss_one (ps_ret (pv 2))))) pss_nil)
      (pss_cons (ps_asg (pe_op op_add (pe_ix ix_list (pv 0) pe_int (fun _ _ => rfl)) pe_int) (pg_sub (pv 0) pe_int set_list))
      (pss_one (ps_ret (pe_op op_modN (pe_callTy call_int1 (by rfl) T.f_int (by decide +kernel) (pa_cons (pe_call G_L_mix hr_L_mix (by rfl) H_L_mix.gl H_L_mix.kp b_L_mix .nil pass0 (pa_cons (pe_ix ix_list (pv 0) pe_int (fun _ _ => rfl)) (pa_cons (pe_ix ix_list (pv 0) pe_int (fun _ _ => rfl)) pa_nil))) pa_nil)) (pv 1)))))), ?_⟩
    obtain ⟨a, b, c, hp⟩ := hw
    have hm0 : (m : Int) ≠ 0 := by omega
    refine ⟨_, rfl, _, _, _, _, rfl, rfl, SqL.of hp, at0, _, _, rfl, rfl, _, rfl, ?_⟩
    by_cases ca : (0 : Int) < a
    · refine ifT (decide_eq_true ca) ?_
      obtain ⟨kk, hk, ek⟩ := fm (a := a) hm
      refine ⟨_, rfl, _, _, _, _, rfl, rfl, SqL.of hp, at0, .inl ⟨_, rfl, _, rfl, _, _, rfl, rfl, hm0, ?_⟩⟩
      refine ⟨_, rfl, _, _, _, _, rfl, rfl, SqL.of hp, at0, _, rfl, _, _, rfl, rfl, ⟨hm0, by omega⟩, _, rfl, p, _, 0, 0, rfl, rfl, hp, rfl, ?_⟩
      refine ⟨_, rfl, ?_⟩
      show Q (.int (a.fmod (m : Int))) _
      rw [ek]
      exact k kk _ hk But.upd ⟨_, _, _, upd_same⟩
    · refine ifF (decide_eq_false ca) ?_
      refine ⟨_, rfl, _, _, _, _, rfl, rfl, SqL.of hp, at2, _, _, rfl, rfl, _, rfl, p, _, 2, 2, rfl, rfl, hp, rfl, ?_⟩
      have hp2 : upd H p (.lst [.int a, .int b, .int (c + 1)]) p = some (.lst [.int a, .int b, .int (c + 1)]) := upd_same
      refine ⟨_, rfl, _, _, _, _, rfl, rfl, SqL.of hp2, at1, _, rfl, _, _, _, _, rfl, rfl, SqL.of hp2, at2, b, c + 1, rfl, fun z => .inl ⟨_, rfl, _, rfl, _, _, rfl, rfl, hm0, ?_⟩⟩
      obtain ⟨kk, hk, ek⟩ := fm (a := z) hm
      show Q (.int (z.fmod (m : Int))) _
      rw [ek]
      exact k kk _ hk But.upd ⟨_, _, _, upd_same⟩

end
end W5
set_option Elab.async false
set_option linter.all false
set_option maxRecDepth 100000
set_option maxHeartbeats 4000000
namespace W5
open PySem PySem.Spec PyProof.Rows L2 RZ TL CA
section
variable {P : Program} {w : World} {K : PySem.W.Frag} {mg : Str → Option Value} {base : Heap}

def spStrs (ss : List Str) : Sp := fun vs H Q _ => vs = [] ∧ ∀ p H', Same H H' → H p = none → H' p = some (.lst (ss.map V.str)) → Q (.ref p) H' 
def oc1 : List Str := ["class", "class ", "class C", "class c ", "class c x", "class c x:", "class c x:numbers"]
def oc2 : List Str := ["class c x:number:", "class  c", "class c  x:number", " class c", "  class c", "class c x;number"]
def oc3 : List Str := ["class c 1x:number", "class abcdefghi", "", "  jump 0", "  return x", "class c /"]
def oc4 : List Str := ["class c x:number / y:number"]
theorem oc_eq : oddC = (((oc1 ++ oc2) ++ oc3) ++ oc4) := by decide +kernel
theorem sc_L_odd_classes : FnScope ["_law_found"] [] (defScope s_L_odd_classes) := ⟨rfl, rfl, rfl, by decide +kernel, rfl, by decide +kernel, by decide +kernel⟩
theorem ok_L_odd_classes (T : Ctx w K mg) : Has P w K mg base 1 "_law_odd_classes" [] (spStrs oddC) := by
  obtain ⟨fd, F⟩ := T.D_L_odd_classes
  refine ⟨⟨fd, F.ok sc_L_odd_classes (fun vs H Q E h => ?_) (fun cdv A outer s H vs Q E hr h => ?_), F.bindsN fun _ _ _ _ _ _ us hl => match us, hl with | [], _ => rfl⟩, F.kp, T.g_L_odd_classes⟩
  · obtain ⟨rfl, k⟩ := h; rfl
  · obtain ⟨rfl, k⟩ := h
    have hu := hu_of hr
    refine ⟨_, PSs.nox (pss_cons (ps_set (i := 0) sc_L_odd_classes.nd rfl (Or.inl rfl) (pe_lst (pa_strs (ss := oc1) (by rfl))))
      (pss_cons (ps_set (i := 0) sc_L_odd_classes.nd rfl (Or.inl rfl) (pe_op op_cat (pv 0) (pe_lst (pa_strs (ss := oc2) (by rfl)))))
      (pss_cons (ps_set (i := 0) sc_L_odd_classes.nd rfl (Or.inl rfl) (pe_op op_cat (pv 0) (pe_lst (pa_strs (ss := oc3) (by rfl)))))
      (pss_one (ps_ret (pe_op op_cat (pv 0) (pe_lst (pa_strs (ss := oc4) (by rfl))))))))), ?_⟩
    refine ⟨sz_of (by show 7 ≤ 100000; decide), fun p1 hn1 => ?_⟩
    have s1 := Same.new (o := .lst (oc1.map V.str)) hn1
    have hp1 : upd H p1 (.lst (oc1.map V.str)) p1 = some (.lst (oc1.map V.str)) := upd_same
    have nb1 : H p1 = none := hn1
    generalize upd H p1 (.lst (oc1.map V.str)) = H1 at *
    refine ⟨_, rfl, sz_of (by show 6 ≤ 100000; decide), fun l2 hl2 => ⟨p1, l2, _, _, rfl, rfl, Same.new hl2 _ _ hp1, upd_same, sz_of (by show 13 ≤ 100000; decide), fun p2 hq2 => ?_⟩⟩
    have t2 := s1.trans (Same.new (o := (.lst (oc2.map V.str))) hl2)
    have nb2 : H p2 = none := none_of t2 hq2
    have s2 := t2.trans (Same.new (o := (.lst ((oc1).map V.str ++ oc2.map V.str))) hq2)
    have hp2 : upd (upd H1 l2 (.lst (oc2.map V.str))) p2 (.lst ((oc1).map V.str ++ oc2.map V.str)) p2 = some (.lst ((oc1 ++ oc2).map V.str)) := by rw [upd_same, ← List.map_append]
    generalize upd (upd H1 l2 (.lst (oc2.map V.str))) p2 (.lst ((oc1).map V.str ++ oc2.map V.str)) = H2 at *
    refine ⟨_, rfl, sz_of (by show 6 ≤ 100000; decide), fun l3 hl3 => ⟨p2, l3, _, _, rfl, rfl, Same.new hl3 _ _ hp2, upd_same, sz_of (by show 19 ≤ 100000; decide), fun p3 hq3 => ?_⟩⟩
    have t3 := s2.trans (Same.new (o := (.lst (oc3.map V.str))) hl3)
    have nb3 : H p3 = none := none_of t3 hq3
    have s3 := t3.trans (Same.new (o := (.lst (((oc1 ++ oc2)).map V.str ++ oc3.map V.str))) hq3)
    have hp3 : upd (upd H2 l3 (.lst (oc3.map V.str))) p3 (.lst (((oc1 ++ oc2)).map V.str ++ oc3.map V.str)) p3 = some (.lst (((oc1 ++ oc2) ++ oc3).map V.str)) := by rw [upd_same, ← List.map_append]
    generalize upd (upd H2 l3 (.lst (oc3.map V.str))) p3 (.lst (((oc1 ++ oc2)).map V.str ++ oc3.map V.str)) = H3 at *
    refine ⟨_, rfl, sz_of (by show 1 ≤ 100000; decide), fun l4 hl4 => ⟨p3, l4, _, _, rfl, rfl, Same.new hl4 _ _ hp3, upd_same, sz_of (by show 20 ≤ 100000; decide), fun p4 hq4 => ?_⟩⟩
    have t4 := s3.trans (Same.new (o := (.lst (oc4.map V.str))) hl4)
    have nb4 : H p4 = none := none_of t4 hq4
    have s4 := t4.trans (Same.new (o := (.lst ((((oc1 ++ oc2) ++ oc3)).map V.str ++ oc4.map V.str))) hq4)
    have hp4 : upd (upd H3 l4 (.lst (oc4.map V.str))) p4 (.lst ((((oc1 ++ oc2) ++ oc3)).map V.str ++ oc4.map V.str)) p4 = some (.lst ((((oc1 ++ oc2) ++ oc3) ++ oc4).map V.str)) := by rw [upd_same, ← List.map_append]
    exact k p4 _ s4 nb4 (by rw [oc_eq]; exact hp4)
def od1 : List Str := ["", " ", "  ", "   jump 0", " jump 0", "jump 0", "  jump", "  jump  0", "  jump 0 ", "  jump x"]
def od2 : List Str := ["  jump 00", "  jump +0", "  jump -0", "  jump 1.0", (("  jump " : Str) ++ ones), "\tjump 0", "  Jump 0"]
def od3 : List Str := ["  jump 0 0", "  number x", "  number x y", "  number 1 x", "  number X 1", "  number x 1_0"]
def od4 : List Str := ["  number x 0x1", "  add x y", "  add x y z w", "  add x y 1", "  less x,y,z", "  call"]
def od5 : List Str := ["  call x f 1", "  call x f  y", "  if x", "  if 1 x", "  see", "  see x y", "  see abcdefghi"]
def od6 : List Str := ["  see a-b", "  see 1a", "  return", "  return x y", "  new x", "  get x y", "  put x f", "  nil"]
def od7 : List Str := ["  wait x", "  class c", "function", "function f", "function f number"]
def od8 : List Str := ["function f number x:number"]
def od9 : List Str := ["function f numbers /", "function F number /", "function f number / x"]
def od10 : List Str := ["function f number x /"]
def od11 : List Str := ["function f number / /", "function f number x:Number /", "function f number x: /"]
def od12 : List Str := ["function f number :number /", "function f number x:number:number /", "function  f number /"]
def od13 : List Str := ["function f number / ", "Function f number /", "function f object x :number /"]
def od14 : List Str := ["class c", "class", "classes c"]
theorem od_eq : oddL = ((((((((((((((od1 ++ od2) ++ od3) ++ od4) ++ (["  call x"] : List Str)) ++ od5) ++ od6) ++ od7) ++ od8) ++ od9) ++ od10) ++ od11) ++ od12) ++ od13) ++ od14) := by decide +kernel
theorem sc_L_odd_lines : FnScope ["_law_found"] [] (defScope s_L_odd_lines) := ⟨rfl, rfl, rfl, by decide +kernel, rfl, by decide +kernel, by decide +kernel⟩
theorem ok_L_odd_lines (T : Ctx w K mg) : Has P w K mg base 1 "_law_odd_lines" [] (spStrs oddL) := by
  obtain ⟨fd, F⟩ := T.D_L_odd_lines
  refine ⟨⟨fd, F.ok sc_L_odd_lines (fun vs H Q E h => ?_) (fun cdv A outer s H vs Q E hr h => ?_), F.bindsN fun _ _ _ _ _ _ us hl => match us, hl with | [], _ => rfl⟩, F.kp, T.g_L_odd_lines⟩
  · obtain ⟨rfl, k⟩ := h; rfl
  · obtain ⟨rfl, k⟩ := h
    have hu := hu_of hr
    refine ⟨_, PSs.nox (pss_cons (ps_set (i := 0) sc_L_odd_lines.nd rfl (Or.inl rfl) (pe_lst (pa_strs (ss := od1) (by rfl))))
      (pss_cons (ps_set (i := 0) sc_L_odd_lines.nd rfl (Or.inl rfl) (pe_op op_cat (pv 0) (pe_lst (pa_cons pe_str (pa_cons pe_str (pa_cons pe_str (pa_cons pe_str (pa_cons (pe_op op_add_str pe_str (pe_op op_ones pe_str pe_int)) (pa_cons pe_str (pa_cons pe_str pa_nil))))))))))
      (pss_cons (ps_set (i := 0) sc_L_odd_lines.nd rfl (Or.inl rfl) (pe_op op_cat (pv 0) (pe_lst (pa_strs (ss := od3) (by rfl)))))
      (pss_cons (ps_set (i := 0) sc_L_odd_lines.nd rfl (Or.inl rfl) (pe_op op_cat (pv 0) (pe_lst (pa_strs (ss := od4) (by rfl)))))
      (pss_cons (ps_expr (pe_bm PySem.F.plainAttrs_list PySem.F.slot_list_append PySem.F.type_list_append mt_append (pv 0) (pa_cons pe_str pa_nil)))
      (pss_cons (ps_set (i := 0) sc_L_odd_lines.nd rfl (Or.inl rfl) (pe_op op_cat (pv 0) (pe_lst (pa_strs (ss := od5) (by rfl)))))
      (pss_cons (ps_set (i := 0) sc_L_odd_lines.nd rfl (Or.inl rfl) (pe_op op_cat (pv 0) (pe_lst (pa_strs (ss := od6) (by rfl)))))
      (pss_cons (ps_set (i := 0) sc_L_odd_lines.nd rfl (Or.inl rfl) (pe_op op_cat (pv 0) (pe_lst (pa_strs (ss := od7) (by rfl)))))
      (pss_cons (ps_set (i := 0) sc_L_odd_lines.nd rfl (Or.inl rfl) (pe_op op_cat (pv 0) (pe_lst (pa_strs (ss := od8) (by rfl)))))
      (pss_cons (ps_set (i := 0) sc_L_odd_lines.nd rfl (Or.inl rfl) (pe_op op_cat (pv 0) (pe_lst (pa_strs (ss := od9) (by rfl)))))
      (pss_cons (ps_set (i := 0) sc_L_odd_lines.nd rfl (Or.inl rfl) (pe_op op_cat (pv 0) (pe_lst (pa_strs (ss := od10) (by rfl)))))
      (pss_cons (ps_set (i := 0) sc_L_odd_lines.nd rfl (Or.inl rfl) (pe_op op_cat (pv 0) (pe_lst (pa_strs (ss := od11) (by rfl)))))
      (pss_cons (ps_set (i := 0) sc_L_odd_lines.nd rfl (Or.inl rfl) (pe_op op_cat (pv 0) (pe_lst (pa_strs (ss := od12) (by rfl)))))
      (pss_cons (ps_set (i := 0) sc_L_odd_lines.nd rfl (Or.inl rfl) (pe_op op_cat (pv 0) (pe_lst (pa_strs (ss := od13) (by rfl)))))
      (pss_one (ps_ret (pe_op op_cat (pv 0) (pe_lst (pa_strs (ss := od14) (by rfl)))))))))))))))))))), ?_⟩
    refine ⟨sz_of (by show 10 ≤ 100000; decide), fun p1 hn1 => ?_⟩
    have s1 := Same.new (o := .lst (od1.map V.str)) hn1
    have hp1 : upd H p1 (.lst (od1.map V.str)) p1 = some (.lst (od1.map V.str)) := upd_same
    have nb1 : H p1 = none := hn1
    generalize upd H p1 (.lst (od1.map V.str)) = H1 at *
    refine ⟨_, rfl, rfl, rfl, _, _, rfl, rfl, sz_of (by decide +kernel), sz_of (by show 7 ≤ 100000; decide), fun l2 hl2 => ⟨p1, l2, _, _, rfl, rfl, Same.new hl2 _ _ hp1, upd_same, sz_of (by show 17 ≤ 100000; decide), fun p2 hq2 => ?_⟩⟩
    rw [show ([V.str "  jump 00", V.str "  jump +0", V.str "  jump -0", V.str "  jump 1.0", V.str (("  jump " : Str) ++ ones), V.str "\tjump 0", V.str "  Jump 0"] : List V) = od2.map V.str from rfl]
    have t2 := s1.trans (Same.new (o := (.lst (od2.map V.str))) hl2)
    have nb2 : H p2 = none := none_of t2 hq2
    have s2 := t2.trans (Same.new (o := (.lst ((od1).map V.str ++ od2.map V.str))) hq2)
    have hp2 : upd (upd H1 l2 (.lst (od2.map V.str))) p2 (.lst ((od1).map V.str ++ od2.map V.str)) p2 = some (.lst ((od1 ++ od2).map V.str)) := by rw [upd_same, ← List.map_append]
    generalize upd (upd H1 l2 (.lst (od2.map V.str))) p2 (.lst ((od1).map V.str ++ od2.map V.str)) = H2 at *
    refine ⟨_, rfl, sz_of (by show 6 ≤ 100000; decide), fun l3 hl3 => ⟨p2, l3, _, _, rfl, rfl, Same.new hl3 _ _ hp2, upd_same, sz_of (by show 23 ≤ 100000; decide), fun p3 hq3 => ?_⟩⟩
    have t3 := s2.trans (Same.new (o := (.lst (od3.map V.str))) hl3)
    have nb3 : H p3 = none := none_of t3 hq3
    have s3 := t3.trans (Same.new (o := (.lst (((od1 ++ od2)).map V.str ++ od3.map V.str))) hq3)
    have hp3 : upd (upd H2 l3 (.lst (od3.map V.str))) p3 (.lst (((od1 ++ od2)).map V.str ++ od3.map V.str)) p3 = some (.lst (((od1 ++ od2) ++ od3).map V.str)) := by rw [upd_same, ← List.map_append]
    generalize upd (upd H2 l3 (.lst (od3.map V.str))) p3 (.lst (((od1 ++ od2)).map V.str ++ od3.map V.str)) = H3 at *
    refine ⟨_, rfl, sz_of (by show 6 ≤ 100000; decide), fun l4 hl4 => ⟨p3, l4, _, _, rfl, rfl, Same.new hl4 _ _ hp3, upd_same, sz_of (by show 29 ≤ 100000; decide), fun p4 hq4 => ?_⟩⟩
    have t4 := s3.trans (Same.new (o := (.lst (od4.map V.str))) hl4)
    have nb4 : H p4 = none := none_of t4 hq4
    have s4 := t4.trans (Same.new (o := (.lst ((((od1 ++ od2) ++ od3)).map V.str ++ od4.map V.str))) hq4)
    have hp4 : upd (upd H3 l4 (.lst (od4.map V.str))) p4 (.lst ((((od1 ++ od2) ++ od3)).map V.str ++ od4.map V.str)) p4 = some (.lst ((((od1 ++ od2) ++ od3) ++ od4).map V.str)) := by rw [upd_same, ← List.map_append]
    generalize upd (upd H3 l4 (.lst (od4.map V.str))) p4 (.lst ((((od1 ++ od2) ++ od3)).map V.str ++ od4.map V.str)) = H4 at *
    refine ⟨_, rfl, .inl ⟨rfl, _, SqL.of hp4⟩, p4, _, _, rfl, rfl, hp4, sz_lt (by rw [List.length_map]; show 29 < 100000; decide), ?_⟩
    have s5 : Same H (upd H4 p4 (.lst (((((od1 ++ od2) ++ od3) ++ od4)).map V.str ++ [.str "  call x"]))) := Same.mut s4 nb4
    have hp5 : upd H4 p4 (.lst (((((od1 ++ od2) ++ od3) ++ od4)).map V.str ++ [.str "  call x"])) p4 = some (.lst (((((od1 ++ od2) ++ od3) ++ od4) ++ (["  call x"] : List Str)).map V.str)) := by rw [upd_same]; exact congrArg (fun z => some (HO.lst z)) (List.map_append (f := V.str) (l₁ := (((od1 ++ od2) ++ od3) ++ od4)) (l₂ := ["  call x"])).symm
    generalize upd H4 p4 (.lst (((((od1 ++ od2) ++ od3) ++ od4)).map V.str ++ [.str "  call x"])) = H5 at *
    have nb5 := nb4
    obtain ⟨p5, ep5⟩ : ∃ x, x = p4 := ⟨_, rfl⟩
    rw [← ep5] at hp5 nb5 ⊢
    refine ⟨_, rfl, sz_of (by show 7 ≤ 100000; decide), fun l6 hl6 => ⟨p5, l6, _, _, rfl, rfl, Same.new hl6 _ _ hp5, upd_same, sz_of (by show 37 ≤ 100000; decide), fun p6 hq6 => ?_⟩⟩
    have t6 := s5.trans (Same.new (o := (.lst (od5.map V.str))) hl6)
    have nb6 : H p6 = none := none_of t6 hq6
    have s6 := t6.trans (Same.new (o := (.lst ((((((od1 ++ od2) ++ od3) ++ od4) ++ (["  call x"] : List Str))).map V.str ++ od5.map V.str))) hq6)
    have hp6 : upd (upd H5 l6 (.lst (od5.map V.str))) p6 (.lst ((((((od1 ++ od2) ++ od3) ++ od4) ++ (["  call x"] : List Str))).map V.str ++ od5.map V.str)) p6 = some (.lst ((((((od1 ++ od2) ++ od3) ++ od4) ++ (["  call x"] : List Str)) ++ od5).map V.str)) := by rw [upd_same, ← List.map_append]
    generalize upd (upd H5 l6 (.lst (od5.map V.str))) p6 (.lst ((((((od1 ++ od2) ++ od3) ++ od4) ++ (["  call x"] : List Str))).map V.str ++ od5.map V.str)) = H6 at *
    refine ⟨_, rfl, sz_of (by show 8 ≤ 100000; decide), fun l7 hl7 => ⟨p6, l7, _, _, rfl, rfl, Same.new hl7 _ _ hp6, upd_same, sz_of (by show 45 ≤ 100000; decide), fun p7 hq7 => ?_⟩⟩
    have t7 := s6.trans (Same.new (o := (.lst (od6.map V.str))) hl7)
    have nb7 : H p7 = none := none_of t7 hq7
    have s7 := t7.trans (Same.new (o := (.lst (((((((od1 ++ od2) ++ od3) ++ od4) ++ (["  call x"] : List Str)) ++ od5)).map V.str ++ od6.map V.str))) hq7)
    have hp7 : upd (upd H6 l7 (.lst (od6.map V.str))) p7 (.lst (((((((od1 ++ od2) ++ od3) ++ od4) ++ (["  call x"] : List Str)) ++ od5)).map V.str ++ od6.map V.str)) p7 = some (.lst (((((((od1 ++ od2) ++ od3) ++ od4) ++ (["  call x"] : List Str)) ++ od5) ++ od6).map V.str)) := by rw [upd_same, ← List.map_append]
    generalize upd (upd H6 l7 (.lst (od6.map V.str))) p7 (.lst (((((((od1 ++ od2) ++ od3) ++ od4) ++ (["  call x"] : List Str)) ++ od5)).map V.str ++ od6.map V.str)) = H7 at *
    refine ⟨_, rfl, sz_of (by show 5 ≤ 100000; decide), fun l8 hl8 => ⟨p7, l8, _, _, rfl, rfl, Same.new hl8 _ _ hp7, upd_same, sz_of (by show 50 ≤ 100000; decide), fun p8 hq8 => ?_⟩⟩
    have t8 := s7.trans (Same.new (o := (.lst (od7.map V.str))) hl8)
    have nb8 : H p8 = none := none_of t8 hq8
    have s8 := t8.trans (Same.new (o := (.lst ((((((((od1 ++ od2) ++ od3) ++ od4) ++ (["  call x"] : List Str)) ++ od5) ++ od6)).map V.str ++ od7.map V.str))) hq8)
    have hp8 : upd (upd H7 l8 (.lst (od7.map V.str))) p8 (.lst ((((((((od1 ++ od2) ++ od3) ++ od4) ++ (["  call x"] : List Str)) ++ od5) ++ od6)).map V.str ++ od7.map V.str)) p8 = some (.lst ((((((((od1 ++ od2) ++ od3) ++ od4) ++ (["  call x"] : List Str)) ++ od5) ++ od6) ++ od7).map V.str)) := by rw [upd_same, ← List.map_append]
    generalize upd (upd H7 l8 (.lst (od7.map V.str))) p8 (.lst ((((((((od1 ++ od2) ++ od3) ++ od4) ++ (["  call x"] : List Str)) ++ od5) ++ od6)).map V.str ++ od7.map V.str)) = H8 at *
    refine ⟨_, rfl, sz_of (by show 1 ≤ 100000; decide), fun l9 hl9 => ⟨p8, l9, _, _, rfl, rfl, Same.new hl9 _ _ hp8, upd_same, sz_of (by show 51 ≤ 100000; decide), fun p9 hq9 => ?_⟩⟩
    have t9 := s8.trans (Same.new (o := (.lst (od8.map V.str))) hl9)
    have nb9 : H p9 = none := none_of t9 hq9
    have s9 := t9.trans (Same.new (o := (.lst (((((((((od1 ++ od2) ++ od3) ++ od4) ++ (["  call x"] : List Str)) ++ od5) ++ od6) ++ od7)).map V.str ++ od8.map V.str))) hq9)
    have hp9 : upd (upd H8 l9 (.lst (od8.map V.str))) p9 (.lst (((((((((od1 ++ od2) ++ od3) ++ od4) ++ (["  call x"] : List Str)) ++ od5) ++ od6) ++ od7)).map V.str ++ od8.map V.str)) p9 = some (.lst (((((((((od1 ++ od2) ++ od3) ++ od4) ++ (["  call x"] : List Str)) ++ od5) ++ od6) ++ od7) ++ od8).map V.str)) := by rw [upd_same, ← List.map_append]
    generalize upd (upd H8 l9 (.lst (od8.map V.str))) p9 (.lst (((((((((od1 ++ od2) ++ od3) ++ od4) ++ (["  call x"] : List Str)) ++ od5) ++ od6) ++ od7)).map V.str ++ od8.map V.str)) = H9 at *
    refine ⟨_, rfl, sz_of (by show 3 ≤ 100000; decide), fun l10 hl10 => ⟨p9, l10, _, _, rfl, rfl, Same.new hl10 _ _ hp9, upd_same, sz_of (by show 54 ≤ 100000; decide), fun p10 hq10 => ?_⟩⟩
    have t10 := s9.trans (Same.new (o := (.lst (od9.map V.str))) hl10)
    have nb10 : H p10 = none := none_of t10 hq10
    have s10 := t10.trans (Same.new (o := (.lst ((((((((((od1 ++ od2) ++ od3) ++ od4) ++ (["  call x"] : List Str)) ++ od5) ++ od6) ++ od7) ++ od8)).map V.str ++ od9.map V.str))) hq10)
    have hp10 : upd (upd H9 l10 (.lst (od9.map V.str))) p10 (.lst ((((((((((od1 ++ od2) ++ od3) ++ od4) ++ (["  call x"] : List Str)) ++ od5) ++ od6) ++ od7) ++ od8)).map V.str ++ od9.map V.str)) p10 = some (.lst ((((((((((od1 ++ od2) ++ od3) ++ od4) ++ (["  call x"] : List Str)) ++ od5) ++ od6) ++ od7) ++ od8) ++ od9).map V.str)) := by rw [upd_same, ← List.map_append]
    generalize upd (upd H9 l10 (.lst (od9.map V.str))) p10 (.lst ((((((((((od1 ++ od2) ++ od3) ++ od4) ++ (["  call x"] : List Str)) ++ od5) ++ od6) ++ od7) ++ od8)).map V.str ++ od9.map V.str)) = H10 at *
    refine ⟨_, rfl, sz_of (by show 1 ≤ 100000; decide), fun l11 hl11 => ⟨p10, l11, _, _, rfl, rfl, Same.new hl11 _ _ hp10, upd_same, sz_of (by show 55 ≤ 100000; decide), fun p11 hq11 => ?_⟩⟩
    have t11 := s10.trans (Same.new (o := (.lst (od10.map V.str))) hl11)
    have nb11 : H p11 = none := none_of t11 hq11
    have s11 := t11.trans (Same.new (o := (.lst (((((((((((od1 ++ od2) ++ od3) ++ od4) ++ (["  call x"] : List Str)) ++ od5) ++ od6) ++ od7) ++ od8) ++ od9)).map V.str ++ od10.map V.str))) hq11)
    have hp11 : upd (upd H10 l11 (.lst (od10.map V.str))) p11 (.lst (((((((((((od1 ++ od2) ++ od3) ++ od4) ++ (["  call x"] : List Str)) ++ od5) ++ od6) ++ od7) ++ od8) ++ od9)).map V.str ++ od10.map V.str)) p11 = some (.lst (((((((((((od1 ++ od2) ++ od3) ++ od4) ++ (["  call x"] : List Str)) ++ od5) ++ od6) ++ od7) ++ od8) ++ od9) ++ od10).map V.str)) := by rw [upd_same, ← List.map_append]
    generalize upd (upd H10 l11 (.lst (od10.map V.str))) p11 (.lst (((((((((((od1 ++ od2) ++ od3) ++ od4) ++ (["  call x"] : List Str)) ++ od5) ++ od6) ++ od7) ++ od8) ++ od9)).map V.str ++ od10.map V.str)) = H11 at *
    refine ⟨_, rfl, sz_of (by show 3 ≤ 100000; decide), fun l12 hl12 => ⟨p11, l12, _, _, rfl, rfl, Same.new hl12 _ _ hp11, upd_same, sz_of (by show 58 ≤ 100000; decide), fun p12 hq12 => ?_⟩⟩
    have t12 := s11.trans (Same.new (o := (.lst (od11.map V.str))) hl12)
    have nb12 : H p12 = none := none_of t12 hq12
    have s12 := t12.trans (Same.new (o := (.lst ((((((((((((od1 ++ od2) ++ od3) ++ od4) ++ (["  call x"] : List Str)) ++ od5) ++ od6) ++ od7) ++ od8) ++ od9) ++ od10)).map V.str ++ od11.map V.str))) hq12)
    have hp12 : upd (upd H11 l12 (.lst (od11.map V.str))) p12 (.lst ((((((((((((od1 ++ od2) ++ od3) ++ od4) ++ (["  call x"] : List Str)) ++ od5) ++ od6) ++ od7) ++ od8) ++ od9) ++ od10)).map V.str ++ od11.map V.str)) p12 = some (.lst ((((((((((((od1 ++ od2) ++ od3) ++ od4) ++ (["  call x"] : List Str)) ++ od5) ++ od6) ++ od7) ++ od8) ++ od9) ++ od10) ++ od11).map V.str)) := by rw [upd_same, ← List.map_append]
    generalize upd (upd H11 l12 (.lst (od11.map V.str))) p12 (.lst ((((((((((((od1 ++ od2) ++ od3) ++ od4) ++ (["  call x"] : List Str)) ++ od5) ++ od6) ++ od7) ++ od8) ++ od9) ++ od10)).map V.str ++ od11.map V.str)) = H12 at *
    refine ⟨_, rfl, sz_of (by show 3 ≤ 100000; decide), fun l13 hl13 => ⟨p12, l13, _, _, rfl, rfl, Same.new hl13 _ _ hp12, upd_same, sz_of (by show 61 ≤ 100000; decide), fun p13 hq13 => ?_⟩⟩
    have t13 := s12.trans (Same.new (o := (.lst (od12.map V.str))) hl13)
    have nb13 : H p13 = none := none_of t13 hq13
    have s13 := t13.trans (Same.new (o := (.lst (((((((((((((od1 ++ od2) ++ od3) ++ od4) ++ (["  call x"] : List Str)) ++ od5) ++ od6) ++ od7) ++ od8) ++ od9) ++ od10) ++ od11)).map V.str ++ od12.map V.str))) hq13)
    have hp13 : upd (upd H12 l13 (.lst (od12.map V.str))) p13 (.lst (((((((((((((od1 ++ od2) ++ od3) ++ od4) ++ (["  call x"] : List Str)) ++ od5) ++ od6) ++ od7) ++ od8) ++ od9) ++ od10) ++ od11)).map V.str ++ od12.map V.str)) p13 = some (.lst (((((((((((((od1 ++ od2) ++ od3) ++ od4) ++ (["  call x"] : List Str)) ++ od5) ++ od6) ++ od7) ++ od8) ++ od9) ++ od10) ++ od11) ++ od12).map V.str)) := by rw [upd_same, ← List.map_append]
    generalize upd (upd H12 l13 (.lst (od12.map V.str))) p13 (.lst (((((((((((((od1 ++ od2) ++ od3) ++ od4) ++ (["  call x"] : List Str)) ++ od5) ++ od6) ++ od7) ++ od8) ++ od9) ++ od10) ++ od11)).map V.str ++ od12.map V.str)) = H13 at *
    refine ⟨_, rfl, sz_of (by show 3 ≤ 100000; decide), fun l14 hl14 => ⟨p13, l14, _, _, rfl, rfl, Same.new hl14 _ _ hp13, upd_same, sz_of (by show 64 ≤ 100000; decide), fun p14 hq14 => ?_⟩⟩
    have t14 := s13.trans (Same.new (o := (.lst (od13.map V.str))) hl14)
    have nb14 : H p14 = none := none_of t14 hq14
    have s14 := t14.trans (Same.new (o := (.lst ((((((((((((((od1 ++ od2) ++ od3) ++ od4) ++ (["  call x"] : List Str)) ++ od5) ++ od6) ++ od7) ++ od8) ++ od9) ++ od10) ++ od11) ++ od12)).map V.str ++ od13.map V.str))) hq14)
    have hp14 : upd (upd H13 l14 (.lst (od13.map V.str))) p14 (.lst ((((((((((((((od1 ++ od2) ++ od3) ++ od4) ++ (["  call x"] : List Str)) ++ od5) ++ od6) ++ od7) ++ od8) ++ od9) ++ od10) ++ od11) ++ od12)).map V.str ++ od13.map V.str)) p14 = some (.lst ((((((((((((((od1 ++ od2) ++ od3) ++ od4) ++ (["  call x"] : List Str)) ++ od5) ++ od6) ++ od7) ++ od8) ++ od9) ++ od10) ++ od11) ++ od12) ++ od13).map V.str)) := by rw [upd_same, ← List.map_append]
    generalize upd (upd H13 l14 (.lst (od13.map V.str))) p14 (.lst ((((((((((((((od1 ++ od2) ++ od3) ++ od4) ++ (["  call x"] : List Str)) ++ od5) ++ od6) ++ od7) ++ od8) ++ od9) ++ od10) ++ od11) ++ od12)).map V.str ++ od13.map V.str)) = H14 at *
    refine ⟨_, rfl, sz_of (by show 3 ≤ 100000; decide), fun l15 hl15 => ⟨p14, l15, _, _, rfl, rfl, Same.new hl15 _ _ hp14, upd_same, sz_of (by show 67 ≤ 100000; decide), fun p15 hq15 => ?_⟩⟩
    have t15 := s14.trans (Same.new (o := (.lst (od14.map V.str))) hl15)
    have nb15 : H p15 = none := none_of t15 hq15
    have s15 := t15.trans (Same.new (o := (.lst (((((((((((((((od1 ++ od2) ++ od3) ++ od4) ++ (["  call x"] : List Str)) ++ od5) ++ od6) ++ od7) ++ od8) ++ od9) ++ od10) ++ od11) ++ od12) ++ od13)).map V.str ++ od14.map V.str))) hq15)
    have hp15 : upd (upd H14 l15 (.lst (od14.map V.str))) p15 (.lst (((((((((((((((od1 ++ od2) ++ od3) ++ od4) ++ (["  call x"] : List Str)) ++ od5) ++ od6) ++ od7) ++ od8) ++ od9) ++ od10) ++ od11) ++ od12) ++ od13)).map V.str ++ od14.map V.str)) p15 = some (.lst (((((((((((((((od1 ++ od2) ++ od3) ++ od4) ++ (["  call x"] : List Str)) ++ od5) ++ od6) ++ od7) ++ od8) ++ od9) ++ od10) ++ od11) ++ od12) ++ od13) ++ od14).map V.str)) := by rw [upd_same, ← List.map_append]
    exact k p15 _ s15 nb15 (by rw [od_eq]; exact hp15)

end
end W5
set_option Elab.async false
set_option linter.all false
set_option maxRecDepth 100000
set_option maxHeartbeats 4000000
namespace W5
open PySem PySem.Spec PyProof.Rows L2 RZ TL CA
section
variable {P : Program} {w : World} {K : PySem.W.Frag} {mg : Str → Option Value} {base : Heap}

def spRight : Sp := fun vs H Q _ => ∃ p, vs = [.ref p] ∧ WellAt H p ∧ ∀ H', But p H H' → Q (.bl true) H'
theorem cls_line (i : Nat) (h : i < 4) : ((0 : Int) + (i : Nat)).natAbs.log2 < 1920 ∧ ("class c" : Str).length + (Str.ofString (toString ((0 : Int) + (i : Nat)))).length ≤ 100000 ∧ (("class c" : Str) ++ Str.ofString (toString ((0 : Int) + (i : Nat)))).length + (" x:number" : Str).length ≤ 100000 ∧ (("class c" ++ Str.ofString (toString ((0 : Int) + (i : Nat)))) ++ " x:number" : Str) = cAll.getD i "" := by
  match i, h with
  | 0, _ => decide +kernel
  | 1, _ => decide +kernel
  | 2, _ => decide +kernel
  | 3, _ => decide +kernel
theorem cls_map {n : Nat} (h : n < 4) : ((List.range n).map fun i => V.str (cAll.getD i "")) = (cAll.take n).map V.str := by
  match n, h with
  | 0, _ => rfl
  | 1, _ => rfl
  | 2, _ => rfl
  | 3, _ => rfl
theorem see_map (m : Nat) : ((List.range m).map fun _ => V.str seeL) = (List.replicate m seeL).map V.str := by
  rw [List.map_replicate]
  apply List.ext_getElem
  · simp
  · intro i h1 h2
    simp
theorem getD_map (ls : List Str) (f : Str → Str) : ((List.range ls.length).map fun i => V.str (f (ls.getD i ""))) = (ls.map f).map V.str := by
  apply List.ext_getElem
  · simp
  · intro i h1 h2
    have h3 : i < ls.length := by simpa using h1
    simp [h3]
theorem slice0 {x : V} {xs : List V} : cutV (x :: xs) none (some 1) = [x] := by
  unfold cutV HT.sIx
  simp
theorem sum_txt : ∀ ls : List Str, ((ls.map fun l => l ++ NL).map (·.length)).sum = (txtL ls "").length
  | [] => rfl
  | l :: ls => by
    have ih := sum_txt ls
    have e : (l ++ NL).length = (tl l ++ [10]).length := by
      rw [len_tl, tl_append]
      rfl
    rw [List.map_cons, List.map_cons, List.sum_cons, ih, e]
    unfold txtL
    rw [List.flatMap_cons]
    simp only [List.length_append]
    omega
theorem mem_sum {n : Nat} : ∀ {ls : List Nat}, n ∈ ls → n ≤ ls.sum
  | x :: ls, m => by
    rw [List.sum_cons]
    rcases List.mem_cons.mp m with rfl | m
    · exact Nat.le_add_right _ _
    · have := mem_sum m
      omega
theorem sums {ls : List Str} (h : TextOk (txt ls "")) : ((ls.map fun l => l ++ NL).map (·.length)).sum ≤ 50000 ∧ ∀ z ∈ ls, z.length + (NL : Str).length ≤ 100000 := by
  have h1 : ((ls.map fun l => l ++ NL).map (·.length)).sum ≤ 50000 := by
    rw [sum_txt]
    have := h.len
    rw [show (txt ls "").length = (txtL ls "").length from List.size_toArray] at this
    exact this
  refine ⟨h1, fun z m => ?_⟩
  have h2 := mem_sum (List.mem_map_of_mem (f := (·.length)) (List.mem_map_of_mem (f := fun l => l ++ NL) m))
  have e : (z ++ NL).length = z.length + (NL : Str).length := by
    rw [len_tl, tl_append, List.length_append, len_tl, len_tl]
  omega
theorem sc_L_right : FnScope ["_law_well_here", "_law_many", "_law_more", "_law_classes", "_law_rows", "_law_bad", "_law_text", "_law_end", "_law_k", "_law_line"] ["_law_well_here"] (defScope s_L_right) := ⟨rfl, rfl, rfl, by decide +kernel, rfl, by decide +kernel, by decide +kernel⟩
theorem ok_L_right (T : Ctx w K mg) (H_L_draw : Has P w K mg base 2 "_law_draw" ["_law_well_here", "_law_many"] spDraw) (H_L_odd_classes : Has P w K mg base 1 "_law_odd_classes" [] (spStrs oddC)) (H_L_odd_lines : Has P w K mg base 1 "_law_odd_lines" [] (spStrs oddL)) (H_L_told : Has P w K mg base 11 "_law_told" ["_law_text"] (spTold K)) : Has P w K mg base 12 "_law_right" ["_law_well_here"] spRight := by
  obtain ⟨fd, F⟩ := T.D_L_right
  obtain ⟨fd_L_draw, G_L_draw, b_L_draw⟩ := H_L_draw.ex
  obtain ⟨fd_L_odd_classes, G_L_odd_classes, b_L_odd_classes⟩ := H_L_odd_classes.ex
  obtain ⟨fd_L_odd_lines, G_L_odd_lines, b_L_odd_lines⟩ := H_L_odd_lines.ex
  obtain ⟨fd_L_told, G_L_told, b_L_told⟩ := H_L_told.ex
  refine ⟨⟨fd, F.ok sc_L_right (fun vs H Q E h => ?_) (fun cdv A outer s H vs Q E hr h => ?_), F.bindsN fun _ _ _ _ _ _ us hl => match us, hl with | [_], _ => rfl⟩, F.kp, T.g_L_right⟩
  · obtain ⟨p, rfl, hw, k⟩ := h; rfl
  · obtain ⟨p, rfl, hw, k⟩ := h
    have hr_L_draw : Room 2 _ := hr.mono (by decide)
    have hr_L_odd_classes : Room 1 _ := hr.mono (by decide)
    have hr_L_odd_lines : Room 1 _ := hr.mono (by decide)
    have hr_L_told : Room 11 _ := hr.mono (by decide)
    have hu := hu_of hr
    refine ⟨_, PSs.nox (pss_cons (ps_par (i := 1) (j := 2) (by rfl) sc_L_right.nd rfl rfl (by decide) rfl rfl (pa_cons (pe_call G_L_draw hr_L_draw (by rfl) H_L_draw.gl H_L_draw.kp b_L_draw .nil pass0 (pa_cons (pv 0) (pa_cons pe_int pa_nil))) (pa_cons (pe_call G_L_draw hr_L_draw (by rfl) H_L_draw.gl H_L_draw.kp b_L_draw .nil pass0 (pa_cons (pv 0) (pa_cons pe_int pa_nil))) pa_nil)) (by rfl))
      (pss_cons (ps_setLc (i := 3) (own := [("_law_k", 8)]) (g := gName 8) (tt := tYes) rfl sc_L_right.nd rfl rfl (sw_true rfl rfl rfl (by decide +kernel)) (pi_range1 (by rfl) T.f_range (pa_cons (pv 1) pa_nil)) (blkOk_by (N := ["_law_well_here", "_law_many", "_law_more", "_law_classes", "_law_rows", "_law_bad", "_law_text", "_law_end", "_law_k", "_law_line"]) (sc := defScope s_L_right) (by decide +kernel)) (fun _ _ _ _ _ => (pg_name (i := 8) sc_L_right.nd rfl (Or.inl rfl))) (fun _ _ _ _ _ => pts_nil) (fun _ _ _ _ _ => (pe_op op_add_str (pe_op op_add_str pe_str (pe_callTy call_str_int (by rfl) T.f_str (by decide +kernel) (pa_cons (pv 8) pa_nil))) pe_str)))
      (pss_cons (ps_set (i := 4) sc_L_right.nd rfl (Or.inl rfl) (pe_op op_cat (pe_op op_cat (pe_lst (pa_cons pe_str pa_nil)) (pe_lc (own := [("_law_k", 8)]) (g := gName 8) (tt := tYes) rfl sc_L_right.nd (pi_range1 (by rfl) T.f_range (pa_cons (pv 2) pa_nil)) (blkOk_by (N := ["_law_well_here", "_law_many", "_law_more", "_law_classes", "_law_rows", "_law_bad", "_law_text", "_law_end", "_law_k", "_law_line"]) (sc := defScope s_L_right) (by decide +kernel)) (fun _ _ _ _ _ => (pg_name (i := 8) sc_L_right.nd rfl (Or.inl rfl))) (fun _ _ _ _ _ => pts_nil) (fun _ _ _ _ _ => pe_str))) (pe_lst (pa_cons pe_str pa_nil))))
      (pss_cons (ps_for PassesOwn.never rfl (pi_list (pe_call0 G_L_odd_classes hr_L_odd_classes (by rfl) H_L_odd_classes.gl H_L_odd_classes.kp b_L_odd_classes .nil pass0)) (pg_name (i := 5) sc_L_right.nd rfl (Or.inl rfl))
      (pss_one (ps_if (pt_cmpR op_ne (pe_call G_L_told hr_L_told (by rfl) H_L_told.gl H_L_told.kp b_L_told .nil pass0 (pa_cons (pe_join pe_str (pe_lc (own := [("_law_line", 9)]) (g := gName 9) (tt := tYes) rfl sc_L_right.nd (pi_list (pe_op op_cat (pe_op op_cat (pv 3) (pe_lst (pa_cons (pv 5) pa_nil))) (pv 4))) (blkOk_by (N := ["_law_well_here", "_law_many", "_law_more", "_law_classes", "_law_rows", "_law_bad", "_law_text", "_law_end", "_law_k", "_law_line"]) (sc := defScope s_L_right) (by decide +kernel)) (fun _ _ _ _ _ => (pg_name (i := 9) sc_L_right.nd rfl (Or.inl rfl))) (fun _ _ _ _ _ => pts_nil) (fun _ _ _ _ _ => (pe_op op_add_str (pv 9) pe_str)))) pa_nil)) (pv 1) (nomark _)) (pss_one (ps_ret pe_bl)) pss_nil)))
      (pss_cons (ps_for PassesOwn.never rfl (pi_list (pe_call0 G_L_odd_lines hr_L_odd_lines (by rfl) H_L_odd_lines.gl H_L_odd_lines.kp b_L_odd_lines .nil pass0)) (pg_name (i := 5) sc_L_right.nd rfl (Or.inl rfl))
      (pss_cons (ps_if (pt_cmpR op_ne (pe_call G_L_told hr_L_told (by rfl) H_L_told.gl H_L_told.kp b_L_told .nil pass0 (pa_cons (pe_join pe_str (pe_lc (own := [("_law_line", 9)]) (g := gName 9) (tt := tYes) rfl sc_L_right.nd (pi_list (pe_op op_cat (pe_op op_cat (pv 3) (pv 4)) (pe_lst (pa_cons (pv 5) pa_nil)))) (blkOk_by (N := ["_law_well_here", "_law_many", "_law_more", "_law_classes", "_law_rows", "_law_bad", "_law_text", "_law_end", "_law_k", "_law_line"]) (sc := defScope s_L_right) (by decide +kernel)) (fun _ _ _ _ _ => (pg_name (i := 9) sc_L_right.nd rfl (Or.inl rfl))) (fun _ _ _ _ _ => pts_nil) (fun _ _ _ _ _ => (pe_op op_add_str (pv 9) pe_str)))) pa_nil)) (pe_op op_add (pe_op op_add (pv 1) (pv 2)) pe_int) (nomark _)) (pss_one (ps_ret pe_bl)) pss_nil)
      (pss_one (ps_if (pt_cmpR op_ne (pe_call G_L_told hr_L_told (by rfl) H_L_told.gl H_L_told.kp b_L_told .nil pass0 (pa_cons (pe_join pe_str (pe_lc (own := [("_law_line", 9)]) (g := gName 9) (tt := tYes) rfl sc_L_right.nd (pi_list (pe_op op_cat (pe_op op_cat (pe_op op_cat (pv 3) (pe_slice sl_list (pv 4) po_none (po_some pe_int))) (pe_lst (pa_cons (pv 5) pa_nil))) (pe_slice sl_list (pv 4) (po_some pe_int) po_none))) (blkOk_by (N := ["_law_well_here", "_law_many", "_law_more", "_law_classes", "_law_rows", "_law_bad", "_law_text", "_law_end", "_law_k", "_law_line"]) (sc := defScope s_L_right) (by decide +kernel)) (fun _ _ _ _ _ => (pg_name (i := 9) sc_L_right.nd rfl (Or.inl rfl))) (fun _ _ _ _ _ => pts_nil) (fun _ _ _ _ _ => (pe_op op_add_str (pv 9) pe_str)))) pa_nil)) (pe_op op_add (pv 1) pe_int) (nomark _)) (pss_one (ps_ret pe_bl)) pss_nil))))
      (pss_cons (ps_set (i := 6) sc_L_right.nd rfl (Or.inl rfl) (pe_join pe_str (pe_lc (own := [("_law_line", 9)]) (g := gName 9) (tt := tYes) rfl sc_L_right.nd (pi_list (pe_op op_cat (pv 3) (pv 4))) (blkOk_by (N := ["_law_well_here", "_law_many", "_law_more", "_law_classes", "_law_rows", "_law_bad", "_law_text", "_law_end", "_law_k", "_law_line"]) (sc := defScope s_L_right) (by decide +kernel)) (fun _ _ _ _ _ => (pg_name (i := 9) sc_L_right.nd rfl (Or.inl rfl))) (fun _ _ _ _ _ => pts_nil) (fun _ _ _ _ _ => (pe_op op_add_str (pv 9) pe_str)))))
      (pss_cons (ps_for PassesOwn.never rfl (pi_list (pe_lst (pa_cons pe_str (pa_cons pe_str (pa_cons pe_str (pa_cons pe_str (pa_cons pe_str pa_nil))))))) (pg_name (i := 7) sc_L_right.nd rfl (Or.inl rfl))
      (pss_one (ps_if (pt_cmpR op_ne (pe_call G_L_told hr_L_told (by rfl) H_L_told.gl H_L_told.kp b_L_told .nil pass0 (pa_cons (pe_op op_add_str (pv 6) (pv 7)) pa_nil)) (pe_op op_add (pe_op op_add (pv 1) (pv 2)) pe_int) (nomark _)) (pss_one (ps_ret pe_bl)) pss_nil)))
      (pss_cons (ps_if (PW.pt (pw_or (pt_cmpR op_ne (pe_call G_L_told hr_L_told (by rfl) H_L_told.gl H_L_told.kp b_L_told .nil pass0 (pa_cons (pe_slice sl_str (pv 6) po_none (po_some (pe_un un_neg pe_int))) pa_nil)) (pe_op op_add (pe_op op_add (pv 1) (pv 2)) pe_int) (nomark _)) (pw_or1 (pt_cmpR op_notN (pe_call G_L_told hr_L_told (by rfl) H_L_told.gl H_L_told.kp b_L_told .nil pass0 (pa_cons (pv 6) pa_nil)) pe_non (nomark _))))) (pss_one (ps_ret pe_bl)) pss_nil)
      (pss_cons (ps_if (pt_cmpR (op_neD hr.units) (pe_call G_L_told hr_L_told (by rfl) H_L_told.gl H_L_told.kp b_L_told .nil pass0 (pa_cons (pe_op op_add_str (pv 6) pe_str) pa_nil)) (pe_tup (pa_cons pe_str (pa_cons (pe_tup (pa_cons pe_int pa_nil)) pa_nil))) (nomark _)) (pss_one (ps_ret pe_bl)) pss_nil)
      (pss_one (ps_ret (pe_and (pe_cmpR (op_eqD hr.units) (pe_call G_L_told hr_L_told (by rfl) H_L_told.gl H_L_told.kp b_L_told .nil pass0 (pa_cons (pe_op op_add_str (pv 6) pe_str) pa_nil)) (pe_tup (pa_cons pe_str (pa_cons (pe_tup (pa_cons pe_int pa_nil)) pa_nil))) (nomark _)) (pe_one (pe_cmpR (op_eqD hr.units) (pe_call G_L_told hr_L_told (by rfl) H_L_told.gl H_L_told.kp b_L_told .nil pass0 (pa_cons pe_str pa_nil)) (pe_tup (pa_cons pe_str (pa_cons (pe_un un_neg pe_int) pa_nil))) (nomark _))))))))))))))), ?_⟩
    refine ⟨_, rfl, p, 4, rfl, hw, by decide, by decide, fun n H1 hn b1 w1 => ⟨_, rfl, p, 5, rfl, w1, by decide, by decide, fun m H2 hm b2 w2 => ⟨_, _, rfl, ?_⟩⟩⟩
    have b12 := b1.trans b2
    refine ⟨_, rfl, (n : Int), rfl, by omega, by omega, fun D hD => ?_⟩
    refine lc_pure (walk_range (lo := 0) (n := ((n : Nat) : Int).toNat)) hD (fun i => .str (cAll.getD i "")) (by omega) (fun _ _ => trivial) (fun i Ha y Hb hi sa hy Qe qe => ?_) (fun H3 s3 hD3 => ?_)
    · obtain ⟨rfl, rfl⟩ := hy
      obtain ⟨c1, c2, c3, c4⟩ := cls_line i (by omega)
      refine ⟨rfl, _, rfl, _, rfl, c1, _, _, rfl, rfl, sz_of c2, _, _, rfl, rfl, sz_of c3, ?_⟩
      rw [c4]
      exact qe _ (Same.refl _)
    rw [Int.toNat_natCast, cls_map hn] at hD3
    have m1 : ((m : Nat) : Int).toNat = m := Int.toNat_natCast m
    refine ⟨sz_of (by show 1 ≤ 100000; decide), fun l1 hl1 => ⟨_, rfl, (m : Int), rfl, by omega, by omega, fun E0 hE => ?_⟩⟩
    refine lc_pure (walk_range (lo := 0) (n := ((m : Nat) : Int).toNat)) hE (fun _ => .str seeL) (by omega) (fun _ _ => trivial) (fun i Ha y Hb hi sa hy Qe qe => ?_) (fun H4 s4 hE4 => ?_)
    · obtain ⟨rfl, rfl⟩ := hy
      exact ⟨rfl, qe _ (Same.refl _)⟩
    rw [m1, see_map] at hE4
    have hl4 : H4 l1 = some (.lst [.str headL]) := s4 _ _ upd_same
    have sl1 := Same.new (o := .lst [.str headL]) hl1
    refine ⟨l1, E0, _, _, rfl, rfl, hl4, hE4, sz_of (by simp; omega), fun q1 hq1 => ⟨sz_of (by show 1 ≤ 100000; decide), fun l2 hl2 => ⟨q1, l2, _, _, rfl, rfl, Same.new hl2 _ _ upd_same, upd_same, sz_of (by simp; omega), fun R hR => ?_⟩⟩⟩
    have sq1 := Same.new (o := .lst ([V.str headL] ++ (List.replicate m seeL).map V.str)) hq1
    have sl2 := Same.new (o := .lst [V.str "  return n"]) hl2
    have sR := Same.new (o := .lst ([V.str headL] ++ (List.replicate m seeL).map V.str ++ [V.str "  return n"])) hR
    have hD5 := sR _ _ (sl2 _ _ (sq1 _ _ (s4 _ _ (sl1 _ _ hD3))))
    have s5 := s3.trans (sl1.trans (s4.trans (sq1.trans (sl2.trans sR))))
    have hR5 : upd (upd (upd H4 q1 (.lst ([V.str headL] ++ (List.replicate m seeL).map V.str))) l2 (.lst [V.str "  return n"])) R (.lst ([V.str headL] ++ (List.replicate m seeL).map V.str ++ [V.str "  return n"])) R = some (.lst ((rLn m).map V.str)) := by
      rw [upd_same]
      unfold rLn
      rw [List.map_cons, List.map_append]
      rfl
    generalize upd (upd (upd H4 q1 (.lst ([V.str headL] ++ (List.replicate m seeL).map V.str))) l2 (.lst [V.str "  return n"])) R (.lst ([V.str headL] ++ (List.replicate m seeL).map V.str ++ [V.str "  return n"])) = H5 at *
    clear sR sl2 sq1 hl4 sl1 hE4 s4 hD3 s3
    refine ⟨rfl, fun q H6 s6 hq6 hq => ⟨q, rfl, ⟨_, SqL.of hq⟩, ?_⟩⟩
    have hD6 := s6 _ _ hD5
    have hR6 := s6 _ _ hR5
    refine for_it (walk_list (K := K) (a := q) (xs := oddC.map V.str)) (fun i σ Hx => ∃ v, σ = [some (.ref p), some (.int n), some (.int m), some (.ref D), some (.ref R), v, none, none, none, none] ∧ Same H6 Hx) ⟨none, rfl, Same.refl _⟩ (fun i σ Hx _ ⟨_, _, sx⟩ => SqL.of (sx _ _ hq)) ?_ ?_
    · rintro i y σ Hz Hx hi ⟨v, rfl, sx⟩ ⟨rfl, hy⟩
      obtain ⟨bad, hb, rfl⟩ := map_get hy
      have hbm := List.mem_of_getElem? hb
      refine ⟨⟨_, rfl⟩, _, rfl, _, rfl, sz_of (by show 1 ≤ 100000; decide), fun l hl => ⟨D, l, _, _, rfl, rfl, Same.new hl _ _ (sx _ _ hD6), upd_same, sz_of (by simp; omega), fun c hc => ⟨_, rfl, c, R, _, _, rfl, rfl, upd_same, Same.new hc _ _ (Same.new hl _ _ (sx _ _ hR6)), sz_of (by simp [rLn]; omega), fun e he => ⟨e, rfl, ⟨_, SqL.of upd_same⟩, fun F0 hF => ?_⟩⟩⟩⟩
      have sl := Same.new (o := .lst [V.str bad]) hl
      have sc := Same.new (o := .lst ((cAll.take n).map V.str ++ [V.str bad])) hc
      have se := Same.new (o := .lst ((cAll.take n).map V.str ++ [V.str bad] ++ (rLn m).map V.str)) he
      have st := sx.trans (sl.trans (sc.trans se))
      have eL : (cAll.take n).map V.str ++ [V.str bad] ++ (rLn m).map V.str = (cAll.take n ++ bad :: rLn m).map V.str := by simp
      have heL : upd (upd (upd Hx l (.lst [V.str bad])) c (.lst ((cAll.take n).map V.str ++ [V.str bad]))) e (.lst ((cAll.take n).map V.str ++ [V.str bad] ++ (rLn m).map V.str)) e = some (.lst ((cAll.take n ++ bad :: rLn m).map V.str)) := by rw [upd_same, eL]
      generalize upd (upd (upd Hx l (.lst [V.str bad])) c (.lst ((cAll.take n).map V.str ++ [V.str bad]))) e (.lst ((cAll.take n).map V.str ++ [V.str bad] ++ (rLn m).map V.str)) = H8 at *
      have TO : TextOk (txt (cAll.take n ++ bad :: rLn m) "") := (tells_c (K := K) (H := H8) (Q := fun _ _ => True) hn (show m ≤ 30 by omega) hbm (fun _ _ => trivial)).1
      obtain ⟨su1, su2⟩ := sums TO
      refine lc_pure (walk_list (K := K) (a := e) (xs := (cAll.take n ++ bad :: rLn m).map V.str)) hF (fun i => .str ((cAll.take n ++ bad :: rLn m).getD i "" ++ NL)) (by simp [rLn, gln]; omega) (fun Ha sa => SqL.of (sa _ _ heL)) (fun i2 Ha y2 Hb hi2 sa hy2 Qe qe => ?_) (fun H9 s9 hF9 => ?_)
      · obtain ⟨rfl, hy2⟩ := hy2
        obtain ⟨z, hz, rfl⟩ := map_get hy2
        have ez : (cAll.take n ++ bad :: rLn m).getD i2 "" = z := by
          rw [List.getD_eq_getElem?_getD, hz]
          rfl
        rw [ez] at qe
        exact ⟨rfl, _, rfl, _, _, rfl, rfl, sz_of (su2 z (List.mem_of_getElem? hz)), qe _ (Same.refl _)⟩
      rw [List.length_map, getD_map (cAll.take n ++ bad :: rLn m) (fun l => l ++ NL)] at hF9
      refine ⟨_, F0, (cAll.take n ++ bad :: rLn m).map (fun l => l ++ NL), rfl, rfl, .inl (SqL.of hF9), Nat.le_trans (Nat.add_le_add su1 (Nat.le_of_eq (Nat.mul_zero _))) (by decide), ?_⟩
      rw [join0]
      refine ⟨_, rfl, .inr ⟨_, rfl, TO, (tells_c hn (show m ≤ 30 by omega) hbm fun H10 s10 => ?_).2⟩⟩
      refine ⟨_, rfl, rfl, _, rfl, ifF (by simp) ⟨_, rfl, (st.trans s9).trans s10⟩⟩
    · rintro σ Hx ⟨v, rfl, sx⟩
      clear hD5 hR5
      refine ⟨rfl, fun q2 Hb sb hq2n hq2 => ⟨q2, rfl, ⟨_, SqL.of hq2⟩, ?_⟩⟩
      have hDb := sb _ _ (sx _ _ hD6)
      have hRb := sb _ _ (sx _ _ hR6)
      have s2b := s5.trans (s6.trans (sx.trans sb))
      clear hD6 hR6 hq sx s6 s5 hq6 hq2n sb
      refine for_it (walk_list (K := K) (a := q2) (xs := oddL.map V.str)) (fun i σ Hz => ∃ v, σ = [some (.ref p), some (.int n), some (.int m), some (.ref D), some (.ref R), v, none, none, none, none] ∧ Same Hb Hz) ⟨v, rfl, Same.refl _⟩ (fun i σ Hz _ ⟨_, _, sx⟩ => SqL.of (sx _ _ hq2)) ?_ ?_
      · rintro i y σ Hz Hx hi ⟨v, rfl, sx⟩ ⟨rfl, hy⟩
        obtain ⟨bad, hb, rfl⟩ := map_get hy
        have hbm := List.mem_of_getElem? hb
        refine ⟨⟨_, rfl⟩, _, rfl, _, rfl, D, R, _, _, rfl, rfl, sx _ _ hDb, sx _ _ hRb, sz_of (by simp [rLn]; omega), fun c hc => ⟨_, rfl, sz_of (by show 1 ≤ 100000; decide), fun l hl => ⟨c, l, _, _, rfl, rfl, Same.new hl _ _ upd_same, upd_same, sz_of (by simp [rLn]; omega), fun e he => ⟨e, rfl, ⟨_, SqL.of upd_same⟩, fun F0 hF => ?_⟩⟩⟩⟩
        have sc := Same.new (o := .lst ((cAll.take n).map V.str ++ (rLn m).map V.str)) hc
        have sl := Same.new (o := .lst [V.str bad]) hl
        have se := Same.new (o := .lst ((cAll.take n).map V.str ++ (rLn m).map V.str ++ [V.str bad])) he
        have st := sx.trans (sc.trans (sl.trans se))
        have heL : upd (upd (upd Hx c (.lst ((cAll.take n).map V.str ++ (rLn m).map V.str))) l (.lst [V.str bad])) e (.lst ((cAll.take n).map V.str ++ (rLn m).map V.str ++ [V.str bad])) e = some (.lst ((gln n m ++ [bad]).map V.str)) := by rw [upd_same]; simp [gln]
        generalize upd (upd (upd Hx c (.lst ((cAll.take n).map V.str ++ (rLn m).map V.str))) l (.lst [V.str bad])) e (.lst ((cAll.take n).map V.str ++ (rLn m).map V.str ++ [V.str bad])) = H8 at *
        have TO : TextOk (txt (gln n m ++ [bad]) "") := (tells_b (K := K) (H := H8) (Q := fun _ _ => True) hn (show m ≤ 30 by omega) hbm (fun _ _ => trivial)).1
        obtain ⟨su1, su2⟩ := sums TO
        refine lc_pure (walk_list (K := K) (a := e) (xs := (gln n m ++ [bad]).map V.str)) hF (fun i => .str ((gln n m ++ [bad]).getD i "" ++ NL)) (by simp [rLn, gln]; omega) (fun Ha sa => SqL.of (sa _ _ heL)) (fun i2 Ha y2 Hb hi2 sa hy2 Qe qe => ?_) (fun H9 s9 hF9 => ?_)
        · obtain ⟨rfl, hy2⟩ := hy2
          obtain ⟨z, hz, rfl⟩ := map_get hy2
          have ez : (gln n m ++ [bad]).getD i2 "" = z := by
            rw [List.getD_eq_getElem?_getD, hz]
            rfl
          rw [ez] at qe
          exact ⟨rfl, _, rfl, _, _, rfl, rfl, sz_of (su2 z (List.mem_of_getElem? hz)), qe _ (Same.refl _)⟩
        rw [List.length_map, getD_map (gln n m ++ [bad]) (fun l => l ++ NL)] at hF9
        refine ⟨_, F0, (gln n m ++ [bad]).map (fun l => l ++ NL), rfl, rfl, .inl (SqL.of hF9), Nat.le_trans (Nat.add_le_add su1 (Nat.le_of_eq (Nat.mul_zero _))) (by decide), ?_⟩
        rw [join0]
        refine ⟨_, rfl, .inr ⟨_, rfl, TO, (tells_b hn (show m ≤ 30 by omega) hbm fun H10 s10 => ?_).2⟩⟩
        refine ⟨_, rfl, _, rfl, _, _, rfl, rfl, _, _, rfl, rfl, rfl, _, rfl, ifF (by simp) ?_⟩
        have sx := (st.trans s9).trans s10
        clear st s9 TO su1 su2 hF9 heL hF
        have e1 : cutV ((rLn m).map V.str) none (some 1) = [V.str headL] := slice0
        have e2 : cutV ((rLn m).map V.str) (some 1) none = (List.replicate m seeL ++ [retL]).map V.str := slice1.1
        refine ⟨⟨_, rfl⟩, _, rfl, _, rfl, 1, rfl, R, _, rfl, SqL.of (sx _ _ hRb), fun a1 ha1 => ⟨D, a1, _, _, rfl, rfl, Same.new ha1 _ _ (sx _ _ hDb), upd_same, sz_of (by rw [e1]; simp; omega), fun c hc => ⟨_, rfl, sz_of (by show 1 ≤ 100000; decide), fun l hl => ⟨c, l, _, _, rfl, rfl, Same.new hl _ _ upd_same, upd_same, sz_of (by rw [e1]; simp; omega), fun c2 hc2 => ⟨_, rfl, 1, rfl, R, _, rfl, SqL.of (Same.new hc2 _ _ (Same.new hl _ _ (Same.new hc _ _ (Same.new ha1 _ _ (sx _ _ hRb))))), fun a2 ha2 => ⟨c2, a2, _, _, rfl, rfl, Same.new ha2 _ _ upd_same, upd_same, sz_of (by rw [e1, e2]; simp; omega), fun e he => ⟨e, rfl, ⟨_, SqL.of upd_same⟩, fun F0 hF => ?_⟩⟩⟩⟩⟩⟩⟩
        have st := sx.trans ((Same.new (o := .lst (cutV ((rLn m).map V.str) none (some 1))) ha1).trans ((Same.new (o := .lst ((cAll.take n).map V.str ++ cutV ((rLn m).map V.str) none (some 1))) hc).trans ((Same.new (o := .lst [V.str bad]) hl).trans ((Same.new (o := .lst ((cAll.take n).map V.str ++ cutV ((rLn m).map V.str) none (some 1) ++ [V.str bad])) hc2).trans ((Same.new (o := .lst (cutV ((rLn m).map V.str) (some 1) none)) ha2).trans (Same.new (o := .lst ((cAll.take n).map V.str ++ cutV ((rLn m).map V.str) none (some 1) ++ [V.str bad] ++ cutV ((rLn m).map V.str) (some 1) none)) he))))))
        have heL : upd (upd (upd (upd (upd (upd H10 a1 (.lst (cutV ((rLn m).map V.str) none (some 1)))) c (.lst ((cAll.take n).map V.str ++ cutV ((rLn m).map V.str) none (some 1)))) l (.lst [V.str bad])) c2 (.lst ((cAll.take n).map V.str ++ cutV ((rLn m).map V.str) none (some 1) ++ [V.str bad]))) a2 (.lst (cutV ((rLn m).map V.str) (some 1) none))) e (.lst ((cAll.take n).map V.str ++ cutV ((rLn m).map V.str) none (some 1) ++ [V.str bad] ++ cutV ((rLn m).map V.str) (some 1) none)) e = some (.lst (((cAll.take n ++ [headL]) ++ bad :: (List.replicate m seeL ++ [retL])).map V.str)) := by rw [upd_same, e1, e2]; simp
        generalize upd (upd (upd (upd (upd (upd H10 a1 (.lst (cutV ((rLn m).map V.str) none (some 1)))) c (.lst ((cAll.take n).map V.str ++ cutV ((rLn m).map V.str) none (some 1)))) l (.lst [V.str bad])) c2 (.lst ((cAll.take n).map V.str ++ cutV ((rLn m).map V.str) none (some 1) ++ [V.str bad]))) a2 (.lst (cutV ((rLn m).map V.str) (some 1) none))) e (.lst ((cAll.take n).map V.str ++ cutV ((rLn m).map V.str) none (some 1) ++ [V.str bad] ++ cutV ((rLn m).map V.str) (some 1) none)) = H8 at *
        have TO : TextOk (txt ((cAll.take n ++ [headL]) ++ bad :: (List.replicate m seeL ++ [retL])) "") := (tells_h (K := K) (H := H8) (Q := fun _ _ => True) hn (show m ≤ 30 by omega) hbm (fun _ _ => trivial)).1
        obtain ⟨su1, su2⟩ := sums TO
        refine lc_pure (walk_list (K := K) (a := e) (xs := ((cAll.take n ++ [headL]) ++ bad :: (List.replicate m seeL ++ [retL])).map V.str)) hF (fun i => .str (((cAll.take n ++ [headL]) ++ bad :: (List.replicate m seeL ++ [retL])).getD i "" ++ NL)) (by simp [rLn, gln]; omega) (fun Ha sa => SqL.of (sa _ _ heL)) (fun i2 Ha y2 Hb hi2 sa hy2 Qe qe => ?_) (fun H9 s9 hF9 => ?_)
        · obtain ⟨rfl, hy2⟩ := hy2
          obtain ⟨z, hz, rfl⟩ := map_get hy2
          have ez : ((cAll.take n ++ [headL]) ++ bad :: (List.replicate m seeL ++ [retL])).getD i2 "" = z := by
            rw [List.getD_eq_getElem?_getD, hz]
            rfl
          rw [ez] at qe
          exact ⟨rfl, _, rfl, _, _, rfl, rfl, sz_of (su2 z (List.mem_of_getElem? hz)), qe _ (Same.refl _)⟩
        rw [List.length_map, getD_map ((cAll.take n ++ [headL]) ++ bad :: (List.replicate m seeL ++ [retL])) (fun l => l ++ NL)] at hF9
        refine ⟨_, F0, ((cAll.take n ++ [headL]) ++ bad :: (List.replicate m seeL ++ [retL])).map (fun l => l ++ NL), rfl, rfl, .inl (SqL.of hF9), Nat.le_trans (Nat.add_le_add su1 (Nat.le_of_eq (Nat.mul_zero _))) (by decide), ?_⟩
        rw [join0]
        refine ⟨_, rfl, .inr ⟨_, rfl, TO, (tells_h hn (show m ≤ 30 by omega) hbm fun H11 s11 => ?_).2⟩⟩
        exact ⟨_, rfl, _, _, rfl, rfl, rfl, _, rfl, ifF (by simp) ⟨_, rfl, (st.trans s9).trans s11⟩⟩
      · rintro σ Hx ⟨v, rfl, sx⟩
        have hDc := sx _ _ hDb
        have hRc := sx _ _ hRb
        refine ⟨⟨_, rfl⟩, _, rfl, _, rfl, D, R, _, _, rfl, rfl, hDc, hRc, sz_of (by simp [rLn]; omega), fun e he => ⟨e, rfl, ⟨_, SqL.of upd_same⟩, fun F0 hF => ?_⟩⟩
        have se := s2b.trans (sx.trans (Same.new (o := .lst ((cAll.take n).map V.str ++ (rLn m).map V.str)) he))
        have heL : upd Hx e (.lst ((cAll.take n).map V.str ++ (rLn m).map V.str)) e = some (.lst ((gln n m).map V.str)) := by rw [upd_same]; simp [gln]
        generalize upd Hx e (.lst ((cAll.take n).map V.str ++ (rLn m).map V.str)) = H8 at *
        have TO : TextOk (txt (gln n m) "") := (tells_good (K := K) (H := H8) (Q := fun _ _ => True) hn (show m ≤ 30 by omega) (fun _ _ => trivial)).1
        obtain ⟨su1, su2⟩ := sums TO
        refine lc_pure (walk_list (K := K) (a := e) (xs := (gln n m).map V.str)) hF (fun i => .str ((gln n m).getD i "" ++ NL)) (by simp [rLn, gln]; omega) (fun Ha sa => SqL.of (sa _ _ heL)) (fun i2 Ha y2 Hb hi2 sa hy2 Qe qe => ?_) (fun H9 s9 hF9 => ?_)
        · obtain ⟨rfl, hy2⟩ := hy2
          obtain ⟨z, hz, rfl⟩ := map_get hy2
          have ez : (gln n m).getD i2 "" = z := by
            rw [List.getD_eq_getElem?_getD, hz]
            rfl
          rw [ez] at qe
          exact ⟨rfl, _, rfl, _, _, rfl, rfl, sz_of (su2 z (List.mem_of_getElem? hz)), qe _ (Same.refl _)⟩
        rw [List.length_map, getD_map (gln n m) (fun l => l ++ NL)] at hF9
        refine ⟨_, F0, (gln n m).map (fun l => l ++ NL), rfl, rfl, .inl (SqL.of hF9), Nat.le_trans (Nat.add_le_add su1 (Nat.le_of_eq (Nat.mul_zero _))) (by decide), ?_⟩
        rw [join0]
        have s29 := se.trans s9
        clear hDc hRc heL hF hF9 se s9 su1 sx hDb hRb s2b hq2
        refine ⟨sz_of (by show 5 ≤ 100000; decide), fun q3 hq3 => ⟨q3, rfl, ⟨_, SqL.of upd_same⟩, ?_⟩⟩
        have s3a := s29.trans (Same.new (o := .lst (endsL.map V.str)) hq3)
        have hq3b : upd H9 q3 (.lst (endsL.map V.str)) q3 = some (.lst (endsL.map V.str)) := upd_same
        have tl1 : (txt (gln n m) "").length ≤ 50000 := TO.len
        have hq3c : upd H9 q3 (.lst [V.str "x", V.str " ", V.str "  see n", V.str "class c", V.str "\t"]) q3 = some (.lst (endsL.map V.str)) := upd_same
        have s3b : Same H2 (upd H9 q3 (.lst [V.str "x", V.str " ", V.str "  see n", V.str "class c", V.str "\t"])) := s3a
        generalize upd H9 q3 (.lst [V.str "x", V.str " ", V.str "  see n", V.str "class c", V.str "\t"]) = Hq at *
        clear s3a hq3b s29
        refine for_it (walk_list (K := K) (a := q3) (xs := endsL.map V.str)) (fun i σ Hz => ∃ v7, σ = [some (.ref p), some (.int n), some (.int m), some (.ref D), some (.ref R), v, some (.str (txt (gln n m) "")), v7, none, none] ∧ Same Hq Hz) ⟨none, rfl, Same.refl _⟩ (fun i σ Hz _ ⟨_, _, sx⟩ => SqL.of (sx _ _ hq3c)) ?_ ?_
        · rintro i y σ Hz Hx hi ⟨v7, rfl, sx⟩ ⟨rfl, hy⟩
          obtain ⟨en, he, rfl⟩ := map_get hy
          have hem := List.mem_of_getElem? he
          have hel := (good_mem (l := en) (by simp [hem])).len
          refine ⟨_, rfl, _, rfl, _, _, rfl, rfl, sz_of (by omega), ?_⟩
          rw [cat_txt]
          refine ⟨_, rfl, .inr ⟨_, rfl, (tells_e (K := K) (H := Hx) (Q := fun _ _ => True) hn (show m ≤ 30 by omega) hem (fun _ _ => trivial)).1, (tells_e hn (show m ≤ 30 by omega) hem fun H10 s10 => ?_).2⟩⟩
          exact ⟨_, rfl, _, rfl, _, _, rfl, rfl, _, _, rfl, rfl, rfl, _, rfl, ifF (by simp) ⟨_, rfl, sx.trans s10⟩⟩
        · rintro σ Hx ⟨v7, rfl, sx⟩
          have h30 : m ≤ 30 := by omega
          have ec : cutS (txt (gln n m) "") none (some (-1)) = txt (cAll.take n ++ headL :: List.replicate m seeL) retL := by rw [gln_cut, cut_txt]
          refine ⟨_, rfl, _, rfl, _, rfl, _, rfl, sz_of (by omega), ?_⟩
          rw [ec]
          refine ⟨_, rfl, .inr ⟨_, rfl, (tells_cut (K := K) (H := Hx) (Q := fun _ _ => True) hn h30 (fun _ _ => trivial)).1, (tells_cut hn h30 fun H10 s10 => ?_).2⟩⟩
          refine ⟨_, rfl, _, rfl, _, _, rfl, rfl, _, _, rfl, rfl, rfl, _, rfl, ifF (by simp) ?_⟩
          refine ⟨_, rfl, _, rfl, .inr ⟨_, rfl, TO, (tells_good hn h30 fun H11 s11 => ?_).2⟩⟩
          refine ⟨rfl, _, rfl, ifF (by decide) ?_⟩
          refine ⟨_, rfl, _, _, rfl, rfl, sz_of (Nat.le_trans (Nat.add_le_add tl1 (show ("function f number /\n  jump 0\n" : Str).length ≤ 100 by decide +kernel)) (by decide)), ?_⟩
          rw [cat_f]
          refine ⟨_, rfl, .inr ⟨_, rfl, (tells_f (K := K) (H := Hx) (Q := fun _ _ => True) hn h30 (fun _ _ _ _ _ _ => trivial)).1, (tells_f hn h30 fun H12 q t s12 ht hq => ?_).2⟩⟩
          refine ⟨sz_of (by show 1 ≤ 100000; decide), fun t2 ht2 => ⟨sz_of (by show 2 ≤ 100000; decide), fun u2 hu2 => ?_⟩⟩
          have sa := Same.new (o := .tup [.int 1]) ht2
          have sb := Same.new (o := .tup [.str "functions", .ref t2]) hu2
          have sab := sa.trans sb
          refine ⟨_, _, .tup (SqT.of (sab _ _ hq)) (.cons (.str _) (.cons (.tup (SqT.of (sab _ _ ht)) (.cons (.int _) .nil)) .nil)), .tup (SqT.of upd_same) (.cons (.str _) (.cons (.tup (SqT.of (sb _ _ upd_same)) (.cons (.int _) .nil)) .nil)), by decide +kernel, by decide +kernel, _, rfl, ifF (by decide +kernel) ?_⟩
          have s1 := s3b.trans (sx.trans (s10.trans (s11.trans (s12.trans sab))))
          generalize upd (upd H12 t2 (.tup [.int 1])) u2 (.tup [.str "functions", .ref t2]) = H13 at *
          refine ⟨_, rfl, _, _, rfl, rfl, sz_of (Nat.le_trans (Nat.add_le_add tl1 (show ("function g number /\n" : Str).length ≤ 100 by decide +kernel)) (by decide)), ?_⟩
          rw [cat_g]
          refine ⟨_, rfl, .inr ⟨_, rfl, (tells_g (K := K) (H := Hx) (Q := fun _ _ => True) hn h30 (fun _ _ _ _ _ _ => trivial)).1, (tells_g hn h30 fun H14 q t s14 ht hq => ?_).2⟩⟩
          refine ⟨sz_of (by show 1 ≤ 100000; decide), fun t2 ht2 => ⟨sz_of (by show 2 ≤ 100000; decide), fun u2 hu2 => ?_⟩⟩
          have sa := Same.new (o := .tup [.int 1]) ht2
          have sb := Same.new (o := .tup [.str "functions", .ref t2]) hu2
          have sab := sa.trans sb
          refine ⟨_, _, .tup (SqT.of (sab _ _ hq)) (.cons (.str _) (.cons (.tup (SqT.of (sab _ _ ht)) (.cons (.int _) .nil)) .nil)), .tup (SqT.of upd_same) (.cons (.str _) (.cons (.tup (SqT.of (sb _ _ upd_same)) (.cons (.int _) .nil)) .nil)), by decide +kernel, by decide +kernel, _, rfl, ifT (by decide +kernel) ?_⟩
          have s2 := s1.trans (s14.trans sab)
          generalize upd (upd H14 t2 (.tup [.int 1])) u2 (.tup [.str "functions", .ref t2]) = H15 at *
          refine ⟨_, rfl, .inr ⟨txt [] "", congrArg V.str (show ("" : Str) = txt [] "" by decide +kernel), (tells_none (K := K) (H := Hx) (Q := fun _ _ => True) (fun _ _ _ _ => trivial)).1, (tells_none fun H16 q s16 hq => ?_).2⟩⟩
          refine ⟨_, rfl, sz_of (by show 2 ≤ 100000; decide), fun u3 hu3 => ?_⟩
          have sc := Same.new (o := .tup [.str "functions", .int (-1)]) hu3
          refine ⟨_, _, .tup (SqT.of (sc _ _ hq)) (.cons (.str _) (.cons (.int _) .nil)), .tup (SqT.of upd_same) (.cons (.str _) (.cons (.int _) .nil)), by decide +kernel, by decide +kernel, ?_⟩
          rw [show PyData.eqv (.tuple [.str "functions", .int (-1)]) (.tuple [.str "functions", .int (-1)]) = true by decide +kernel]
          exact k _ (b12.trans (But.of (s2.trans (s16.trans sc))))

end
end W5
set_option Elab.async false
set_option linter.all false
set_option maxRecDepth 100000
set_option maxHeartbeats 4000000
namespace W5
open PySem PySem.Spec PyProof.Rows L2 RZ TL CA
section
variable {P : Program} {w : World} {K : PySem.W.Frag} {mg : Str → Option Value} {base : Heap}

def spLaw (K : PySem.W.Frag) : Sp := fun vs H Q _ => ∃ (a : Addr) (ns : List Int), vs = [.ref a] ∧ SqL K H a (ns.map V.int) ∧ ns.length ≤ 63 ∧ ∀ H', Q (.bl true) H'
theorem sql_but {H H8 H9 : Hp} {a q : Addr} {xs : List V} (h : SqL K H a xs) (n : H q = none) (e : Same H H8) (b : But q H8 H9) : SqL K H9 a xs := by
  have ne : ∀ {o : HO}, H a = some o → a ≠ q := fun {o} r z => by rw [z, n] at r; cases r
  exact Or.imp (fun r => Or.imp (fun r => b _ _ (e _ _ r) (ne r)) (fun ⟨o, r⟩ => ⟨o, b _ _ (e _ _ r) (ne r)⟩) r) id h
theorem sc_law : FnScope ["_law_script", "_law_odd", "_law_k"] ["_law_script"] (defScope s_law) := ⟨rfl, rfl, rfl, by decide +kernel, rfl, by decide +kernel, by decide +kernel⟩
theorem ok_law {fd : FuncData} (T : Ctx w K mg) (F : FunD K "law" "law" (defArgs s_law) (defBody s_law) (defScope s_law) [] [] (He.ga K "law") fd) (H_L_told : Has P w K mg base 11 "_law_told" ["_law_text"] (spTold K)) (H_L_well : Has P w K mg base 1 "_law_well" ["_law_script", "_law_k"] (spWell K)) (H_L_right : Has P w K mg base 12 "_law_right" ["_law_well_here"] spRight) : FnOk P w K mg base CX0 13 (He.ga K "law") fd ["_law_script"] (spLaw K) := by
  obtain ⟨fd_L_told, G_L_told, b_L_told⟩ := H_L_told.ex
  obtain ⟨fd_L_well, G_L_well, b_L_well⟩ := H_L_well.ex
  obtain ⟨fd_L_right, G_L_right, b_L_right⟩ := H_L_right.ex
  refine F.ok sc_law (fun vs H Q E h => ?_) (fun cdv A outer s H vs Q E hr h => ?_)
  · obtain ⟨a, ns, rfl, hS, hl, k⟩ := h; rfl
  · obtain ⟨a, ns, rfl, hS, hl, k⟩ := h
    have hr_L_told : Room 11 _ := hr.mono (by decide)
    have hr_L_well : Room 1 _ := hr.mono (by decide)
    have hr_L_right : Room 12 _ := hr.mono (by decide)
    have hu := hu_of hr
    refine ⟨_, PSs.nox (pss_cons (ps_for PassesOwn.never rfl (pi_list (pe_lst (pa_cons pe_non (pa_cons pe_int (pa_cons pe_bl (pa_cons (pe_lst (pa_cons pe_str pa_nil)) (pa_cons (pe_tup (pa_cons pe_str pa_nil)) (pa_cons pe_dnewK pa_nil)))))))) (pg_name (i := 1) sc_law.nd rfl (Or.inl rfl))
      (pss_one (ps_if (pt_cmpR op_ne (pe_call G_L_told hr_L_told (by rfl) H_L_told.gl H_L_told.kp b_L_told .nil pass0 (pa_cons (pv 1) pa_nil)) (pe_un un_neg pe_int) (nomark _)) (pss_one (ps_ret pe_bl)) pss_nil)))
      (pss_cons (ps_for PassesOwn.never rfl (pi_range1 (by rfl) T.f_range (pa_cons (pe_callB (call_max2 rfl) (by rfl) T.f_max (by decide +kernel) (pa_cons pe_int (pa_cons (pe_callB (call_min2 rfl) (by rfl) T.f_min (by decide +kernel) (pa_cons pe_int (pa_cons (pe_callB call_len_seq (by rfl) T.f_len (by decide +kernel) (pa_cons (pv 0) pa_nil)) pa_nil))) pa_nil))) pa_nil)) (pg_name (i := 2) sc_law.nd rfl (Or.inl rfl))
      (pss_one (ps_if (pt_not (pt_val (pe_call G_L_right hr_L_right (by rfl) H_L_right.gl H_L_right.kp b_L_right .nil pass0 (pa_cons (pe_call G_L_well hr_L_well (by rfl) H_L_well.gl H_L_well.kp b_L_well .nil pass0 (pa_cons (pv 0) (pa_cons (pv 2) pa_nil))) pa_nil)))) (pss_one (ps_ret pe_bl)) pss_nil)))
      (pss_one (ps_ret pe_bl)))), ?_⟩
    refine ⟨sz_of (by show 1 ≤ 100000; decide), fun a1 h1 => ⟨sz_of (by show 1 ≤ 100000; decide), fun a2 h2 => fun d hd => ⟨sz_of (by show 6 ≤ 100000; decide), fun L hL => ⟨L, rfl, ⟨_, SqL.of upd_same⟩, ?_⟩⟩⟩⟩
    have s1 := Same.new (o := .lst [.str "class c"]) h1
    have s2 := Same.new (o := .tup [.str "class c"]) h2
    have s3 := Same.new (o := .dK []) hd
    have s4 := Same.new (o := .lst [.non, .int 5, .bl true, .ref a1, .ref a2, .ref d]) hL
    have e1 := s4 _ _ (s3 _ _ (s2 _ _ (upd_same (H := H) (a := a1) (o := .lst [.str "class c"]))))
    have e2 := s4 _ _ (s3 _ _ (upd_same (H := upd H a1 (.lst [.str "class c"])) (a := a2) (o := .tup [.str "class c"])))
    have e3 := s4 _ _ (upd_same (H := upd (upd H a1 (.lst [.str "class c"])) a2 (.tup [.str "class c"])) (a := d) (o := .dK []))
    have e4 : upd (upd (upd (upd H a1 (.lst [.str "class c"])) a2 (.tup [.str "class c"])) d (.dK [])) L (.lst [.non, .int 5, .bl true, .ref a1, .ref a2, .ref d]) L = some (.lst [.non, .int 5, .bl true, .ref a1, .ref a2, .ref d]) := upd_same
    have sH := s1.trans (s2.trans (s3.trans s4))
    generalize upd (upd (upd (upd H a1 (.lst [.str "class c"])) a2 (.tup [.str "class c"])) d (.dK [])) L (.lst [.non, .int 5, .bl true, .ref a1, .ref a2, .ref d]) = HL at *
    have kinds : ∀ y ∈ [V.non, .int 5, .bl true, .ref a1, .ref a2, .ref d], ∃ c, (∀ H', Same HL H' → TyX K H' y c) ∧ PySem.W.kitOne K c (.type "str") = some false := fun y m => by
      simp only [List.mem_cons, List.not_mem_nil, or_false] at m
      rcases m with rfl | rfl | rfl | rfl | rfl | rfl
      · exact ⟨_, fun _ _ => .base .non, kit_ty (by decide +kernel)⟩
      · exact ⟨_, fun _ _ => .base (.int 5), kit_ty (by decide +kernel)⟩
      · exact ⟨_, fun _ _ => .base (.bl true), kit_ty (by decide +kernel)⟩
      · exact ⟨_, fun _ s => .base (.lst (s _ _ e1)), kit_ty (by decide +kernel)⟩
      · exact ⟨_, fun _ s => .base (.tup (s _ _ e2)), kit_ty (by decide +kernel)⟩
      · exact ⟨_, fun _ s => .base (.dK (s _ _ e3)), kit_ty (by decide +kernel)⟩
    refine for_it (walk_list (K := K) (a := L) (xs := [V.non, .int 5, .bl true, .ref a1, .ref a2, .ref d])) (fun i σ Hz => ∃ v, σ = [some (.ref a), v, none] ∧ Same HL Hz) ⟨none, rfl, Same.refl _⟩ (fun i σ Hz _ ⟨_, _, sx⟩ => SqL.of (sx _ _ e4)) ?_ ?_
    · rintro i y σ Hz Hx hi ⟨v, rfl, sx⟩ ⟨rfl, hy⟩
      obtain ⟨c, tx, kt⟩ := kinds y (List.mem_of_getElem? hy)
      refine ⟨_, rfl, y, rfl, .inl ⟨⟨c, fun H' s => tx _ (sx.trans s), kt⟩, fun H8 s8 => ?_⟩⟩
      exact ⟨_, rfl, rfl, _, rfl, ifF (by simp) ⟨_, rfl, sx.trans s8⟩⟩
    · rintro σ Hx ⟨v, rfl, sx⟩
      have hS2 := sql_mono hS (sH.trans sx)
      refine ⟨_, rfl, _, _, rfl, .inl hS2, _, _, rfl, _, _, rfl, ?_⟩
      have hz : (ns.map V.int).length ≤ 63 := by rw [List.length_map]; exact hl
      refine ⟨_, rfl, by split <;> split <;> omega, by split <;> split <;> omega, ?_⟩
      generalize (Int.toNat _) = N
      refine for_it (walk_range (lo := 0) (n := N)) (fun i σ Hz => ∃ v v2, σ = [some (.ref a), v, v2] ∧ SqL K Hz a (ns.map V.int)) ⟨_, none, rfl, hS2⟩ (fun _ _ _ _ _ => trivial) ?_ ?_
      · rintro i y σ Hz Hx hi ⟨v, v2, rfl, hS3⟩ ⟨rfl, rfl⟩
        refine ⟨_, rfl, _, rfl, a, ns, i, (by show ([V.ref a, V.int (0 + (i : Int))] : List V) = _; rw [Int.zero_add]), hS3, by omega, fun q H8 s8 hq w8 => ⟨q, rfl, w8, fun H9 b9 => ⟨_, rfl, ifF rfl ⟨_, _, rfl, sql_but hS3 hq s8 b9⟩⟩⟩⟩
      · rintro σ Hz ⟨v, v2, rfl, _⟩
        exact k _

end
end W5
set_option Elab.async false
set_option linter.all false
set_option maxRecDepth 100000
set_option maxHeartbeats 4000000
namespace W5
open PySem PySem.Spec PyProof.Rows L2 RZ
theorem law_has {P : Program} {w : World} {K : PySem.W.Frag} {mg : Str → Option Value} {base : Heap} {fd : FuncData} (T : Ctx w K mg) (F : FunD K "law" "law" (defArgs s_law) (defBody s_law) (defScope s_law) [] [] (He.ga K "law") fd) : FnOk P w K mg base CX0 13 (He.ga K "law") fd ["_law_script"] (spLaw K) := by
  have h_is_integer := ok_is_integer (P := P) (base := base) T
  have h_is_integer_in := ok_is_integer_in (P := P) (base := base) T (H_is_integer := h_is_integer)
  have h_is_written_number := ok_is_written_number (P := P) (base := base) T (H_is_integer_in := h_is_integer_in)
  have h_is_name := ok_is_name (P := P) (base := base) T
  have h_is_kind := ok_is_kind (P := P) (base := base) T
  have h_is_tuple_of := ok_is_tuple_of (P := P) (base := base) T
  have h_is_list_of := ok_is_list_of (P := P) (base := base) T
  have h_is_word_tuple := ok_is_word_tuple (P := P) (base := base) T
  have h_frozen0 := ok_frozen0 (P := P) (base := base) T
  have h_frozen1 := ok_frozen1 (P := P) (base := base) T (H_frozen := h_frozen0)
  have h_frozen2 := ok_frozen2 (P := P) (base := base) T (H_frozen := h_frozen1)
  have h_are_named_kinds := ok_are_named_kinds (P := P) (base := base) T (H_is_list_of := h_is_list_of) (H_is_tuple_of := h_is_tuple_of) (H_is_name := h_is_name) (H_is_kind := h_is_kind)
  have h_B_is_name := okB_is_name (P := P) (base := base) T
  have h_B_is_kind := okB_is_kind (P := P) (base := base) T
  have h_B_is_list_of_names := okB_is_list_of_names (P := P) (base := base) T (H_is_name := h_B_is_name)
  have h_Source_fields_of := ok_Source_fields_of (P := P) (base := base) T
  have h_Source_field_kind := ok_Source_field_kind (P := P) (base := base) T
  have h_Source_function_at := ok_Source_function_at (P := P) (base := base) T
  have h_is_list_of_names := ok_is_list_of_names (P := P) (base := base) T (H_is_name := h_is_name)
  have h_fills := ok_fills (P := P) (base := base) T (H_is_name := h_is_name) (H_is_written_number := h_is_written_number) (H_is_integer := h_is_integer) (H_Source_fields_of := h_Source_fields_of) (H_Source_field_kind := h_Source_field_kind) (H_Source_function_at := h_Source_function_at) (H_is_list_of_names := h_is_list_of_names)
  have h_is_row := ok_is_row (P := P) (base := base) T (H_is_word_tuple := h_is_word_tuple) (H_fills := h_fills)
  have h_row_sets := ok_row_sets (P := P) (base := base) T
  have h_row_reads := ok_row_reads (P := P) (base := base) T
  have h_names_in := ok_names_in (P := P) (base := base) T (H_row_reads := h_row_reads) (H_row_sets := h_row_sets)
  have h_call_fits := ok_call_fits (P := P) (base := base) T
  have h_row_kinds_fit := ok_row_kinds_fit (P := P) (base := base) T (H_names_in := h_names_in) (H_call_fits := h_call_fits) (H_Source_field_kind := h_Source_field_kind) (H_Source_function_at := h_Source_function_at)
  have h_frozenM := ok_frozenM (P := P) (base := base) T (H_frozen := h_frozen0)
  have h_frozenR := ok_frozenR (P := P) (base := base) T (H_frozen := h_frozenM)
  have h_frozenW := ok_frozenW (P := P) (base := base) T (H_frozen := h_frozenR)
  have h_row_readsK := ok_row_readsK (P := P) (base := base) T
  have h_Source_is_row_of := ok_Source_is_row_of (P := P) (base := base) T (H_is_row := h_is_row) (H_row_sets := h_row_sets) (H_row_reads := h_row_reads) (H_row_kinds_fit := h_row_kinds_fit)
  have h_Source_take_rows := ok_Source_take_rows (P := P) (base := base) T (H_Source_is_row_of := h_Source_is_row_of) (H_frozen := h_frozenW)
  have h_text_init := ok_text_init (P := P) (base := base) T
  have h_src_err := ok_src_err (P := P) (base := base) T
  have h_words_of := ok_words_of (P := P) (base := base) T
  have h_text_lines := ok_text_lines (P := P) (base := base) T (H_errT := h_text_init) (H_words_of := h_words_of)
  have h_is_kindG := ok_is_kindG (P := P) (base := base) T
  have h_are_named_kindsG := ok_are_named_kindsG (P := P) (base := base) T (H_is_list_of := h_is_list_of) (H_is_tuple_of := h_is_tuple_of) (H_is_name := h_is_name) (H_is_kind := h_is_kindG)
  have h_is_head := ok_is_head (P := P) (base := base) T (H_is_tuple_of := h_is_tuple_of) (H_is_name := h_is_name) (H_is_kind := h_is_kindG) (H_are_named_kinds := h_are_named_kindsG) (H_is_list_of := h_is_list_of)
  have h_is_class := ok_is_class (P := P) (base := base) T (H_is_tuple_of := h_is_tuple_of) (H_is_name := h_is_name) (H_are_named_kinds := h_are_named_kindsG)
  have h_read_integer := ok_read_integer (P := P) (base := base) T
  have h_read_part := ok_read_part (P := P) (base := base) T (H_read_integer := h_read_integer) (H_is_name := h_B_is_name)
  have h_read_pairs := ok_read_pairs (P := P) (base := base) T (H_is_name := h_B_is_name) (H_is_kind := h_B_is_kind)
  have h_read_row := ok_read_row (P := P) (base := base) T (H_read_part := h_read_part) (H_is_list_of_names := h_B_is_list_of_names)
  have h_takes_class := ok_takes_class (P := P) (base := base) T (H_read_pairs := h_read_pairs)
  have h_takes_function := ok_takes_function (P := P) (base := base) T (H_read_pairs := h_read_pairs) (H_is_kind := h_B_is_kind)
  have h_takes_line := ok_takes_line (P := P) (base := base) T (H_read_row := h_read_row) (H_is_name := h_B_is_name) (H_takes_class := h_takes_class) (H_takes_function := h_takes_function)
  have h_Source_kinds_differ := ok_Source_kinds_differ (P := P) (base := base) T
  have h_Source_take_classes := ok_Source_take_classes (P := P) (base := base) T (H_is_list_of := h_is_list_of) (H_is_class := h_is_class) (H_Source_kinds_differ := h_Source_kinds_differ) (H_frozen := h_frozen2)
  have h_Function_init := ok_Function_init (P := P) (base := base) T (H_frozen := h_frozen2)
  have h_Source_take_heads := ok_Source_take_heads (P := P) (base := base) T (H_is_list_of := h_is_list_of) (H_is_head := h_is_head) (H_Function_init := h_Function_init)
  have h_Source_init := ok_Source_init (P := P) (base := base) T (H_Source_take_classes := h_Source_take_classes) (H_Source_take_heads := h_Source_take_heads) (H_Source_take_rows := h_Source_take_rows)
  have h_B_is_list_of := okB_is_list_of (P := P) (base := base) T
  have h_B_is_head := okB_is_head (P := P) (base := base) T (H_is_tuple_of := h_is_tuple_of) (H_is_name := h_is_name) (H_is_kind := h_is_kindG) (H_are_named_kinds := h_are_named_kindsG) (H_is_list_of := h_B_is_list_of)
  have h_E_Source_take_heads := okE_Source_take_heads (P := P) (base := base) T (H_errS := h_src_err) (H_is_list_of := h_B_is_list_of) (H_is_head := h_B_is_head) (H_Function_init := h_Function_init)
  have h_B_Source_init := okB_Source_init (P := P) (base := base) T h_Source_take_classes h_Source_take_heads h_Source_take_rows h_E_Source_take_heads
  have h_read_source := ok_read_source (P := P) (base := base) T (H_errT := h_text_init) (H_text_lines := h_text_lines) (H_takes_line := h_takes_line) (H_Source_init := h_B_Source_init)
  have h_L_told := ok_L_told (P := P) (base := base) T (H_read_source := h_read_source)
  have h_L_mix := ok_L_mix (P := P) (base := base) T
  have h_L_well := ok_L_well (P := P) (base := base) T
  have h_L_draw := ok_L_draw (P := P) (base := base) T (H_L_mix := h_L_mix)
  have h_L_odd_classes := ok_L_odd_classes (P := P) (base := base) T
  have h_L_odd_lines := ok_L_odd_lines (P := P) (base := base) T
  have h_L_right := ok_L_right (P := P) (base := base) T (H_L_draw := h_L_draw) (H_L_odd_classes := h_L_odd_classes) (H_L_odd_lines := h_L_odd_lines) (H_L_told := h_L_told)
  have h_law := ok_law (P := P) (base := base) (fd := fd) T F (H_L_told := h_L_told) (H_L_well := h_L_well) (H_L_right := h_L_right)
  exact h_law
theorem facts {P : Program} {w : World} {K : PySem.W.Frag} {h : Heap} {mg : Str → Option Value} {f : Addr} (X : K.In h) (G : h.Ns mainGlobals mg) (hfa : mg ("law" : Str) = some (.ref f)) (c : He.SaysX fa fn ts [] ex w h K) :
    ∃ fd : FuncData, (∀ (s : Shared) (v : Value), BindsTo s fd ⟨[v], []⟩ [("_law_script", v)]) ∧ ∀ base : Heap, K.In base → base.Ns mainGlobals mg → FnOk P w K mg base CX0 13 f fd ["_law_script"] (spLaw K) := by
  have T : Ctx w K mg := ⟨⟨h, X, G⟩, c.t, c.more⟩
  obtain ⟨fd, F⟩ := T.D_law
  have e := hfa.symm.trans T.g_law
  cases e
  have b := FunD.bindsA (ps := ["_law_script"]) F fun _ _ _ _ _ _ us hl => match us, hl with | [_], _ => rfl
  exact ⟨fd, fun s v => b s [v] rfl, fun base _ _ => law_has T F⟩
end W5
set_option Elab.async false
set_option linter.all false
set_option maxRecDepth 100000
set_option maxHeartbeats 0
open PySem PySem.W PySem.Calls PyProof.Rows
theorem PySem.Challenge.cw_backframes_k05_what_is_no_text_of_source_holds : PySem.Challenge.rw_backframes_k05_what_is_no_text_of_source.Holds := by
  w_on; o_law
  refine HandSHeadRun.head_any (r := OpenLaw.row PySem.Challenge.rw_backframes_k05_what_is_no_text_of_source) (q := view (OpenLaw.row PySem.Challenge.rw_backframes_k05_what_is_no_text_of_source).prog [72]) (H := W5.hk) (ob := W5.ob) (M := 4200) (loose := W5.nms) (d := HandSHeadRun.topDef (OpenLaw.row PySem.Challenge.rw_backframes_k05_what_is_no_text_of_source).prog 72) (kwd := []) W5.ob_eq
    (by kernel_rfl) (fun s => by kernel_rfl) W5.run (by kernel_rfl) (by kernel_rfl) (by kernel_rfl) (by rfl) (by first | assumption | decide +kernel) (by decide +kernel) ⟨rfl, rfl, rfl, rfl, rfl, by decide +kernel⟩ ?hw ?hc
  case hw => w_witness2
  case hc =>
    refine L2.walk_ofE (l := PySem.Challenge.rw_backframes_k05_what_is_no_text_of_source) (n := 63) (k := 13) (x := "_law_script") (CX := L2.CX0) rfl (by decide) (by kernel_rfl) ⟨rfl, by decide, by decide⟩ ?F (fun _ _ _ _ z => z)
    intro w mg fa h Y G hmg0
    obtain ⟨K, KX, c⟩ := Y
    have hmg : mg ("law" : PySem.Str) = some (.ref fa) := by
      have e : (HandSHeadRun.topDef (OpenLaw.row PySem.Challenge.rw_backframes_k05_what_is_no_text_of_source).prog 72).name = ("law" : PySem.Str) := by kernel_rfl
      rw [← e]
      exact hmg0
    obtain ⟨fd, hb, hF⟩ := W5.facts (P := (PySem.Challenge.rw_backframes_k05_what_is_no_text_of_source).prog) (w := w) KX G hmg c
    exact ⟨K, fd, W5.spLaw K, KX, hb, fun H a ns hl _ hS => ⟨a, ns, rfl, hS, hl, fun _ => rfl⟩, hF⟩
