import PyProof.Rows.All
import Wide.All
import OpenK.AllK
import Wide.FinOn
import HandS.ForMost
import HandS.Evl
import PyProof.ReprReads
import HandS.Walk
import HandS.Zip
import HandS.Gcd
import HandS.IsInst
import HandS.Wide
import HandS.ForExc
import KE.KExcSuper
import KE.KExcMake
import KE.GoesMore
import HandS.Iter
import HandS.Defaults
import HandS.HeadHook2
import KE.KMathG
import PyProof.ReprRoads
import HandS.HeadEnd
import HandS.Ends
import PyProof.ReprLen
import PyProof.Rows.RegStrFacts
import HandS.Property
import KE.KOpsOwn
import OpenK.KOps
import HandS.Style
import HandS.NoneIn
import HandS.SetFor
import HandS.Strs
import HandS.Codes
import HandS.TupMul
import PyProof.Rows.Range3
import PyProof.Conv_bool
import HandS.Words
import HandS.WordsExc
import HandS.Head0
import HandS.Head1
import HandS.Head2
import HandS.Head3
import HandS.HeadHook1
import HandS.HeadHook3
import HandS.HeadHook4
import HandS.ExcValue
import HandS.ExcIs
import HandS.ExcField
import HandS.Dict
import HandS.Lambda
import PyProof.FactsTree
import KE.KStateDown
import PySem.Challenge.RW_freshplaces_k13_classes_of_errors
set_option Elab.async false
set_option linter.all false
set_option maxRecDepth 100000
set_option maxHeartbeats 0
/-! What a reading evaluates to, in data: a known part of the heap (the region) that only grows, beside it at most one list of two numbers that may change (the pool). -/
namespace Z
open PySem PySem.Spec PyProof.Rows L2 Evl
mutual
/-- v stands for the data d: lists are ones of the heap's own -/
inductive Dq (K : PySem.W.Frag) (H : Hp) : V → PyData → Prop
  | non : Dq K H .non .none
  | bl (b : Bool) : Dq K H (.bl b) (.bool b)
  | int (i : Int) : Dq K H (.int i) (.int i)
  | str (x : Str) : Dq K H (.str x) (.str x)
  | lst {a : Addr} {xs : List V} {ds : List PyData} (h : H a = some (.lst xs)) (hs : DqAll K H xs ds) : Dq K H (.ref a) (.list ds)
  | tup {a : Addr} {xs : List V} {ds : List PyData} (h : SqT K H a xs) (hs : DqAll K H xs ds) : Dq K H (.ref a) (.tuple ds)
  | dic {a : Addr} (h : H a = some (.dK [])) : Dq K H (.ref a) (.dict [])
inductive DqAll (K : PySem.W.Frag) (H : Hp) : List V → List PyData → Prop
  | nil : DqAll K H [] []
  | cons {v : V} {vs : List V} {d : PyData} {ds : List PyData} (h : Dq K H v d) (hs : DqAll K H vs ds) : DqAll K H (v :: vs) (d :: ds)
end
theorem dq_ex {K : PySem.W.Frag} {H H' : Hp} (e : Ex H H') : ∀ (d : PyData) (v : V), Dq K H v d → Dq K H' v d
  | .none, _, .non => .non
  | .bool _, _, .bl b => .bl b
  | .int _, _, .int i => .int i
  | .str _, _, .str x => .str x
  | .list ds, _, .lst h hs => .lst (e _ _ h) (all e ds _ hs)
  | .tuple ds, _, .tup h hs => .tup (ex_t e h) (all e ds _ hs)
  | .dict [], _, .dic h => .dic (e _ _ h)
where
  all {K : PySem.W.Frag} {H H' : Hp} (e : Ex H H') : ∀ (ds : List PyData) (vs : List V), DqAll K H vs ds → DqAll K H' vs ds
  | [], _, .nil => .nil
  | d :: ds, _, .cons h hs => .cons (dq_ex e d _ h) (all e ds _ hs)
theorem dq_dp {K : PySem.W.Frag} {H : Hp} : ∀ (d : PyData) (v : V), d.hasDict = false → Dq K H v d → Dp K H v d
  | .none, _, _, .non => .non
  | .bool _, _, _, .bl b => .bl b
  | .int _, _, _, .int i => .int i
  | .str _, _, _, .str x => .str x
  | .list ds, _, n, .lst h hs => .lst (sq_of h) (all ds _ n hs)
  | .tuple ds, _, n, .tup h hs => .tup h (all ds _ n hs)
  | .dict [], _, n, .dic _ => by cases n
where
  all {K : PySem.W.Frag} {H : Hp} : ∀ (ds : List PyData) (vs : List V), PyData.hasDictAll ds = false → DqAll K H vs ds → DpAll K H vs ds
  | [], _, _, .nil => .nil
  | d :: ds, _, n, .cons h hs => by
    have n2 : (d.hasDict || PyData.hasDictAll ds) = false := n
    rw [Bool.or_eq_false_iff] at n2
    exact .cons (dq_dp d _ n2.1 h) (all ds _ n2.2 hs)
theorem noDict_shaped {d : PyData} (h : SeqAt.shaped d = true) : d.hasDict = false := PyData.hasDict_of_canLay d (Bool.and_eq_true_iff.mp h).1
theorem dqall_ex {K : PySem.W.Frag} {H H' : Hp} (e : Ex H H') {ds : List PyData} {vs : List V} (h : DqAll K H vs ds) : DqAll K H' vs ds := dq_ex.all e ds vs h
def Pool (p : Option Addr) (A : Hp) : Prop := ∀ q, p = some q → ∃ a b : Int, A q = some (.lst [.int a, .int b]) ∧ 0 ≤ a ∧ 0 ≤ b ∧ b < 2147483647
/-- what may change: the pool, and objects of one's own with what they hold now -/
structure Me where
  pool : Option Addr
  own : Hp
def Me.non : Me := ⟨none, fun _ => none⟩
/-- H is known in A and stays; apart from it the pool and what is one's own -/
structure Reg (p : Me) (H A : Hp) : Prop where
  ex : Ex H A
  pool : Pool p.pool A
  off : ∀ q, p.pool = some q → H q = none
  own : Ex p.own A
  offO : ∀ q o, p.own q = some o → H q = none ∧ p.pool ≠ some q
/-- from (A, H) on to (A', H') -/
structure Gr (p : Me) (A H A' H' : Hp) : Prop where
  act : ∀ a o, p.pool ≠ some a → A a = some o → A' a = some o
  dom : ∀ a o, A a = some o → ∃ o', A' a = some o'
  pool : Pool p.pool A'
  reg : Ex H H'
  sub : Ex H' A'
  new : ∀ a o o', A a = some o → H' a = some o' → H a = some o'
section
variable {p p' : Me} {A H A' H' A1 H1 A2 H2 : Hp}
theorem Reg.refl (r : Reg p H A) : Gr p A H A H := ⟨fun _ _ _ h => h, fun _ o h => ⟨o, h⟩, r.pool, Ex.refl H, r.ex, fun _ _ _ _ h => h⟩
theorem Gr.as (g : Gr p A H A' H') (e : p.pool = p'.pool) : Gr p' A H A' H' := ⟨fun a o n h => g.act a o (e ▸ n) h, g.dom, e ▸ g.pool, g.reg, g.sub, g.new⟩
theorem Gr.to (r : Reg p H A) (g : Gr p A H A' H') : Reg p H' A' := by
  have key : ∀ q o, A q = some o → H q = none → H' q = none := fun q o h n => by
    cases e : H' q with
    | none => rfl
    | some o' =>
      have := g.new q _ _ h e
      rw [n] at this
      cases this
  refine ⟨g.sub, g.pool, fun q hq => ?_, fun q o h => g.act q o (r.offO q o h).2 (r.own q o h), fun q o h => ⟨key q o (r.own q o h) (r.offO q o h).1, (r.offO q o h).2⟩⟩
  obtain ⟨a, b, h, _⟩ := r.pool q hq
  exact key q _ h (r.off q hq)
theorem Gr.trans (g : Gr p A H A1 H1) (k : Gr p A1 H1 A2 H2) : Gr p A H A2 H2 := ⟨fun a o n h => k.act a o n (g.act a o n h), fun a o h => by
  obtain ⟨o1, h1⟩ := g.dom a o h
  exact k.dom a o1 h1, k.pool, g.reg.trans k.reg, k.sub, fun a o o' h h' => by
  obtain ⟨o1, h1⟩ := g.dom a o h
  exact g.new a o o' h (k.new a o1 o' h1 h')⟩
def un (H2 H1 : Hp) : Hp := fun a => match H2 a with
  | some o => some o
  | none => H1 a
theorem un_l {a : Addr} {o : HO} (h : H2 a = some o) : un H2 H1 a = some o := by unfold un; rw [h]
theorem un_r {a : Addr} (h : H2 a = none) : un H2 H1 a = H1 a := by unfold un; rw [h]
/-- the same growth seen from a larger region -/
theorem Gr.wide (r : Reg p H2 A) (e : Ex H H2) (g : Gr p A H A' H1) : Gr p A H2 A' (un H2 H1) ∧ Ex H1 (un H2 H1) := by
  have sub : Ex (un H2 H1) A' := fun a o h => by
    cases q : H2 a with
    | some o2 =>
      rw [un_l q] at h
      cases h
      have n : p.pool ≠ some a := fun z => by
        rw [r.off a z] at q
        cases q
      exact g.act a _ n (r.ex a _ q)
    | none =>
      rw [un_r q] at h
      exact g.sub a o h
  refine ⟨⟨g.act, g.dom, g.pool, fun a o h => un_l h, sub, fun a o o' h h' => ?_⟩, fun a o h => ?_⟩
  · cases q : H2 a with
    | some o2 =>
      rw [un_l q] at h'
      exact h'
    | none =>
      rw [un_r q] at h'
      have := e a o' (g.new a o o' h h')
      rw [q] at this
      cases this
  · cases q : H2 a with
    | some o2 =>
      have := e a o (g.new a o2 o (r.ex a _ q) h)
      rw [q] at this
      cases this
      exact un_l q
    | none => rw [un_r q]; exact h
/-- without the pool -/
theorem Gr.pure (r : Reg p H A) (g : Gr .non A H A' H') : Gr p A H A' H' := ⟨fun a o _ h => g.act a o (fun z => nomatch z) h, g.dom, fun q hq => by
  obtain ⟨a, b, h, k⟩ := r.pool q hq
  exact ⟨a, b, g.act q _ (fun z => nomatch z) h, k⟩, g.reg, g.sub, g.new⟩
theorem Reg.nil (r : Reg p H A) : Reg .non H A := ⟨r.ex, fun _ h => (nomatch h), fun _ h => (nomatch h), fun _ _ h => (nomatch h), fun _ _ h => (nomatch h)⟩
/-- a smaller part known -/
theorem Reg.less (r : Reg p H2 A) (e : Ex H H2) : Reg p H A := ⟨e.trans r.ex, r.pool, fun q h => fresh_back e (r.off q h), r.own, fun q o h => ⟨fresh_back e (r.offO q o h).1, (r.offO q o h).2⟩⟩
/-- an own object, new or changed -/
theorem Reg.put (r : Reg p H A) {q : Addr} {o : HO} (hp : p.pool ≠ some q) (hq : H q = none) : Reg ⟨p.pool, upd p.own q o⟩ H (upd A q o) := by
  refine ⟨fun a x h => ?_, fun b hb => ?_, r.off, fun a x h => ?_, fun a x h => ?_⟩
  · rw [upd_ne (ne_of_none h hq)]
    exact r.ex a x h
  · obtain ⟨i, j, h, k⟩ := r.pool b hb
    have : b ≠ q := fun z => hp (z ▸ hb)
    exact ⟨i, j, by rw [upd_ne this]; exact h, k⟩
  · have h' : upd p.own q o a = some x := h
    by_cases c : a = q
    · subst c
      rw [upd_same] at h' ⊢
      exact h'
    · rw [upd_ne c] at h' ⊢
      exact r.own a x h'
  · by_cases c : a = q
    · subst c
      exact ⟨hq, hp⟩
    · have h' : upd p.own q o a = some x := h
      rw [upd_ne c] at h'
      exact r.offO a x h'
/-- nothing is one's own any more -/
theorem Reg.forget (r : Reg p H A) : Reg ⟨p.pool, fun _ => none⟩ H A := ⟨r.ex, r.pool, r.off, fun _ _ h => (nomatch h), fun _ _ h => (nomatch h)⟩
theorem Reg.ownAs (r : Reg p H A) {w : Hp} (h : ∀ a o, w a = some o → p.own a = some o) : Reg ⟨p.pool, w⟩ H A := ⟨r.ex, r.pool, r.off, fun a o e => r.own a o (h a o e), fun a o e => r.offO a o (h a o e)⟩
/-- a new object, known from then on -/
theorem Gr.alloc (r : Reg p H A) {q : Addr} {o : HO} (n : A q = none) : Gr p A H (upd A q o) (upd H q o) := by
  have nh : H q = none := fresh_back r.ex n
  refine ⟨fun a x _ h => ?_, fun a x h => ?_, fun b hb => ?_, Ex.new nh, fun a x h => ?_, fun a x x' h h' => ?_⟩
  · rw [upd_ne (ne_of_none h n)]; exact h
  · exact ⟨x, by rw [upd_ne (ne_of_none h n)]; exact h⟩
  · obtain ⟨i, j, h, k⟩ := r.pool b hb
    exact ⟨i, j, by rw [upd_ne (ne_of_none h n)]; exact h, k⟩
  · by_cases c : a = q
    · subst c
      rw [upd_same] at h ⊢
      exact h
    · rw [upd_ne c] at h ⊢
      exact r.ex a x h
  · rw [upd_ne (ne_of_none h n)] at h'
    exact h'
/-- a new object that is not counted to what is known: it may change -/
theorem Gr.allocM (r : Reg p H A) {q : Addr} {o : HO} (n : A q = none) : Gr p A H (upd A q o) H := by
  refine ⟨fun a x _ h => ?_, fun a x h => ?_, fun b hb => ?_, Ex.refl H, fun a x h => ?_, fun a x x' _ h' => h'⟩
  · rw [upd_ne (ne_of_none h n)]; exact h
  · exact ⟨x, by rw [upd_ne (ne_of_none h n)]; exact h⟩
  · obtain ⟨i, j, h, k⟩ := r.pool b hb
    exact ⟨i, j, by rw [upd_ne (ne_of_none h n)]; exact h, k⟩
  · rw [upd_ne (ne_of_none (r.ex a x h) n)]
    exact r.ex a x h
/-- such an object changes: seen from where it was not there yet -/
theorem Gr.mut (g : Gr p A H A' H') {q : Addr} {o : HO} (n : A q = none) (m : H' q = none) (hp : p.pool ≠ some q) : Gr p A H (upd A' q o) H' := by
  refine ⟨fun a x k h => ?_, fun a x h => ?_, fun b hb => ?_, g.reg, fun a x h => ?_, g.new⟩
  · rw [upd_ne (ne_of_none h n)]; exact g.act a x k h
  · obtain ⟨y, h'⟩ := g.dom a x h
    exact ⟨y, by rw [upd_ne (ne_of_none h n)]; exact h'⟩
  · obtain ⟨i, j, h, k⟩ := g.pool b hb
    have : b ≠ q := fun z => hp (z ▸ hb)
    exact ⟨i, j, by rw [upd_ne this]; exact h, k⟩
  · rw [upd_ne (ne_of_none h m)]
    exact g.sub a x h
/-- it is counted to what is known from here on -/
theorem Gr.know (g : Gr p A H A' H') {q : Addr} {o : HO} (n : A q = none) (m : H' q = none) (h : A' q = some o) : Gr p A H A' (upd H' q o) := by
  refine ⟨g.act, g.dom, g.pool, g.reg.trans (Ex.new m), fun a x e => ?_, fun a x x' e e' => ?_⟩
  · by_cases c : a = q
    · subst c
      rw [upd_same] at e
      cases e
      exact h
    · rw [upd_ne c] at e
      exact g.sub a x e
  · have c : a ≠ q := ne_of_none e n
    rw [upd_ne c] at e'
    exact g.new a x x' e e'
end
/-! ### judgements -/
def EvG (p : Me) (te : TE) (σ : L2.St) (H : Hp) (P : V → Hp → Prop) : Prop := ∀ A, Reg p H A → ∀ Q : VK, (∀ v A' H', Gr p A H A' H' → P v H' → Q v A') → te σ A Q
abbrev EvD (K : PySem.W.Frag) (p : Me) (te : TE) (σ : L2.St) (H : Hp) (d : PyData) : Prop := EvG p te σ H (fun v H' => Dq K H' v d)
def EvB (p : Me) (tt : TT) (σ : L2.St) (H : Hp) (b : Bool) : Prop := ∀ A, Reg p H A → ∀ Q : Bool → Hp → Prop, (∀ A' H', Gr p A H A' H' → Q b A') → tt σ A Q
def EvS (K : PySem.W.Frag) (p : Me) (ta : TA) (σ : L2.St) (H : Hp) (ds : List PyData) : Prop := ∀ A, Reg p H A → ∀ Q : List V → Hp → Prop, (∀ vs A' H', Gr p A H A' H' → DqAll K H' vs ds → Q vs A') → ta σ A Q
/-- operations on values -/
def OpG (K : PySem.W.Frag) (p : Me) (r : R2) (dx dy : PyData) (P : V → Hp → Prop) : Prop := ∀ x y H A, Dq K H x dx → Dq K H y dy → Reg p H A → ∀ Q : VK, (∀ v A' H', Gr p A H A' H' → P v H' → Q v A') → r x y A Q
abbrev OpD (K : PySem.W.Frag) (p : Me) (r : R2) (dx dy d : PyData) : Prop := OpG K p r dx dy (fun v H' => Dq K H' v d)
def UnD (K : PySem.W.Frag) (p : Me) (r : V → Hp → VK → Prop) (dx d : PyData) : Prop := ∀ x H A, Dq K H x dx → Reg p H A → ∀ Q : VK, (∀ v A' H', Gr p A H A' H' → Dq K H' v d → Q v A') → r x A Q
def CaG (K : PySem.W.Frag) (p : Me) (r : List V → Hp → VK → Prop) (ds : List PyData) (P : V → Hp → Prop) : Prop := ∀ vs H A, DqAll K H vs ds → Reg p H A → ∀ Q : VK, (∀ v A' H', Gr p A H A' H' → P v H' → Q v A') → r vs A Q
abbrev CaD (K : PySem.W.Frag) (p : Me) (r : List V → Hp → VK → Prop) (ds : List PyData) (d : PyData) : Prop := CaG K p r ds (fun v H' => Dq K H' v d)
section
variable {K : PySem.W.Frag} {p : Me} {σ : L2.St} {H H' A A' : Hp} {te ta tb tc : TE} {tt tu : TT} {d dx dy dz : PyData}
theorem EvD.mono {H2 : Hp} (e : Ex H H2) (h : EvD K p te σ H d) : EvD K p te σ H2 d := fun A r Q q => by
  have r0 : Reg p H A := r.less e
  exact h A r0 Q fun v A' H' g k => by
    obtain ⟨g2, e2⟩ := g.wide r e
    exact q v A' _ g2 (dq_ex e2 d v k)
theorem EvB.mono {H2 : Hp} {b : Bool} (e : Ex H H2) (h : EvB p tt σ H b) : EvB p tt σ H2 b := fun A r Q q => by
  have r0 : Reg p H A := r.less e
  exact h A r0 Q fun A' H' g => by
    obtain ⟨g2, e2⟩ := g.wide r e
    exact q A' _ g2
theorem EvS.mono {H2 : Hp} {ta : TA} {ds : List PyData} (e : Ex H H2) (h : EvS K p ta σ H ds) : EvS K p ta σ H2 ds := fun A r Q q => by
  have r0 : Reg p H A := r.less e
  exact h A r0 Q fun v A' H' g k => by
    obtain ⟨g2, e2⟩ := g.wide r e
    exact q v A' _ g2 (dqall_ex e2 k)
theorem d_var {i : Nat} {v : V} (h : σ[i]? = some (some v)) (k : Dq K H v d) : EvD K p (tVar i) σ H d := fun A r Q q => ⟨v, h, q v A H r.refl k⟩
theorem d_int {i : Int} : EvD K p (tC (.int i)) σ H (.int i) := fun A r Q q => q _ A H r.refl (.int i)
theorem d_bl {i : Bool} : EvD K p (tC (.bl i)) σ H (.bool i) := fun A r Q q => q _ A H r.refl (.bl i)
theorem d_str {i : Str} : EvD K p (tC (.str i)) σ H (.str i) := fun A r Q q => q _ A H r.refl (.str i)
theorem d_non : EvD K p (tC .non) σ H .none := fun A r Q q => q _ A H r.refl .non
theorem g_op {r : R2} {P : V → Hp → Prop} (ha : EvD K p ta σ H dx) (hb : EvD K p tb σ H dy) (hr : OpG K p r dx dy P) : EvG p (tOp r ta tb) σ H P := fun A R Q q =>
  ha A R _ fun x A1 H1 g1 k1 => EvD.mono g1.reg hb A1 (g1.to R) _ fun y A2 H2 g2 k2 => hr x y H2 A2 (dq_ex g2.reg _ _ k1) k2 (g2.to (g1.to R)) Q fun z A3 H3 g3 k3 => q z A3 H3 ((g1.trans g2).trans g3) k3
theorem d_op {r : R2} (ha : EvD K p ta σ H dx) (hb : EvD K p tb σ H dy) (hr : OpD K p r dx dy d) : EvD K p (tOp r ta tb) σ H d := g_op ha hb hr
theorem d_un {r : V → Hp → VK → Prop} (ha : EvD K p ta σ H dx) (hr : UnD K p r dx d) : EvD K p (tUn r ta) σ H d := fun A R Q q =>
  ha A R _ fun x A1 H1 g1 k1 => hr x H1 A1 k1 (g1.to R) Q fun z A3 H3 g3 k3 => q z A3 H3 (g1.trans g3) k3
theorem s_nil : EvS K p tNil σ H [] := fun A R Q q => q [] A H R.refl .nil
theorem s_cons {tr : TA} {ds : List PyData} (ha : EvD K p ta σ H d) (hr : EvS K p tr σ H ds) : EvS K p (tCons ta tr) σ H (d :: ds) := fun A R Q q =>
  ha A R _ fun x A1 H1 g1 k1 => EvS.mono g1.reg hr A1 (g1.to R) _ fun ys A2 H2 g2 k2 => q _ A2 H2 (g1.trans g2) (.cons (dq_ex g2.reg _ _ k1) k2)
theorem g_cb {r : List V → Hp → VK → Prop} {ta : TA} {ds : List PyData} {P : V → Hp → Prop} (h : EvS K p ta σ H ds) (hr : CaG K p r ds P) : EvG p (tCB r ta) σ H P := fun A R Q q =>
  h A R _ fun vs A1 H1 g1 k1 => hr vs H1 A1 k1 (g1.to R) Q fun z A3 H3 g3 k3 => q z A3 H3 (g1.trans g3) k3
theorem d_cb {r : List V → Hp → VK → Prop} {ta : TA} {ds : List PyData} (h : EvS K p ta σ H ds) (hr : CaD K p r ds d) : EvD K p (tCB r ta) σ H d := g_cb h hr
theorem dqall_len {vs : List V} {ds : List PyData} (h : DqAll K H vs ds) : vs.length = ds.length := by
  induction ds generalizing vs with
  | nil => cases h; rfl
  | cons d ds ih => cases h with | cons h1 h2 => rw [List.length_cons, List.length_cons, ih h2]
theorem d_tup {ta : TA} {ds : List PyData} (h : EvS K p ta σ H ds) (hl : ds.length ≤ 100000) : EvD K p (tTup ta) σ H (.tuple ds) := fun A R Q q =>
  h A R _ fun vs A1 H1 g1 k1 => ⟨by rw [dqall_len k1]; exact sz_of hl, fun l hn => by
    have g2 := Gr.alloc (g1.to R) (o := .tup vs) hn
    exact q (.ref l) _ _ (g1.trans g2) (.tup (st_of upd_same) (dqall_ex g2.reg k1))⟩
theorem d_lst {ta : TA} {ds : List PyData} (h : EvS K p ta σ H ds) (hl : ds.length ≤ 100000) : EvD K p (tLst ta) σ H (.list ds) := fun A R Q q =>
  h A R _ fun vs A1 H1 g1 k1 => ⟨by rw [dqall_len k1]; exact sz_of hl, fun l hn => by
    have g2 := Gr.alloc (g1.to R) (o := .lst vs) hn
    exact q (.ref l) _ _ (g1.trans g2) (.lst upd_same (dqall_ex g2.reg k1))⟩
theorem b_test {b : Bool} (h : EvD K p te σ H (.bool b)) : EvB p (tTest te) σ H b := fun A R Q q => h A R _ fun v A' H' g k => by
  cases k
  exact ⟨_, rfl, q A' H' g⟩
theorem b_B {b : Bool} (h : EvD K p te σ H (.bool b)) : EvB p (tB te) σ H b := fun A R Q q => h A R _ fun v A' H' g k => by
  cases k
  exact ⟨_, rfl, q A' H' g⟩
theorem b_not {b : Bool} (h : EvB p tt σ H b) : EvB p (tNot tt) σ H (!b) := fun A R Q q => h A R _ fun A' H' g => q A' H' g
theorem b_and {a b : Bool} (h1 : EvB p tt σ H a) (h2 : a = true → EvB p tu σ H b) : EvB p (tAnd tt tu) σ H (a && b) := fun A R Q q => h1 A R _ fun A1 H1 g1 => by
  cases a with
  | true =>
    show tu σ A1 Q
    exact (h2 rfl).mono g1.reg A1 (g1.to R) Q fun A2 H2 g2 => q A2 H2 (g1.trans g2)
  | false =>
    show Q false A1
    exact q A1 H1 g1
theorem b_or {a b : Bool} (h1 : EvB p tt σ H a) (h2 : a = false → EvB p tu σ H b) : EvB p (tOr tt tu) σ H (a || b) := fun A R Q q => h1 A R _ fun A1 H1 g1 => by
  cases a with
  | false =>
    show tu σ A1 Q
    exact (h2 rfl).mono g1.reg A1 (g1.to R) Q fun A2 H2 g2 => q A2 H2 (g1.trans g2)
  | true =>
    show Q true A1
    exact q A1 H1 g1
theorem b_yes : EvB p tYes σ H true := fun A R Q q => q A H R.refl
theorem d_andV {a b : Bool} (h1 : EvD K p ta σ H (.bool a)) (h2 : a = true → EvD K p tb σ H (.bool b)) : EvD K p (tAndV ta tb) σ H (.bool (a && b)) := fun A R Q q => h1 A R _ fun v A1 H1 g1 k1 => by
  cases k1
  refine ⟨_, rfl, ?_⟩
  cases a with
  | true =>
    show tb σ A1 Q
    exact (h2 rfl).mono g1.reg A1 (g1.to R) Q fun v A2 H2 g2 k2 => q v A2 H2 (g1.trans g2) k2
  | false =>
    show Q (.bl false) A1
    exact q _ A1 H1 g1 (.bl false)
theorem d_orV {a b : Bool} (h1 : EvD K p ta σ H (.bool a)) (h2 : a = false → EvD K p tb σ H (.bool b)) : EvD K p (tOrV ta tb) σ H (.bool (a || b)) := fun A R Q q => h1 A R _ fun v A1 H1 g1 k1 => by
  cases k1
  refine ⟨_, rfl, ?_⟩
  cases a with
  | false =>
    show tb σ A1 Q
    exact (h2 rfl).mono g1.reg A1 (g1.to R) Q fun v A2 H2 g2 k2 => q v A2 H2 (g1.trans g2) k2
  | true =>
    show Q (.bl true) A1
    exact q _ A1 H1 g1 (.bl true)
theorem d_notV {a : Bool} (h1 : EvD K p ta σ H (.bool a)) : EvD K p (tNotV ta) σ H (.bool (!a)) := fun A R Q q => h1 A R _ fun v A1 H1 g1 k1 => by
  cases k1
  exact ⟨_, rfl, q _ A1 H1 g1 (.bl _)⟩
theorem d_if {b : Bool} (h : EvB p tt σ H b) (h1 : b = true → EvD K p ta σ H d) (h2 : b = false → EvD K p tb σ H d) : EvD K p (tIf tt ta tb) σ H d := fun A R Q q => h A R _ fun A1 H1 g1 => by
  cases b with
  | true =>
    show ta σ A1 Q
    exact (h1 rfl).mono g1.reg A1 (g1.to R) Q fun v A2 H2 g2 k2 => q v A2 H2 (g1.trans g2) k2
  | false =>
    show tb σ A1 Q
    exact (h2 rfl).mono g1.reg A1 (g1.to R) Q fun v A2 H2 g2 k2 => q v A2 H2 (g1.trans g2) k2
theorem EvD.is (h : EvD K p te σ H d) (e : d = dx) : EvD K p te σ H dx := e ▸ h
theorem EvB.is {a b : Bool} (h : EvB p tt σ H a) (e : a = b) : EvB p tt σ H b := e ▸ h
/-! operations -/
theorem o_I0 {f : Int → Int → Int} {i j : Int} : OpD K p (rI0 fun i j => .int (f i j)) (.int i) (.int j) (.int (f i j)) := fun x y H A hx hy R Q q => by
  cases hx; cases hy
  exact ⟨_, _, rfl, rfl, q _ A H R.refl (.int _)⟩
theorem o_I {C : Int → Int → Prop} {f : Int → Int → Int} {i j : Int} (h : C i j) : OpD K p (rI C fun i j => .int (f i j)) (.int i) (.int j) (.int (f i j)) := fun x y H A hx hy R Q q => by
  cases hx; cases hy
  exact ⟨_, _, rfl, rfl, h, q _ A H R.refl (.int _)⟩
theorem o_B0 {f : Int → Int → Bool} {i j : Int} : OpD K p (rI0 fun i j => .bl (f i j)) (.int i) (.int j) (.bool (f i j)) := fun x y H A hx hy R Q q => by
  cases hx; cases hy
  exact ⟨_, _, rfl, rfl, q _ A H R.refl (.bl _)⟩
theorem o_eqD (h1 : SeqAt.shaped dx = true) (h2 : SeqAt.shaped dy = true) : OpD K p (rEqD K) dx dy (.bool (PyData.eqv dx dy)) := fun x y H A hx hy R Q q =>
  ⟨dx, dy, dq_dp _ _ (noDict_shaped h1) (dq_ex R.ex _ _ hx), dq_dp _ _ (noDict_shaped h2) (dq_ex R.ex _ _ hy), h1, h2, q _ A H R.refl (.bl _)⟩
theorem o_neD (h1 : SeqAt.shaped dx = true) (h2 : SeqAt.shaped dy = true) : OpD K p (rNeD K) dx dy (.bool (!PyData.eqv dx dy)) := fun x y H A hx hy R Q q =>
  ⟨dx, dy, dq_dp _ _ (noDict_shaped h1) (dq_ex R.ex _ _ hx), dq_dp _ _ (noDict_shaped h2) (dq_ex R.ex _ _ hy), h1, h2, q _ A H R.refl (.bl _)⟩
theorem dq_inv_l {ds : List PyData} {v : V} (h : Dq K H v (.list ds)) : ∃ a xs, v = .ref a ∧ H a = some (.lst xs) ∧ DqAll K H xs ds := by
  cases h with | lst h1 h2 => exact ⟨_, _, rfl, h1, h2⟩
theorem dq_inv_t {ds : List PyData} {v : V} (h : Dq K H v (.tuple ds)) : ∃ a xs, v = .ref a ∧ SqT K H a xs ∧ DqAll K H xs ds := by
  cases h with | tup h1 h2 => exact ⟨_, _, rfl, h1, h2⟩
theorem dqall_get {ds : List PyData} {vs : List V} (h : DqAll K H vs ds) {i : Nat} (e : ds[i]? = some d) : ∃ v, vs[i]? = some v ∧ Dq K H v d := by
  induction ds generalizing vs i with
  | nil => simp at e
  | cons c cs ih =>
    cases h with | cons h1 h2 =>
    cases i with
    | zero =>
      cases e
      exact ⟨_, rfl, h1⟩
    | succ i => exact ih h2 (by simpa using e)
theorem dqall_at {ds : List PyData} {vs : List V} (h : DqAll K H vs ds) {i : Int} (e : atI ds i = some d) : ∃ v, atI vs i = some v ∧ Dq K H v d := by
  unfold atI at e ⊢
  rw [dqall_len h]
  cases q : ixN ds.length i with
  | none => rw [q] at e; cases e
  | some j =>
    rw [q] at e
    exact dqall_get h e
/-- xs[i], of a list, a tuple -/
theorem o_ixL {ds : List PyData} {i : Int} (e : atI ds i = some d) : OpD K p (rIx K) (.list ds) (.int i) d := fun x y H A hx hy R Q q => by
  cases hy
  obtain ⟨a, xs, rfl, h1, h2⟩ := dq_inv_l hx
  obtain ⟨v, e1, k⟩ := dqall_at h2 e
  exact .inl ⟨a, xs, i, v, rfl, rfl, sq_of (R.ex _ _ h1), e1, q v A H R.refl k⟩
theorem o_ixT {ds : List PyData} {i : Int} (e : atI ds i = some d) : OpD K p (rIx K) (.tuple ds) (.int i) d := fun x y H A hx hy R Q q => by
  cases hy
  obtain ⟨a, xs, rfl, h1, h2⟩ := dq_inv_t hx
  obtain ⟨v, e1, k⟩ := dqall_at h2 e
  exact .inr (.inl ⟨a, xs, i, v, rfl, rfl, ex_t R.ex h1, e1, q v A H R.refl k⟩)
end
end Z
namespace Z
open PySem PySem.Spec PyProof.Rows L2 Evl
section
variable {K : PySem.W.Frag} {p : Me} {σ : L2.St} {H H' A A' : Hp} {te ta tb tc tl : TE} {tt : TT} {tu tw tz : TS} {D : Ends} {d dx dy dz : PyData} {ds : List PyData}
/-! ### statements -/
theorem s_asg {P : V → Hp → Prop} {i : Nat} (h : EvG p te σ H P) (R : Reg p H A) (k : ∀ v A' H', Gr p A H A' H' → P v H' → D.nx (σ.set i (some v)) A') : tAsg te (gName i) D σ A := h A R _ k
theorem q_asg {P : V → Hp → Prop} {i : Nat} (h : EvG p te σ H P) (R : Reg p H A) (k : ∀ v A' H', Gr p A H A' H' → P v H' → tz D (σ.set i (some v)) A') : tSeq (tAsg te (gName i)) tz D σ A := s_asg (D := { D with nx := tz D }) h R k
theorem s_ret {P : V → Hp → Prop} (h : EvG p te σ H P) (R : Reg p H A) (k : ∀ v A' H', Gr p A H A' H' → P v H' → D.rt v A') : tRet te D σ A := h A R _ k
theorem s_drop {P : V → Hp → Prop} (h : EvG p te σ H P) (R : Reg p H A) (k : ∀ v A' H', Gr p A H A' H' → P v H' → D.nx σ A') : tDrop te D σ A := h A R _ k
theorem q_drop {P : V → Hp → Prop} (h : EvG p te σ H P) (R : Reg p H A) (k : ∀ v A' H', Gr p A H A' H' → P v H' → tz D σ A') : tSeq (tDrop te) tz D σ A := s_drop (D := { D with nx := tz D }) h R k
theorem s_if {b : Bool} (h : EvB p tt σ H b) (R : Reg p H A) (h1 : b = true → ∀ A' H', Gr p A H A' H' → tu D σ A') (h2 : b = false → ∀ A' H', Gr p A H A' H' → tw D σ A') : tIfS tt tu tw D σ A := h A R _ fun A' H' g => by
  cases b with
  | true => exact h1 rfl A' H' g
  | false => exact h2 rfl A' H' g
theorem q_if {b : Bool} (h : EvB p tt σ H b) (R : Reg p H A) (h1 : b = true → ∀ A' H', Gr p A H A' H' → tu { D with nx := tz D } σ A') (h2 : b = false → ∀ A' H', Gr p A H A' H' → tw { D with nx := tz D } σ A') : tSeq (tIfS tt tu tw) tz D σ A := s_if (D := { D with nx := tz D }) h R h1 h2
theorem q_when {b : Bool} (h : EvB p tt σ H b) (R : Reg p H A) (h1 : b = true → ∀ A' H', Gr p A H A' H' → tu { D with nx := tz D } σ A') (h2 : b = false → ∀ A' H', Gr p A H A' H' → tz D σ A') : tSeq (tIfS tt tu tNext) tz D σ A := s_if (D := { D with nx := tz D }) h R h1 h2
/-! ### loops over data: I tells of the turn, the slots, the heap, what is known and what is one's own -/
abbrev Iv : Type := Nat → L2.St → Hp → Hp → Hp → Prop
/-- what a turn must reach -/
abbrev Nx (p : Me) (I : L2.St → Hp → Hp → Hp → Prop) (H1 : Hp) : L2.St → Hp → Prop := fun σ A => ∃ H w, I σ A H w ∧ Ex H1 H ∧ Reg ⟨p.pool, w⟩ H A
/-- over a walk -/
theorem loop_w {J : It} {n : Nat} {g : TG} {tu : TS} {D : Ends} {σ : L2.St} {A1 H1 : Hp} {G : Hp → Prop} {Y : Nat → Hp → V → Hp → Prop} (w : Walk J n G Y) (I : Iv) (R1 : Reg p H1 A1) (hG : ∀ H' A' w, Ex H1 H' → Reg ⟨p.pool, w⟩ H' A' → G A') (h0 : I 0 σ A1 H1 p.own)
    (hs : ∀ i x σ' A' A2 H' w, i < n → I i σ' A' H' w → Ex H1 H' → Reg ⟨p.pool, w⟩ H' A' → Y i A' x A2 → g x σ' A2 fun σ2 A3 => tu { D with nx := Nx p (I (i + 1)) H1, ct := Nx p (I (i + 1)) H1, bk := D.nx } σ2 A3)
    (hd : ∀ σ' A' H' w, I n σ' A' H' w → Ex H1 H' → Reg ⟨p.pool, w⟩ H' A' → D.nx σ' A') :
    ∃ W : Nat → Nat → L2.St → Hp → Prop, (∃ m, W 0 m σ A1) ∧ ∀ i m σ H, W i m σ H →
      (J.stop i H ∧ D.nx σ H) ∨ (J.go i H ∧ ∃ N : L2.St → Hp → Prop, (∀ σ' H', N σ' H' → ∃ m', m' < m ∧ W (i + 1) m' σ' H') ∧ ∀ x H', J.yld i H x H' → g x σ H' fun σ2 H2 => tu { D with nx := N, ct := N, bk := D.nx } σ2 H2) :=
  for_it w (fun i σ' A' => Nx p (I i) H1 σ' A') ⟨H1, p.own, h0, Ex.refl H1, R1⟩ (fun i σ' A' _ ⟨H', w, _, e, r⟩ => hG H' A' w e r) (fun i x σ' A' A2 hi ⟨H', w, hI, e, r⟩ y => hs i x σ' A' A2 H' w hi hI e r y) fun σ' A' ⟨H', w, hI, e, r⟩ => hd σ' A' H' w hI e r
theorem s_forL {j : Nat} (h : EvD K p tl σ H (.list ds)) (R : Reg p H A) (I : Iv) (h0 : ∀ A1 H1, Gr p A H A1 H1 → I 0 σ A1 H1 p.own)
    (hs : ∀ H1, Ex H H1 → ∀ i d v σ' A' H' w, ds[i]? = some d → I i σ' A' H' w → Ex H1 H' → Reg ⟨p.pool, w⟩ H' A' → Dq K H' v d → tu { D with nx := Nx p (I (i + 1)) H1, ct := Nx p (I (i + 1)) H1, bk := D.nx } (σ'.set j (some v)) A')
    (hd : ∀ σ' A' H' w, I ds.length σ' A' H' w → Ex H H' → Reg ⟨p.pool, w⟩ H' A' → D.nx σ' A') : tFor (iList K tl) (gName j) tu D σ A := h A R _ fun v A1 H1 g1 k1 => by
  obtain ⟨a, xs, rfl, sq, el⟩ := dq_inv_l k1
  have R1 := g1.to R
  have ln := dqall_len el
  refine ⟨a, rfl, ⟨xs, sq_of (R1.ex _ _ sq)⟩, loop_w (walk_list (K := K) (a := a) (xs := xs)) I R1 (fun H' A' w e r => sq_of ((e.trans r.ex) _ _ sq)) (h0 A1 H1 g1) ?_ ?_⟩
  · rintro i x σ' A' A2 H' w hi hI e r ⟨rfl, hx⟩
    have hi' : i < ds.length := by omega
    obtain ⟨v, hv, kv⟩ := dqall_get el (List.getElem?_eq_getElem hi')
    rw [hx] at hv
    cases hv
    exact hs H1 g1.reg i _ x σ' A2 H' w (List.getElem?_eq_getElem hi') hI e r (dq_ex e _ _ kv)
  · intro σ' A' H' w hI e r
    rw [ln] at hI
    exact hd σ' A' H' w hI (g1.reg.trans e) r
theorem s_forT {j : Nat} (h : EvD K p tl σ H (.tuple ds)) (R : Reg p H A) (I : Iv) (h0 : ∀ A1 H1, Gr p A H A1 H1 → I 0 σ A1 H1 p.own)
    (hs : ∀ H1, Ex H H1 → ∀ i d v σ' A' H' w, ds[i]? = some d → I i σ' A' H' w → Ex H1 H' → Reg ⟨p.pool, w⟩ H' A' → Dq K H' v d → tu { D with nx := Nx p (I (i + 1)) H1, ct := Nx p (I (i + 1)) H1, bk := D.nx } (σ'.set j (some v)) A')
    (hd : ∀ σ' A' H' w, I ds.length σ' A' H' w → Ex H H' → Reg ⟨p.pool, w⟩ H' A' → D.nx σ' A') : tFor (iTup K tl) (gName j) tu D σ A := h A R _ fun v A1 H1 g1 k1 => by
  obtain ⟨a, xs, rfl, sq, el⟩ := dq_inv_t k1
  have R1 := g1.to R
  have ln := dqall_len el
  refine ⟨a, rfl, ⟨xs, ex_t R1.ex sq⟩, loop_w (walk_tup (K := K) (a := a) (xs := xs)) I R1 (fun H' A' w e r => ex_t (e.trans r.ex) sq) (h0 A1 H1 g1) ?_ ?_⟩
  · rintro i x σ' A' A2 H' w hi hI e r ⟨rfl, hx⟩
    have hi' : i < ds.length := by omega
    obtain ⟨v, hv, kv⟩ := dqall_get el (List.getElem?_eq_getElem hi')
    rw [hx] at hv
    cases hv
    exact hs H1 g1.reg i _ x σ' A2 H' w (List.getElem?_eq_getElem hi') hI e r (dq_ex e _ _ kv)
  · intro σ' A' H' w hI e r
    rw [ln] at hI
    exact hd σ' A' H' w hI (g1.reg.trans e) r
/-- over range(n) -/
theorem s_forR {ta : TA} {j : Nat} {n : Int} (h : EvS K p ta σ H [.int n]) (hn : -1000000 ≤ n ∧ n ≤ 1000000) (R : Reg p H A) (I : Iv) (h0 : ∀ A1 H1, Gr p A H A1 H1 → I 0 σ A1 H1 p.own)
    (hs : ∀ H1, Ex H H1 → ∀ (i : Nat) σ' A' H' w, (i : Int) < n → I i σ' A' H' w → Ex H1 H' → Reg ⟨p.pool, w⟩ H' A' → tu { D with nx := Nx p (I (i + 1)) H1, ct := Nx p (I (i + 1)) H1, bk := D.nx } (σ'.set j (some (.int (i : Int)))) A')
    (hd : ∀ σ' A' H' w, I n.toNat σ' A' H' w → Ex H H' → Reg ⟨p.pool, w⟩ H' A' → D.nx σ' A') : tFor (iRng1 ta) (gName j) tu D σ A := h A R _ fun vs A1 H1 g1 k1 => by
  cases k1 with | cons c1 c2 =>
  cases c2
  cases c1
  have R1 := g1.to R
  refine ⟨_, rfl, by omega, by omega, loop_w (walk_range (lo := 0) (n := n.toNat)) I R1 (fun H' A' w e r => trivial) (h0 A1 H1 g1) ?_ ?_⟩
  · rintro i x σ' A' A2 H' w hi hI e r ⟨rfl, rfl⟩
    have e0 : (0 : Int) + (i : Int) = (i : Int) := Int.zero_add _
    show tu _ (σ'.set j (some (.int ((0 : Int) + (i : Int))))) A2
    rw [e0]
    exact hs H1 g1.reg i σ' A2 H' w (by omega) hI e r
  · intro σ' A' H' w hI e r
    exact hd σ' A' H' w hI (g1.reg.trans e) r
theorem s_forR2 {ta : TA} {j : Nat} {m n : Int} (h : EvS K p ta σ H [.int m, .int n]) (hn : -1000000 ≤ m ∧ m ≤ 1000000 ∧ -1000000 ≤ n ∧ n ≤ 1000000) (R : Reg p H A) (I : Iv) (h0 : ∀ A1 H1, Gr p A H A1 H1 → I 0 σ A1 H1 p.own)
    (hs : ∀ H1, Ex H H1 → ∀ (i : Nat) σ' A' H' w, m + (i : Int) < n → I i σ' A' H' w → Ex H1 H' → Reg ⟨p.pool, w⟩ H' A' → tu { D with nx := Nx p (I (i + 1)) H1, ct := Nx p (I (i + 1)) H1, bk := D.nx } (σ'.set j (some (.int (m + (i : Int))))) A')
    (hd : ∀ σ' A' H' w, I (n - m).toNat σ' A' H' w → Ex H H' → Reg ⟨p.pool, w⟩ H' A' → D.nx σ' A') : tFor (iRng2 ta) (gName j) tu D σ A := h A R _ fun vs A1 H1 g1 k1 => by
  cases k1 with | cons c1 c2 =>
  cases c2 with | cons c2 c3 =>
  cases c3
  cases c1
  cases c2
  have R1 := g1.to R
  refine ⟨_, _, rfl, by omega, loop_w (walk_range (lo := m) (n := (n - m).toNat)) I R1 (fun H' A' w e r => trivial) (h0 A1 H1 g1) ?_ ?_⟩
  · rintro i x σ' A' A2 H' w hi hI e r ⟨rfl, rfl⟩
    exact hs H1 g1.reg i σ' A2 H' w (by omega) hI e r
  · intro σ' A' H' w hI e r
    exact hd σ' A' H' w hI (g1.reg.trans e) r
/-- a while: b the test's answer, m falls -/
theorem s_while (I : Iv) (m0 : Nat) (h0 : I m0 σ A H p.own) (R : Reg p H A)
    (hs : ∀ m σ' A' H' w, I m σ' A' H' w → Ex H H' → Reg ⟨p.pool, w⟩ H' A' → ∃ b, EvB ⟨p.pool, w⟩ tt σ' H' b ∧ (b = true → ∀ A2 H2, Gr ⟨p.pool, w⟩ A' H' A2 H2 → ∃ N : L2.St → Hp → Prop, (∀ σ3 A3, N σ3 A3 → ∃ m', m' < m ∧ Nx p (I m') H σ3 A3) ∧ tu { D with nx := N, ct := N, bk := D.nx } σ' A2) ∧ (b = false → ∀ A2 H2, Gr ⟨p.pool, w⟩ A' H' A2 H2 → D.nx σ' A2)) : tWhile tt tu D σ A :=
  ⟨fun m σ A => Nx p (I m) H σ A, ⟨m0, H, p.own, h0, Ex.refl H, R⟩, fun m σ' A' ⟨H', w, hI, e, r⟩ => by
    obtain ⟨b, hb, h1, h2⟩ := hs m σ' A' H' w hI e r
    refine hb A' r _ fun A2 H2 g => ?_
    cases b with
    | true => exact h1 rfl A2 H2 g
    | false => exact h2 rfl A2 H2 g⟩
/-! ### comprehensions -/
theorem dqall_snoc {xs : List V} {ys : List PyData} {z : V} {c : PyData} (h : DqAll K H xs ys) (k : Dq K H z c) : DqAll K H (xs ++ [z]) (ys ++ [c]) := by
  induction ys generalizing xs with
  | nil => cases h; exact .cons k .nil
  | cons c cs ih => cases h with | cons a b => exact .cons a (ih b)
theorem lc_w {J : It} {n : Nat} {G : Hp → Prop} {Y : Nat → Hp → V → Hp → Prop} {g : TG} {tt : TT} {te : TE} {vs : List Nat} {σ : L2.St} {A1 H1 : Hp} {Dl : Addr} {Qd : Hp → Prop} (w : Walk J n G Y) (R1 : Reg p H1 A1) (hD : A1 Dl = none) (hn : n ≤ 60000) (f : Nat → Bool) (v : Nat → PyData) (hG : ∀ H' A', Ex H1 H' → Reg p H' A' → G A')
    (hs : ∀ i x A' A2 H', i < n → Ex H1 H' → Reg p H' A' → Y i A' x A2 → g x (wipe σ vs) A2 fun σ2 A3 => wipe σ2 vs = wipe σ vs ∧ ∃ H2, Gr p A' H' A3 H2 ∧ EvB p tt σ2 H2 (f i) ∧ (f i = true → EvD K p te σ2 H2 (v i)))
    (hgm : ∀ x σ A Q Q', (∀ σ A, Q σ A → Q' σ A) → g x σ A Q → g x σ A Q')
    (hd : ∀ A' H' xs, Gr p A1 H1 A' H' → H' Dl = none → A' Dl = some (.lst xs) → DqAll K H' xs (((List.range n).filter f).map v) → Qd A') :
    ∃ W : Nat → Nat → Hp → Prop, (∃ m, W 0 m (upd A1 Dl (.lst []))) ∧ ∀ i m H, W i m H →
      (J.stop i H ∧ Qd H) ∨ (J.go i H ∧ ∃ Nx : Hp → Prop, (∀ H', Nx H' → ∃ m', m' < m ∧ W (i + 1) m' H') ∧ ∀ x H', J.yld i H x H' → g x (wipe σ vs) H' fun σ2 H2 => wipe σ2 vs = wipe σ vs ∧ tt σ2 H2 fun b H3 =>
        if b = true then te σ2 H3 fun y H4 => ∃ acc, H4 Dl = some (.lst acc) ∧ acc.length < sizeLine ∧ Nx (upd H4 Dl (.lst (acc ++ [y]))) else Nx H3) := by
  have nh : H1 Dl = none := fresh_back R1.ex hD
  have np : p.pool ≠ some Dl := fun z => by
    obtain ⟨a, b, h, _⟩ := R1.pool Dl z
    rw [hD] at h
    cases h
  have lenle : ∀ i, (((List.range i).filter f).map v).length ≤ i := fun i => by
    rw [List.length_map]
    have := List.length_filter_le f (List.range i)
    rw [List.length_range] at this
    exact this
  refine lc_it w (fun i A' => ∃ H' xs, Gr p A1 H1 A' H' ∧ H' Dl = none ∧ A' Dl = some (.lst xs) ∧ DqAll K H' xs (((List.range i).filter f).map v)) ⟨H1, [], Gr.allocM R1 hD, nh, upd_same, .nil⟩ (fun i A' _ ⟨H', xs, g, _⟩ => hG H' A' g.reg (g.to R1)) ?_ (fun A' ⟨H', xs, g1, g2, g3, g4⟩ => hd A' H' xs g1 g2 g3 g4)
  rintro i x A' A2 hi ⟨H', xs, g1, m1, e1, k1⟩ y
  refine hgm _ _ _ _ _ ?_ (hs i x A' A2 H' hi g1.reg (g1.to R1) y)
  rintro σ2 A3 ⟨hw, H2, g2, ht, he⟩
  refine ⟨hw, ?_⟩
  have R3 := g2.to (g1.to R1)
  have new2 : ∀ {Ax Hx : Hp}, Gr p A' H' Ax Hx → Hx Dl = none := fun {Ax Hx} gx => by
    cases q : Hx Dl with
    | none => rfl
    | some o =>
      have := gx.new Dl _ o e1 q
      rw [m1] at this
      cases this
  refine ht A3 R3 _ fun A4 H4 g4 => ?_
  have g24 := g2.trans g4
  have e4 : A4 Dl = some (.lst xs) := g24.act Dl _ np e1
  cases hf : f i with
  | true =>
    show te σ2 A4 fun y A5 => _
    refine EvD.mono g4.reg (he hf) A4 (g4.to R3) _ fun z A5 H5 g5 k5 => ?_
    have g25 := g24.trans g5
    refine ⟨xs, g25.act Dl _ np e1, ?_, H5, xs ++ [z], Gr.mut (g1.trans g25) hD (new2 g25) np, new2 g25, upd_same, ?_⟩
    · have := dqall_len k1
      exact sz_lt (by have := lenle i; omega)
    · rw [List.range_succ, List.filter_append, List.map_append, List.filter_cons, if_pos hf]
      show DqAll K H5 (xs ++ [z]) (_ ++ [v i])
      exact dqall_snoc (dqall_ex g25.reg k1) k5
  | false =>
    show ∃ H' xs, _
    refine ⟨H4, xs, g1.trans g24, new2 g24, e4, ?_⟩
    rw [List.range_succ, List.filter_append, List.map_append, List.filter_cons, if_neg (by rw [hf]; decide)]
    show DqAll K H4 xs (_ ++ [])
    rw [List.append_nil]
    exact dqall_ex g24.reg k1

theorem filter_range_map {α β : Type} (f : α → Bool) (g : α → β) : ∀ (ds : List α) (d0 : α), ((List.range ds.length).filter fun i => f (ds.getD i d0)).map (fun i => g (ds.getD i d0)) = (ds.filter f).map g := by
  intro ds d0
  have e : ds = (List.range ds.length).map fun i => ds.getD i d0 := by
    refine List.ext_getElem (by simp) fun i h1 h2 => ?_
    simp [h1]
  have q : (((List.range ds.length).map fun i => ds.getD i d0).filter f).map g = (ds.filter f).map g := by rw [← e]
  rw [← q, List.filter_map, List.map_map]
  rfl
theorem done_lc {A1 H1 A' H' : Hp} {Dl : Addr} {xs : List V} {ds : List PyData} {Q : VK} (R1 : Reg p H1 A1) (hD : A1 Dl = none) (g : Gr p A1 H1 A' H') (n : H' Dl = none) (e : A' Dl = some (.lst xs)) (k : DqAll K H' xs ds)
    (q : ∀ v A' H', Gr p A1 H1 A' H' → Dq K H' v (.list ds) → Q v A') : Q (.ref Dl) A' := by
  have g2 := g.know hD n e
  exact q _ _ _ g2 (.lst upd_same (dqall_ex (Ex.new n) k))
theorem name_mono {j : Nat} : ∀ (x : V) (σ : L2.St) (A : Hp) (Q Q' : L2.St → Hp → Prop), (∀ σ A, Q σ A → Q' σ A) → gName j x σ A Q → gName j x σ A Q' := fun _ _ _ _ _ h q => h _ _ q
/-- [te for x in tl if tt], tl a list; f, v by the item -/
theorem d_lcL {j : Nat} {vs : List Nat} (f : PyData → Bool) (v : PyData → PyData) (h : EvD K p tl σ H (.list ds)) (hz : ds.length ≤ 60000) (hw : ∀ x, wipe ((wipe σ vs).set j (some x)) vs = wipe σ vs)
    (ht : ∀ c ∈ ds, ∀ x H1, Ex H H1 → Dq K H1 x c → EvB p tt ((wipe σ vs).set j (some x)) H1 (f c)) (he : ∀ c ∈ ds, ∀ x H1, Ex H H1 → Dq K H1 x c → f c = true → EvD K p te ((wipe σ vs).set j (some x)) H1 (v c)) :
    EvD K p (tLc (iList K tl) (gName j) tt te vs) σ H (.list ((ds.filter f).map v)) := fun A R Q q => h A R _ fun x A1 H1 g1 k1 => by
  obtain ⟨a, xs, rfl, sq, el⟩ := dq_inv_l k1
  have R1 := g1.to R
  have ln := dqall_len el
  refine ⟨a, rfl, ⟨xs, sq_of (R1.ex _ _ sq)⟩, fun Dl hD => lc_w (K := K) (p := p) (H1 := H1) (walk_list (K := K) (a := a) (xs := xs)) R1 hD (by omega) (fun i => f (ds.getD i .none)) (fun i => v (ds.getD i .none)) (fun H' A' e r => sq_of ((e.trans r.ex) _ _ sq)) ?_ name_mono ?_⟩
  · rintro i x A' A2 H' hi e r ⟨rfl, hx⟩
    have hi' : i < ds.length := by omega
    have hd : ds.getD i .none = ds[i] := by simp [hi']
    obtain ⟨y, hv, kv⟩ := dqall_get el (List.getElem?_eq_getElem hi')
    rw [hx] at hv
    cases hv
    have hm : ds[i] ∈ ds := List.getElem_mem hi'
    refine ⟨hw x, H', r.refl, ?_, ?_⟩
    · rw [hd]; exact ht _ hm x H' (g1.reg.trans e) (dq_ex e _ _ kv)
    · rw [hd]; exact he _ hm x H' (g1.reg.trans e) (dq_ex e _ _ kv)
  · intro A' H' ys g n e k
    rw [ln, filter_range_map] at k
    exact done_lc R1 hD g n e k fun v A2 H2 g2 k2 => q v A2 H2 (g1.trans g2) k2
theorem d_lcT {j : Nat} {vs : List Nat} (f : PyData → Bool) (v : PyData → PyData) (h : EvD K p tl σ H (.tuple ds)) (hz : ds.length ≤ 60000) (hw : ∀ x, wipe ((wipe σ vs).set j (some x)) vs = wipe σ vs)
    (ht : ∀ c ∈ ds, ∀ x H1, Ex H H1 → Dq K H1 x c → EvB p tt ((wipe σ vs).set j (some x)) H1 (f c)) (he : ∀ c ∈ ds, ∀ x H1, Ex H H1 → Dq K H1 x c → f c = true → EvD K p te ((wipe σ vs).set j (some x)) H1 (v c)) :
    EvD K p (tLc (iTup K tl) (gName j) tt te vs) σ H (.list ((ds.filter f).map v)) := fun A R Q q => h A R _ fun x A1 H1 g1 k1 => by
  obtain ⟨a, xs, rfl, sq, el⟩ := dq_inv_t k1
  have R1 := g1.to R
  have ln := dqall_len el
  refine ⟨a, rfl, ⟨xs, ex_t R1.ex sq⟩, fun Dl hD => lc_w (K := K) (p := p) (H1 := H1) (walk_tup (K := K) (a := a) (xs := xs)) R1 hD (by omega) (fun i => f (ds.getD i .none)) (fun i => v (ds.getD i .none)) (fun H' A' e r => ex_t (e.trans r.ex) sq) ?_ name_mono ?_⟩
  · rintro i x A' A2 H' hi e r ⟨rfl, hx⟩
    have hi' : i < ds.length := by omega
    have hd : ds.getD i .none = ds[i] := by simp [hi']
    obtain ⟨y, hv, kv⟩ := dqall_get el (List.getElem?_eq_getElem hi')
    rw [hx] at hv
    cases hv
    have hm : ds[i] ∈ ds := List.getElem_mem hi'
    refine ⟨hw x, H', r.refl, ?_, ?_⟩
    · rw [hd]; exact ht _ hm x H' (g1.reg.trans e) (dq_ex e _ _ kv)
    · rw [hd]; exact he _ hm x H' (g1.reg.trans e) (dq_ex e _ _ kv)
  · intro A' H' ys g n e k
    rw [ln, filter_range_map] at k
    exact done_lc R1 hD g n e k fun v A2 H2 g2 k2 => q v A2 H2 (g1.trans g2) k2
/-- over range(n), by the turn -/
theorem d_lcR {j : Nat} {vs : List Nat} {ta : TA} {n : Int} (f : Nat → Bool) (v : Nat → PyData) (h : EvS K p ta σ H [.int n]) (hz : n ≤ 60000) (hw : ∀ x, wipe ((wipe σ vs).set j (some x)) vs = wipe σ vs)
    (ht : ∀ (i : Nat), (i : Int) < n → ∀ H1, Ex H H1 → EvB p tt ((wipe σ vs).set j (some (.int i))) H1 (f i)) (he : ∀ (i : Nat), (i : Int) < n → ∀ H1, Ex H H1 → f i = true → EvD K p te ((wipe σ vs).set j (some (.int i))) H1 (v i)) (hlo : -1000000 ≤ n := by omega) :
    EvD K p (tLc (iRng1 ta) (gName j) tt te vs) σ H (.list (((List.range n.toNat).filter f).map v)) := fun A R Q q => h A R _ fun us A1 H1 g1 k1 => by
  cases k1 with | cons c1 c2 =>
  cases c2
  cases c1
  have R1 := g1.to R
  refine ⟨_, rfl, by omega, by omega, fun Dl hD => lc_w (K := K) (p := p) (H1 := H1) (walk_range (lo := 0) (n := n.toNat)) R1 hD (by omega) f v (fun H' A' e r => trivial) ?_ name_mono ?_⟩
  · rintro i x A' A2 H' hi e r ⟨rfl, rfl⟩
    have e0 : (0 : Int) + (i : Int) = (i : Int) := Int.zero_add _
    show wipe ((wipe σ vs).set j (some (.int ((0 : Int) + (i : Int))))) vs = wipe σ vs ∧ _
    refine ⟨hw _, H', r.refl, ?_, ?_⟩
    · dsimp only; rw [e0]; exact ht i (by omega) H' (g1.reg.trans e)
    · dsimp only; rw [e0]; exact he i (by omega) H' (g1.reg.trans e)
  · intro A' H' ys g n e k
    exact done_lc R1 hD g n e k fun v A2 H2 g2 k2 => q v A2 H2 (g1.trans g2) k2
theorem d_lcR2 {j : Nat} {vs : List Nat} {ta : TA} {m n : Int} (f : Nat → Bool) (v : Nat → PyData) (h : EvS K p ta σ H [.int m, .int n]) (hz : -10000 ≤ m ∧ m ≤ 60000 ∧ -10000 ≤ n ∧ n - m ≤ 60000) (hw : ∀ x, wipe ((wipe σ vs).set j (some x)) vs = wipe σ vs)
    (ht : ∀ (i : Nat), m + (i : Int) < n → ∀ H1, Ex H H1 → EvB p tt ((wipe σ vs).set j (some (.int (m + i)))) H1 (f i)) (he : ∀ (i : Nat), m + (i : Int) < n → ∀ H1, Ex H H1 → f i = true → EvD K p te ((wipe σ vs).set j (some (.int (m + i)))) H1 (v i)) :
    EvD K p (tLc (iRng2 ta) (gName j) tt te vs) σ H (.list (((List.range (n - m).toNat).filter f).map v)) := fun A R Q q => h A R _ fun us A1 H1 g1 k1 => by
  cases k1 with | cons c1 c2 =>
  cases c2 with | cons c2 c3 =>
  cases c3
  cases c1
  cases c2
  have R1 := g1.to R
  refine ⟨_, _, rfl, by omega, fun Dl hD => lc_w (K := K) (p := p) (H1 := H1) (walk_range (lo := m) (n := (n - m).toNat)) R1 hD (by omega) f v (fun H' A' e r => trivial) ?_ name_mono ?_⟩
  · rintro i x A' A2 H' hi e r ⟨rfl, rfl⟩
    refine ⟨hw _, H', r.refl, ?_, ?_⟩
    · exact ht i (by omega) H' (g1.reg.trans e)
    · exact he i (by omega) H' (g1.reg.trans e)
  · intro A' H' ys g n e k
    exact done_lc R1 hD g n e k fun v A2 H2 g2 k2 => q v A2 H2 (g1.trans g2) k2
end
end Z
namespace Z
open PySem PySem.Spec PyProof.Rows L2 Evl
section
variable {K : PySem.W.Frag} {p : Me} {σ : L2.St} {H H' A A' : Hp} {te ta tb tc tl : TE} {tt : TT} {d dx dy dz : PyData} {ds es : List PyData}
theorem dqall_one {vs : List V} (h : DqAll K H vs [d]) : ∃ v, vs = [v] ∧ Dq K H v d := by
  cases h with | cons h1 h2 => cases h2; exact ⟨_, rfl, h1⟩
theorem dqall_two {vs : List V} (h : DqAll K H vs [dx, dy]) : ∃ v w, vs = [v, w] ∧ Dq K H v dx ∧ Dq K H w dy := by
  cases h with | cons h1 h2 => cases h2 with | cons h2 h3 => cases h3; exact ⟨_, _, rfl, h1, h2⟩
theorem dq_ints {ns : List Int} : ∀ {vs : List V}, DqAll K H vs (ns.map .int) → vs = ns.map V.int := by
  induction ns with
  | nil => intro vs h; cases h; rfl
  | cons n ns ih =>
    intro vs h
    cases h with | cons h1 h2 =>
    cases h1
    rw [ih h2]
    rfl
theorem dq_bls {ns : List Bool} : ∀ {vs : List V}, DqAll K H vs (ns.map .bool) → vs = ns.map V.bl := by
  induction ns with
  | nil => intro vs h; cases h; rfl
  | cons n ns ih =>
    intro vs h
    cases h with | cons h1 h2 =>
    cases h1
    rw [ih h2]
    rfl
theorem ints_dq (ns : List Int) : DqAll K H (ns.map V.int) (ns.map .int) := by
  induction ns with
  | nil => exact .nil
  | cons n ns ih => exact .cons (.int n) ih
/-- a call of one argument that gives a number, a truth value at once -/
theorem c_len {X : Cx} (hK : X.K = K) : CaD K p (fun xs H Q => ∃ q ys, xs = [.ref q] ∧ (SqL X.K H q ys ∨ SqT X.K H q ys) ∧ Q (.int ys.length) H) [.list ds] (.int ds.length) := fun vs H A h R Q q => by
  obtain ⟨v, rfl, k⟩ := dqall_one h
  obtain ⟨a, xs, rfl, h1, h2⟩ := dq_inv_l k
  rw [← dqall_len h2] at q
  exact ⟨a, xs, rfl, .inl (sq_of (R.ex _ _ h1)), q _ A H R.refl (.int _)⟩
theorem c_lenT {X : Cx} (hK : X.K = K) : CaD K p (fun xs H Q => ∃ q ys, xs = [.ref q] ∧ (SqL X.K H q ys ∨ SqT X.K H q ys) ∧ Q (.int ys.length) H) [.tuple ds] (.int ds.length) := fun vs H A h R Q q => by
  obtain ⟨v, rfl, k⟩ := dqall_one h
  obtain ⟨a, xs, rfl, h1, h2⟩ := dq_inv_t k
  rw [← dqall_len h2] at q
  exact ⟨a, xs, rfl, .inr (by rw [hK]; exact ex_t R.ex h1), q _ A H R.refl (.int _)⟩
theorem c_abs {i : Int} : CaD K p (fun xs H Q => ∃ i, xs = [V.int i] ∧ Q (.int (if i < 0 then -i else i)) H) [.int i] (.int (if i < 0 then -i else i)) := fun vs H A h R Q q => by
  obtain ⟨v, rfl, k⟩ := dqall_one h
  cases k
  exact ⟨i, rfl, q _ A H R.refl (.int _)⟩
theorem c_all {bs : List Bool} : CaD K p (rAll K) [.list (bs.map .bool)] (.bool (bs.all id)) := fun vs H A h R Q q => by
  obtain ⟨v, rfl, k⟩ := dqall_one h
  obtain ⟨a, xs, rfl, h1, h2⟩ := dq_inv_l k
  have := dq_bls h2
  subst this
  exact ⟨a, bs, rfl, sq_of (R.ex _ _ h1), q _ A H R.refl (.bl _)⟩
theorem c_any {bs : List Bool} : CaD K p (rAny K) [.list (bs.map .bool)] (.bool (bs.any id)) := fun vs H A h R Q q => by
  obtain ⟨v, rfl, k⟩ := dqall_one h
  obtain ⟨a, xs, rfl, h1, h2⟩ := dq_inv_l k
  have := dq_bls h2
  subst this
  exact ⟨a, bs, rfl, sq_of (R.ex _ _ h1), q _ A H R.refl (.bl _)⟩
theorem c_sum {ns : List Int} : CaD K p (rSum K) [.list (ns.map .int)] (.int ns.sum) := fun vs H A h R Q q => by
  obtain ⟨v, rfl, k⟩ := dqall_one h
  obtain ⟨a, xs, rfl, h1, h2⟩ := dq_inv_l k
  have := dq_ints h2
  subst this
  exact ⟨a, ns, rfl, sq_of (R.ex _ _ h1), q _ A H R.refl (.int _)⟩
theorem c_gcd {i j : Int} : CaD K p rGcd [.int i, .int j] (.int ((Nat.gcd i.natAbs j.natAbs : Nat) : Int)) := fun vs H A h R Q q => by
  obtain ⟨v, w, rfl, k1, k2⟩ := dqall_two h
  cases k1; cases k2
  exact ⟨i, j, rfl, q _ A H R.refl (.int _)⟩
/-- tuple(xs) of a list; list(t) of a tuple, a list -/
theorem c_tuple {X : Cx} (hK : X.K = K) : CaD K p (fun xs H Q => ∃ q ys, xs = [.ref q] ∧ ((SqL X.K H q ys ∧ ∀ l, H l = none → Q (.ref l) (upd H l (.tup ys))) ∨ (SqT X.K H q ys ∧ Q (.ref q) H))) [.list ds] (.tuple ds) := fun vs H A h R Q q => by
  obtain ⟨v, rfl, k⟩ := dqall_one h
  obtain ⟨a, xs, rfl, h1, h2⟩ := dq_inv_l k
  exact ⟨a, xs, rfl, .inl ⟨sq_of (R.ex _ _ h1), fun l hl => by
    have g := Gr.alloc R (o := .tup xs) hl
    exact q _ _ _ g (.tup (st_of upd_same) (dqall_ex g.reg h2))⟩⟩
theorem c_listT {X : Cx} (hK : X.K = K) : CaD K p (fun xs H Q => ∃ q ys, xs = [.ref q] ∧ (SqL X.K H q ys ∨ SqT X.K H q ys) ∧ ∀ l, H l = none → Q (.ref l) (upd H l (.lst ys))) [.tuple ds] (.list ds) := fun vs H A h R Q q => by
  obtain ⟨v, rfl, k⟩ := dqall_one h
  obtain ⟨a, xs, rfl, h1, h2⟩ := dq_inv_t k
  exact ⟨a, xs, rfl, .inr (by rw [hK]; exact ex_t R.ex h1), fun l hl => by
    have g := Gr.alloc R (o := .lst xs) hl
    exact q _ _ _ g (.lst upd_same (dqall_ex g.reg h2))⟩
/-- isinstance(x, T) of data -/
def tyD : PyData → String
  | .none => "NoneType"
  | .bool _ => "bool"
  | .int _ => "int"
  | .str _ => "str"
  | .list _ => "list"
  | .tuple _ => "tuple"
  | .dict _ => "dict"
end
end Z
/-! Errors of one's own over ValueError, through a class between, whose __init__ says super().__init__(text) and keeps one field. -/
namespace PySem
theorem LowSz.one (v : Value) : [v].length ≤ sizeLine := by
  rw [sizeLine_eq]
  show 1 ≤ 16777216
  decide
namespace ZX
open PySem.W PySem.Calls PyProof.Rows
/-- def __init__(self, fld): super().__init__(txt); self.fld = fld -/
def eA (fld : Str) (p1 p2 : Pos) : Arguments := { posonlyargs := [], args := [{ arg := "self", annotation := none, pos := p1 }, { arg := fld, annotation := none, pos := p2 }], vararg := none, kwonlyargs := [], kw_defaults := [], kwarg := none, defaults := [] }
def eB (fld txt : Str) (k1 : Nat) (q : Nat → Pos) : List Stmt :=
  [.Expr (.Call (.Attribute (.Call (.Name "super" (q 0)) [] [] (q 1)) "__init__" (q 2)) [.Constant (.str txt) k1 (q 3)] [] (q 4)) (q 5), .Assign [.Attribute (.Name "self" (q 6)) fld (q 7)] (.Name fld (q 8)) (q 9)]
def eS (fld : Str) : Scope := { kind := .function, names := [("self", .local), (fld, .local), ("__class__", .free), ("super", .globalImplicit)], isGenerator := false, isCoroutine := false }
/-- the call of super().__init__ as the model reads it (where it stands in the text decides) -/
def EvSup (txt : Str) (k1 : Nat) (q : Nat → Pos) : Prop := ∀ env : Env, ∃ pl : Sem Bool, eval (.Call (.Attribute (.Call (.Name "super" (q 0)) [] [] (q 1)) "__init__" (q 2)) [.Constant (.str txt) k1 (q 3)] [] (q 4)) env = (do
      let ov ← attributeBase (.Call (.Name "super" (q 0)) [] [] (q 1)) "__init__" env (eval (.Call (.Name "super" (q 0)) [] [] (q 1)) env)
      standAt (q 2).atName
      let (f, first) ← holding [ov] (getMethod ov "__init__" pl)
      callWith (q 4) f first (backTo (q 4) (starEach [.Constant (.str txt) k1 (q 3)] env)) [])
/-- what the written part says of such a class at C, its __init__ at fI, its field -/
structure ErrTxt (prog : Program) (K : Frag) (C fI : Addr) (fld : Str) : Prop where
  cls : ∃ nm q N bs bm sn sub ab col dd k0 k1 k2 k3 k5, K.lookup C = some (excClassObj nm q C N bs bm true sn sub ab col dd k0 k1 k2 k3 k5 "ValueError.__new__") ∧ HandSPX.refsVE bm = true
  sa : findIn K (.ref C) "__setattr__" = some (some (.builtin "object.__setattr__"))
  noN : findIn K (.ref C) fld = some none
  iC : findIn K (.ref C) "__init__" = some (some (.ref fI))
  tC : typeIn K (.ref fI) = some (.type "function")
  sup : ks_superIn K C C "__init__" = some (some (.builtin "ValueError.__init__"))
  subV : subIn K (.ref C) (.type "ValueError") = some true
  subC : mroIn K C (.ref C) = some true
  any : nsIn K cStatics "thirdparty.any" = some none
  nsup : nsIn K mainGlobals "super" = some none
  file : ∃ (cda : Addr) (ccl : Value) (cdd : Option Addr) (vs : Array Value) (ccs : Array (Option Value)) (fl : Str) (tf : Tok) (cc : Addr) (cl : Value) (cld : Option Addr) (csl : Array (Option Value)) (oc : Value) (od : Option Addr) (doc pm : Value) (an : Option Addr) (ct : Value) (osl : Array (Option Value)) (txt : Str) (n1 : Nat) (p1 p2 : Pos) (q : Nat → Pos) (qual : Str),
    EvSup txt n1 q ∧ K.lookup cda = some ⟨ccl, cdd, .fields vs, ccs⟩ ∧ vs[2]? = some (.str fl tf) ∧ ((prog.main.file : Str) == fl) = true ∧ K.lookup cc = some ⟨cl, cld, .cell (some (.ref C)), csl⟩ ∧
    K.lookup fI = some ⟨oc, od, .func (ksFn "__init__" qual (eA fld p1 p2) (eB fld txt n1 q) (eS fld) .none .none doc pm an (.ref cda) ct cc), osl⟩ ∧ codeIn K (.ref cda) qual = true ∧
    (∀ (x v : Value), bindArgs (ksFn "__init__" qual (eA fld p1 p2) (eB fld txt n1 q) (eS fld) .none .none doc pm an (.ref cda) ct cc) ⟨[x, v], []⟩ = pure [(("self" : Str), x), (fld, v)])
/-- the field's name is none of the others -/
def okF (fld : Str) : Bool := !((fld == ("self" : Str)) || (fld == ("__class__" : Str)) || (fld == ("super" : Str)) || (fld == ("__debug__" : Str)) || (fld == ("__classdict__" : Str)))
theorem look_at {fld : Str} (h : okF fld = true) : (eS fld).names.lookup ("super" : Str) = some .globalImplicit ∧ (eS fld).names.lookup ("__class__" : Str) = some .free ∧ (eS fld).names.lookup ("self" : Str) = some .local ∧ (eS fld).names.lookup fld = some .local ∧ ¬ fld = ("self" : Str) ∧ (fld == ("__debug__" : Str)) = false := by
  unfold okF at h
  simp only [Bool.not_eq_true', Bool.or_eq_false_iff, beq_eq_false_iff_ne, ne_eq] at h
  obtain ⟨⟨⟨⟨f1, f2⟩, f3⟩, f4⟩, f5⟩ := h
  have g2 : ¬ ("__class__" : Str) = fld := fun e => f2 e.symm
  have g3 : ¬ ("super" : Str) = fld := fun e => f3 e.symm
  have a1 : ¬ ("super" : Str) = "self" := by decide +kernel
  have a2 : ¬ ("super" : Str) = "__class__" := by decide +kernel
  have a3 : ¬ ("__class__" : Str) = "self" := by decide +kernel
  have b : ∀ {x y : Str}, ¬ x = y → (x == y) = false := fun h => beq_eq_false_iff_ne.mpr h
  have e : (eS fld).names = [(("self" : Str), NameKind.local), (fld, .local), ("__class__", .free), ("super", .globalImplicit)] := rfl
  rw [e]
  refine ⟨?_, ?_, rfl, ?_, f1, b f4⟩
  · rw [List.lookup_cons, b a1]
    show List.lookup _ [(fld, NameKind.local), (("__class__" : Str), .free), ("super", .globalImplicit)] = _
    rw [List.lookup_cons, b g3]
    show List.lookup _ [(("__class__" : Str), NameKind.free), ("super", .globalImplicit)] = _
    rw [List.lookup_cons, b a2]
    rfl
  · rw [List.lookup_cons, b a3]
    show List.lookup _ [(fld, NameKind.local), (("__class__" : Str), .free), ("super", .globalImplicit)] = _
    rw [List.lookup_cons, b g2]
    rfl
  · rw [List.lookup_cons, b f1]
    show List.lookup _ [(fld, NameKind.local), (("__class__" : Str), .free), ("super", .globalImplicit)] = _
    rw [List.lookup_cons, beq_self_eq_true]
/-- what __init__ leaves of a fresh error at x -/
structure InitDone (h h' : Heap) (x C dx : Addr) (fld : Str) (v : Value) : Prop where
  keep : ∀ b o, b ≠ x → h.get? b = some o → h'.get? b = some o
  obj : ∃ t1, h'.get? x = some { cls := .ref C, dict := some dx, data := .fields #[.ref t1, .none, .none, .none, .bool false, .none] }
  new : h.objs.size ≤ dx
  dne : dx ≠ x
  ns : h'.Ns1 dx (fun y => if y = fld then some v else none)
theorem Own_one {M : Model} {A : Around} {E : Value → Shared → Prop} {s : Shared} {env : Env} {txt : Str} {k : Nat} {p p0 : Pos} {Q : List Value → Shared → Prop} (h : Q [.str txt s.toks] { s with toks := s.toks + 1 }) :
    wpAny M A (spliced (backTo p (starEach [.Constant (.str txt) k p0] env))) Q E s := by
  refine PyProof.Rows.spliced_more (wpAny_Constant_str ?_)
  exact PyProof.Rows.spliced_none h
section
variable {prog : Program} {w : World} {A : Around} {E : Value → Shared → Prop} {R : Result → Shared → Prop} {s : Shared} {K : Frag} {C fI : Addr} {fld : Str} {mg mb : Str → Option Value}
theorem err_init (T : ErrTxt prog K C fI fld) (hf1 : okF fld = true)
    (htop : (prog.main.scope.names.lookup ("super" : Str)).isSome = false) {x t0 : Addr} {v : Value} (X : K.In s.heap) (G : s.heap.Ns mainGlobals mg) (B : s.heap.Ns builtinsNs mb) (hB : mb "super" = some (.type "super"))
    (hlim : s.heap.NoLimit) (hx : s.heap.get? x = some (HandSPX.excO C t0)) (hnx : K.lookup x = none) (hroom : A.depth < recursionLimit)
    (hq : ∀ h' tk dx, InitDone s.heap h' x C dx fld v → R (.ok (.ret .none)) { s with heap := h', toks := tk }) :
    codeAny (model prog w) A (.call (.ref fI) ⟨[.ref x, v], []⟩) R s := by
  obtain ⟨hp, g, d, tk0, os⟩ := s
  dsimp only at X G B hlim hx hq
  obtain ⟨cda, ccl, cdd, vs, ccs, fl, tf, cc, cl, cld, csl, oc, od, doc, pm, an, ct, osl, txt, n1, p1, p2, q, qual, hev, hcode, hvs, hfile, hcell, hfn, hcd, hbd⟩ := T.file
  obtain ⟨nm, q', N, bs, bm, sn, sub, ab, col, dd, k0, k1, k2, k3, k5, hC, hbm⟩ := T.cls
  have hcl : clsIn K C = some { name := nm, bases := bs, mro := .ref C :: bm, ns := N, qualname := q', hasDict := true, slotNames := sn, subclasses := sub, abstract := ab, collection := col, hasDel := false } := by unfold clsIn; rw [hC]
  obtain ⟨l1, l2, l3, l4, f1, f4⟩ := look_at hf1
  refine ks_codeAny_call_defAt (fd := ksFn "__init__" qual (eA fld p1 p2) (eB fld txt n1 q) (eS fld) .none .none doc pm an (.ref cda) ct cc) (body := eB fld txt n1 q) (binds := [("self", .ref x), (fld, v)]) hroom (X _ _ hfn) rfl hlim (codeRec_of X hcd) rfl ?_ ?_ ?_ (fun h₁ hn k => ?_)
  · exact BindsTo.of_eq (hbd _ _)
  · intro y hy
    simp only [eS, List.mem_cons, List.not_mem_nil, or_false] at hy
    rcases hy with rfl | rfl | rfl | rfl <;> simp
  · intro y hy
    have lk := l4
    rcases List.mem_cons.mp hy with e | hy
    · rw [e]; rfl
    · have e : y = (fld, v) := by simpa using hy
      rw [e]; exact lk
  · show _root_.PySem.wpAt (model prog w) (A.deeper (ksEnv qual (eS fld) hp.objs.size fI (.ref cda) cc)) (.func (eB fld txt n1 q) (ksEnv qual (eS fld) hp.objs.size fI (.ref cda) cc)) (execs (eB fld txt n1 q) (ksEnv qual (eS fld) hp.objs.size fI (.ref cda) cc)) _ _ _
    obtain ⟨pl, he⟩ := hev (ksEnv qual (eS fld) hp.objs.size fI (.ref cda) cc)
    have hCo := X _ _ hC
    have X₁ : K.In h₁ := X.keeps k
    have hx₁ := k _ _ hx
    refine ks_wpAt_execs_cons (ks_wpAt_Expr_any (ks_wpAt_MethodCall (pl := pl) ?_ he))
    -- super()
    refine ks_wpAt_super_base (env := ksEnv qual (eS fld) hp.objs.size fI (.ref cda) cc) l1 l2 (by decide +kernel) rfl (X₁ _ _ hfn) rfl rfl rfl (X₁ _ _ hcode) rfl hvs hfile htop ?_
    refine ks_loadName_global rfl l1 (loadGlobal_builtin (env := ksEnv qual (eS fld) hp.objs.size fI (.ref cda) cc) (G.keeps k) (mg_none_of X G T.nsup) (B.keeps k) hB ⟨rfl, ?_⟩)
    refine wpAny_loadName_free rfl l2 rfl ⟨_, X₁ _ _ hcell, rfl⟩ ?_
    refine wpAny_loadName_local rfl l3 hn (v := .ref x) ?_ ?_
    · show List.lookup ("self" : Str) [(fld, v), (("self" : Str), Value.ref x)] = _
      rw [List.lookup_cons, beq_eq_false_iff_ne.mpr (fun e => f1 e.symm)]
      rfl
    refine ks_wpAny_isType_cls (X₁ _ _ hC) rfl ⟨rfl, ?_⟩
    refine ks_wpAny_call_super (X₁ _ _ hC) rfl hx₁ rfl (fun c e => nomatch e) (looks_mroIn X₁ T.subC) (fun h₂ e₂ k₂ => ?_)
    have X₂ : K.In h₂ := X₁.keeps k₂
    have hx₂ := k₂ _ _ hx₁
    -- .__init__, of ValueError
    have I₂ : InstAt h₂ x (HandSPX.excO C t0) C none := ⟨hx₂, rfl, rfl, trivial⟩
    have hI : Looks (model prog w) h₂ (isInstance (.ref x) (.type "ValueError")) true := I₂.type.andThen (looks_subIn X₂ T.subV)
    have hsup : alongIn K "__init__" (((Value.ref C :: bm).dropWhile (· != .ref C)).drop 1) = some (some (.builtin "ValueError.__init__")) := by
      have := T.sup
      unfold ks_superIn at this
      rw [hcl] at this
      exact this
    refine kxs_getMethod kxs_ValueError e₂ (looks_opaque X₂ T.any) (l₀ := .ref C :: bm) ?_ rfl X₂ hsup hI (ks_ne X₂ I₂ hcl) (by decide +kernel) ?_
    · exact fun A Q E s k q => wpAny_bind ((looks_clsIn X₂ hcl) A _ E s k (wpAny_pure q))
    -- (text)
    generalize hu : h₂.objs.size = u
    have hx₃ : (h₂.push (kxs_mw "ValueError.__init__" x)).get? x = some (HandSPX.excO C t0) := Heap.get?_push_of_some _ hx₂
    have hu₃ : (h₂.push (kxs_mw "ValueError.__init__" x)).get? u = some (kxs_mw "ValueError.__init__" x) := by rw [← hu]; exact Heap.get?_push_size _ rfl
    have hC₃ := Heap.get?_push_of_some (kxs_mw "ValueError.__init__" x) (k₂ _ _ (X₁ _ _ hC))
    refine kxs_callWith (i := "ValueError.__init__") (x := x) rfl ?_
    refine Calls.evalArgs_plain (Own_one ?_)
    refine ⟨hu₃, ?_⟩
    have FB := PySem.F.excBase_ValueError
    show wpAny _ _ (call (.ref u) [.str txt _]) _ _ _
    refine PySem.wpAny_call (PySem.codeAny_of_tree (show wpAny _ _ (callAny (.ref u) ⟨[.str txt _], []⟩) _ _ _ from ?_))
    rw [callAny]
    refine (wpAny_bind (wpAny_load hu₃ ?_))
    have w1 : (Value.type "method-wrapper" == Value.type "method" || Value.type "method-wrapper" == Value.type "builtin_function_or_method" || Value.type "method-wrapper" == Value.type "method-wrapper") = true := by decide
    simp only [kxs_mw, w1, if_true]
    refine (KFB.if_so (by decide) (wpAny_bind (check_bound_init FB.toExcCallFacts hC₃ hx₃ rfl ?_)))
    refine (wpAny_bind (wpAny_pure (wpAny_pure ⟨plainId_quiet FB.init.plain _, codeAny_builtin FB.initEntry ?_⟩)))
    refine exc_init_tree (cls := .ref C) (t0 := t0) (dv := none) (c2 := .none) (c3 := .none) (b4 := .bool false) hx₃ (PySem.LowSz.one _) (fun h₄ k₄ e₄ t₄ => ?_)
    -- self.fld = fld
    have hL₁ : hp.objs.size < h₁.objs.size := hn.lt
    have hxL : hp.objs.size ≠ x := Nat.ne_of_gt (Heap.lt_size hx)
    have up₁ : ∀ b o, h₁.get? b = some o → b ≠ x → h₄.get? b = some o := fun b o e n => k₄ b o n (Heap.get?_push_of_some _ (k₂ _ _ e))
    have hn₄ : h₄.Ns hp.objs.size (fun y => [((fld : Str), v), (("self" : Str), Value.ref x)].lookup y) := by
      obtain ⟨oL, es, ep, hL, r⟩ := hn
      exact ⟨oL, es, ep, up₁ _ _ hL hxL, r⟩
    have X₄ : K.In h₄ := fun b o e => up₁ b o (X₁ b o e) (fun z => by rw [z, hnx] at e; cases e)
    refine wpAt_of_wpAny ?_
    refine wpAny_execs_cons (plainObj_wpAny_Assign_Attribute ?_)
    refine wpAny_Name (wpAny_loadName_local rfl l4 hn₄ (v := v) ?_ ?_) f4
    · rw [List.lookup_cons, beq_self_eq_true]
    refine wpAny_Name (wpAny_loadName_local rfl l3 hn₄ (v := .ref x) ?_ ?_) (by decide +kernel)
    · rw [List.lookup_cons, beq_eq_false_iff_ne.mpr (fun e => f1 e.symm)]
      rfl
    refine set_plain X₄ (ox := HandSPX.excO C _) (od := none) ⟨e₄, rfl, rfl, trivial⟩ T.sa ?_
    refine HandSPX.exc_osa X₄ e₄ hcl (show HandSPX.refsVE (.ref C :: bm) = true from hbm) rfl T.noN (fun h₅ tk₅ dx k₅ dn dne hx₅ hn₅ => ?_)
    show wpAny _ _ (execs _ _) _ _ _
    refine wpAny_execs_nil (hq h₅ tk₅ dx ⟨fun b o hb e => k₅ b o hb (up₁ b o (k b o e) hb), ⟨_, hx₅⟩, Nat.le_of_lt (Nat.lt_of_lt_of_le hn₄.lt dn), dne, hn₅⟩)
/-- a made error: its object, its own dict -/
structure ErrMade (h h' : Heap) (e C d : Addr) (fld : Str) (v : Value) : Prop where
  keep : ∀ b o, h.get? b = some o → h'.get? b = some o
  new : h.objs.size ≤ e
  obj : ∃ t1, h'.get? e = some { cls := .ref C, dict := some d, data := .fields #[.ref t1, .none, .none, .none, .bool false, .none] }
  dbig : h.objs.size ≤ d
  dne : d ≠ e
  ns : h'.Ns1 d (fun y => if y = fld then some v else none)
theorem err_made (T : ErrTxt prog K C fI fld) (hf1 : okF fld = true) (htop : (prog.main.scope.names.lookup ("super" : Str)).isSome = false) {v : Value} (X : K.In s.heap) (G : s.heap.Ns mainGlobals mg) (B : s.heap.Ns builtinsNs mb)
    (hB : mb "super" = some (.type "super")) (hlim : s.heap.NoLimit) (hroom : A.depth + 1 < recursionLimit)
    (hq : ∀ h' tk e d, ErrMade s.heap h' e C d fld v → R (.ok (.ret (.ref e))) { s with heap := h', toks := tk }) : codeAny (model prog w) A (.call (.ref C) ⟨[v], []⟩) R s := by
  obtain ⟨nm, q, N, bs, bm, sn, sub, ab, col, dd, k0, k1, k2, k3, k5, hC, hbm⟩ := T.cls
  obtain ⟨hp, g, dr, tk, os⟩ := s
  dsimp only at X G B hlim hq
  let h2 := (hp.push (kdv_tup [v])).push (HandSPX.excO C hp.objs.size)
  have up : ∀ b o, hp.get? b = some o → h2.get? b = some o := fun b o e => Heap.get?_push_of_some _ (Heap.get?_push_of_some _ e)
  have at2 : h2.get? (hp.objs.size + 1) = some (HandSPX.excO C hp.objs.size) := by heap_get
  have sz2 : h2.objs.size = hp.objs.size + 1 + 1 := by
    show ((hp.push _).push _).objs.size = _
    rw [Heap.size_push, Heap.size_push]
  have hnx : K.lookup (hp.objs.size + 1) = none := by
    cases e : K.lookup (hp.objs.size + 1) with
    | none => rfl
    | some o => exact absurd (Nat.lt_of_succ_lt (Heap.lt_size (X _ _ e))) (Nat.lt_irrefl _)
  refine HandSPX.call_own PySem.F.excBase_ValueError (fun Y => HandSPX.refsVE_contains Y bm hbm) (X _ _ hC) (looks_findIn X T.iC) (fun self => bind_fn X self T.tC) (LowSz.one v) ?_
  refine err_init (s := ⟨h2, g, dr, tk, os⟩) T hf1 htop (X.keeps up) (G.keeps up) (B.keeps up) hB (hlim.keeps up) at2 hnx (show A.depth + 1 < recursionLimit from hroom) fun h' tk' dx D => ?_
  obtain ⟨kp, ob, nw, dne, ns⟩ := D
  rw [show (⟨h2, g, dr, tk, os⟩ : Shared).heap.objs.size = hp.objs.size + 1 + 1 from sz2] at nw
  exact ⟨rfl, hq h' tk' (hp.objs.size + 1) dx ⟨fun b o e => kp b o (Nat.ne_of_lt (Nat.lt_succ_of_lt (Heap.lt_size e))) (up b o e), Nat.le_succ _, ob, Nat.le_trans (Nat.le_trans (Nat.le_succ _) (Nat.le_succ _)) nw, dne, ns⟩⟩
end
end ZX
end PySem
/-! Errors of one's own over any built-in error: made with keywords, too. -/
namespace PySem
namespace ZB
open PySem.W PySem.Calls PyProof.Rows PySem.HandSPX
section
variable {M : Model} {A : Around} {E : Value → Shared → Prop} {h : Heap} {g : Array GenState} {d : Drawn} {t : Nat} {os : OsState}
variable {nm q : Str} {C N : Addr} {bs bm b0 : List Value} {hdct : Bool} {sn : List Str} {sub : List Value} {ab : Bool} {col : Option Bool} {dd : Option Addr} {k0 k1 k2 k3 k5 : Option Value} {B newId i0 : String}
/-- the class at C as it stands -/
abbrev ClsAt (h : Heap) (nm q : Str) (C N : Addr) (bs bm : List Value) (hdct : Bool) (sn : List Str) (sub : List Value) (ab : Bool) (col : Option Bool) (dd : Option Addr) (k0 k1 k2 k3 k5 : Option Value) (newId : String) : Prop := h.get? C = some (excClassObj nm q C N bs bm hdct sn sub ab col dd k0 k1 k2 k3 k5 newId)
theorem new_checked (F : ExcBaseFacts B newId i0 b0) (hB : bm.contains (.type B) = true) {rest : List Value} {kw : List (Str × Value)} {Q : Unit → Shared → Prop} (hC : ClsAt h nm q C N bs bm hdct sn sub ab col dd k0 k1 k2 k3 k5 newId) (go : Q () ⟨h, g, d, t, os⟩) :
    wpAny M A (checkBuiltinCall newId ⟨.ref C :: rest, kw⟩) Q E ⟨h, g, d, t, os⟩ := by
  have has : (Value.ref C :: bm).contains (.type B) = true := by
    rw [List.contains_cons, hB, Bool.or_true]
  have star := F.noStar
  simp only [checkBuiltinCall, F.newKind, F.newSplit, F.newRow]
  repeat (first
    | refine wpAny_loadPart_at hC ?_
    | (refine wpAny_isSubtype_exc hC ?_; rw [has])
    | refine wpAny_staticBase_exc hC ?_
    | refine wpAny_madeBy_exc hC ?_
    | simp only [bne_self_eq_false, Bool.false_eq_true, if_false]
    | wp_step)
  exact go
end
section
variable {prog : Program} {w : World} {A : Around} {E : Value → Shared → Prop} {R : Result → Shared → Prop} {h : Heap} {g : Array GenState} {d : Drawn} {t : Nat} {os : OsState}
variable {nm q : Str} {C N : Addr} {bs bm b0 : List Value} {hdct : Bool} {sn : List Str} {sub : List Value} {ab : Bool} {col : Option Bool} {dd : Option Addr} {k0 k1 k2 k3 k5 : Option Value} {B newId i0 : String}
abbrev bornAt (h : Heap) (C : Addr) (rest : List Value) : Heap := (h.push (kdv_tup rest)).push (excO C h.objs.size)
theorem new_made (F : ExcBaseFacts B newId i0 b0) (hB : bm.contains (.type B) = true) (nA : bm.contains (.type "AttributeError") = false) (nN : bm.contains (.type "NameError") = false) {rest : List Value} {kw : List (Str × Value)} (hC : ClsAt h nm q C N bs bm hdct sn sub ab col dd k0 k1 k2 k3 k5 newId)
    (few : rest.length ≤ sizeLine) (go : R (.ok (.ret (.ref (h.objs.size + 1)))) ⟨bornAt h C rest, g, d, t, os⟩) : codeAny (model prog w) A (.builtin newId ⟨.ref C :: rest, kw⟩) R ⟨h, g, d, t, os⟩ := by
  have ends := F.ends
  have c1 : (Value.ref C :: bm).contains (.type B) = true := by
    rw [List.contains_cons, hB, Bool.or_true]
  have c2 : (Value.ref C :: bm).contains (.type "AttributeError") = false := by
    rw [List.contains_cons, nA]
    rfl
  have c3 : (Value.ref C :: bm).contains (.type "NameError") = false := by
    rw [List.contains_cons, nN]
    rfl
  refine codeAny_builtinAt F.entry ?_
  unfold Builtin.«BaseException.__new__»
  refine wpAt_bind ?_
  show wpAt _ _ _ (stack >>= _) _ _ _
  refine wpAt_bind (wpAt_stack fun p under => wpAt_of_wpAny ?_)
  wp_walk
  refine wpAt_of_wpAny ?_
  rw [F.owner]
  repeat (first
    | with_reducible refine wpAny_madeHere_exc F.canon hC ?_
    | with_reducible refine wpAny_loadPart_at hC ?_
    | (with_reducible refine wpAny_isSubtype_exc hC ?_; first | rw [c1] | rw [c2] | rw [c3])
    | wp_step)
  show R _ _
  rw [Heap.size_push]
  exact go
theorem called_type (F : ExcBaseFacts B newId i0 b0) (hB : bm.contains (.type B) = true) (nA : bm.contains (.type "AttributeError") = false) (nN : bm.contains (.type "NameError") = false) {rest : List Value} {kw : List (Str × Value)} {fI : Addr} {Q : Fin → Shared → Prop} (hC : ClsAt h nm q C N bs bm hdct sn sub ab col dd k0 k1 k2 k3 k5 newId)
    (li : Looks (model prog w) h (typeLookup (.ref C) "__init__") (some (.ref fI))) (lb : ∀ self, Looks (model prog w) h (bindSpecial (.ref fI) self) (.ref fI, [self])) (few : rest.length ≤ sizeLine)
    (go : codeAny (model prog w) A (.call (.ref fI) ⟨.ref (h.objs.size + 1) :: rest, kw⟩) (fun r s' => match r with
        | .ok (.ret v) => v = .none ∧ Q (.done (.ret (.ref (h.objs.size + 1)))) s'
        | .ok _ => False
        | .error e => E e s') ⟨bornAt h C rest, g, d, t, os⟩) :
    wpAny (model prog w) A (Builtin.«type.__call__» ⟨.ref C :: rest, kw⟩) Q E ⟨h, g, d, t, os⟩ := by
  repeat (first
    | with_reducible refine wpAny_loadPart_at hC ?_
    | with_reducible refine wpAny_madeBy_exc hC ?_
    | wp_step)
  refine codeAny_call_builtin_code (Code.quiet_builtin _ F.quiet) (new_checked F hB hC ?_)
  refine new_made F hB nA nN hC few ?_
  show wpAny _ _ _ _ _ _
  have up : ∀ b o, h.get? b = some o → (bornAt h C rest).get? b = some o := fun b o e =>
    Heap.get?_push_of_some _ (Heap.get?_push_of_some _ e)
  have hC1 := up _ _ hC
  have hx : (bornAt h C rest).get? (h.objs.size + 1) = some (excO C h.objs.size) := by heap_get
  have cc : (Value.ref C :: bm).contains (.ref C) = true := by simp
  have l1 := li.keeps up
  have l2 := (lb (.ref (h.objs.size + 1))).keeps up
  unfold isInstance
  repeat (first
    | with_reducible refine wpAny_loadPart_at hx ?_
    | (with_reducible refine wpAny_isSubtype_exc hC1 ?_; rw [cc])
    | wp_step)
  show wpAny _ _ (typeLookup (.ref C) _) _ _ _
  refine l1.at ?_
  refine wpAny_holding (wpAny_bind (l2.at ?_))
  refine wpAny_bind (wpAny_call (codeAny_mono go fun r s' z => ?_))
  rcases r with e | (v | _ | _ | _) <;> first | exact z | exact z.elim | skip
  obtain ⟨rfl, z⟩ := z
  first
    | exact wpAny_pure (wpAny_pure z)
    | (wp_walk; exact z)
theorem type_checked {rest : List Value} {kw : List (Str × Value)} {Q : Unit → Shared → Prop} {M : Model} {E : Value → Shared → Prop} (hC : ClsAt h nm q C N bs bm hdct sn sub ab col dd k0 k1 k2 k3 k5 newId) (go : Q () ⟨h, g, d, t, os⟩) :
    wpAny M A (checkBuiltinCall "type.__call__" ⟨.ref C :: rest, kw⟩) Q E ⟨h, g, d, t, os⟩ := by
  have f3 := tc_sub
  have ty : (⟨h, g, d, t, os⟩ : Shared).TypeIs (.ref C) "type" := ⟨_, hC, rfl⟩
  simp only [checkBuiltinCall, tc_kind, tc_split]
  repeat (any_goals (first
    | assumption
    | with_reducible refine wpAny_loadPart_at hC ?_
    | with_reducible refine wpAny_onRaise ?_
    | with_reducible refine wpAny_map ?_
    | wp_step))
theorem called_own (F : ExcBaseFacts B newId i0 b0) (hB : bm.contains (.type B) = true) (nA : bm.contains (.type "AttributeError") = false) (nN : bm.contains (.type "NameError") = false) {rest : List Value} {kw : List (Str × Value)} {fI : Addr} (hC : ClsAt h nm q C N bs bm hdct sn sub ab col dd k0 k1 k2 k3 k5 newId)
    (li : Looks (model prog w) h (typeLookup (.ref C) "__init__") (some (.ref fI))) (lb : ∀ self, Looks (model prog w) h (bindSpecial (.ref fI) self) (.ref fI, [self])) (few : rest.length ≤ sizeLine)
    (go : codeAny (model prog w) (A.under (.builtin "type.__call__" ⟨.ref C :: rest, kw⟩)) (.call (.ref fI) ⟨.ref (h.objs.size + 1) :: rest, kw⟩) (InitBack (h.objs.size + 1) R) ⟨bornAt h C rest, g, d, t, os⟩) :
    codeAny (model prog w) A (.call (.ref C) ⟨rest, kw⟩) R ⟨h, g, d, t, os⟩ := by
  have f1 := tc_lookup
  have f2 := tc_bind (.ref C)
  have ty : (⟨h, g, d, t, os⟩ : Shared).TypeIs (.ref C) "type" := ⟨_, hC, rfl⟩
  refine codeAny_of_tree ?_
  show wpAny _ _ (callAny (.ref C) _) _ _ _
  repeat (any_goals (first
    | assumption
    | with_reducible refine wpAny_loadPart_at hC ?_
    | wp_step))
  refine ⟨rfl, ?_⟩
  refine codeAny_call_builtin_at (Code.quiet_builtin _ (by decide +kernel)) entry_typeCall (type_checked hC ?_)
  refine called_type F hB nA nN hC li lb few (codeAny_mono go fun r s' z => ?_)
  rcases r with e | (v | _ | _ | _) <;> exact z
end
/-- own classes, then a built-in mro -/
def refsB (tl : List Value) : List Value → Bool
  | .ref _ :: r => refsB tl r
  | l => l == tl
/-- what is asked of the built-in mro -/
structure Tail (tl : List Value) : Prop where
  pass : ∀ self : Value, refuseLoop self "__setattr__" tl = pure ()
  obj : tl.contains (.type "object") = true
  ne : tl.isEmpty = false
theorem refsB_at {tl : List Value} : ∀ l : List Value, refsB tl l = true → (∃ c r, l = .ref c :: r ∧ refsB tl r = true) ∨ l = tl := by
  intro l
  cases l with
  | nil => exact fun e => .inr (beq_iff_eq.mp e)
  | cons a r =>
    cases a with
    | ref c => exact fun e => .inl ⟨c, r, rfl, e⟩
    | _ => exact fun e => .inr (beq_iff_eq.mp e)
theorem refsB_has {tl : List Value} (X : String) : ∀ l : List Value, refsB tl l = true → l.contains (.type X) = tl.contains (.type X) := by
  intro l
  induction l with
  | nil =>
    intro e
    rcases refsB_at _ e with ⟨c, r, z, _⟩ | z
    · cases z
    · rw [← z]
  | cons a r ih =>
    intro e
    rcases refsB_at _ e with ⟨c, r', z, k⟩ | z
    · cases z
      rw [List.contains_cons, ih k]
      rfl
    · rw [← z]
theorem refsB_pass {tl : List Value} (T : Tail tl) (self : Value) : ∀ l : List Value, refsB tl l = true → refuseLoop self "__setattr__" l = pure () := by
  intro l
  induction l with
  | nil =>
    intro e
    rcases refsB_at _ e with ⟨c, r, z, _⟩ | z
    · cases z
    · rw [z]
      exact T.pass self
  | cons a r ih =>
    intro e
    rcases refsB_at _ e with ⟨c, r', z, k⟩ | z
    · cases z
      rw [refuseLoop_ref]
      exact ih k
    · rw [z]
      exact T.pass self
theorem refsB_ne {tl : List Value} (T : Tail tl) : ∀ l : List Value, refsB tl l = true → l.isEmpty = false := by
  intro l e
  rcases refsB_at _ e with ⟨c, r, z, _⟩ | z
  · rw [z]
    rfl
  · rw [z]
    exact T.ne
section
variable {prog : Program} {w : World} {A : Around} {E : Value → Shared → Prop} {R : Result → Shared → Prop} {hp : Heap} {g : Array GenState} {d : Drawn} {t : Nat} {os : OsState}
open Builtin Builtin.ObjectAttr in
/-- x.name = v, x an error that has no dict yet -/
theorem put_first {K : Frag} {tl : List Value} (T : Tail tl) {name : Str} {tk : Tok} {v : Value} {x C : Addr} {fv : Array Value} {cd : ClassData} (inK : K.In hp) (hx : hp.get? x = some { cls := .ref C, data := .fields fv }) (isC : clsIn K C = some cd) (ok : refsB tl cd.mro = true) (hasD : cd.hasDict = true) (noN : findIn K (.ref C) name = some none)
    (go : ∀ h' tk' dx, (∀ b o, b ≠ x → hp.get? b = some o → h'.get? b = some o) → hp.objs.size ≤ dx → dx ≠ x → h'.get? x = some { cls := .ref C, dict := some dx, data := .fields fv } → h'.Ns1 dx (fun y => if y = name then some v else none) → R (.ok (.ret .none)) ⟨h', g, d, tk', os⟩) :
    codeAny (model prog w) A (.call (.builtin "object.__setattr__") ⟨[.ref x, .str name tk, v], []⟩) R ⟨hp, g, d, t, os⟩ := by
  have I : InstAt hp x { cls := .ref C, data := .fields fv } C none := ⟨hx, rfl, rfl, trivial⟩
  have St := F.store_object
  have nE := refsB_ne T _ ok
  have isO : cd.mro.contains (.type "object") = true := (refsB_has "object" _ ok).trans T.obj
  have apart : x ≠ hp.objs.size := Nat.ne_of_lt (Heap.lt_size hx)
  have inst : Looks (model prog w) hp (isInstance (.ref x) (.type "object")) true :=
    I.type.andThen (looks_mroIn inK (by unfold mroIn; rw [isC, Option.bind_some, if_neg (by rw [nE]; decide), isO]))
  refine codeAny_call_builtin St.slot.plain St.entry ?_
  refine @check_slot (model prog w) _ _ ⟨hp, g, d, t, os⟩ "object.__setattr__" "object" "__setattr__" (.ref x) [.str name tk, v] [] _ St.kind St.split inst (St.args (.ref x) (.str name tk) v) ?_
  have lm : Looks (model prog w) hp (mroOf (.ref C)) cd.mro := (looks_clsIn inK isC).andThen .now
  have ls : Looks (model prog w) hp (storeTaker? none) none := .now
  have lc : Looks (model prog w) hp (classData C) cd := looks_clsIn inK isC
  rw [osa_eq, refuse_eq]
  refine wpAny_bind (wpAny_bind (I.type.at (wpAny_bind (lm.at ?_))))
  rw [refsB_pass T _ _ ok]
  refine wpAny_pure (wpAny_bind (I.type.at (wpAny_bind ((looks_findIn inK noN).at (wpAny_bind (ls.at ?_))))))
  show wpAny _ _ (storeInOwnDict (.ref x) (.ref C) (.str name tk) name v false) _ _ _
  obtain ⟨nm, bs, mro, ns, qn, hd, sn, sb, ab, col, del⟩ := cd
  dsimp only at hasD
  subst hasD
  unfold storeInOwnDict ownDictForStores
  repeat (first
    | with_reducible refine store_in_new ?_ ?_
    | with_reducible refine wpAny_loadPart_at hx ?_
    | with_reducible refine lc.at ?_
    | wp_step)
  · exact ⟨_, #[], _, (Heap.get?_update_ne _ _ _ _ apart.symm).trans (Heap.get?_push_at rfl rfl), rfl, fun e he => absurd he (by simp), fun _ => rfl⟩
  · intro h' tk' hn same
    have hx1 : (hp.push { cls := .type "dict", data := .dict #[] }).get? x = some { cls := .ref C, data := .fields fv } := Heap.get?_push_of_some _ hx
    refine go h' tk' hp.objs.size (fun b o nb e => ?_) (Nat.le_refl _) apart.symm ?_ hn
    · exact (same.2 b (Nat.ne_of_lt (Heap.lt_size e))).trans ((Heap.get?_update_ne _ _ _ _ nb).trans (Heap.get?_push_of_some _ e))
    · exact (same.2 x apart).trans (Heap.get?_update_self _ hx1 rfl)
end
open PySem.ZX (eA eB eS EvSup okF look_at InitDone Own_one ErrMade)
/-- what the built-in __init__ is -/
structure IniF (D initId : String) : Prop where
  init : Slot D "__init__" initId
  entry : entryFor table initId = some Builtin.«BaseException.__init__»
  kind : builtinKind initId = some .slot
  row : Manifest.signature? initId = some ⟨.positional, "*", D, .self, [⟨"args", .varPos, false⟩]⟩
  star : (D != "*") = true
  kx : KxsFacts D initId
/-- how the one argument is given -/
def Given (fld : Str) (v : Value) (rest : List Value) (kw : List (Str × Value)) : Prop := (rest = [v] ∧ kw = []) ∨ (rest = [] ∧ kw = [(fld, v)])
theorem Given.few {fld : Str} {v : Value} {rest : List Value} {kw : List (Str × Value)} (g : Given fld v rest kw) : rest.length ≤ sizeLine := by
  rcases g with ⟨rfl, _⟩ | ⟨rfl, _⟩
  · exact LowSz.one v
  · exact Nat.zero_le _
structure ErrTxtB (prog : Program) (K : Frag) (C fI : Addr) (fld : Str) (newId D initId : String) (tl : List Value) : Prop where
  cls : ∃ nm q N bs bm sn sub ab col dd k0 k1 k2 k3 k5, K.lookup C = some (excClassObj nm q C N bs bm true sn sub ab col dd k0 k1 k2 k3 k5 newId) ∧ refsB tl bm = true
  sa : findIn K (.ref C) "__setattr__" = some (some (.builtin "object.__setattr__"))
  noN : findIn K (.ref C) fld = some none
  iC : findIn K (.ref C) "__init__" = some (some (.ref fI))
  tC : typeIn K (.ref fI) = some (.type "function")
  sup : ks_superIn K C C "__init__" = some (some (.builtin initId))
  subV : subIn K (.ref C) (.type D) = some true
  subC : mroIn K C (.ref C) = some true
  any : nsIn K cStatics "thirdparty.any" = some none
  nsup : nsIn K mainGlobals "super" = some none
  file : ∃ (cda : Addr) (ccl : Value) (cdd : Option Addr) (vs : Array Value) (ccs : Array (Option Value)) (fl : Str) (tf : Tok) (cc : Addr) (cl : Value) (cld : Option Addr) (csl : Array (Option Value)) (oc : Value) (od : Option Addr) (doc pm : Value) (an : Option Addr) (ct : Value) (osl : Array (Option Value)) (txt : Str) (n1 : Nat) (p1 p2 : Pos) (q : Nat → Pos) (qual : Str),
    EvSup txt n1 q ∧ K.lookup cda = some ⟨ccl, cdd, .fields vs, ccs⟩ ∧ vs[2]? = some (.str fl tf) ∧ ((prog.main.file : Str) == fl) = true ∧ K.lookup cc = some ⟨cl, cld, .cell (some (.ref C)), csl⟩ ∧
    K.lookup fI = some ⟨oc, od, .func (ksFn "__init__" qual (eA fld p1 p2) (eB fld txt n1 q) (eS fld) .none .none doc pm an (.ref cda) ct cc), osl⟩ ∧ codeIn K (.ref cda) qual = true ∧
    (∀ (x v : Value) (rest : List Value) (kw : List (Str × Value)), Given fld v rest kw → bindArgs (ksFn "__init__" qual (eA fld p1 p2) (eB fld txt n1 q) (eS fld) .none .none doc pm an (.ref cda) ct cc) ⟨x :: rest, kw⟩ = pure [(("self" : Str), x), (fld, v)])
section
variable {M : Model} {A : Around} {E : Value → Shared → Prop} {h : Heap} {g : Array GenState} {d : Drawn} {t : Nat} {os : OsState}
theorem bound_checked {D initId newId : String} {nm q : Str} {C N e : Addr} {bs bm : List Value} {hdct : Bool} {sn : List Str} {sub : List Value} {ab : Bool} {col : Option Bool} {dd : Option Addr} {k0 k1 k2 k3 k5 : Option Value} (FI : IniF D initId) {oe : Obj} {rest : List Value} {Q : Unit → Shared → Prop} (hC : ClsAt h nm q C N bs bm hdct sn sub ab col dd k0 k1 k2 k3 k5 newId) (he : h.get? e = some oe) (of : oe.cls = .ref C) (go : Q () ⟨h, g, d, t, os⟩) :
    wpAny M A (checkBoundCall initId ⟨.ref e :: rest, []⟩) Q E ⟨h, g, d, t, os⟩ := by
  have sh := FI.star
  simp only [checkBoundCall, FI.kind, FI.row]
  repeat (first
    | (with_reducible refine wpAny_loadPart_at he ?_; rw [of])
    | with_reducible refine wpAny_loadPart_at hC ?_
    | wp_step)
  refine wpAny_onRaise ?_
  have free : ∀ (a b : String) (n : Nat), Bind.check ⟨.positional, "*", D, .self, [⟨"args", .varPos, false⟩]⟩ a b n [] = pure () :=
    fun a b n => check_star_args _ _ _ _ _ _
  show wpAny _ _ (Bind.check ⟨.positional, "*", D, .self, [⟨"args", .varPos, false⟩]⟩ _ _ _ []) _ _ _
  rw [free]
  exact wpAny_pure go
end
section
variable {prog : Program} {w : World} {A : Around} {E : Value → Shared → Prop} {R : Result → Shared → Prop} {s : Shared} {K : Frag} {C fI : Addr} {fld : Str} {mg mb : Str → Option Value} {newId D initId Bc i0 : String} {tl b0 : List Value}
theorem init_of (T : ErrTxtB prog K C fI fld newId D initId tl) (Ti : Tail tl) (FI : IniF D initId) (hf1 : okF fld = true)
    (htop : (prog.main.scope.names.lookup ("super" : Str)).isSome = false) {x t0 : Addr} {v : Value} {rest : List Value} {kw : List (Str × Value)} (gv : Given fld v rest kw) (X : K.In s.heap) (G : s.heap.Ns mainGlobals mg) (B : s.heap.Ns builtinsNs mb) (hB : mb "super" = some (.type "super"))
    (hlim : s.heap.NoLimit) (hx : s.heap.get? x = some (HandSPX.excO C t0)) (hnx : K.lookup x = none) (hroom : A.depth < recursionLimit)
    (hq : ∀ h' tk dx, InitDone s.heap h' x C dx fld v → R (.ok (.ret .none)) { s with heap := h', toks := tk }) :
    codeAny (model prog w) A (.call (.ref fI) ⟨.ref x :: rest, kw⟩) R s := by
  obtain ⟨hp, g, d, tk0, os⟩ := s
  dsimp only at X G B hlim hx hq
  obtain ⟨cda, ccl, cdd, vs, ccs, fl, tf, cc, cl, cld, csl, oc, od, doc, pm, an, ct, osl, txt, n1, p1, p2, q, qual, hev, hcode, hvs, hfile, hcell, hfn, hcd, hbd⟩ := T.file
  obtain ⟨nm, q', N, bs, bm, sn, sub, ab, col, dd, k0, k1, k2, k3, k5, hC, hbm⟩ := T.cls
  have hcl : clsIn K C = some { name := nm, bases := bs, mro := .ref C :: bm, ns := N, qualname := q', hasDict := true, slotNames := sn, subclasses := sub, abstract := ab, collection := col, hasDel := false } := by unfold clsIn; rw [hC]
  obtain ⟨l1, l2, l3, l4, f1, f4⟩ := look_at hf1
  refine ks_codeAny_call_defAt (fd := ksFn "__init__" qual (eA fld p1 p2) (eB fld txt n1 q) (eS fld) .none .none doc pm an (.ref cda) ct cc) (body := eB fld txt n1 q) (binds := [("self", .ref x), (fld, v)]) hroom (X _ _ hfn) rfl hlim (codeRec_of X hcd) rfl ?_ ?_ ?_ (fun h₁ hn k => ?_)
  · exact BindsTo.of_eq (hbd _ _ _ _ gv)
  · intro y hy
    simp only [eS, List.mem_cons, List.not_mem_nil, or_false] at hy
    rcases hy with rfl | rfl | rfl | rfl <;> simp
  · intro y hy
    have lk := l4
    rcases List.mem_cons.mp hy with e | hy
    · rw [e]; rfl
    · have e : y = (fld, v) := by simpa using hy
      rw [e]; exact lk
  · show _root_.PySem.wpAt (model prog w) (A.deeper (ksEnv qual (eS fld) hp.objs.size fI (.ref cda) cc)) (.func (eB fld txt n1 q) (ksEnv qual (eS fld) hp.objs.size fI (.ref cda) cc)) (execs (eB fld txt n1 q) (ksEnv qual (eS fld) hp.objs.size fI (.ref cda) cc)) _ _ _
    obtain ⟨pl, he⟩ := hev (ksEnv qual (eS fld) hp.objs.size fI (.ref cda) cc)
    have hCo := X _ _ hC
    have X₁ : K.In h₁ := X.keeps k
    have hx₁ := k _ _ hx
    refine ks_wpAt_execs_cons (ks_wpAt_Expr_any (ks_wpAt_MethodCall (pl := pl) ?_ he))
    -- super()
    refine ks_wpAt_super_base (env := ksEnv qual (eS fld) hp.objs.size fI (.ref cda) cc) l1 l2 (by decide +kernel) rfl (X₁ _ _ hfn) rfl rfl rfl (X₁ _ _ hcode) rfl hvs hfile htop ?_
    refine ks_loadName_global rfl l1 (loadGlobal_builtin (env := ksEnv qual (eS fld) hp.objs.size fI (.ref cda) cc) (G.keeps k) (mg_none_of X G T.nsup) (B.keeps k) hB ⟨rfl, ?_⟩)
    refine wpAny_loadName_free rfl l2 rfl ⟨_, X₁ _ _ hcell, rfl⟩ ?_
    refine wpAny_loadName_local rfl l3 hn (v := .ref x) ?_ ?_
    · show List.lookup ("self" : Str) [(fld, v), (("self" : Str), Value.ref x)] = _
      rw [List.lookup_cons, beq_eq_false_iff_ne.mpr (fun e => f1 e.symm)]
      rfl
    refine ks_wpAny_isType_cls (X₁ _ _ hC) rfl ⟨rfl, ?_⟩
    refine ks_wpAny_call_super (X₁ _ _ hC) rfl hx₁ rfl (fun c e => nomatch e) (looks_mroIn X₁ T.subC) (fun h₂ e₂ k₂ => ?_)
    have X₂ : K.In h₂ := X₁.keeps k₂
    have hx₂ := k₂ _ _ hx₁
    -- .__init__, of ValueError
    have I₂ : InstAt h₂ x (HandSPX.excO C t0) C none := ⟨hx₂, rfl, rfl, trivial⟩
    have hI : Looks (model prog w) h₂ (isInstance (.ref x) (.type D)) true := I₂.type.andThen (looks_subIn X₂ T.subV)
    have hsup : alongIn K "__init__" (((Value.ref C :: bm).dropWhile (· != .ref C)).drop 1) = some (some (.builtin initId)) := by
      have := T.sup
      unfold ks_superIn at this
      rw [hcl] at this
      exact this
    refine kxs_getMethod FI.kx e₂ (looks_opaque X₂ T.any) (l₀ := .ref C :: bm) ?_ rfl X₂ hsup hI (ks_ne X₂ I₂ hcl) (by decide +kernel) ?_
    · exact fun A Q E s k q => wpAny_bind ((looks_clsIn X₂ hcl) A _ E s k (wpAny_pure q))
    -- (text)
    generalize hu : h₂.objs.size = u
    have hx₃ : (h₂.push (kxs_mw initId x)).get? x = some (HandSPX.excO C t0) := Heap.get?_push_of_some _ hx₂
    have hu₃ : (h₂.push (kxs_mw initId x)).get? u = some (kxs_mw initId x) := by rw [← hu]; exact Heap.get?_push_size _ rfl
    have hC₃ := Heap.get?_push_of_some (kxs_mw initId x) (k₂ _ _ (X₁ _ _ hC))
    refine kxs_callWith (i := initId) (x := x) rfl ?_
    refine Calls.evalArgs_plain (Own_one ?_)
    refine ⟨hu₃, ?_⟩
    show wpAny _ _ (call (.ref u) [.str txt _]) _ _ _
    refine PySem.wpAny_call (PySem.codeAny_of_tree (show wpAny _ _ (callAny (.ref u) ⟨[.str txt _], []⟩) _ _ _ from ?_))
    rw [callAny]
    refine (wpAny_bind (wpAny_load hu₃ ?_))
    have w1 : (Value.type "method-wrapper" == Value.type "method" || Value.type "method-wrapper" == Value.type "builtin_function_or_method" || Value.type "method-wrapper" == Value.type "method-wrapper") = true := by decide
    simp only [kxs_mw, w1, if_true]
    refine (KFB.if_so (by decide) (wpAny_bind (bound_checked FI hC₃ hx₃ rfl ?_)))
    refine (wpAny_bind (wpAny_pure (wpAny_pure ⟨plainId_quiet FI.init.plain _, codeAny_builtin FI.entry ?_⟩)))
    refine exc_init_tree (cls := .ref C) (t0 := t0) (dv := none) (c2 := .none) (c3 := .none) (b4 := .bool false) hx₃ (PySem.LowSz.one _) (fun h₄ k₄ e₄ t₄ => ?_)
    -- self.fld = fld
    have hL₁ : hp.objs.size < h₁.objs.size := hn.lt
    have hxL : hp.objs.size ≠ x := Nat.ne_of_gt (Heap.lt_size hx)
    have up₁ : ∀ b o, h₁.get? b = some o → b ≠ x → h₄.get? b = some o := fun b o e n => k₄ b o n (Heap.get?_push_of_some _ (k₂ _ _ e))
    have hn₄ : h₄.Ns hp.objs.size (fun y => [((fld : Str), v), (("self" : Str), Value.ref x)].lookup y) := by
      obtain ⟨oL, es, ep, hL, r⟩ := hn
      exact ⟨oL, es, ep, up₁ _ _ hL hxL, r⟩
    have X₄ : K.In h₄ := fun b o e => up₁ b o (X₁ b o e) (fun z => by rw [z, hnx] at e; cases e)
    refine wpAt_of_wpAny ?_
    refine wpAny_execs_cons (plainObj_wpAny_Assign_Attribute ?_)
    refine wpAny_Name (wpAny_loadName_local rfl l4 hn₄ (v := v) ?_ ?_) f4
    · rw [List.lookup_cons, beq_self_eq_true]
    refine wpAny_Name (wpAny_loadName_local rfl l3 hn₄ (v := .ref x) ?_ ?_) (by decide +kernel)
    · rw [List.lookup_cons, beq_eq_false_iff_ne.mpr (fun e => f1 e.symm)]
      rfl
    refine set_plain X₄ (ox := HandSPX.excO C _) (od := none) ⟨e₄, rfl, rfl, trivial⟩ T.sa ?_
    refine put_first Ti X₄ e₄ hcl (show refsB tl (.ref C :: bm) = true from hbm) rfl T.noN (fun h₅ tk₅ dx k₅ dn dne hx₅ hn₅ => ?_)
    show wpAny _ _ (execs _ _) _ _ _
    refine wpAny_execs_nil (hq h₅ tk₅ dx ⟨fun b o hb e => k₅ b o hb (up₁ b o (k b o e) hb), ⟨_, hx₅⟩, Nat.le_of_lt (Nat.lt_of_lt_of_le hn₄.lt dn), dne, hn₅⟩)
theorem made_of (T : ErrTxtB prog K C fI fld newId D initId tl) (Ti : Tail tl) (FI : IniF D initId) (F : ExcBaseFacts Bc newId i0 b0) (hBc : tl.contains (.type Bc) = true) (nA : tl.contains (.type "AttributeError") = false) (nN : tl.contains (.type "NameError") = false) (hf1 : okF fld = true) (htop : (prog.main.scope.names.lookup ("super" : Str)).isSome = false) {v : Value} {rest : List Value} {kw : List (Str × Value)} (gv : Given fld v rest kw) (X : K.In s.heap) (G : s.heap.Ns mainGlobals mg) (B : s.heap.Ns builtinsNs mb)
    (hB : mb "super" = some (.type "super")) (hlim : s.heap.NoLimit) (hroom : A.depth + 1 < recursionLimit)
    (hq : ∀ h' tk e d, ErrMade s.heap h' e C d fld v → R (.ok (.ret (.ref e))) { s with heap := h', toks := tk }) : codeAny (model prog w) A (.call (.ref C) ⟨rest, kw⟩) R s := by
  obtain ⟨nm, q, N, bs, bm, sn, sub, ab, col, dd, k0, k1, k2, k3, k5, hC, hbm⟩ := T.cls
  obtain ⟨hp, g, dr, tk, os⟩ := s
  dsimp only at X G B hlim hq
  let h2 := (hp.push (kdv_tup rest)).push (HandSPX.excO C hp.objs.size)
  have up : ∀ b o, hp.get? b = some o → h2.get? b = some o := fun b o e => Heap.get?_push_of_some _ (Heap.get?_push_of_some _ e)
  have at2 : h2.get? (hp.objs.size + 1) = some (HandSPX.excO C hp.objs.size) := by heap_get
  have sz2 : h2.objs.size = hp.objs.size + 1 + 1 := by
    show ((hp.push _).push _).objs.size = _
    rw [Heap.size_push, Heap.size_push]
  have hnx : K.lookup (hp.objs.size + 1) = none := by
    cases e : K.lookup (hp.objs.size + 1) with
    | none => rfl
    | some o => exact absurd (Nat.lt_of_succ_lt (Heap.lt_size (X _ _ e))) (Nat.lt_irrefl _)
  refine called_own F ((refsB_has Bc bm hbm).trans hBc) ((refsB_has _ bm hbm).trans nA) ((refsB_has _ bm hbm).trans nN) (X _ _ hC) (looks_findIn X T.iC) (fun self => bind_fn X self T.tC) gv.few ?_
  refine init_of (s := ⟨h2, g, dr, tk, os⟩) T Ti FI hf1 htop gv (X.keeps up) (G.keeps up) (B.keeps up) hB (hlim.keeps up) at2 hnx (show A.depth + 1 < recursionLimit from hroom) fun h' tk' dx D => ?_
  obtain ⟨kp, ob, nw, dne, ns⟩ := D
  rw [show (⟨h2, g, dr, tk, os⟩ : Shared).heap.objs.size = hp.objs.size + 1 + 1 from sz2] at nw
  exact ⟨rfl, hq h' tk' (hp.objs.size + 1) dx ⟨fun b o e => kp b o (Nat.ne_of_lt (Nat.lt_succ_of_lt (Heap.lt_size e))) (up b o e), Nat.le_succ _, ob, Nat.le_trans (Nat.le_trans (Nat.le_succ _) (Nat.le_succ _)) nw, dne, ns⟩⟩
end
end ZB
end PySem
/-! enumerate(t), any(t), t a tuple -/
namespace PySem
open Sem (wp)
open Builtin
/-- the two objects that enumerate of a tuple lays -/
theorem zmk_enumT (u : Addr) (its : Array Value) (n : Nat) (dct : Option Addr) (sl : Array (Option Value)) :
    Meets (Builtin.«enumerate.__new__» ⟨[.type "enumerate", .ref u], []⟩) (fun _ R s => s.heap.get? u = some { cls := .type "tuple", dict := dct, data := .seq its n, slots := sl } ∧
      R (.ok (.ret (.ref (s.heap.push { cls := .type "tuple_iterator", data := .fields #[.ref u, .int 0 0] }).objs.size)))
        { s with heap := (s.heap.push { cls := .type "tuple_iterator", data := .fields #[.ref u, .int 0 0] }).push { cls := .type "enumerate", data := .fields #[.none, .bool false, .ref s.heap.objs.size, rawInt 0, .none, .none] } }) :=
  .of_wp fun prog w A R s h => by
    obtain ⟨hp, g, d, tk, os⟩ := s
    obtain ⟨hl, h⟩ := h
    have hsub := sub_enumerate
    have hT : Heap.IsTuple (Shared.heap ⟨hp, g, d, tk, os⟩) u its := ⟨_, hl, rfl, n, rfl⟩
    wp_walk using wpAny_loadPart' hl
    refine wpAny_stack_any fun st => wpAny_pure ?_
    split
    · rename_i c _ _ _ _ _
      cases (c == Value.type "enumerate")
      all_goals
        wp_walk using wpAny_loadPart' hl, wpAny_pyIter_tuple hT
        exact ⟨_, rfl, h⟩
    · wp_walk using wpAny_loadPart' hl, wpAny_pyIter_tuple hT
      exact ⟨_, rfl, h⟩
section
variable {prog : Program} {w : World} {A : Around} {E : Value → Shared → Prop} {s : Shared}
theorem zcall_enumT {u : Addr} {its : Array Value} {Q : Value → Shared → Prop} (hT : s.heap.IsTuple u its)
    (h : ∀ h', IsEnum h' (s.heap.objs.size + 1) s.heap.objs.size 0 .none → h'.IsTupleIter s.heap.objs.size u 0 → (∀ b o, s.heap.get? b = some o → h'.get? b = some o) → Q (.ref (s.heap.objs.size + 1)) { s with heap := h' }) :
    wpAny (model prog w) A (call (.type "enumerate") [.ref u]) Q E s := by
  obtain ⟨⟨c, dct, dt, sl⟩, hl, hc, n, hd⟩ := hT
  replace hc : c = .type "tuple" := hc
  replace hd : dt = .seq its n := hd
  subst hc hd
  refine callType_new F.called_enumerate (by decide) (F.typeCall_enumerate_1 _) (F.newCall_enumerate_1 _) (fun obj => F.args_object_init_2 obj _) F.entry_enumerate_new (zmk_enumT u its n dct sl) ⟨hl, ?_⟩
  let h1 := s.heap.push { cls := .type "tuple_iterator", data := .fields #[.ref u, .int 0 0] }
  have hz : h1.objs.size = s.heap.objs.size + 1 := Heap.size_push ..
  show _ ∧ _
  have he : IsEnum (h1.push { cls := .type "enumerate", data := .fields #[.none, .bool false, .ref s.heap.objs.size, rawInt 0, .none, .none] }) (s.heap.objs.size + 1) s.heap.objs.size 0 .none := by
    have q := Heap.get?_push_size h1 (o := { cls := .type "enumerate", data := .fields #[.none, .bool false, .ref s.heap.objs.size, rawInt 0, .none, .none] }) rfl
    rw [hz] at q
    exact q
  have hz' : (s.heap.push { cls := .type "tuple_iterator", data := .fields #[.ref u, .int 0 0] }).objs.size = s.heap.objs.size + 1 := hz
  rw [hz']
  exact ⟨⟨_, he, rfl⟩, h _ he ⟨_, Heap.get?_push_of_some _ (Heap.get?_push_size _ rfl), rfl, rfl⟩ fun b o x => Heap.get?_push_of_some _ (Heap.get?_push_of_some _ x)⟩
end
end PySem
namespace Z
open PySem PySem.Spec PyProof.Rows L2 Evl
/-- the tuple at a as it stands at each turn, each item in a new pair -/
def IteT (K : PySem.W.Frag) (a : Addr) : It :=
  ⟨fun i H => ∃ (xs : List V) (x : V), SqT K H a xs ∧ xs[i]? = some x, fun i H v H' => ∃ T x, v = .ref T ∧ H T = none ∧ H' = upd H T (.tup [.int (i : Nat), x]) ∧ ∀ xs, SqT K H a xs → xs[i]? = some x, fun i H => ∃ xs : List V, SqT K H a xs ∧ xs.length = i⟩
theorem turn_enumT {P : Program} {w : World} {K : PySem.W.Frag} {elts : List Expr} {kk : Nat} {tpos : Pos} (a e it : Addr) :
    Turn P w K (.Tuple elts kk tpos) (IteT K a) [e, it] e (fun i h => (∃ old, IsEnum h e it ((i : Nat) : Int) old) ∧ h.IsTupleIter it a i ∧ e ≠ it ∧ a ≠ it ∧ a ≠ e) where
  mem := List.mem_cons_self
  obj := fun i h st b hb => by
    obtain ⟨⟨old, he⟩, ⟨o, ho, hc, hd⟩, _⟩ := st
    rcases List.mem_cons.mp hb with z | z
    · subst z
      exact ⟨_, he, fun v q => nomatch q⟩
    · have z : b = it := by simpa using z
      subst z
      exact ⟨o, ho, fun v q => by rw [hd] at q; cases q⟩
  keep := fun i h h' st k => by
    obtain ⟨⟨old, he⟩, hi, hne⟩ := st
    exact ⟨⟨old, k e List.mem_cons_self _ he⟩, hi.at fun o q => k it (by simp) o q, hne⟩
  item := by
    intro X hP hw hK hc i pins s σ H E I hf st hg
    subst hP hw hK
    obtain ⟨⟨old, he⟩, hit, hne, hai, hae⟩ := st
    obtain ⟨xs, x, hq, hx⟩ := hg
    obtain ⟨its, rv, p, hz⟩ := I.tuple hq
    obtain ⟨u, hu, ru⟩ := rv.get hx
    have hel : e < s.heap.objs.size := Heap.lt_size he
    have hil : it < s.heap.objs.size := by obtain ⟨_, q, _⟩ := hit; exact Heap.lt_size q
    have hui : i < its.length := (List.getElem?_eq_some_iff.mp hu).1
    have hef : e ∉ [it, a] := by
      intro z
      rcases List.mem_cons.mp z with z | z
      · exact hne z
      · exact hae (by simpa using z : e = a).symm
    refine wpAny_pyNext_enum_itemD (Draws.tuple (A := X.A.in1) (I.ok.hd hc) it a hai its.toArray) he ⟨hit, p⟩ (by simpa using hui) hne hef fun y h' tk hy ho st' hT hsz hk => ?_
    have ey : y = u := by
      have q : its[i]? = some y := by simpa using hy
      rw [hu] at q
      exact (Option.some.inj q).symm
    subst ey
    refine ⟨_, rfl, wpAny_letOwnedTupleGo_enum (s := { s with heap := h', toks := tk + 1 }) ho fun h'' he' sb => ?_⟩
    have nT : s.heap.objs.size ≠ e := Nat.ne_of_gt hel
    have hT2 : h''.get? s.heap.objs.size = some { cls := .type "tuple", data := .seq #[.int i tk, y] } := (sb.2 _ nT).trans hT
    have new : ObjOk X.prog X.w (upd H s.heap.objs.size (.tup [.int (i : Nat), x])) h'' s.heap.objs.size (.tup [.int (i : Nat), x]) :=
      ⟨by show 2 ≤ sizeLine; decide, [.int i tk, y], .cons ⟨_, rfl⟩ (.cons ru .nil), ⟨_, hT2, rfl, _, rfl⟩⟩
    have I1 : Inv X pins σ (upd H s.heap.objs.size (.tup [.int (i : Nat), x])) { s with heap := h'', toks := tk + 1 } :=
      I.turnedNew (ch := [e, it]) (fun b ob hb q => (sb.2 b (fun z => hb (by simp [z]))).trans (hk b ob (fun z => hb (by simp [z])) (fun z => hb (by simp [z])) q)) hf (Nat.le_refl _) new
    refine ⟨.ref s.heap.objs.size, _, I1, rfl, ⟨_, x, rfl, I.hok.fresh (Nat.le_refl _), rfl, fun ys hy => by rw [I.tuple_inj hy hq]; exact hx⟩, ⟨⟨y, ?_⟩, st'.1.at fun o q => (sb.2 it (Ne.symm hne)).trans q, hne, hai, hae⟩, fun b hb => ?_⟩
    · have e1 : ((i + 1 : Nat) : Int) = (i : Int) + 1 := by omega
      rw [e1]; exact he'
    · have hb' : b < s.heap.objs.size := by
        rcases List.mem_cons.mp hb with z | z
        · rw [z]; exact hel
        · rw [show b = it by simpa using z]; exact hil
      rw [upd_ne (Nat.ne_of_lt hb')]
      exact (hf b hb).1
  done := by
    intro X hP hw hK hc i pins s σ H E I hf st hg
    subst hP hw hK
    obtain ⟨⟨old, he⟩, hit, hne, hai, hae⟩ := st
    obtain ⟨xs, hq, hx⟩ := hg
    obtain ⟨its, rv, p, hz⟩ := I.tuple hq
    obtain ⟨f0, f1, f2, f3, f4, f5⟩ := hf it (by simp)
    have hl := rv.length
    have hn : i = its.toArray.size := by
      rw [List.size_toArray, ← hl]
      exact hx.symm
    subst hn
    exact wpAny_pyNext_enum_endD (Draws.tuple (A := X.A.in1) (I.ok.hd hc) it a hai its.toArray) he ⟨hit, p⟩ fun h' eb => ⟨rfl, I.turned (t' := s.toks) (fun b o hb q => eb b o hb q) f0 f1 f3 f4 f5⟩
  self := fun A i s Q E st h => by
    obtain ⟨⟨_, he⟩, _⟩ := st
    exact wpAny_pyIter_enum he h

def iEnumT (K : PySem.W.Frag) (ta : TA) : TI := fun σ H R => ta σ H fun vs H1 => ∃ a xs, vs = [.ref a] ∧ SqT K H1 a xs ∧ R (IteT K a) H1
theorem pi_enumT {X : Cx} {e : Expr} {ta : TA} {p pos tpos : Pos} {elts : List Expr} {kk : Nat} (hg : Gl X "enumerate") (hm : X.mg "enumerate" = none) (ha : PA X [e] ta) (hs : starEach [e] X.env = [(false, eval e X.env)] := by rfl) :
    PI X (.Tuple elts kk tpos) (.Call (.Name "enumerate" p) [e] [] pos) (iEnumT X.K ta) := by
  refine ⟨fun pins s σ H R I h => ?_⟩
  refine Call_ (ld_blt I hg hm boot_enumerate (PyProof.Rows.callWith_type1 (thn (ha.run pos pins s σ H _ I h) fun us s1 ⟨vs, H1, I1, r1, q1⟩ => ?_) hs rfl))
  obtain ⟨a, xs, ex, hq, q⟩ := q1
  subst ex
  cases r1 with
  | cons r rr =>
    cases rr
    cases r
    obtain ⟨its, rv, p', hz⟩ := I1.tuple hq
    have hal : a < s1.heap.objs.size := by obtain ⟨_, e, _⟩ := id p'; exact Heap.lt_size e
    refine zcall_enumT p' fun h' he hit hk => wpAny_pyIter_enum he ?_
    have I2 : Inv X pins σ H1 { s1 with heap := h' } := I1.kept (t' := s1.toks) hk
    refine ⟨s1.heap.objs.size + 1, [s1.heap.objs.size + 1, s1.heap.objs.size], _, _, H1, rfl, I2, turn_enumT a (s1.heap.objs.size + 1) s1.heap.objs.size, ⟨⟨.none, he⟩, hit, Nat.succ_ne_self _, Nat.ne_of_lt hal, Nat.ne_of_lt (Nat.lt_succ_of_lt hal)⟩, fun b hb => ?_, q⟩
    have hle : s1.heap.objs.size ≤ b := by
      rcases List.mem_cons.mp hb with z | z
      · rw [z]; exact Nat.le_succ _
      · have : b = s1.heap.objs.size := by simpa using z
        rw [this]; exact Nat.le_refl _
    exact I1.fpOk hle (I1.hok.fresh hle)
theorem walk_enumT {K : PySem.W.Frag} {a : Addr} {xs : List V} : Walk (IteT K a) xs.length (fun H => SqT K H a xs) (YPair (fun i => some (.int (i : Nat))) (fun i => xs[i]?)) := by
  refine ⟨fun i _ hi q => ⟨xs, xs[i], q, by simp [hi]⟩, fun _ q => ⟨xs, q, rfl⟩, fun i H v H' _ q y => ?_⟩
  obtain ⟨T, x, h1, h2, h3, h4⟩ := y
  exact ⟨T, .int (i : Nat), x, h1, h2, h3, rfl, h4 xs q⟩
theorem walk_zipT {K : PySem.W.Frag} {a b : Addr} {xs ys : List V} {n : Nat} (hn : n = min xs.length ys.length) : Walk (RZ.ItzT K a b) n (fun H => SqT K H a xs ∧ SqT K H b ys) (YPair (fun i => xs[i]?) (fun i => ys[i]?)) := by
  subst hn
  refine ⟨fun i _ hi q => ?_, fun _ q => ⟨xs, ys, q.1, q.2, by omega⟩, fun i H v H' _ q y => ?_⟩
  · have h1 : i < xs.length := by omega
    have h2 : i < ys.length := by omega
    exact ⟨xs, ys, xs[i], ys[i], q.1, q.2, by simp [h1], by simp [h2]⟩
  · obtain ⟨T, x, z, h1, h2, h3, h4, h5⟩ := y
    exact ⟨T, x, z, h1, h2, h3, h4 xs q.1, h5 ys q.2⟩
/-! any(t) of a tuple of numbers -/
theorem iter_anyT {prog : Program} {w : World} {A : Around} {E : Value → Shared → Prop} {s : Shared} {l : Addr} {items : Array Value} {Q : Value → Shared → Prop} (hl : s.heap.IsTuple l items)
    (h : ∀ s₂ : Shared, s₂ = { s with heap := s.heap.push { cls := .type "tuple_iterator", data := .fields #[.ref l, .int 0 0] } } →
      (s₂.heap.IsTupleIter s.heap.objs.size l 0 ∧ s₂.heap.IsTuple l items) → l ≠ s.heap.objs.size → Q (.ref s.heap.objs.size) s₂) : wpAny (model prog w) A (pyIter (.ref l)) Q E s := by
  have hlt : l < s.heap.objs.size := by obtain ⟨_, e, _⟩ := id hl; exact Heap.lt_size e
  exact wpAny_pyIter_tuple hl (h _ rfl ⟨⟨_, Heap.get?_push_size _ rfl, rfl, rfl⟩, hl.push _⟩ (Nat.ne_of_lt hlt))
theorem truth_ints {prog : Program} {w : World} {A : Around} {ns : List Int} {its : List Value} (r : Vals (ns.map V.int) its) :
    TruthOf prog w A (fun i v => its.toArray[i]? = some v) (fun i => ns.getD i 0 != 0) := fun i v s Q E hv hq => by
  have hv' : its[i]? = some v := by simpa using hv
  have hi : i < ns.length := by
    have q := r.length
    have q2 := (List.getElem?_eq_some_iff.mp hv').1
    rw [List.length_map] at q
    omega
  obtain ⟨u, hu, ru⟩ := r.get (show (ns.map V.int)[i]? = some (V.int ns[i]) by rw [List.getElem?_map, List.getElem?_eq_getElem hi]; rfl)
  rw [hv'] at hu
  cases hu
  obtain ⟨t, rfl⟩ := ru
  have e : ns.getD i 0 = ns[i] := by simp [hi]
  have hq' : Q (ns.getD i 0 != 0) s := hq
  rw [e] at hq'
  exact PyProof.Rows.truthy_int hq'
def rAnyT (K : PySem.W.Frag) : List V → Hp → VK → Prop := fun vs H Q => ∃ (a : Addr) (ns : List Int), vs = [V.ref a] ∧ SqT K H a (ns.map V.int) ∧ Q (.bl (ns.any fun n => n != 0)) H
theorem any_rangeI : ∀ ns : List Int, (List.range ns.length).any (fun i => ns.getD i 0 != 0) = ns.any fun n => n != 0
  | [] => rfl
  | b :: bs => by
    rw [List.length_cons, List.range_succ_eq_map, List.any_cons, List.any_map, List.any_cons, ← any_rangeI bs]
    rfl
theorem cr_anyT {X : Cx} (hc : X.calm = true) : CallR X (.builtin "any") (rAnyT X.K) := by
  intro pins s σ H vs us Q I r h
  obtain ⟨a, ns, rfl, hs, q⟩ := h
  obtain ⟨its, rv, hl, _⟩ := I.tuple hs
  rw [Vals.ref1 r]
  refine call_any_walk (iter_anyT hl fun s₂ e2 st hne => ?_)
  subst e2
  refine ⟨_, _, _, _, _, _, _, rfl, Walks.tuple (A := X.A.in1) (I.ok.hd hc) _ a hne its.toArray, st, truth_ints rv, fun h' tk hk => ?_⟩
  refine ⟨.bl _, H, I.kept fun b o eo => hk b o (fun hmem => ?_) (Heap.get?_push_of_some _ eo), ?_, q⟩
  · rcases List.mem_cons.mp hmem with e1 | hmem
    · exact absurd (e1 ▸ Heap.lt_size eo) (Nat.lt_irrefl _)
    · cases hmem
  · show Value.bool _ = Value.bool _
    have q := rv.length
    rw [List.length_map] at q
    rw [← any_rangeI, List.size_toArray, ← q]
end Z
namespace Z
open PySem PySem.Spec PyProof.Rows L2 Evl
/-! ### defs: where they stand, what they promise of data -/
def Dn (P : Program) (w : World) (K : PySem.W.Frag) (mg : Str → Option Value) (base : Heap) (CX : CXT) (k : Nat) (x : Str) (ps : List Str) (sp : Sp) : Prop :=
  ∃ f fd, FnOk P w K mg base CX k f fd ps sp ∧ mg x = some (.ref f) ∧ PySem.W.keepIn K (.ref f) = true ∧ Binds K fd ps []
theorem pe_cd {X : Cx} {x : Str} {ps : List Str} {sp : Sp} {k k' : Nat} {e : Expr} {es : List Expr} {t : TA} {p pos : Pos} (D : Dn X.prog X.w X.K X.mg X.base CX0 k x ps sp) (hr : Room k' X.A) (hk : k ≤ k') (hg : Gl X x) (ha : PA X (e :: es) t)
    (hdb : (x == ("__debug__" : Str)) = false := by decide) (he : starEach (e :: es) X.env = (false, eval e X.env) :: starEach es X.env := by rfl) (hpl : (backTo pos (starEach es X.env)).any (·.1) = false := by rfl) :
    PE X (.Call (.Name x p) (e :: es) [] pos) (tCall sp [] E0 t) := by
  obtain ⟨f, fd, F, m, kp, b⟩ := D
  exact pe_call F (hr.mono hk) hg m kp b .nil pass0 ha hdb he hpl
/-- a def of data: F of the arguments' data and of the result's; nothing that stood is changed -/
def SpD (K : PySem.W.Frag) (F : List PyData → PyData → Prop) : Sp := fun vs A Q _ => ∃ H ds d, Reg .non H A ∧ DqAll K H vs ds ∧ F ds d ∧ ∀ v A' H', Gr .non A H A' H' → Dq K H' v d → Q v A'
section
variable {K : PySem.W.Frag} {p : Me} {σ : L2.St} {H H' A A' : Hp} {te ta tb tc tl ti : TE} {tt : TT} {tu tz : TS} {D : Ends} {d dx dy dz : PyData} {ds es : List PyData}
theorem d_call {F : List PyData → PyData → Prop} {E : XK} {ta : TA} (h : EvS K p ta σ H ds) (hF : F ds d) : EvD K p (tCall (SpD K F) [] E ta) σ H d := fun A R Q q => h A R _ fun vs A1 H1 g1 k1 => by
  have R1 := g1.to R
  rw [List.append_nil]
  exact ⟨H1, ds, d, R1.nil, k1, hF, fun v A2 H2 g2 k2 => q v A2 H2 (g1.trans (g2.pure R1)) k2⟩
theorem spD_len {F : List PyData → PyData → Prop} {n : Nat} {vs : List V} {A : Hp} {Q : VK} {E : XK} (h : SpD K F vs A Q E) (hl : ∀ ds d, F ds d → ds.length = n) : vs.length = n := by
  obtain ⟨H, ds, d, _, k, f, _⟩ := h
  rw [dqall_len k, hl ds d f]
/-! ### names of the built-ins, none bound by the module -/
structure Bs (mg : Str → Option Value) : Prop where
  isinstance : mg "isinstance" = none
  len : mg "len" = none
  all : mg "all" = none
  any : mg "any" = none
  tuple : mg "tuple" = none
  list : mg "list" = none
  int : mg "int" = none
  bool : mg "bool" = none
  abs : mg "abs" = none
  range : mg "range" = none
  zip : mg "zip" = none
  enumerate : mg "enumerate" = none
  sum : mg "sum" = none
  max : mg "max" = none
  min : mg "min" = none
theorem pty {X : Cx} {x : Str} {T : String} {p : Pos} (hg : Gl X x) (hm : X.mg x = none) (hv : bootBuiltins x = some (.type T)) (hn : x ≠ "__name__" := by decide) (hd : (x == ("__debug__" : Str)) = false := by decide) : PE X (.Name x p) (tC (.ty T)) :=
  pe_bltn hg hm hv rfl hn hd
/-! ### isinstance of data and a built-in type -/
theorem tyx_of {v : V} (R : Reg p H A) (h : Dq K H v d) : TyX K A v (.type (tyD d)) := by
  cases h with
  | non => exact .base .non
  | bl b => exact .base (.bl b)
  | int i => exact .base (.int i)
  | str x => exact .base (.str x)
  | lst h _ => exact .base (.lst (R.ex _ _ h))
  | tup h _ =>
    rcases h with (h | ⟨o, h⟩) | ⟨o, its, n, h, c, _⟩
    · exact .base (.tup (R.ex _ _ h))
    · exact .fTuple (R.ex _ _ h)
    · exact .kTuple h c
  | dic h => exact .base (.dK (R.ex _ _ h))
theorem d_isi {T : String} {b : Bool} (h : EvD K p te σ H d) (hk : kitB (tyD d) T = some b) : EvD K p (tCB (rIsi K) (tCons te (tCons (tC (.ty T)) tNil))) σ H (.bool b) := fun A R Q q => h A R _ fun v A1 H1 g1 k1 => by
  refine ⟨v, .ty T, .type (tyD d), .type T, b, rfl, .ty T, tyx_of (g1.to R) k1, kit_ty hk, q _ A1 H1 g1 (.bl b)⟩
/-! ### scalars compared -/
theorem o_eqI {i j : Int} : OpD K p rEq (.int i) (.int j) (.bool (decide (i = j))) := fun x y H A hx hy R Q q => by
  cases hx; cases hy
  refine ⟨rfl, ?_⟩
  have e : decide (V.int i = V.int j) = decide (i = j) := by
    by_cases c : i = j
    · subst c; simp
    · simp [c]
  rw [e]
  exact q _ A H R.refl (.bl _)
theorem o_neI {i j : Int} : OpD K p rNe (.int i) (.int j) (.bool (!decide (i = j))) := fun x y H A hx hy R Q q => by
  cases hx; cases hy
  refine ⟨rfl, ?_⟩
  have e : decide (V.int i = V.int j) = decide (i = j) := by
    by_cases c : i = j
    · subst c; simp
    · simp [c]
  rw [e]
  exact q _ A H R.refl (.bl _)
theorem c_int1 {i : Int} : CaD K p (fun xs H Q => (∃ i, xs = [V.int i] ∧ Q (.int i) H) ∨ ∃ k, xs = [V.bl k] ∧ Q (.int (if k then 1 else 0)) H) [.int i] (.int i) := fun vs H A h R Q q => by
  obtain ⟨v, rfl, k⟩ := dqall_one h
  cases k
  exact .inl ⟨i, rfl, q _ A H R.refl (.int i)⟩
theorem c_intB {b : Bool} : CaD K p (fun xs H Q => (∃ i, xs = [V.int i] ∧ Q (.int i) H) ∨ ∃ k, xs = [V.bl k] ∧ Q (.int (if k then 1 else 0)) H) [.bool b] (.int (if b then 1 else 0)) := fun vs H A h R Q q => by
  obtain ⟨v, rfl, k⟩ := dqall_one h
  cases k
  exact .inr ⟨b, rfl, q _ A H R.refl (.int _)⟩
theorem c_anyT {ns : List Int} : CaD K p (rAnyT K) [.tuple (ns.map .int)] (.bool (ns.any fun n => n != 0)) := fun vs H A h R Q q => by
  obtain ⟨v, rfl, k⟩ := dqall_one h
  obtain ⟨a, xs, rfl, h1, h2⟩ := dq_inv_t k
  have := dq_ints h2
  subst this
  exact ⟨a, ns, rfl, ex_t R.ex h1, q _ A H R.refl (.bl _)⟩
theorem u_neg {i : Int} : UnD K p (rU fun i => .int (-i)) (.int i) (.int (-i)) := fun x H A hx R Q q => by
  cases hx
  exact ⟨i, rfl, q _ A H R.refl (.int _)⟩
theorem dqall_append {xs ys : List V} (a1 : DqAll K H xs ds) (a2 : DqAll K H ys es) : DqAll K H (xs ++ ys) (ds ++ es) := by
  induction ds generalizing xs with
  | nil => cases a1; exact a2
  | cons c cs ih => cases a1 with | cons b1 b2 => exact .cons b1 (ih b2)
theorem o_cat (hl : ds.length + es.length ≤ 100000) : OpD K p rCat (.list ds) (.list es) (.list (ds ++ es)) := fun x y H A hx hy R Q q => by
  obtain ⟨a, xs, rfl, h1, h2⟩ := dq_inv_l hx
  obtain ⟨b, ys, rfl, h3, h4⟩ := dq_inv_l hy
  refine ⟨a, b, xs, ys, rfl, rfl, R.ex _ _ h1, R.ex _ _ h3, sz_of (by rw [dqall_len h2, dqall_len h4]; exact hl), fun l hn => ?_⟩
  have g := Gr.alloc R (o := .lst (xs ++ ys)) hn
  refine q _ _ _ g (.lst upd_same ?_)
  exact dqall_append (dqall_ex g.reg h2) (dqall_ex g.reg h4)
theorem dqall_set {xs : List V} {v : V} (h : DqAll K H xs ds) (k : Dq K H v d) (j : Nat) : DqAll K H (xs.set j v) (ds.set j d) := by
  induction ds generalizing xs j with
  | nil => cases h; exact .nil
  | cons c cs ih =>
    cases h with | cons a b =>
    cases j with
    | zero => exact .cons k b
    | succ j => exact .cons a (ih b j)
/-! ### a list of one's own: q holds xs, which stand for ds -/
theorem d_ixOwn {i : Nat} {q : Addr} {xs : List V} {z : Int} (hs : σ[i]? = some (some (.ref q))) (ho : p.own q = some (.lst xs)) (hx : DqAll K H xs ds) (hi : EvD K p ti σ H (.int z)) (e : atI ds z = some d) : EvD K p (tOp (rIx K) (tVar i) ti) σ H d := fun A R Q k =>
  ⟨.ref q, hs, hi A R _ fun y A1 H1 g1 k1 => by
    cases k1
    have R1 := g1.to R
    obtain ⟨v, e1, kv⟩ := dqall_at (dqall_ex g1.reg hx) e
    exact .inl ⟨q, xs, z, v, rfl, rfl, sq_of (R1.own _ _ ho), e1, k v A1 H1 g1 kv⟩⟩
theorem d_lenOwn {X : Cx} {i : Nat} {q : Addr} {xs : List V} (hs : σ[i]? = some (some (.ref q))) (ho : p.own q = some (.lst xs)) (hx : DqAll K H xs ds) :
    EvD K p (tCB (fun xs H Q => ∃ q ys, xs = [.ref q] ∧ (SqL X.K H q ys ∨ SqT X.K H q ys) ∧ Q (.int ys.length) H) (tCons (tVar i) tNil)) σ H (.int ds.length) := fun A R Q k => by
  refine ⟨.ref q, hs, q, xs, rfl, .inl (sq_of (R.own _ _ ho)), ?_⟩
  rw [dqall_len hx]
  exact k _ A H R.refl (.int _)
/-- q[z] = e -/
theorem s_setOwn {i : Nat} {q : Addr} {xs : List V} {z : Int} {j : Nat} (hs : σ[i]? = some (some (.ref q))) (ho : p.own q = some (.lst xs)) (h : EvD K p te σ H d) (hi : ∀ H', Ex H H' → EvD K p ti σ H' (.int z)) (hj : ixN xs.length z = some j) (R : Reg p H A)
    (k : ∀ v A' H', Gr p A H A' H' → Dq K H' v d → Reg ⟨p.pool, upd p.own q (.lst (xs.set j v))⟩ H' (upd A' q (.lst (xs.set j v))) → D.nx σ (upd A' q (.lst (xs.set j v)))) : tAsg te (gSub (tVar i) ti rSetL) D σ A :=
  h A R _ fun v A1 H1 g1 k1 => ⟨.ref q, hs, hi H1 g1.reg A1 (g1.to R) _ fun y A2 H2 g2 k2 => by
    cases k2
    have g := g1.trans g2
    have R2 := g.to R
    exact ⟨q, xs, z, j, rfl, rfl, R2.own _ _ ho, hj, k v A2 H2 g (dq_ex g2.reg _ _ k1) (R2.put (R2.offO q _ ho).2 (R2.offO q _ ho).1)⟩⟩
/-- q.append(e) -/
theorem s_appOwn {i : Nat} {q : Addr} {xs : List V} (hs : σ[i]? = some (some (.ref q))) (ho : p.own q = some (.lst xs)) (h : EvD K p te σ H d) (hz : xs.length < 100000) (R : Reg p H A)
    (k : ∀ v A' H', Gr p A H A' H' → Dq K H' v d → Reg ⟨p.pool, upd p.own q (.lst (xs ++ [v]))⟩ H' (upd A' q (.lst (xs ++ [v]))) → D.nx σ (upd A' q (.lst (xs ++ [v])))) : tDrop (tBM K "list" rAppend (tVar i) (tCons te tNil)) D σ A :=
  ⟨.ref q, hs, .inl ⟨rfl, xs, sq_of (R.own _ _ ho)⟩, h A R _ fun v A1 H1 g1 k1 => by
    have R1 := g1.to R
    exact ⟨q, xs, v, rfl, rfl, R1.own _ _ ho, sz_lt hz, k v A1 H1 g1 k1 (R1.put (R1.offO q _ ho).2 (R1.offO q _ ho).1)⟩⟩
/-- a new list that is one's own -/
theorem q_newOwn {i : Nat} {ta : TA} (h : EvS K p ta σ H ds) (hl : ds.length ≤ 100000) (R : Reg p H A)
    (k : ∀ q xs A' H', Gr p A H A' H' → p.own q = none → A q = none → DqAll K H' xs ds → Reg ⟨p.pool, upd p.own q (.lst xs)⟩ H' A' → A' q = some (.lst xs) → tz D (σ.set i (some (.ref q))) A') : tSeq (tAsg (tLst ta) (gName i)) tz D σ A :=
  h A R _ fun vs A1 H1 g1 k1 => ⟨by rw [dqall_len k1]; exact sz_of hl, fun l hn => by
    have R1 := g1.to R
    have hnp : p.pool ≠ some l := fun z => by
      obtain ⟨a, b, e, _⟩ := R1.pool l z
      rw [hn] at e; cases e
    have hno : p.own l = none := by
      cases e : p.own l with
      | none => rfl
      | some o => have := R1.own _ _ e; rw [hn] at this; cases this
    have hnA : A l = none := by
      cases e : A l with
      | none => rfl
      | some o => obtain ⟨o', e'⟩ := g1.dom l o e; rw [hn] at e'; cases e'
    have hnH : H1 l = none := fresh_back R1.ex hn
    exact k l vs _ H1 (g1.trans (Gr.allocM R1 hn)) hno hnA k1 (R1.put hnp hnH) upd_same⟩
end
end Z
namespace Z
open PySem PySem.Spec PyProof.Rows L2 Evl
/-! ### what may be a list or a tuple, walked -/
def iSeq (K : PySem.W.Frag) (tl : TE) : TI := fun σ H R => tl σ H fun x H1 => ∃ a, x = .ref a ∧ (((∃ xs, SqL K H1 a xs) ∧ R (Itl K a) H1) ∨ ((∃ xs, SqT K H1 a xs) ∧ R (Itt K a) H1))
theorem pi_seq {X : Cx} {tg l : Expr} {tl : TE} (hl : PE X l tl) : PI X tg l (iSeq X.K tl) := by
  constructor
  intro pins s σ H R I h
  refine thn (hl.run pins s σ H _ I h) ?_
  rintro v s1 ⟨x, H1, I1, r1, a, rfl, q1⟩
  cases r1
  have fin : ∀ b ∈ [s1.heap.objs.size], FpOk X pins H1 b := fun b hb => by
    rw [show b = s1.heap.objs.size by simpa using hb]
    exact I1.fpOk (Nat.le_refl _) (I1.hok.fresh (Nat.le_refl _))
  rcases q1 with ⟨⟨xs, hq⟩, q⟩ | ⟨⟨xs, hq⟩, q⟩
  · obtain ⟨its, rv, p, hz⟩ := I1.list hq
    exact wpAny_pyIter_list p.isList ⟨_, [_], _, _, H1, rfl, I1.kept (t' := s1.toks) fun b o e => Heap.get?_push_of_some _ e, turn_list a _, ⟨_, Heap.get?_push_size _ rfl, rfl, rfl⟩, fin, q⟩
  · obtain ⟨its, rv, p, hz⟩ := I1.tuple hq
    exact wpAny_pyIter_tuple (show s1.heap.IsTuple a its.toArray from p) ⟨_, [_], _, _, H1, rfl, I1.kept (t' := s1.toks) fun b o e => Heap.get?_push_of_some _ e, turn_tuple a _, ⟨_, Heap.get?_push_size _ rfl, rfl, rfl⟩, fin, q⟩
section
variable {K : PySem.W.Frag} {p : Me} {σ : L2.St} {H H' A A' : Hp} {te ta tb tc tl ti : TE} {tt : TT} {tu tz : TS} {D : Ends} {d dx dy dz : PyData} {ds es : List PyData}
def IsSeq (d : PyData) (ds : List PyData) : Prop := d = .list ds ∨ d = .tuple ds
theorem s_forQ {j : Nat} (h : EvD K p tl σ H d) (hd0 : IsSeq d ds) (R : Reg p H A) (I : Iv) (h0 : ∀ A1 H1, Gr p A H A1 H1 → I 0 σ A1 H1 p.own)
    (hs : ∀ H1, Ex H H1 → ∀ i d v σ' A' H' w, ds[i]? = some d → I i σ' A' H' w → Ex H1 H' → Reg ⟨p.pool, w⟩ H' A' → Dq K H' v d → tu { D with nx := Nx p (I (i + 1)) H1, ct := Nx p (I (i + 1)) H1, bk := D.nx } (σ'.set j (some v)) A')
    (hd : ∀ σ' A' H' w, I ds.length σ' A' H' w → Ex H H' → Reg ⟨p.pool, w⟩ H' A' → D.nx σ' A') : tFor (iSeq K tl) (gName j) tu D σ A := by
  rcases hd0 with rfl | rfl
  · have q := s_forL (tu := tu) (D := D) (j := j) (K := K) h R I h0 hs hd
    exact h A R _ fun v A1 H1 g1 k1 => by
      obtain ⟨a, xs, rfl, sq, el⟩ := dq_inv_l k1
      have R1 := g1.to R
      have ln := dqall_len el
      refine ⟨a, rfl, .inl ⟨⟨xs, sq_of (R1.ex _ _ sq)⟩, loop_w (walk_list (K := K) (a := a) (xs := xs)) I R1 (fun H' A' w e r => sq_of ((e.trans r.ex) _ _ sq)) (h0 A1 H1 g1) ?_ ?_⟩⟩
      · rintro i x σ' A' A2 H' w hi hI e r ⟨rfl, hx⟩
        have hi' : i < ds.length := by omega
        obtain ⟨v, hv, kv⟩ := dqall_get el (List.getElem?_eq_getElem hi')
        rw [hx] at hv
        cases hv
        exact hs H1 g1.reg i _ x σ' A2 H' w (List.getElem?_eq_getElem hi') hI e r (dq_ex e _ _ kv)
      · intro σ' A' H' w hI e r
        rw [ln] at hI
        exact hd σ' A' H' w hI (g1.reg.trans e) r
  · exact h A R _ fun v A1 H1 g1 k1 => by
      obtain ⟨a, xs, rfl, sq, el⟩ := dq_inv_t k1
      have R1 := g1.to R
      have ln := dqall_len el
      refine ⟨a, rfl, .inr ⟨⟨xs, ex_t R1.ex sq⟩, loop_w (walk_tup (K := K) (a := a) (xs := xs)) I R1 (fun H' A' w e r => ex_t (e.trans r.ex) sq) (h0 A1 H1 g1) ?_ ?_⟩⟩
      · rintro i x σ' A' A2 H' w hi hI e r ⟨rfl, hx⟩
        have hi' : i < ds.length := by omega
        obtain ⟨v, hv, kv⟩ := dqall_get el (List.getElem?_eq_getElem hi')
        rw [hx] at hv
        cases hv
        exact hs H1 g1.reg i _ x σ' A2 H' w (List.getElem?_eq_getElem hi') hI e r (dq_ex e _ _ kv)
      · intro σ' A' H' w hI e r
        rw [ln] at hI
        exact hd σ' A' H' w hI (g1.reg.trans e) r
theorem d_lcQ {j : Nat} {vs : List Nat} (f : PyData → Bool) (v : PyData → PyData) (h : EvD K p tl σ H d) (hd0 : IsSeq d ds) (hz : ds.length ≤ 60000) (hw : ∀ x, wipe ((wipe σ vs).set j (some x)) vs = wipe σ vs)
    (ht : ∀ c ∈ ds, ∀ x H1, Ex H H1 → Dq K H1 x c → EvB p tt ((wipe σ vs).set j (some x)) H1 (f c)) (he : ∀ c ∈ ds, ∀ x H1, Ex H H1 → Dq K H1 x c → f c = true → EvD K p te ((wipe σ vs).set j (some x)) H1 (v c)) :
    EvD K p (tLc (iSeq K tl) (gName j) tt te vs) σ H (.list ((ds.filter f).map v)) := by
  rcases hd0 with rfl | rfl
  · exact fun A R Q q => h A R _ fun x A1 H1 g1 k1 => by
      obtain ⟨a, xs, rfl, sq, el⟩ := dq_inv_l k1
      have h1 : EvD K p (fun _ A Q => Q (.ref a) A) σ H1 (.list ds) := fun A R Q q => q _ A H1 R.refl (.lst sq el)
      have q2 := d_lcL (tl := fun _ A Q => Q (.ref a) A) (K := K) (p := p) (j := j) (vs := vs) (te := te) (tt := tt) f v h1 hz hw (fun c hc x H2 e k => ht c hc x H2 (g1.reg.trans e) k) (fun c hc x H2 e k => he c hc x H2 (g1.reg.trans e) k)
      have q3 := q2 A1 (g1.to R) Q fun v A2 H2 g2 k2 => q v A2 H2 (g1.trans g2) k2
      obtain ⟨a', e, hx, q4⟩ := q3
      exact ⟨a', e, .inl ⟨hx, q4⟩⟩
  · exact fun A R Q q => h A R _ fun x A1 H1 g1 k1 => by
      obtain ⟨a, xs, rfl, sq, el⟩ := dq_inv_t k1
      have h1 : EvD K p (fun _ A Q => Q (.ref a) A) σ H1 (.tuple ds) := fun A R Q q => q _ A H1 R.refl (.tup sq el)
      have q2 := d_lcT (tl := fun _ A Q => Q (.ref a) A) (K := K) (p := p) (j := j) (vs := vs) (te := te) (tt := tt) f v h1 hz hw (fun c hc x H2 e k => ht c hc x H2 (g1.reg.trans e) k) (fun c hc x H2 e k => he c hc x H2 (g1.reg.trans e) k)
      have q3 := q2 A1 (g1.to R) Q fun v A2 H2 g2 k2 => q v A2 H2 (g1.trans g2) k2
      obtain ⟨a', e, hx, q4⟩ := q3
      exact ⟨a', e, .inr ⟨hx, q4⟩⟩
theorem c_tupleQ {X : Cx} (hK : X.K = K) (hd0 : IsSeq d ds) : CaD K p (fun xs H Q => ∃ q ys, xs = [.ref q] ∧ ((SqL X.K H q ys ∧ ∀ l, H l = none → Q (.ref l) (upd H l (.tup ys))) ∨ (SqT X.K H q ys ∧ Q (.ref q) H))) [d] (.tuple ds) := by
  rcases hd0 with rfl | rfl
  · exact c_tuple hK
  · exact fun vs H A h R Q q => by
      obtain ⟨v, rfl, k⟩ := dqall_one h
      obtain ⟨a, xs, rfl, h1, h2⟩ := dq_inv_t k
      exact ⟨a, xs, rfl, .inr ⟨by rw [hK]; exact ex_t R.ex h1, q _ A H R.refl k⟩⟩
/-! ### for i, x in enumerate(t) -/
theorem gtup2 {a b : Nat} {T : Addr} {x y : V} {A : Hp} {Q : L2.St → Hp → Prop} (h : A T = some (.tup [x, y])) (q : Q ((σ.set a (some x)).set b (some y)) A) : gTup K 2 (gCons (gName a) (gCons (gName b) gNil)) (.ref T) σ A Q :=
  ⟨T, [x, y], rfl, st_of h, rfl, x, [y], rfl, y, [], rfl, rfl, q⟩
theorem s_forE {a b : Nat} {ta : TA} (h : EvS K p ta σ H [.tuple ds]) (R : Reg p H A) (I : Iv) (h0 : ∀ A1 H1, Gr p A H A1 H1 → I 0 σ A1 H1 p.own)
    (hs : ∀ H1, Ex H H1 → ∀ (i : Nat) d v σ' A' A2 H' w, ds[i]? = some d → I i σ' A' H' w → Ex H1 H' → Gr ⟨p.pool, w⟩ A' H' A2 H' → Reg ⟨p.pool, w⟩ H' A2 → Dq K H' v d → tu { D with nx := Nx p (I (i + 1)) H1, ct := Nx p (I (i + 1)) H1, bk := D.nx } ((σ'.set a (some (.int i))).set b (some v)) A2)
    (hd : ∀ σ' A' H' w, I ds.length σ' A' H' w → Ex H H' → Reg ⟨p.pool, w⟩ H' A' → D.nx σ' A') : tFor (iEnumT K ta) (gTup K 2 (gCons (gName a) (gCons (gName b) gNil))) tu D σ A := h A R _ fun us A1 H1 g1 k1 => by
  obtain ⟨v0, rfl, k1x⟩ := dqall_one k1
  obtain ⟨t, xs, rfl, sq, el⟩ := dq_inv_t k1x
  have R1 := g1.to R
  have ln := dqall_len el
  refine ⟨t, xs, rfl, ex_t R1.ex sq, loop_w (walk_enumT (K := K) (a := t) (xs := xs)) I R1 (fun H' A' w e r => ex_t (e.trans r.ex) sq) (h0 A1 H1 g1) ?_ ?_⟩
  · rintro i x σ' A' A2 H' w hi hI e r ⟨T, y1, y2, rfl, nT, rfl, e1, e2⟩
    cases e1
    have hi' : i < ds.length := by omega
    obtain ⟨v, hv, kv⟩ := dqall_get el (List.getElem?_eq_getElem hi')
    cases (show xs[i]? = some y2 from e2).symm.trans hv
    have g := Gr.allocM r (o := .tup [.int (i : Int), y2]) nT
    refine gtup2 upd_same ?_
    exact hs H1 g1.reg i _ y2 σ' A' _ H' w (List.getElem?_eq_getElem hi') hI e g (g.to r) (dq_ex e _ _ kv)
  · intro σ' A' H' w hI e r
    rw [ln] at hI
    exact hd σ' A' H' w hI (g1.reg.trans e) r
/-! ### zip -/
/-- [te for x, y in zip(s, t)], s and t tuples -/
theorem d_lcZ {a b : Nat} {vs : List Nat} {ta : TA} {n : Nat} (v : Nat → PyData) (h : EvS K p ta σ H [.tuple ds, .tuple es]) (hn : n = min ds.length es.length) (hz : n ≤ 60000) (hw : ∀ x y, wipe (((wipe σ vs).set a (some x)).set b (some y)) vs = wipe σ vs)
    (he : ∀ i c e, ds[i]? = some c → es[i]? = some e → ∀ x y H1, Ex H H1 → Dq K H1 x c → Dq K H1 y e → EvD K p te (((wipe σ vs).set a (some x)).set b (some y)) H1 (v i)) :
    EvD K p (tLc (RZ.iZipA K ta) (gTup K 2 (gCons (gName a) (gCons (gName b) gNil))) tYes te vs) σ H (.list ((List.range n).map v)) := fun A R Q q => h A R _ fun us A1 H1 g1 k1 => by
  obtain ⟨u1, u2, rfl, k1, k2⟩ := dqall_two k1
  obtain ⟨t, xs, rfl, sq, el⟩ := dq_inv_t k1
  obtain ⟨t2, ys, rfl, sq2, el2⟩ := dq_inv_t k2
  have R1 := g1.to R
  have ln := dqall_len el
  have ln2 := dqall_len el2
  refine ⟨t, t2, xs, ys, rfl, .inr ⟨ex_t R1.ex sq, ex_t R1.ex sq2, fun Dl hD => lc_w (K := K) (p := p) (H1 := H1) (walk_zipT (K := K) (a := t) (b := t2) (xs := xs) (ys := ys) (n := n) (by rw [hn, ln, ln2])) R1 hD hz (fun _ => true) v (fun H' A' e r => ⟨ex_t (e.trans r.ex) sq, ex_t (e.trans r.ex) sq2⟩) ?_ ?_ ?_⟩⟩
  · rintro i x A' A2 H' hi e r ⟨T, y1, y2, rfl, nT, rfl, e1, e2⟩
    have hi1 : i < ds.length := by omega
    have hi2 : i < es.length := by omega
    obtain ⟨w1, hv, kv⟩ := dqall_get el (List.getElem?_eq_getElem hi1)
    cases (show xs[i]? = some y1 from e1).symm.trans hv
    obtain ⟨w2, hv, kv2⟩ := dqall_get el2 (List.getElem?_eq_getElem hi2)
    cases (show ys[i]? = some y2 from e2).symm.trans hv
    have g := Gr.allocM r (o := .tup [y1, y2]) nT
    refine gtup2 upd_same ⟨hw _ _, H', g, b_yes, fun _ => ?_⟩
    exact he i _ _ (List.getElem?_eq_getElem hi1) (List.getElem?_eq_getElem hi2) y1 y2 H' (g1.reg.trans e) (dq_ex e _ _ kv) (dq_ex e _ _ kv2)
  · rintro x σ A Q Q' hq ⟨a, zs, e1, e2, e3, z1, r1, e4, z2, r2, e5, e6, q⟩
    exact ⟨a, zs, e1, e2, e3, z1, r1, e4, z2, r2, e5, e6, hq _ _ q⟩
  · intro A' H' zs g n' e k
    rw [List.filter_eq_self.mpr (fun _ _ => rfl)] at k
    exact done_lc R1 hD g n' e k fun v A2 H2 g2 k2 => q v A2 H2 (g1.trans g2) k2
/-- for x, y in zip(s, t), s and t lists of one length -/
theorem s_forZ {a b : Nat} {ta : TA} (h : EvS K p ta σ H [.list ds, .list es]) (hl : ds.length = es.length) (R : Reg p H A) (I : Iv) (h0 : ∀ A1 H1, Gr p A H A1 H1 → I 0 σ A1 H1 p.own)
    (hs : ∀ H1, Ex H H1 → ∀ (i : Nat) d e v u σ' A' A2 H' w, ds[i]? = some d → es[i]? = some e → I i σ' A' H' w → Ex H1 H' → Gr ⟨p.pool, w⟩ A' H' A2 H' → Reg ⟨p.pool, w⟩ H' A2 → Dq K H' v d → Dq K H' u e → tu { D with nx := Nx p (I (i + 1)) H1, ct := Nx p (I (i + 1)) H1, bk := D.nx } ((σ'.set a (some v)).set b (some u)) A2)
    (hd : ∀ σ' A' H' w, I ds.length σ' A' H' w → Ex H H' → Reg ⟨p.pool, w⟩ H' A' → D.nx σ' A') : tFor (RZ.iZipA K ta) (gTup K 2 (gCons (gName a) (gCons (gName b) gNil))) tu D σ A := h A R _ fun us A1 H1 g1 k1 => by
  obtain ⟨u1, u2, rfl, k1, k2⟩ := dqall_two k1
  obtain ⟨t, xs, rfl, sq, el⟩ := dq_inv_l k1
  obtain ⟨t2, ys, rfl, sq2, el2⟩ := dq_inv_l k2
  have R1 := g1.to R
  have ln := dqall_len el
  have ln2 := dqall_len el2
  refine ⟨t, t2, xs, ys, rfl, .inl ⟨sq_of (R1.ex _ _ sq), sq_of (R1.ex _ _ sq2), loop_w (walk_zip (K := K) (a := t) (b := t2) (xs := xs) (ys := ys) (n := ds.length) (by omega)) I R1 (fun H' A' w e r => ⟨sq_of ((e.trans r.ex) _ _ sq), sq_of ((e.trans r.ex) _ _ sq2)⟩) (h0 A1 H1 g1) ?_ (fun σ' A' H' w hI e r => hd σ' A' H' w hI (g1.reg.trans e) r)⟩⟩
  · rintro i x σ' A' A2 H' w hi hI e r ⟨T, y1, y2, rfl, nT, rfl, e1, e2⟩
    have hi2 : i < es.length := by omega
    obtain ⟨w1, hv, kv⟩ := dqall_get el (List.getElem?_eq_getElem hi)
    cases (show xs[i]? = some y1 from e1).symm.trans hv
    obtain ⟨w2, hv, kv2⟩ := dqall_get el2 (List.getElem?_eq_getElem hi2)
    cases (show ys[i]? = some y2 from e2).symm.trans hv
    have g := Gr.allocM r (o := .tup [y1, y2]) nT
    refine gtup2 upd_same ?_
    exact hs H1 g1.reg i _ _ y1 y2 σ' A' _ H' w (List.getElem?_eq_getElem hi) (List.getElem?_eq_getElem hi2) hI e g (g.to r) (dq_ex e _ _ kv) (dq_ex e _ _ kv2)
/-! ### lcm, [x] * n -/
def rLcm : List V → Hp → VK → Prop := fun vs H Q => ∃ a b : Int, vs = [.int a, .int b] ∧ a.natAbs < 2 ^ 13000 ∧ b.natAbs < 2 ^ 13000 ∧ Q (.int ((Nat.lcm a.natAbs b.natAbs : Nat) : Int)) H
end
end Z
namespace Z
open PySem PySem.Spec PyProof.Rows L2 Evl
theorem log2_30 {n : Nat} (h : n < 2 ^ 13000) : n.log2 / 30 + 1 ≤ 450 := by
  have : n.log2 < 13000 := PySem.Flt.log2_lt_of (by decide) h
  omega
theorem cr_lcm {X : Cx} : CallR X (.builtin "math.lcm") rLcm := by
  intro pins s σ H vs us Q I r h
  obtain ⟨a, b, rfl, ha, hb, q⟩ := h
  obtain ⟨t, u, rfl⟩ := Vals.int2 r
  have h1 : 1 < 2 ^ 13000 := Nat.one_lt_two_pow (by decide)
  have l1 := log2_30 (show max 1 a.natAbs < 2 ^ 13000 from Nat.max_lt.mpr ⟨h1, ha⟩)
  have l2 := log2_30 (show max a.natAbs b.natAbs < 2 ^ 13000 from Nat.max_lt.mpr ⟨ha, hb⟩)
  have e1 : Nat.lcm 1 a.natAbs = a.natAbs := Nat.lcm_one_left _
  have hs : (((Nat.lcm 1 a.natAbs).lcm b.natAbs : Nat) : Int).natAbs.log2 < bitsLine := by
    rw [e1]
    have l : a.natAbs.lcm b.natAbs < 2 ^ 26000 := by
      have l0 : a.natAbs.lcm b.natAbs ≤ a.natAbs * b.natAbs := by
        by_cases z : a.natAbs * b.natAbs = 0
        · rcases Nat.mul_eq_zero.mp z with z | z <;> rw [z] <;> simp
        · exact Nat.le_of_dvd (Nat.pos_of_ne_zero z) (Nat.lcm_dvd_mul _ _)
      refine Nat.lt_of_le_of_lt l0 ?_
      have e : (2 : Nat) ^ 26000 = 2 ^ 13000 * 2 ^ 13000 := by rw [← Nat.pow_add]
      rw [e]
      exact Nat.mul_lt_mul'' ha hb
    have := PySem.Flt.log2_lt_of (by decide) l
    have b0 : (26000 : Nat) ≤ bitsLine := by decide
    show (a.natAbs.lcm b.natAbs).log2 < bitsLine
    omega
  refine call_function_meets PySem.W.MGF.kind_lcm PySem.W.MGF.plain_lcm PySem.W.MGF.entry_lcm (PySem.W.MGF.args_lcm _ _) (PySem.W.mg_run_lcm a t b u (by omega) (by omega) hs).meets ?_
  rw [e1]
  exact ⟨.int _, H, I.tok _, ⟨_, rfl⟩, q⟩
section
variable {K : PySem.W.Frag} {p : Me} {σ : L2.St} {H H' A A' : Hp} {te ta tb tc tl ti : TE} {tt : TT} {tu tz : TS} {D : Ends} {d dx dy dz : PyData} {ds es : List PyData}
theorem c_lcm {i j : Int} (hi : i.natAbs < 2 ^ 13000) (hj : j.natAbs < 2 ^ 13000) : CaD K p rLcm [.int i, .int j] (.int ((Nat.lcm i.natAbs j.natAbs : Nat) : Int)) := fun vs H A h R Q q => by
  obtain ⟨v, w, rfl, k1, k2⟩ := dqall_two h
  cases k1; cases k2
  exact ⟨i, j, rfl, hi, hj, q _ A H R.refl (.int _)⟩
theorem flat_one {v : V} : ∀ n : Nat, (List.replicate n [v]).flatten = List.replicate n v
  | 0 => rfl
  | n + 1 => by rw [List.replicate_succ, List.flatten_cons, flat_one n, List.replicate_succ]; rfl
theorem dq_rep {G : Hp} {v : V} (h : Dq K G v d) : ∀ n : Nat, DqAll K G (List.replicate n v) (List.replicate n d)
  | 0 => .nil
  | n + 1 => .cons h (dq_rep h n)
theorem o_rep1 {n : Nat} (hn : n ≤ 60000) : OpD K p rRep (.list [d]) (.int n) (.list (List.replicate n d)) := fun x y H A hx hy R Q q => by
  cases hy
  obtain ⟨a, xs, rfl, h1, h2⟩ := dq_inv_l hx
  obtain ⟨v, rfl, kv⟩ := dqall_one h2
  refine ⟨a, n, [v], rfl, rfl, R.ex _ _ h1, by omega, by omega, sz_of (by simpa using Nat.le_trans hn (by decide)), fun l hl => ?_⟩
  have e : (List.replicate ((n : Int).toNat) [v]).flatten = List.replicate n v := by
    rw [Int.toNat_natCast]
    exact flat_one n
  rw [e]
  have g := Gr.alloc R (o := .lst (List.replicate n v)) hl
  exact q _ _ _ g (.lst upd_same (dq_rep (dq_ex g.reg _ _ kv) n))
theorem inV_ints {i : Int} : ∀ ns : List Int, inV (.int i) (ns.map V.int) = decide (i ∈ ns)
  | [] => rfl
  | n :: ns => by
    have ih := inV_ints (i := i) ns
    unfold inV at ih ⊢
    rw [List.map_cons, List.any_cons, ih]
    have e : eqV (V.int n) (V.int i) = decide (n = i) := by
      unfold eqV
      by_cases c : n = i
      · subst c; simp
      · simp [c]
    rw [e]
    by_cases c : n = i
    · subst c; simp
    · have c' : ¬ i = n := fun z => c z.symm
      simp [c, c']
theorem flat_ints : ∀ ns : List Int, (ns.map V.int).all flatV = true
  | [] => rfl
  | n :: ns => by rw [List.map_cons, List.all_cons, flat_ints ns]; rfl
theorem o_notIn {i : Int} {ns : List Int} : OpD K p (rIn K true) (.int i) (.list (ns.map .int)) (.bool (!decide (i ∈ ns))) := fun x y H A hx hy R Q q => by
  cases hx
  obtain ⟨a, xs, rfl, h1, h2⟩ := dq_inv_l hy
  have := dq_ints h2
  subst this
  refine ⟨a, _, rfl, .inl (sq_of (R.ex _ _ h1)), rfl, flat_ints ns, ?_⟩
  show Q (.bl (!inV (.int i) (ns.map V.int))) A
  rw [inV_ints]
  exact q _ A H R.refl (.bl _)
end
end Z
namespace Z
open PySem PySem.Spec PyProof.Rows L2 Evl
abbrev FnP (K : PySem.W.Frag) (x : Str) (st : Stmt) (f : Addr) (fd : FuncData) : Prop := FunD K x x (defArgs st) (defBody st) (defScope st) [] [] f fd
/-- the def st stands under the name x -/
def St (K : PySem.W.Frag) (mg : Str → Option Value) (x : Str) (st : Stmt) (ps : List Str) : Prop := ∃ f fd, FnP K x st f fd ∧ mg x = some (.ref f) ∧ Binds K fd ps []
theorem dn_of {P : Program} {w : World} {K : PySem.W.Frag} {mg : Str → Option Value} {base : Heap} {x : Str} {st : Stmt} {N ps : List Str} {sp : Sp} (k : Nat) (Hx : St K mg x st ps) (S : FnScope N ps (defScope st)) (len : ∀ vs H Q E, sp vs H Q E → vs.length = ps.length)
    (hbody : ∀ (f : Addr) (cdv : Value) (A : Around) (outer : List Env) (s : Shared) (H : Hp) (vs : List V) (Q : VK) (E : XK), Room k (A.deeper (envOfC x (defScope st) s.heap.objs.size f cdv)) → sp vs H Q E →
      ∃ t, PSs (cxOf CX0 P w K mg base N x (defScope st) f cdv A outer s H E).nox (defBody st) t ∧ t { nx := fun _ H' => Q .non H', rt := Q } (start N vs) H) : Dn P w K mg base CX0 (k + 1) x ps sp := by
  obtain ⟨f, fd, F, m, b⟩ := Hx
  refine ⟨f, fd, F.ok S len fun cdv A outer s H vs Q E hr h => ?_, m, F.kp, b⟩
  obtain ⟨t, h1, h2⟩ := hbody f cdv A outer s H vs Q E hr h
  exact ⟨t, h1.nox, h2⟩
/-- a def of data: what its body does, told of data -/
def Bd (K : PySem.W.Frag) (N : List Str) (t : TS) (F : List PyData → PyData → Prop) : Prop := ∀ vs H A ds d (Q : VK), Reg .non H A → DqAll K H vs ds → F ds d → (∀ v A' H', Gr .non A H A' H' → Dq K H' v d → Q v A') → t { nx := fun _ H' => Q .non H', rt := Q } (start N vs) A
theorem dn_data {P : Program} {w : World} {K : PySem.W.Frag} {mg : Str → Option Value} {base : Heap} {x : Str} {st : Stmt} {N ps : List Str} {F : List PyData → PyData → Prop} (k : Nat) (Hx : St K mg x st ps) (S : FnScope N ps (defScope st)) (hl : ∀ ds d, F ds d → ds.length = ps.length)
    (ht : ∀ (f : Addr) (cdv : Value) (A : Around) (outer : List Env) (s : Shared) (H : Hp) (E : XK), Room k (A.deeper (envOfC x (defScope st) s.heap.objs.size f cdv)) → ∃ t, PSs (cxOf CX0 P w K mg base N x (defScope st) f cdv A outer s H E).nox (defBody st) t ∧ Bd K N t F) : Dn P w K mg base CX0 (k + 1) x ps (SpD K F) :=
  dn_of k Hx S (fun vs H Q E h => spD_len h hl) fun f cdv A outer s H vs Q E hr h => by
    obtain ⟨H0, ds, d, R, k0, hF, q⟩ := h
    obtain ⟨t, h1, h2⟩ := ht f cdv A outer s H E hr
    exact ⟨t, h1, h2 vs H0 H ds d Q R k0 hF q⟩
end Z
/-! the pool: a list of two numbers that draws change -/
namespace Z
open PySem PySem.Spec PyProof.Rows L2 Evl
theorem ix_K {X : Cx} {K : PySem.W.Frag} (h : X.K = K) : IxR X (rIx K) := h ▸ ix_seq
theorem own_same {f : Hp} {q : Addr} {o : HO} : (Me.mk none (upd f q o)).own q = some o := upd_same
def poolS (K : PySem.W.Frag) : Sp := fun vs A Q _ => ∃ (H : Hp) (a : Addr) (ns : List Int) (k : Nat), Reg .non H A ∧ vs = [.ref a, .int (k : Nat)] ∧ SqL K H a (ns.map V.int) ∧ k < 1000000 ∧
  ∀ (q : Addr) (a b : Int) (A' H' : Hp), Gr .non A H A' H' → A q = none → H' q = none → A' q = some (.lst [.int a, .int b]) → 0 ≤ a → 0 ≤ b → b < 2147483647 → Q (.ref q) A'
def takeS (K : PySem.W.Frag) : Sp := fun vs A Q _ => ∃ (H : Hp) (q : Addr) (own : Hp) (m : Int), vs = [.ref q, .int m] ∧ Reg ⟨some q, own⟩ H A ∧ 0 < m ∧ m < 1073741824 ∧
  ∀ (r : Int) (A' H' : Hp), Gr ⟨some q, own⟩ A H A' H' → 0 ≤ r → r < m → Q (.int r) A'
section
variable {K : PySem.W.Frag} {p : Me} {σ : L2.St} {H H' A A' : Hp} {te ta tb tc tl ti : TE} {tt : TT} {tu tz : TS} {D : Ends} {d dx dy dz : PyData} {ds es : List PyData}
theorem Reg.poolAsOwn {q : Addr} {own : Hp} {a b : Int} (R : Reg ⟨some q, own⟩ H A) (h : A q = some (.lst [.int a, .int b])) : Reg ⟨none, upd (fun _ => none) q (.lst [.int a, .int b])⟩ H A := by
  refine ⟨R.ex, (fun q h => nomatch h), (fun q h => nomatch h), fun x o e => ?_, fun x o e => ?_⟩
  · by_cases c : x = q
    · subst c
      have e' : upd (fun _ => none) x (.lst [.int a, .int b]) x = some o := e
      rw [upd_same] at e'
      rw [h]; exact e'
    · have e' : upd (fun _ => none) q (.lst [.int a, .int b]) x = some o := e
      rw [upd_ne c] at e'
      cases e'
  · by_cases c : x = q
    · subst c
      exact ⟨R.off x rfl, (fun z => nomatch z)⟩
    · have e' : upd (fun _ => none) q (.lst [.int a, .int b]) x = some o := e
      rw [upd_ne c] at e'
      cases e'
theorem Gr.toPool {q : Addr} {w own : Hp} {A1 H1 : Hp} {a b : Int} (g : Gr ⟨none, w⟩ A H A1 H1) (hH : H1 q = none) (hA : ∃ o, A1 q = some o) (h0 : 0 ≤ a) (h1 : 0 ≤ b) (h2 : b < 2147483647) : Gr ⟨some q, own⟩ A H (upd A1 q (.lst [.int a, .int b])) H1 := by
  refine ⟨fun x o n h => ?_, fun x o h => ?_, fun x hx => ?_, g.reg, fun x o h => ?_, g.new⟩
  · have c : x ≠ q := fun z => n (congrArg some z.symm)
    rw [upd_ne c]
    exact g.act x o (fun z => nomatch z) h
  · by_cases c : x = q
    · subst c; exact ⟨_, upd_same⟩
    · rw [upd_ne c]; exact g.dom x o h
  · cases hx
    exact ⟨a, b, upd_same, h0, h1, h2⟩
  · rw [upd_ne (ne_of_none h hH)]
    exact g.sub x o h
theorem o_mod {i j : Int} (h : 0 < j) : OpD K p (rI (fun _ j => 0 < j) fun i j => .int (i % j)) (.int i) (.int j) (.int (i % j)) := o_I (f := fun i j => i % j) h
theorem o_fdiv {i j : Int} (h : 0 < j) (h2 : j < 1073741824) : OpD K p (rI CDiv fun i j => .int (i / j)) (.int i) (.int j) (.int (i / j)) := o_I (C := CDiv) (f := fun i j => i / j) ⟨h, h2⟩
theorem o_mul {i j : Int} (h : CMul i j) : OpD K p (rI CMul fun i j => .int (i * j)) (.int i) (.int j) (.int (i * j)) := o_I (f := fun i j => i * j) h
theorem o_add {i j : Int} : OpD K p (rI0 fun i j => .int (i + j)) (.int i) (.int j) (.int (i + j)) := o_I0 (f := fun i j => i + j)
theorem o_sub {i j : Int} : OpD K p (rI0 fun i j => .int (i - j)) (.int i) (.int j) (.int (i - j)) := o_I0 (f := fun i j => i - j)
theorem o_lt {i j : Int} : OpD K p (rI0 fun i j => .bl (decide (i < j))) (.int i) (.int j) (.bool (decide (i < j))) := o_B0 (f := fun i j => decide (i < j))
theorem o_gt {i j : Int} : OpD K p (rI0 fun i j => .bl (decide (j < i))) (.int i) (.int j) (.bool (decide (j < i))) := o_B0 (f := fun i j => decide (j < i))
theorem o_ge {i j : Int} : OpD K p (rI0 fun i j => .bl (decide (j ≤ i))) (.int i) (.int j) (.bool (decide (j ≤ i))) := o_B0 (f := fun i j => decide (j ≤ i))
end
section
variable {K : PySem.W.Frag} {p : Me} {σ : L2.St} {H H' A A' : Hp} {te : TE}
theorem d_mods {x m : Int} (h : EvD K p te σ H (.int (x % m))) (hm : 0 < m) : EvG p te σ H fun v _ => ∃ b : Int, v = .int b ∧ 0 ≤ b ∧ b < m := fun A R Q q => h A R Q fun v A' H' g k => by
  cases k
  exact q _ A' H' g ⟨_, rfl, Int.emod_nonneg _ (by omega), Int.emod_lt_of_pos _ hm⟩
end
theorem ite01 {P : Prop} [Decidable P] : (0 : Int) ≤ (if P then 1 else 0) := by split <;> decide
theorem ite01m {i : Int} {P : Prop} [Decidable P] : CMul i (if P then 1 else 0) := .inr (by split <;> decide)
theorem s_par {K : PySem.W.Frag} {p : Me} {σ : L2.St} {H A : Hp} {ta : TA} {d e : PyData} {D : Ends} {i j : Nat} (h : EvS K p ta σ H [d, e]) (R : Reg p H A) (k : ∀ x y A' H', Gr p A H A' H' → Dq K H' x d → Dq K H' y e → D.nx ((σ.set i (some x)).set j (some y)) A') : tPar i j ta D σ A :=
  h A R _ fun vs A1 H1 g1 k1 => by
    obtain ⟨x, y, rfl, kx, ky⟩ := dqall_two k1
    exact ⟨x, y, rfl, k x y A1 H1 g1 kx ky⟩
theorem q_par {K : PySem.W.Frag} {p : Me} {σ : L2.St} {H A : Hp} {ta : TA} {tz : TS} {d e : PyData} {D : Ends} {i j : Nat} (h : EvS K p ta σ H [d, e]) (R : Reg p H A) (k : ∀ x y A' H', Gr p A H A' H' → Dq K H' x d → Dq K H' y e → tz D ((σ.set i (some x)).set j (some y)) A') : tSeq (tPar i j ta) tz D σ A := s_par (D := { D with nx := tz D }) h R k
theorem s_retNew {K : PySem.W.Frag} {p : Me} {σ : L2.St} {H A : Hp} {ta : TA} {ds : List PyData} {D : Ends} (h : EvS K p ta σ H ds) (hl : ds.length ≤ 100000) (R : Reg p H A) (k : ∀ l vs A' H', Gr p A H A' H' → DqAll K H' vs ds → A' l = none → H' l = none → A l = none → D.rt (.ref l) (upd A' l (.lst vs))) : tRet (tLst ta) D σ A :=
  h A R _ fun vs A1 H1 g1 k1 => ⟨by rw [dqall_len k1]; exact sz_of hl, fun l hn => by
    have R1 := g1.to R
    refine k l vs A1 H1 g1 k1 hn (fresh_back R1.ex hn) ?_
    cases e : A l with
    | none => rfl
    | some o => obtain ⟨o', e'⟩ := g1.dom l o e; rw [hn] at e'; cases e'⟩
abbrev N_take : List Str := ["_law_pool_here", "_law_wide", "_law_result"]
section
variable {P : Program} {w : World} {K : PySem.W.Frag} {mg : Str → Option Value} {base : Heap}
abbrev tPool0 (K : PySem.W.Frag) (i : Int) : TE := tOp (rIx K) (tVar 0) (tC (.int i))
/-- what _law_take's body does -/
theorem take_run {q : Addr} {own : Hp} {m : Int} {H A : Hp} {Q : VK} (R : Reg ⟨some q, own⟩ H A) (hm : 0 < m) (hm2 : m < 1073741824) (k : ∀ (r : Int) (A' H' : Hp), Gr ⟨some q, own⟩ A H A' H' → 0 ≤ r → r < m → Q (.int r) A') :
    (tSeq (tIfS (tTest (tOp (rI0 fun i j => .bl (decide (j < i))) (tPool0 K 0) (tC (.int 0))))
      (tSeq (tAsg (tOp (rI (fun _ j => 0 < j) fun i j => .int (i % j)) (tCB (fun xs H Q => (∃ i, xs = [V.int i] ∧ Q (.int i) H) ∨ ∃ k, xs = [V.bl k] ∧ Q (.int (if k then 1 else 0)) H) (tCons (tPool0 K 0) tNil)) (tVar 1)) (gName 2))
        (tSeq (tAsg (tOp (rI CDiv fun i j => .int (i / j)) (tPool0 K 0) (tVar 1)) (gSub (tVar 0) (tC (.int 0)) rSetL)) (tRet (tVar 2)))) tNext)
      (tSeq (tAsg (tOp (rI (fun _ j => 0 < j) fun i j => .int (i % j)) (tCB (fun xs H Q => (∃ i, xs = [V.int i] ∧ Q (.int i) H) ∨ ∃ k, xs = [V.bl k] ∧ Q (.int (if k then 1 else 0)) H) (tCons (tOp (rI0 fun i j => .int (i + j)) (tOp (rI CMul fun i j => .int (i * j)) (tPool0 K 1) (tC (.int 48271))) (tC (.int 12345))) tNil)) (tC (.int 2147483647))) (gSub (tVar 0) (tC (.int 1)) rSetL))
        (tRet (tOp (rI (fun _ j => 0 < j) fun i j => .int (i % j)) (tOp (rI CDiv fun i j => .int (i / j)) (tOp (rI (fun _ j => 0 < j) fun i j => .int (i % j)) (tCB (fun xs H Q => (∃ i, xs = [V.int i] ∧ Q (.int i) H) ∨ ∃ k, xs = [V.bl k] ∧ Q (.int (if k then 1 else 0)) H) (tCons (tOp (rI CMul fun i j => .int (i * j)) (tPool0 K 1) (tPool0 K 1)) tNil)) (tC (.int 2147483629))) (tC (.int 64))) (tVar 1)))))
      { nx := fun _ H' => Q .non H', rt := Q } (start N_take [.ref q, .int m]) A := by
  obtain ⟨a, b, hq, ha, hb, hb2⟩ := R.pool q rfl
  have R0 := R.poolAsOwn hq
  have hx : DqAll K H [V.int a, V.int b] [PyData.int a, PyData.int b] := .cons (.int a) (.cons (.int b) .nil)
  have ix0 : ∀ {σ : L2.St} {H2 : Hp}, σ[0]? = some (some (.ref q)) → Evl.Ex H H2 → EvD K ⟨none, upd (fun _ => none) q (.lst [.int a, .int b])⟩ (tPool0 K 0) σ H2 (.int a) := fun h e => d_ixOwn h own_same (dqall_ex e hx) d_int rfl
  have ix1 : ∀ {σ : L2.St} {H2 : Hp}, σ[0]? = some (some (.ref q)) → Evl.Ex H H2 → EvD K ⟨none, upd (fun _ => none) q (.lst [.int a, .int b])⟩ (tPool0 K 1) σ H2 (.int b) := fun h e => d_ixOwn h own_same (dqall_ex e hx) d_int rfl
  refine q_when (b_test (d_op (K := K) (ix0 rfl (Evl.Ex.refl H)) d_int o_gt)) R0 (fun hc A1 H1 g1 => ?_) fun hc A1 H1 g1 => ?_
  · refine q_asg (d_op (K := K) (d_cb (s_cons (ix0 rfl g1.reg) s_nil) c_int1) (d_var rfl (.int m)) (o_mod hm)) (g1.to R0) fun v2 A2 H2 g2 k2 => ?_
    cases k2
    have g12 := g1.trans g2
    refine s_setOwn (K := K) (xs := [.int a, .int b]) (z := 0) (j := 0) (d := .int (a / m)) rfl own_same (d_op (ix0 rfl g12.reg) (d_var rfl (.int m)) (o_fdiv hm hm2)) (fun H' e => d_int) rfl (g12.to R0) fun v5 A4 H4 g4 k5 R4 => ?_
    cases k5
    have gp : Gr ⟨some q, own⟩ A H (upd A4 q (.lst [.int (a / m), .int b])) H4 := Gr.toPool (g12.trans g4) (R4.offO q _ upd_same).1 ⟨_, (g12.trans g4).act q _ (fun z => nomatch z) hq⟩ (Int.ediv_nonneg ha (by omega)) hb hb2
    exact ⟨.int (a % m), rfl, k _ _ _ gp (Int.emod_nonneg _ (by omega)) (Int.emod_lt_of_pos _ hm)⟩
  · refine s_setOwn (K := K) (xs := [.int a, .int b]) (z := 1) (j := 1) (d := .int ((b * 48271 + 12345) % 2147483647)) rfl own_same (d_op (d_cb (s_cons (d_op (d_op (ix1 rfl g1.reg) d_int (o_mul (.inr (by decide)))) d_int o_add) s_nil) c_int1) d_int (o_mod (by decide))) (fun H' e => d_int) rfl (g1.to R0) fun v5 A4 H4 g4 k5 R4 => ?_
    cases k5
    have c0 : 0 ≤ (b * 48271 + 12345) % 2147483647 := Int.emod_nonneg _ (by decide)
    have c1 : (b * 48271 + 12345) % 2147483647 < 2147483647 := Int.emod_lt_of_pos _ (by decide)
    generalize hc' : (b * 48271 + 12345) % 2147483647 = c at *
    have hy : DqAll K H4 [V.int a, V.int c] [PyData.int a, PyData.int c] := .cons (.int a) (.cons (.int c) .nil)
    have ix1' : ∀ {σ : L2.St} {H2 : Hp}, σ[0]? = some (some (.ref q)) → Evl.Ex H4 H2 → EvD K ⟨none, upd (upd (fun _ => none) q (.lst [.int a, .int b])) q (.lst [.int a, .int c])⟩ (tPool0 K 1) σ H2 (.int c) := fun h e => d_ixOwn h own_same (dqall_ex e hy) d_int rfl
    refine Z.s_ret (d_op (K := K) (d_op (d_op (d_cb (s_cons (d_op (ix1' rfl (Evl.Ex.refl _)) (ix1' rfl (Evl.Ex.refl _)) (o_mul (.inl ⟨by omega, by omega⟩))) s_nil) c_int1) d_int (o_mod (by decide))) d_int (o_fdiv (by decide) (by decide))) (d_var rfl (.int m)) (o_mod hm)) R4 fun v6 A6 H6 g6 k6 => ?_
    cases k6
    have gp : Gr ⟨some q, own⟩ A H (upd A4 q (.lst [.int a, .int c])) H4 := Gr.toPool (g1.trans g4) (R4.offO q _ upd_same).1 ⟨_, (g1.trans g4).act q _ (fun z => nomatch z) hq⟩ ha c0 c1
    have g6' : Gr ⟨some q, own⟩ (upd A4 q (.lst [.int a, .int c])) H4 A6 H6 := by
      have pl := gp.pool
      refine ⟨fun x o n h => g6.act x o (fun z => nomatch z) h, g6.dom, fun x hx => ?_, g6.reg, g6.sub, g6.new⟩
      obtain ⟨i, j, e, r⟩ := pl x hx
      exact ⟨i, j, g6.act x _ (fun z => nomatch z) e, r⟩
    exact k _ _ _ (gp.trans g6') (Int.emod_nonneg _ (by omega)) (Int.emod_lt_of_pos _ hm)
end
end Z
namespace Z
open PySem PySem.Spec PyProof.Rows L2 Evl
section
variable {K : PySem.W.Frag} {p : Me} {σ : L2.St} {H H' A A' : Hp} {te ta tb tc tl ti : TE} {tt : TT} {tu tz : TS} {D : Ends} {d dx dy dz : PyData} {ds es : List PyData}
theorem upd_id {q : Addr} {o : HO} (h : A q = some o) : upd A q o = A := by
  funext a
  by_cases c : a = q
  · subst c; rw [upd_same, h]
  · rw [upd_ne c]
/-- a comprehension over a list whose result is one's own -/
theorem lcL_own {j : Nat} {vs : List Nat} (f : PyData → Bool) (v : PyData → PyData) (h : EvD K p tl σ H (.list ds)) (hz : ds.length ≤ 60000) (hw : ∀ x, wipe ((wipe σ vs).set j (some x)) vs = wipe σ vs)
    (ht : ∀ c ∈ ds, ∀ x H1, Ex H H1 → Dq K H1 x c → EvB p tt ((wipe σ vs).set j (some x)) H1 (f c)) (he : ∀ c ∈ ds, ∀ x H1, Ex H H1 → Dq K H1 x c → f c = true → EvD K p te ((wipe σ vs).set j (some x)) H1 (v c)) (R : Reg p H A) {Q : VK}
    (q : ∀ (l : Addr) xs A' H', Gr p A H A' H' → A l = none → Reg ⟨p.pool, upd p.own l (.lst xs)⟩ H' A' → DqAll K H' xs ((ds.filter f).map v) → Q (.ref l) A') : tLc (iList K tl) (gName j) tt te vs σ A Q := h A R _ fun x A1 H1 g1 k1 => by
  obtain ⟨a, xs, rfl, sq, el⟩ := dq_inv_l k1
  have R1 := g1.to R
  have ln := dqall_len el
  refine ⟨a, rfl, ⟨xs, sq_of (R1.ex _ _ sq)⟩, fun Dl hD => lc_w (K := K) (p := p) (H1 := H1) (walk_list (K := K) (a := a) (xs := xs)) R1 hD (by omega) (fun i => f (ds.getD i .none)) (fun i => v (ds.getD i .none)) (fun H' A' e r => sq_of ((e.trans r.ex) _ _ sq)) ?_ name_mono ?_⟩
  · rintro i x A' A2 H' hi e r ⟨rfl, hx⟩
    have hi' : i < ds.length := by omega
    have hd : ds.getD i .none = ds[i] := by simp [hi']
    obtain ⟨y, hv, kv⟩ := dqall_get el (List.getElem?_eq_getElem hi')
    rw [hx] at hv
    cases hv
    have hm : ds[i] ∈ ds := List.getElem_mem hi'
    refine ⟨hw x, H', r.refl, ?_, ?_⟩
    · rw [hd]; exact ht _ hm x H' (g1.reg.trans e) (dq_ex e _ _ kv)
    · rw [hd]; exact he _ hm x H' (g1.reg.trans e) (dq_ex e _ _ kv)
  · intro A' H' ys g n e k
    rw [ln, filter_range_map] at k
    have np : p.pool ≠ some Dl := fun z => by
      obtain ⟨a, b, h, _⟩ := R1.pool Dl z
      rw [hD] at h
      cases h
    have nA : A Dl = none := by
      cases q : A Dl with
      | none => rfl
      | some o => obtain ⟨o', e'⟩ := g1.dom Dl o q; rw [hD] at e'; cases e'
    have r := (g.to R1).put (o := .lst ys) np n
    rw [upd_id e] at r
    exact q Dl ys A' H' (g1.trans g) nA r k
/-- q[z1], q[z2] = e1, e2 -/
theorem s_swapOwn {i : Nat} {q : Addr} {xs : List V} {z1 z2 : Int} {j1 j2 : Nat} {d1 d2 : PyData} {e1 e2 t1 t2 : TE} (hp0 : p.pool = none) (hs : σ[i]? = some (some (.ref q))) (ho : p.own q = some (.lst xs)) (h1 : EvD K p e1 σ H d1) (h2 : EvD K p e2 σ H d2)
    (hi1 : ∀ p' H', Ex H H' → EvD K p' t1 σ H' (.int z1)) (hi2 : ∀ p' H', Ex H H' → EvD K p' t2 σ H' (.int z2)) (hj1 : ixN xs.length z1 = some j1) (hj2 : ixN xs.length z2 = some j2) (R : Reg p H A)
    (k : ∀ x y A' H', Dq K H' x d1 → Dq K H' y d2 → Ex H H' → Reg ⟨none, upd (upd p.own q (.lst (xs.set j1 x))) q (.lst ((xs.set j1 x).set j2 y))⟩ H' A' → (∀ A0 H0, A0 q = none → Gr .non A0 H0 A H → Gr .non A0 H0 A' H') → D.nx σ A') :
    tAsg (tTup (tCons e1 (tCons e2 tNil))) (gTup K 2 (gCons (gSub (tVar i) t1 rSetL) (gCons (gSub (tVar i) t2 rSetL) gNil))) D σ A := by
  have hev := s_cons h1 (s_cons h2 s_nil)
  generalize tCons e1 (tCons e2 tNil) = ta at hev ⊢
  refine hev A R _ fun vs A1 H1 g1 k1 => ?_
  obtain ⟨x, y, rfl, kx, ky⟩ := dqall_two k1
  refine ⟨sz_of (by show 2 ≤ 100000; decide), fun l hn => ?_⟩
  have R1 := g1.to R
  have gT := Gr.allocM R1 (o := .tup [x, y]) hn
  have g1T := g1.trans gT
  have RT := gT.to R1
  refine ⟨l, [x, y], rfl, st_of upd_same, rfl, x, [y], rfl, .ref q, hs, hi1 p H1 g1.reg _ RT _ fun z A2 H2 g2 k2 => ?_⟩
  cases k2
  have R2 := g2.to RT
  refine ⟨q, xs, z1, j1, rfl, rfl, R2.own _ _ ho, hj1, y, [], rfl, .ref q, hs, ?_⟩
  have R3 := R2.put (o := .lst (xs.set j1 x)) (R2.offO q _ ho).2 (R2.offO q _ ho).1
  refine hi2 _ H2 (g1.reg.trans g2.reg) _ R3 _ fun z' A4 H4 g4 k4 => ?_
  cases k4
  have R4 := g4.to R3
  refine ⟨q, xs.set j1 x, z2, j2, rfl, rfl, R4.own _ _ upd_same, by rw [List.length_set]; exact hj2, rfl, ?_⟩
  have e24 := g2.reg.trans g4.reg
  have R5 := R4.put (o := .lst ((xs.set j1 x).set j2 y)) (R4.offO q _ upd_same).2 (R4.offO q _ upd_same).1
  refine k x y _ H4 (dq_ex e24 _ _ kx) (dq_ex e24 _ _ ky) (g1.reg.trans e24) ?_ fun A0 H0 n0 g0 => ?_
  · have e : (Me.mk p.pool (upd (upd p.own q (.lst (xs.set j1 x))) q (.lst ((xs.set j1 x).set j2 y)))) = ⟨none, upd (upd p.own q (.lst (xs.set j1 x))) q (.lst ((xs.set j1 x).set j2 y))⟩ := by rw [hp0]
    rw [← e]
    exact R5
  · have ga : Gr .non A0 H0 A2 H2 := (g0.trans (g1T.as hp0)).trans (g2.as hp0)
    have gb : Gr .non A0 H0 (upd A2 q (.lst (xs.set j1 x))) H2 := Gr.mut ga n0 (R2.offO q _ ho).1 (fun z => nomatch z)
    exact Gr.mut (gb.trans (g4.as hp0)) n0 (R4.offO q _ upd_same).1 (fun z => nomatch z)
end
end Z
namespace Z
open PySem PySem.Spec PyProof.Rows L2 Evl
section
variable {K : PySem.W.Frag} {p : Me} {σ : L2.St} {H H' A A' : Hp} {te ta tb tc tl ti : TE} {tt : TT} {tu tz : TS} {D : Ends} {d dx dy dz : PyData} {ds es : List PyData}
theorem q_tup2 {a b : Nat} {e1 e2 : TE} {d1 d2 : PyData} (h1 : EvD K p e1 σ H d1) (h2 : EvD K p e2 σ H d2) (R : Reg p H A) (k : ∀ x y A' H', Gr p A H A' H' → Dq K H' x d1 → Dq K H' y d2 → tz D ((σ.set a (some x)).set b (some y)) A') :
    tSeq (tAsg (tTup (tCons e1 (tCons e2 tNil))) (gTup K 2 (gCons (gName a) (gCons (gName b) gNil)))) tz D σ A := by
  have hev := s_cons h1 (s_cons h2 s_nil)
  generalize tCons e1 (tCons e2 tNil) = ta at hev ⊢
  refine hev A R _ fun vs A1 H1 g1 k1 => ?_
  obtain ⟨x, y, rfl, kx, ky⟩ := dqall_two k1
  refine ⟨sz_of (by show 2 ≤ 100000; decide), fun l hn => ?_⟩
  exact gtup2 upd_same (k x y _ H1 (g1.trans (Gr.allocM (g1.to R) hn)) kx ky)
theorem lay_ints : ∀ r : List Int, PyData.canLayAll0 (r.map PyData.int) = true ∧ PyData.depthAll (r.map PyData.int) = 0
  | [] => ⟨rfl, rfl⟩
  | n :: r => by
    obtain ⟨h1, h2⟩ := lay_ints r
    refine ⟨h1, ?_⟩
    show max (PyData.depth (.int n)) (PyData.depthAll (r.map PyData.int)) = 0
    rw [h2]; rfl
theorem shaped_ints (r : List Int) : SeqAt.shaped (.list (r.map PyData.int)) = true := by
  obtain ⟨h1, h2⟩ := lay_ints r
  show (PyData.canLayAll0 (r.map PyData.int) && decide (PyData.depthAll (r.map PyData.int) + 1 ≤ 64)) = true
  rw [h1, h2]; rfl
theorem lay_rows : ∀ rs : List (List Int), PyData.canLayAll0 (rs.map fun r => .tuple (r.map PyData.int)) = true ∧ PyData.depthAll (rs.map fun r => .tuple (r.map PyData.int)) ≤ 1
  | [] => ⟨rfl, Nat.zero_le _⟩
  | r :: rs => by
    obtain ⟨h1, h2⟩ := lay_rows rs
    obtain ⟨h3, h4⟩ := lay_ints r
    refine ⟨?_, ?_⟩
    · show (PyData.canLayAll0 (r.map PyData.int) && PyData.canLayAll0 (rs.map fun r => .tuple (r.map PyData.int))) = true
      rw [h1, h3]; rfl
    · show max (PyData.depthAll (r.map PyData.int) + 1) (PyData.depthAll (rs.map fun r => .tuple (r.map PyData.int))) ≤ 1
      rw [h4]; omega
theorem shaped_rows (rs : List (List Int)) : SeqAt.shaped (.list (rs.map fun r => .tuple (r.map PyData.int))) = true := by
  obtain ⟨h1, h2⟩ := lay_rows rs
  show (PyData.canLayAll0 (rs.map fun r => .tuple (r.map PyData.int)) && decide (PyData.depthAll (rs.map fun r => .tuple (r.map PyData.int)) + 1 ≤ 64)) = true
  rw [h1]
  show decide _ = true
  exact decide_eq_true (by omega)
theorem shaped_nil : SeqAt.shaped (.list []) = true := rfl
theorem eqv_nil : ∀ ds : List PyData, PyData.eqv (.list ds) (.list []) = ds.isEmpty
  | [] => by simp [PyData.eqv, PyData.eqvAll]
  | d :: ds => by simp [PyData.eqv, PyData.eqvAll]
theorem q_asgQ {i : Nat} (h : te σ A fun x A' => tz D (σ.set i (some x)) A') : tSeq (tAsg te (gName i)) tz D σ A := h
theorem c_lenTK : CaD K p (fun xs H Q => ∃ q ys, xs = [.ref q] ∧ (SqL K H q ys ∨ SqT K H q ys) ∧ Q (.int ys.length) H) [.tuple ds] (.int ds.length) := fun vs H A h R Q q => by
  obtain ⟨v, rfl, k⟩ := dqall_one h
  obtain ⟨a, xs, rfl, h1, h2⟩ := dq_inv_t k
  rw [← dqall_len h2] at q
  exact ⟨a, xs, rfl, .inr (ex_t R.ex h1), q _ A H R.refl (.int _)⟩
theorem c_lenLK : CaD K p (fun xs H Q => ∃ q ys, xs = [.ref q] ∧ (SqL K H q ys ∨ SqT K H q ys) ∧ Q (.int ys.length) H) [.list ds] (.int ds.length) := fun vs H A h R Q q => by
  obtain ⟨v, rfl, k⟩ := dqall_one h
  obtain ⟨a, xs, rfl, h1, h2⟩ := dq_inv_l k
  rw [← dqall_len h2] at q
  exact ⟨a, xs, rfl, .inl (sq_of (R.ex _ _ h1)), q _ A H R.refl (.int _)⟩
theorem d_lenOwnK {i : Nat} {q : Addr} {xs : List V} (hs : σ[i]? = some (some (.ref q))) (ho : p.own q = some (.lst xs)) (hx : DqAll K H xs ds) :
    EvD K p (tCB (fun xs H Q => ∃ q ys, xs = [.ref q] ∧ (SqL K H q ys ∨ SqT K H q ys) ∧ Q (.int ys.length) H) (tCons (tVar i) tNil)) σ H (.int ds.length) := fun A R Q k => by
  refine ⟨.ref q, hs, q, xs, rfl, .inl (sq_of (R.own _ _ ho)), ?_⟩
  rw [dqall_len hx]
  exact k _ A H R.refl (.int _)
theorem call_list_ofK {X : Cx} {K : PySem.W.Frag} (h : X.K = K) : CallR X (.type "list") (fun xs H Q => ∃ q ys, xs = [.ref q] ∧ (SqL K H q ys ∨ SqT K H q ys) ∧ ∀ l, H l = none → Q (.ref l) (upd H l (.lst ys))) := h ▸ call_list_of
theorem call_tuple_ofK {X : Cx} {K : PySem.W.Frag} (h : X.K = K) : CallR X (.type "tuple") (fun xs H Q => ∃ q ys, xs = [.ref q] ∧ ((SqL K H q ys ∧ ∀ l, H l = none → Q (.ref l) (upd H l (.tup ys))) ∨ (SqT K H q ys ∧ Q (.ref q) H))) := h ▸ call_tuple_of
theorem c_listTK : CaD K p (fun xs H Q => ∃ q ys, xs = [.ref q] ∧ (SqL K H q ys ∨ SqT K H q ys) ∧ ∀ l, H l = none → Q (.ref l) (upd H l (.lst ys))) [.tuple ds] (.list ds) := fun vs H A h R Q q => by
  obtain ⟨v, rfl, k⟩ := dqall_one h
  obtain ⟨a, xs, rfl, h1, h2⟩ := dq_inv_t k
  exact ⟨a, xs, rfl, .inr (ex_t R.ex h1), fun l hl => by
    have g := Gr.alloc R (o := .lst xs) hl
    exact q _ _ _ g (.lst upd_same (dqall_ex g.reg h2))⟩
theorem sql_ex {a : Addr} {xs : List V} (e : Ex H H') (h : SqL K H a xs) : SqL K H' a xs := by
  rcases h with (h | ⟨o, h⟩) | h
  · exact .inl (.inl (e _ _ h))
  · exact .inl (.inr ⟨o, e _ _ h⟩)
  · exact .inr h
theorem d_lenS {i : Nat} {a : Addr} {ns : List Int} (hs : σ[i]? = some (some (.ref a))) (hq : SqL K H a (ns.map V.int)) : EvD K p (tCB (fun xs H Q => ∃ q ys, xs = [.ref q] ∧ (SqL K H q ys ∨ SqT K H q ys) ∧ Q (.int ys.length) H) (tCons (tVar i) tNil)) σ H (.int ns.length) := fun A R Q k => by
  refine ⟨.ref a, hs, a, ns.map V.int, rfl, .inl (sql_ex R.ex hq), ?_⟩
  rw [List.length_map]
  exact k _ A H R.refl (.int _)
theorem d_ixS {i : Nat} {a : Addr} {ns : List Int} {z n : Int} (hs : σ[i]? = some (some (.ref a))) (hq : SqL K H a (ns.map V.int)) (hi : EvD K p ti σ H (.int z)) (e : atI (ns.map V.int) z = some (.int n)) : EvD K p (tOp (rIx K) (tVar i) ti) σ H (.int n) := fun A R Q k =>
  ⟨.ref a, hs, hi A R _ fun y A1 H1 g1 k1 => by
    cases k1
    have R1 := g1.to R
    exact .inl ⟨a, ns.map V.int, z, .int n, rfl, rfl, sql_ex (g1.reg.trans R1.ex) hq, e, k _ A1 H1 g1 (.int n)⟩⟩
end
end Z
/-! repr of data, where no guard stands around (A.guards = some []); a def's promise under that premise -/
namespace Z
open PySem PySem.Spec PyProof.Rows L2 Evl
def rRepr (K : PySem.W.Frag) : List V → Hp → VK → Prop := fun vs H Q => ∃ (a : Addr) (d : PyData), vs = [.ref a] ∧ Dp K H (.ref a) d ∧ d.showable = true ∧ d.hasDict = false ∧ d.depth ≤ 60 ∧ d.shown.length ≤ sizeLine ∧ Q (.str d.shown) H
theorem cr_repr {X : Cx} (hg : X.A.guards = some []) (hu : X.A.units + 64 < cLine) : CallR X (.builtin "repr") (rRepr X.K) := by
  intro pins s σ H vs us Q I r h
  obtain ⟨a, d, rfl, hd, h1, h2, h3, h4, q⟩ := h
  rw [Vals.ref1 r]
  obtain ⟨as, rd⟩ := Dp.reads I d (.ref a) (.ref a) hd rfl
  exact repr_of_reads' rd h1 (fun z => by rw [h2] at z; cases z) hg (by omega) (fun b o e => e) (fun h' u tk hk => ⟨.str _, H, I.kept hk, ⟨u, rfl⟩, q⟩) h4
section
variable {K : PySem.W.Frag} {p : Me} {σ : L2.St} {H A : Hp} {d : PyData}
def seqD : PyData → Bool
  | .list _ => true
  | .tuple _ => true
  | _ => false
theorem c_repr (hs : seqD d = true) (h1 : d.showable = true) (h2 : d.hasDict = false) (h3 : d.depth ≤ 60) (h4 : d.shown.length ≤ sizeLine) : CaD K p (rRepr K) [d] (.str d.shown) := fun vs H A h R Q q => by
  obtain ⟨v, rfl, k⟩ := dqall_one h
  have key : ∃ a, v = .ref a := by
    cases k with
    | lst _ _ => exact ⟨_, rfl⟩
    | tup _ _ => exact ⟨_, rfl⟩
    | _ => cases hs
  obtain ⟨a, rfl⟩ := key
  exact ⟨a, d, rfl, dq_dp _ _ h2 (dq_ex R.ex _ _ k), h1, h2, h3, h4, q _ A H R.refl (.str _)⟩
end
/-- as FnOk, called where no guard stands around -/
structure FnG (P : Program) (w : World) (K : PySem.W.Frag) (mg : Str → Option Value) (base : Heap) (k : Nat) (f : Addr) (fd : FuncData) (ps : List Str) (sp : Sp) : Prop where
  len : ∀ vs H Q E, sp vs H Q E → vs.length = ps.length
  run : ∀ (A : Around) (outer : List Env) (s : Shared) (H : Hp) (args : Args) (us : List Value) (vs : List V) (Q : VK) (E : XK), A.guards = some [] → Room k A → Env0 P w K mg base A outer s H → BindsTo s fd args (ps.zip us) →
    Vals vs us → sp vs H Q E → codeAny (model P w) A (.call (.ref f) args) (CR CX0 outer P w H s Q E) s
end Z
namespace Z
open PySem PySem.Spec PyProof.Rows L2 Evl
theorem fnG_of {P : Program} {w : World} {K : PySem.W.Frag} {mg : Str → Option Value} {base : Heap} {x qual : Str} {params : Arguments} {body : List Stmt} {scope : Scope} {dvs : List V} {kws : List (Str × V)} {f : Addr} {fd : FuncData} {N ps : List Str} {k : Nat} {sp : Sp} (F : FunD K x qual params body scope dvs kws f fd) (S : FnScope N ps scope)
    (ln : ∀ vs H Q E, sp vs H Q E → vs.length = ps.length)
    (hB : ∀ (cdv : Value) (A : Around) (outer : List Env) (s : Shared) (H : Hp) (vs : List V) (Q : VK) (E : XK), A.guards = some [] → Room k (A.deeper (envOfC qual scope s.heap.objs.size f cdv)) → sp vs H Q E →
      ∃ t, PSs (cxOf CX0 P w K mg base N qual scope f cdv A outer s H E) body t ∧ t { nx := fun _ G => Q .non G, rt := Q } (start N vs) H) : FnG P w K mg base (k + 1) f fd ps sp := by
  obtain ⟨oc, od, dV, kV, doc, pm, an, cdv, ct, osl, rfl, lk, cd, _, _⟩ := F.ex
  constructor
  · exact ln
  intro A outer s H args us vs Q E gd room env bnd rv promise
  have lenV := ln _ _ _ _ promise
  have inK : K.In s.heap := env.mod.kin.keeps (fun b o z => (env.bs b o z).1)
  have noL : s.heap.NoLimit := env.mod.nolimit.keeps (fun b o z => (env.bs b o z).1)
  have kinds : ∀ y ∈ ps.zip us, scope.names.lookup y.1 = some .local ∨ (scope.names.lookup y.1 = some .cell ∧ ((cellsFrom (s.heap.objs.size + 1) scope.names []).lookup y.1).isSome = true) := by
    rintro ⟨n, v⟩ hy
    cases S.par n (List.of_mem_zip hy).1 with
    | inl z => exact .inl z
    | inr z => exact .inr ⟨z, PySem.W.cellsFrom_some _ _ _ (.inl z)⟩
  refine codeAny_call_function room.depth (inK _ _ lk) rfl S.co S.gen rfl (PySem.W.codeRec_of inK cd) (bnd _ _ _ _ (wpAny_newFunctionEnv_cells S.kind kinds ?_))
  intro e he s1 z
  cases he
  refine ⟨noL.keeps z.toInCall.keep, codeAny_func ?_⟩
  obtain ⟨t, ht, hq⟩ := hB cdv A outer s H vs Q E gd (room.deeper _) promise
  have J0 := inv_start (N := N) S room.hd env lenV rv z (E := E) (CX := CX0)
  refine wpAny_mono (ht.run [] s1 (start N vs) H _ J0 hq) (fun fl s' hs => ?_) (fun _ _ hs => hs)
  cases fl with
  | ret u =>
    obtain ⟨v, σ', H', J, r, q⟩ := hs
    exact ⟨v, H', J.os, J.bare, J.base, J.hok, r, q⟩
  | next =>
    obtain ⟨σ', H', J, q⟩ := hs
    exact ⟨.non, H', J.os, J.bare, J.base, J.hok, rfl, q⟩
  | brk => exact hs.elim fun _ h => h.elim fun _ h => False.elim h.2
  | cont => exact hs.elim fun _ h => h.elim fun _ h => False.elim h.2
end Z
/-! a law's end where its def's promise asks that no guard stands around -/
namespace Z
open PySem PySem.Spec PyProof.Rows L2 Evl
section
variable {P : Program} {w : World} {K : PySem.W.Frag} {mg mb : Str → Option Value} {k : Nat} {fa a : Addr} {fd : FuncData} {x : Str} {sp : Sp} {s1 : Shared} {vs : List Value} {ns : List Int}
/-- from what is tracked: nothing but the script, if that -/
theorem callG_core (KX : K.In s1.heap) (hns : s1.heap.Ns mainGlobals mg) (hb : s1.heap.Ns builtinsNs mb) (hbb : ∀ x : Str, x ≠ "__name__" → mb x = bootBuiltins x) (nl : s1.heap.NoLimit) (gn : s1.gens = #[]) (ha : s1.heap.get? a = some { cls := .type "list", data := .seq vs.toArray }) (room : Room k callerA)
    (F : ∀ base : Heap, K.In base → base.Ns mainGlobals mg → FnG P w K mg base k fa fd [x] sp) (bnd : ∀ (s : Shared) (u : Value), BindsTo s fd ⟨[u], []⟩ [(x, u)])
    (H : Hp) (only : Only H) (promise : sp [.ref a] H (fun v _ => v = .bl true) fun _ _ _ => False) (ok : HOk P w H s1.heap) (isA : ∀ b, H b ≠ none → b = a) (notK : H a ≠ none → K.lookup a = none) :
    codeAny (model P w) callerA (.call (.ref fa) ⟨[.ref a], []⟩) (fun r s' => r = .ok (.ret (.bool true)) ∧ OldK s1.heap s'.heap ∧ s'.os = s1.os ∧ AllBare s'.gens) s1 := by
  let B := hidT s1.heap H
  have some_ne : ∀ {b : Addr} {u : HO}, H b = some u → b = a := fun {b u} e => isA b (by rw [e]; exact fun z => nomatch z)
  have toB : ∀ {b : Addr} {o : Obj}, s1.heap.get? b = some o → H b = none → B.get? b = some o := hidT_get
  have nsB : ∀ {b : Addr} {m : Str → Option Value}, s1.heap.Ns b m → B.Ns b m := by
    rintro b m ⟨o, es, ep, e, d, r⟩
    refine ⟨o, es, ep, toB e ?_, d, r⟩
    cases q : H b with
    | none => rfl
    | some u =>
      cases some_ne q
      rw [ha] at e
      cases e
      exact nomatch d
  have inB : K.In B := fun b o e => toB (KX b o e) (by
    cases q : H b with
    | none => rfl
    | some u =>
      cases some_ne q
      have z := notK (by rw [q]; exact fun z => nomatch z)
      rw [z] at e
      cases e)
  obtain ⟨mc, nl1, nl2⟩ := nl
  have md : Mod K mg B := ⟨inB, nsB hns, ⟨mb, nsB hb, hbb⟩, mc, nsB nl1, nl2⟩
  have env : Env0 P w K mg B callerA [] s1 H := ⟨rfl, md, fun b o e => of_hidT e, Nat.le_of_eq (hidT_size _ _), trivial, (fun b z => nomatch z), ok, .of_eq gn⟩
  have go := (F B inB (nsB hns)).run callerA [] s1 H ⟨[.ref a], []⟩ [.ref a] [.ref a] _ _ rfl room env (bnd s1 (.ref a)) (.cons rfl .nil) promise
  refine codeAny_mono go fun r s' h => ?_
  match r, h with
  | .error e, h => exact h.elim
  | .ok .next, h => exact False.elim h
  | .ok .brk, h => exact False.elim h
  | .ok .cont, h => exact False.elim h
  | .ok (.ret u), ⟨v, H', os, bare, un, ok', rv, q⟩ =>
    cases (show v = .bl true from q)
    cases (show u = Value.bool true from rv)
    refine ⟨rfl, OldK.of_keep fun b o e => ?_, os, bare⟩
    cases q : H b with
    | none => exact un.keep b o e q (fun z => nomatch z) (fun z => nomatch z)
    | some u =>
      rcases only b with z | ⟨ob, xs, z⟩
      · rw [q] at z
        cases z
      · have e1 := (ok b _ z).1
        have e2 := (ok' b _ (un.frzs b ob _ z)).1
        rw [e] at e1
        cases e1
        exact e2
end
end Z
namespace Z
open PySem PySem.Spec PyProof.Rows L2 Evl
section
variable {P : Program} {w : World} {K : PySem.W.Frag} {mg mb : Str → Option Value} {k : Nat} {fa a : Addr} {fd : FuncData} {x : Str} {sp : Sp} {s1 : Shared} {vs : List Value} {ns : List Int}
theorem callG_all (KX : K.In s1.heap) (hns : s1.heap.Ns mainGlobals mg) (hb : s1.heap.Ns builtinsNs mb) (hbb : ∀ x : Str, x ≠ "__name__" → mb x = bootBuiltins x) (nl : s1.heap.NoLimit) (gn : s1.gens = #[]) (ha : s1.heap.get? a = some { cls := .type "list", data := .seq vs.toArray }) (wholes : IntsAre vs ns) (sz : ns.length ≤ sizeLine) (room : Room k callerA)
    (F : ∀ base : Heap, K.In base → base.Ns mainGlobals mg → FnG P w K mg base k fa fd [x] sp) (bnd : ∀ (s : Shared) (u : Value), BindsTo s fd ⟨[u], []⟩ [(x, u)])
    (promise : ∀ H : Hp, Only H → SqL K H a (ns.map V.int) → sp [.ref a] H (fun v _ => v = .bl true) fun _ _ _ => False) :
    codeAny (model P w) callerA (.call (.ref fa) ⟨[.ref a], []⟩) (fun r s' => r = .ok (.ret (.bool true)) ∧ OldK s1.heap s'.heap ∧ s'.os = s1.os ∧ AllBare s'.gens) s1 := by
  have rv := vals_ints wholes
  cases lk : K.lookup a with
  | some o =>
    have e := KX a o lk
    rw [ha] at e
    cases e
    have on : Only fun _ => none := fun _ => .inl rfl
    have sq : SqL K (fun _ => none) a (ns.map V.int) := .inr ⟨_, vs.toArray, _, lk, rfl, rfl, rfl, by rw [List.size_toArray, wholes.length]; exact sz, by simpa using rv⟩
    exact callG_core KX hns hb hbb nl gn ha room F bnd _ on (promise _ on sq) (fun b u z => nomatch z) (fun b z => absurd rfl z) (fun z => absurd rfl z)
  | none =>
    let G : Hp := fun b => if b = a then some (.frz { cls := .type "list", data := .seq vs.toArray } (.lst (ns.map V.int))) else none
    have ga : G a = some (.frz { cls := .type "list", data := .seq vs.toArray } (.lst (ns.map V.int))) := if_pos rfl
    have gn' : ∀ b, b ≠ a → G b = none := fun b z => if_neg z
    have on : Only G := fun b => by
      by_cases c : b = a
      · subst c; exact .inr ⟨_, _, ga⟩
      · exact .inl (gn' b c)
    refine callG_core KX hns hb hbb nl gn ha room F bnd G on (promise G on (.inl (.inr ⟨_, ga⟩))) (fun b u z => ?_) (fun b z => ?_) (fun _ => lk)
    · by_cases c : b = a
      · subst c
        rw [ga] at z
        cases z
        exact ⟨ha, by rw [List.length_map]; exact sz, vs, _, rv, ha⟩
      · rw [gn' b c] at z
        cases z
    · exact Classical.byContradiction fun c => z (gn' b c)
end
/-- as walk_ofE -/
theorem walk_ofG {l : PySem.W.OpenLaw} {n k : Nat} {q : Program} {loose : List Str} {XP : (Str → Option Value) → Heap → Prop} {YP : World → Heap → Prop} {d : DefRec} {x : Str} (most : l.most = some n) (few : n ≤ sizeLine) (nodef : d.params.defaults = []) (room : Room k callerA)
    (F : ∀ (w : World) (mg : Str → Option Value) (fa : Addr) (h : Heap), YP w h → h.Ns mainGlobals mg → mg d.name = some (.ref fa) →
      ∃ (K : PySem.W.Frag) (fd : FuncData) (sp : Sp), K.In h ∧ (∀ (s : Shared) (u : Value), BindsTo s fd ⟨[u], []⟩ [(x, u)]) ∧ (∀ (H : Hp) (a : Addr) (ns : List Int), ns.length ≤ n → Only H → SqL K H a (ns.map V.int) → sp [.ref a] H (fun v _ => v = .bl true) fun _ _ _ => False) ∧
        ∀ base : Heap, K.In base → base.Ns mainGlobals mg → FnG l.prog w K mg base k fa fd [x] sp) :
    PySem.W.WalkO q loose XP YP l.row.toRowW d [] (fun f vs => PySem.call f vs) := by
  refine Att.attach_call most nodef ?_
  intro w s0 s1 mg mb fa o pm cd doc a vs ns G Y ho hd hcd hmg hobj wholes len gens
  obtain ⟨K, fd, sp, inK, bnd, promise, ok⟩ := F w mg fa _ Y G.T.g hmg
  exact callG_all inK G.T.g G.T.b G.T.builtins G.T.nolimit gens hobj wholes (Nat.le_trans len few) room ok bnd fun H on sq => promise H a ns len on sq
end Z
namespace Z
open PySem PySem.Spec PyProof.Rows L2 Evl
/-- such a def called from such a body -/
theorem run_fnG {X : Cx} {k : Nat} {f : Addr} {fd : FuncData} {ps : List Str} {sp : Sp} {pins : List (Addr × Obj)} {σ : L2.St} {H : Hp} {s : Shared} {Q : VK} {us : List Value} {vs : List V} (F : FnG X.prog X.w X.K X.mg X.base k f fd ps sp) (room : Room k X.A) (gd : X.A.guards = some []) (bnd : Binds X.K fd ps [])
    (I : Inv X pins σ H s) (rv : Vals vs us) (promise : sp vs H Q E0) : wpAny (model X.prog X.w) X.A (call (.ref f) us) (EP X pins σ Q) X.xe s := by
  have ln : (us ++ []).length = ps.length := by
    rw [List.append_nil, ← rv.length]
    exact F.len _ _ _ _ promise
  have b := bnd s us I.kIn ln
  rw [List.append_nil] at b
  have go := F.run X.A X.stack s H ⟨us, []⟩ us vs Q E0 gd room I.env0 b rv promise
  refine wpAny_call (codeAny_mono go ?_)
  rintro (e | fl) s' hq
  · exact False.elim hq
  · cases fl with
    | ret u => exact I.after hq
    | next => exact hq.elim
    | brk => exact hq.elim
    | cont => exact hq.elim
/-- under a name of the module -/
def DnG (P : Program) (w : World) (K : PySem.W.Frag) (mg : Str → Option Value) (base : Heap) (k : Nat) (x : Str) (ps : List Str) (sp : Sp) : Prop :=
  ∃ f fd, FnG P w K mg base k f fd ps sp ∧ mg x = some (.ref f) ∧ PySem.W.keepIn K (.ref f) = true ∧ Binds K fd ps []
theorem pe_cdG {X : Cx} {x : Str} {ps : List Str} {sp : Sp} {k k' : Nat} {e : Expr} {es : List Expr} {t : TA} {p pos : Pos} (D : DnG X.prog X.w X.K X.mg X.base k x ps sp) (room : Room k' X.A) (gd : X.A.guards = some []) (hk : k ≤ k') (hg : Gl X x) (ha : PA X (e :: es) t)
    (hdb : (x == ("__debug__" : Str)) = false := by decide) (he : starEach (e :: es) X.env = (false, eval e X.env) :: starEach es X.env := by rfl) (hpl : (backTo pos (starEach es X.env)).any (·.1) = false := by rfl) :
    PE X (.Call (.Name x p) (e :: es) [] pos) (tCall sp [] E0 t) := by
  obtain ⟨f, fd, F, m, kp, b⟩ := D
  refine ⟨fun pins s σ H Q I h => ?_⟩
  refine wpAny_Call_Name_kw (ld_glob I hg m ?_ hdb)
  refine PySem.W.callWith_K (first := []) (h₀ := X.base) I.ok.mod.kin kp (thn (ha.run pos pins s σ H _ I h) ?_) he hpl
  rintro us s1 ⟨vs, H1, I1, rv, q⟩
  rw [List.append_nil] at q
  exact ⟨I1.kIn, run_fnG F (room.mono hk) gd b I1 rv q⟩
end Z
/-! what repr writes of rows of numbers: its size -/
namespace Z
open PySem PySem.Spec PyProof.Rows L2 Evl
theorem show_ints : ∀ r : List Int, (∀ c ∈ r, c.natAbs.log2 < 1920) → PyData.showableAll (r.map .int) = true ∧ PyData.hasDictAll (r.map .int) = false ∧ ((PyData.shownAll (r.map .int)).map (·.length)).sum ≤ r.length * 1921 ∧ (PyData.shownAll (r.map .int)).length = r.length
  | [], _ => ⟨rfl, rfl, Nat.zero_le _, rfl⟩
  | c :: r, h => by
    obtain ⟨h1, h2, h3, h4⟩ := show_ints r fun c hc => h c (List.mem_cons_of_mem _ hc)
    have hc := h c (List.mem_cons_self ..)
    refine ⟨?_, ?_, ?_, ?_⟩
    · show (PyData.showable (.int c) && PyData.showableAll (r.map .int)) = true
      rw [h1]
      show (decide (c.natAbs.log2 < 1920) && true) = true
      rw [decide_eq_true hc]; rfl
    · show (PyData.hasDict (.int c) || PyData.hasDictAll (r.map .int)) = false
      rw [h2]; rfl
    · have e : PyData.shownAll ((c :: r).map .int) = (Str.ofString (toString c)) :: PyData.shownAll (r.map .int) := rfl
      rw [e, List.map_cons, List.sum_cons, List.length_cons, Nat.succ_mul]
      have := int_text_len_1921 hc
      omega
    · show (PyData.shownAll (r.map .int)).length + 1 = r.length + 1
      rw [h4]
theorem show_rows : ∀ rs : List (List Int), (∀ r ∈ rs, r.length ≤ 9 ∧ ∀ c ∈ r, c.natAbs.log2 < 1920) → PyData.showableAll (rs.map fun r => .tuple (r.map .int)) = true ∧ PyData.hasDictAll (rs.map fun r => .tuple (r.map .int)) = false ∧ ((PyData.shownAll (rs.map fun r => .tuple (r.map .int))).map (·.length)).sum ≤ rs.length * 20000 ∧ (PyData.shownAll (rs.map fun r => .tuple (r.map .int))).length = rs.length
  | [], _ => ⟨rfl, rfl, Nat.zero_le _, rfl⟩
  | r :: rs, h => by
    obtain ⟨h1, h2, h3, h4⟩ := show_rows rs fun c hc => h c (List.mem_cons_of_mem _ hc)
    obtain ⟨hl, hc⟩ := h r (List.mem_cons_self ..)
    obtain ⟨k1, k2, k3, k4⟩ := show_ints r hc
    refine ⟨?_, ?_, ?_, ?_⟩
    · show (PyData.showableAll (r.map .int) && PyData.showableAll (rs.map fun r => .tuple (r.map .int))) = true
      rw [h1, k1]; rfl
    · show (PyData.hasDictAll (r.map .int) || PyData.hasDictAll (rs.map fun r => .tuple (r.map .int))) = false
      rw [h2, k2]; rfl
    · have e : PyData.shownAll ((r :: rs).map fun r => .tuple (r.map .int)) = tupleText (PyData.shownAll (r.map .int)) :: PyData.shownAll (rs.map fun r => .tuple (r.map .int)) := rfl
      rw [e, List.map_cons, List.sum_cons, List.length_cons, Nat.succ_mul]
      have := tupleText_len_le (PyData.shownAll (r.map .int))
      omega
    · show (PyData.shownAll (rs.map fun r => .tuple (r.map .int))).length + 1 = rs.length + 1
      rw [h4]
section
variable {K : PySem.W.Frag} {p : Me}
theorem cr_reprK {X : Cx} {K : PySem.W.Frag} (hK : X.K = K) (hg : X.A.guards = some []) (hu : X.A.units + 64 < cLine) : CallR X (.builtin "repr") (rRepr K) := hK ▸ cr_repr hg hu
theorem c_reprRows {rs : List (List Int)} (h : ∀ r ∈ rs, r.length ≤ 9 ∧ ∀ c ∈ r, c.natAbs.log2 < 1920) (hl : rs.length ≤ 100) : CaD K p (rRepr K) [.list (rs.map fun r => .tuple (r.map .int))] (.str (PyData.shown (.list (rs.map fun r => .tuple (r.map .int))))) := by
  obtain ⟨h1, h2, h3, h4⟩ := show_rows rs h
  refine c_repr rfl h1 h2 ?_ ?_
  · have := (lay_rows rs).2
    show PyData.depthAll (rs.map fun r => .tuple (r.map .int)) + 1 ≤ 60
    omega
  · have := listText_len_le (PyData.shownAll (rs.map fun r => .tuple (r.map .int)))
    show (listText (PyData.shownAll (rs.map fun r => .tuple (r.map .int)))).length ≤ sizeLine
    rw [sizeLine_eq]
    omega
theorem c_tupleK {ds : List PyData} : CaD K p (fun xs H Q => ∃ q ys, xs = [.ref q] ∧ ((SqL K H q ys ∧ ∀ l, H l = none → Q (.ref l) (upd H l (.tup ys))) ∨ (SqT K H q ys ∧ Q (.ref q) H))) [.list ds] (.tuple ds) := fun vs H A h R Q q => by
  obtain ⟨v, rfl, k⟩ := dqall_one h
  obtain ⟨a, xs, rfl, h1, h2⟩ := dq_inv_l k
  exact ⟨a, xs, rfl, .inl ⟨sq_of (R.ex _ _ h1), fun l hl => by
    have g := Gr.alloc R (o := .tup xs) hl
    exact q _ _ _ g (.tup (st_of upd_same) (dqall_ex g.reg h2))⟩⟩
theorem o_neS {a b : Str} : OpD K p rNe (.str a) (.str b) (.bool (!decide (a = b))) := fun x y H A hx hy R Q q => by
  cases hx; cases hy
  refine ⟨rfl, ?_⟩
  have e : decide (V.str a = V.str b) = decide (a = b) := by
    by_cases c : a = b
    · subst c; simp
    · simp [c]
  rw [e]
  exact q _ A H R.refl (.bl _)
theorem o_eqS {a b : Str} : OpD K p rEq (.str a) (.str b) (.bool (decide (a = b))) := fun x y H A hx hy R Q q => by
  cases hx; cases hy
  refine ⟨rfl, ?_⟩
  have e : decide (V.str a = V.str b) = decide (a = b) := by
    by_cases c : a = b
    · subst c; simp
    · simp [c]
  rw [e]
  exact q _ A H R.refl (.bl _)
theorem op_eqDK {X : Cx} {K : PySem.W.Frag} (hK : X.K = K) (hu : X.A.units + 64 < cLine) : OpR X (compareOp .Eq) (rEqD K) := hK ▸ op_eqD hu
theorem op_neDK {X : Cx} {K : PySem.W.Frag} (hK : X.K = K) (hu : X.A.units + 64 < cLine) : OpR X (compareOp .NotEq) (rNeD K) := hK ▸ op_neD hu
theorem op_inK {X : Cx} {K : PySem.W.Frag} (hK : X.K = K) : OpR X (compareOp .In) (rIn K false) := hK ▸ op_in_seq
theorem op_notInK {X : Cx} {K : PySem.W.Frag} (hK : X.K = K) : OpR X (compareOp .NotIn) (rIn K true) := hK ▸ op_notIn_seq
theorem pi_tupK {X : Cx} {K : PySem.W.Frag} {tg e : Expr} {te : TE} (hK : X.K = K) (he : PE X e te) : PI X tg e (iTup K te) := hK ▸ pi_tup he
theorem pi_listK {X : Cx} {K : PySem.W.Frag} {tg e : Expr} {te : TE} (hK : X.K = K) (he : PE X e te) : PI X tg e (iList K te) := hK ▸ pi_list he
theorem sl_listK {X : Cx} {K : PySem.W.Frag} (hK : X.K = K) : SlR X (rSlL K) := hK ▸ sl_list
end
end Z
/-! operators of one's own classes: in, |, ==, !=, len, truth -/
namespace Z
open PySem PySem.Spec PyProof.Rows L2 Evl
section
variable {prog : Program} {w : World} {A : Around} {E : Value → Shared → Prop} {s : Shared} {K : PySem.W.Frag} {c C f : Addr} {ox : Obj} {od : Option Obj}
theorem contains_own {x : Value} {Q : Bool → Shared → Prop} (X : K.In s.heap) (I : PySem.W.InstAt s.heap c ox C od) (at_ : PySem.W.findIn K (.ref C) "__contains__" = some (some (.ref f))) (fn : PySem.W.isFn K (.ref f) = true)
    (h : wpAny (model prog w) A (call (.ref f) [.ref c, x]) (PySem.W.BoolBack Q) E s) : wpAny (model prog w) A (contains (.ref c) x) Q E s := by
  have hf := beq_iff_eq.mp fn
  unfold contains
  refine wpAny_holding ?_
  show wpAny _ A (specialOf (.ref c) "__contains__" >>= _) _ _ _
  refine wpAny_bind (wpAny_bind (I.type.here ((PySem.W.looks_findIn X at_).here ?_)))
  rw [if_neg (by simp)]
  refine wpAny_bind (m := callSpecialUnlessNone? (.ref c) "__contains__" [x] _) ?_
  unfold callSpecialUnlessNone?
  refine wpAny_bind (wpAny_bind (I.type.here ((PySem.W.looks_findIn X at_).here ?_)))
  refine wpAny_holding (wpAny_bind ((PySem.W.bind_fn X _ hf).here ?_))
  show wpAny _ A (if (Value.ref f == Value.none) = true then _ else _) _ _ _
  rw [if_neg (by simp)]
  refine wpAny_bind (wpAny_mono h (fun v s' hv => ?_) fun _ _ e => e)
  cases v <;> first | exact hv.elim | skip
  exact wpAny_pure (wpAny_truthy_bool hv)
theorem len_body {Q : Value → Shared → Prop} (X : K.In s.heap) (I : PySem.W.InstAt s.heap c ox C od) (at_ : PySem.W.findIn K (.ref C) "__len__" = some (some (.ref f))) (fn : PySem.W.isFn K (.ref f) = true)
    (h : wpAny (model prog w) A (call (.ref f) [.ref c]) (PySem.W.LenBack Q) E s) : wpAny (model prog w) A (Builtin.«len» ⟨[.ref c], []⟩) (fun fin s' => ∃ r, fin = .done (.ret r) ∧ Q r s') E s := by
  unfold Builtin.«len»
  refine wpAny_bind (m := oneArg "len" _) (wpAny_pure ?_)
  refine wpAny_bind (m := callSpecial? (.ref c) (Str.ofString "__len__")) (PySem.W.special_fn X I at_ (beq_iff_eq.mp fn) (wpAny_mono h (fun v t hv => ?_) fun _ _ e => e))
  cases v <;> first | exact hv.elim | skip
  obtain ⟨⟨n0, n1⟩, q⟩ := hv
  refine wpAny_bind (wpAny_holding (wpAny_pure ?_)); refine wpAny_bind (wpAny_letGo ?_)
  rename_i n u
  show wpAny _ _ (if n < 0 then _ else _) _ _ _; rw [if_neg (by omega)]
  show wpAny _ _ (if n ≥ 2 ^ 63 then _ else _) _ _ _; rw [if_neg (by omega)]
  exact wpAny_bind (wpAny_mkInt (wpAny_pure ⟨_, rfl, q⟩))
theorem call_lenI {Q : Value → Shared → Prop} (X : K.In s.heap) (I : PySem.W.InstAt s.heap c ox C od) (at_ : PySem.W.findIn K (.ref C) "__len__" = some (some (.ref f))) (fn : PySem.W.isFn K (.ref f) = true)
    (h : wpAny (model prog w) A.in1 (call (.ref f) [.ref c]) (PySem.W.LenBack Q) E s) : wpAny (model prog w) A (call (.builtin "len") [.ref c]) Q E s := by
  refine Calls.call_function_entry kind_len plain_len entry_len (args_len1 _) (wpAny_mono (len_body X I at_ fn h) (fun r t z => ?_) fun _ _ e => e)
  obtain ⟨v, rfl, q⟩ := z
  first | exact ⟨_, rfl, q⟩ | exact q
theorem truthy_len {Q : Bool → Shared → Prop} (X : K.In s.heap) (I : PySem.W.InstAt s.heap c ox C od) (no : PySem.W.findIn K (.ref C) "__bool__" = some none) (at_ : PySem.W.findIn K (.ref C) "__len__" = some (some (.ref f))) (fn : PySem.W.isFn K (.ref f) = true)
    (h : wpAny (model prog w) A.in1 (call (.ref f) [.ref c]) (PySem.W.LenBack fun v t => ∃ n u, v = .int n u ∧ Q (n != 0) t) E s) : wpAny (model prog w) A (truthy (.ref c)) Q E s := by
  have key : wpAny (model prog w) A (runValue (.builtin "len" ⟨[.ref c], []⟩)) (fun v t => ∃ n u, v = .int n u ∧ Q (n != 0) t) E s := by
    refine wpAny_runValue (codeAny_builtin entry_len ?_)
    rw [Around.under_plainId plain_len _]
    exact wpAny_mono (len_body X I at_ fn h) (fun r t z => by obtain ⟨v, rfl, q⟩ := z; exact q) fun _ _ e => e
  unfold truthy
  refine wpAny_bind (m := callSpecial? (.ref c) (Str.ofString "__bool__")) (wpAny_bind (wpAny_bind (I.type.here ((PySem.W.looks_findIn X no).here (wpAny_pure ?_)))))
  refine wpAny_bind (wpAny_bind (I.type.here ((PySem.W.looks_findIn X at_).here ?_)))
  refine wpAny_bind (wpAny_mono key (fun v t z => ?_) fun _ _ e => e)
  obtain ⟨n, u, rfl, q⟩ := z
  exact wpAny_pure q
/-- x != y by object.__ne__, which asks x.__eq__(y) -/
theorem ne_body {y : Value} {Q : Fin → Shared → Prop} (hu : A.units < cLine) (X : K.In s.heap) (I : PySem.W.InstAt s.heap c ox C od) (at_ : PySem.W.findIn K (.ref C) "__eq__" = some (some (.ref f))) (fn : PySem.W.isFn K (.ref f) = true)
    (h : wpAny (model prog w) A (call (.ref f) [.ref c, y]) (PySem.W.BoolBack fun b t => Q (.done (.ret (.bool (!b)))) t) E s) : wpAny (model prog w) A (Builtin.«object.__ne__» ⟨[.ref c, y], []⟩) Q E s := by
  unfold Builtin.«object.__ne__»
  repeat (first
    | with_reducible refine wpAny_cRoomFor hu ?_
    | (refine wpAny_bind (m := callSpecialIfBound? (.ref c) (Str.ofString "__eq__") [y]) (PySem.W.ifBound_K X I at_ fn (wpAny_mono h (fun v t z => by
        cases v <;> first | exact z.elim | skip
        repeat (first | exact z | exact wpAny_pure z | exact wpAny_truthy_bool z | (refine wpAny_bind (m := truthy (.bool _)) (wpAny_truthy_bool ?_)) | wp_step)) fun _ _ e => e)))
    | wp_step)
theorem call_ne {y : Value} {Q : Value → Shared → Prop} (hu : A.units + 1 < cLine) (X : K.In s.heap) (I : PySem.W.InstAt s.heap c ox C od) (hm : PySem.W.mroIn K C (.type "object") = some true) (at_ : PySem.W.findIn K (.ref C) "__eq__" = some (some (.ref f))) (fn : PySem.W.isFn K (.ref f) = true)
    (h : wpAny (model prog w) A.in1 (call (.ref f) [.ref c, y]) (PySem.W.BoolBack fun b t => Q (.bool (!b)) t) E s) : wpAny (model prog w) A (call (.builtin "object.__ne__") [.ref c, y]) Q E s :=
  wpAny_call (codeAny_call_builtin F.cmp_object.ne.plain F.cmpEntry_ne (PySem.W.check_slot F.cmpKind_ne F.cmpSplit_ne (I.type.andThen (PySem.W.looks_mroIn X hm)) (F.cmpArgs_ne _ _) (ne_body (A := A.in1) hu X I at_ fn h)))
theorem ifBound_ne {y : Value} {Q : Option Value → Shared → Prop} (X : K.In s.heap) (I : PySem.W.InstAt s.heap c ox C od) (ne : PySem.W.findIn K (.ref C) "__ne__" = some (some (.builtin "object.__ne__")))
    (h : wpAny (model prog w) A (call (.builtin "object.__ne__") [.ref c, y]) (fun v => Q (some v)) E s) : wpAny (model prog w) A (callSpecialIfBound? (.ref c) "__ne__" [y]) Q E s := by
  simp only [callSpecialIfBound?, bindSpecialIfBound?]
  refine wpAny_holding (wpAny_bind (wpAny_bind (wpAny_bind (I.type.here ((PySem.W.looks_findIn X ne).here ?_)))))
  refine wpAny_bind (wpAny_askSetting (wpAny_ite ?_))
  have last : wpAny (model prog w) A (call (.builtin "object.__ne__") ([.ref c] ++ [y]) >>= fun v => pure (some v)) Q E s := wpAny_bind (wpAny_mono h (fun v t z => wpAny_pure z) fun _ _ z => z)
  split
  · exact wpAny_bind (wpAny_of_eq (F.cmp_object.ne.bind _) (wpAny_pure (by exact last)))
  · exact wpAny_tryCatch (wpAny_bind (wpAny_of_eq (F.cmp_object.ne.bind _) (wpAny_pure (by exact last))))
theorem compare_ne {y : Value} {ty : Value} {Q : Value → Shared → Prop} (hu : A.units + 1 < cLine) (X : K.In s.heap) (I : PySem.W.InstAt s.heap c ox C od) (hb : PySem.W.Looks (model prog w) s.heap (typeOf y) ty) (nf : PySem.W.notFirst K C ty = true) (hm : PySem.W.mroIn K C (.type "object") = some true)
    (ne : PySem.W.findIn K (.ref C) "__ne__" = some (some (.builtin "object.__ne__"))) (at_ : PySem.W.findIn K (.ref C) "__eq__" = some (some (.ref f))) (fn : PySem.W.isFn K (.ref f) = true)
    (h : wpAny (model prog w) A.in1 (call (.ref f) [.ref c, y]) (PySem.W.BoolBack fun b t => Q (.bool (!b)) t) E s) : wpAny (model prog w) A (compareOp .NotEq (.ref c) y) Q E s := by
  refine PySem.W.cmp_ofNotEq ?_
  have one : wpAny (model prog w) A (tryCompare (.ref c) "__ne__" y) (fun r t => ∃ v, r = some v ∧ Q v t) E s := by
    unfold tryCompare
    refine wpAny_bind (ifBound_ne X I ne (call_ne hu X I hm at_ fn (wpAny_mono h (fun v t z => ?_) fun _ _ e => e)))
    cases v <;> first | exact z.elim | skip
    exact wpAny_pure ⟨_, rfl, z⟩
  unfold richCompare
  simp only [oneThing_ref, cmpInfo_NotEq]
  refine wpAny_holding (wpAny_bind (wpAny_cRoomFor (Nat.lt_of_succ_lt hu) ?_))
  refine wpAny_bind (I.type.here (wpAny_bind (hb.here ?_)))
  split
  · rename_i q
    have e : PySem.W.subIn K ty (.ref C) = some false := by
      rcases Bool.or_eq_true_iff.mp nf with e | e
      · rw [beq_iff_eq.mp e] at q; simp at q
      · exact beq_iff_eq.mp e
    refine wpAny_bind ((PySem.W.looks_subIn X e).here ?_)
    simp only [Bool.false_eq_true, if_false]
    refine wpAny_bind (wpAny_mono one (fun r t z => ?_) fun _ _ e => e)
    obtain ⟨v, rfl, hq⟩ := z
    exact wpAny_pure hq
  · refine wpAny_bind (wpAny_pure ?_)
    simp only [Bool.false_eq_true, if_false]
    refine wpAny_bind (wpAny_mono one (fun r t z => ?_) fun _ _ e => e)
    obtain ⟨v, rfl, hq⟩ := z
    exact wpAny_pure hq
end
end Z
/-! the same over the layer: an operator of a class asks the promise of its def -/
namespace Z
open PySem PySem.Spec PyProof.Rows L2 Evl
section
variable {X : Cx} {k : Nat} {C f : Addr} {fd : FuncData} {ps : List Str} {sp : Sp}
theorem run_in1 {pins : List (Addr × Obj)} {σ : L2.St} {H : Hp} {s : Shared} {Q : VK} {us : List Value} {vs : List V} (F : FnOk X.prog X.w X.K X.mg X.base CX0 k f fd ps sp) (hr : Room (k + 1) X.A) (hb : Binds X.K fd ps []) (I : Inv X pins σ H s) (r : Vals vs us) (h : sp vs H Q E0) :
    wpAny (model X.prog X.w) X.A.in1 (call (.ref f) us) (EP X pins σ Q) X.xe s := by
  have hl : (us ++ []).length = ps.length := by
    rw [List.append_nil, ← r.length]
    exact F.len _ _ _ _ h
  have b := hb s us I.kIn hl
  rw [List.append_nil] at b
  refine wpAny_call (codeAny_mono (F.run X.A.in1 X.stack s H ⟨us, []⟩ us vs Q E0 hr.in1 I.env0.in1 b r h) fun r s' hq => ?_)
  cases r with
  | error e => exact hq.elim
  | ok fl =>
    cases fl with
    | ret u => exact I.after hq
    | next => exact hq.elim
    | brk => exact hq.elim
    | cont => exact hq.elim
theorem run_at {pins : List (Addr × Obj)} {σ : L2.St} {H : Hp} {s : Shared} {Q : VK} {us : List Value} {vs : List V} (F : FnOk X.prog X.w X.K X.mg X.base CX0 k f fd ps sp) (hr : Room k X.A) (hb : Binds X.K fd ps []) (I : Inv X pins σ H s) (r : Vals vs us) (h : sp vs H Q E0) :
    wpAny (model X.prog X.w) X.A (call (.ref f) us) (EP X pins σ Q) X.xe s := run_fn F hr hb .nil pass0 I r (by rw [List.append_nil]; exact h)
theorem ins_look {pins : List (Addr × Obj)} {σ : L2.St} {H : Hp} {s : Shared} {a dx : Addr} {fs : List (Str × V)} (I : Inv X pins σ H s) (e : H a = some (.ins C dx fs)) : ∃ od, PySem.W.InstAt s.heap a (PySem.W.instObj C dx) C (some od) := by
  obtain ⟨mA, O, _⟩ := ins_get I.hok e
  obtain ⟨od, J, _⟩ := O.look
  exact ⟨od, J⟩
theorem relv_ne {v : V} {u : Value} (r : RelV v u) : u ≠ .notImplemented := fun z => by
  subst z
  cases v <;> first | (obtain ⟨t, q⟩ := r; cases q) | cases r
/-- len(o) -/
def rLenO (C : Addr) (sp : Sp) : List V → Hp → VK → Prop := fun vs H Q => ∃ a dx fs, vs = [.ref a] ∧ H a = some (.ins C dx fs) ∧ sp [.ref a] H (fun v H' => ∃ n : Nat, v = .int (n : Nat) ∧ n < 2 ^ 62 ∧ Q (.int (n : Nat)) H') E0
theorem cr_lenO (hm : Meth X.K C "__len__" f) (F : FnOk X.prog X.w X.K X.mg X.base CX0 k f fd ps sp) (hr : Room (k + 1) X.A) (hb : Binds X.K fd ps []) : CallR X (.builtin "len") (rLenO C sp) := by
  intro pins s σ H vs us Q I r h
  obtain ⟨a, dx, fs, rfl, ha, q⟩ := h
  rw [Vals.ref1 r]
  obtain ⟨od, J⟩ := ins_look I ha
  refine call_lenI I.kIn J hm.at_ hm.fn (wpAny_mono (run_in1 (vs := [.ref a]) F hr hb I (.cons rfl .nil) q) (fun u s1 z => ?_) fun _ _ e => e)
  obtain ⟨v, H1, I1, rv, n, rfl, hn, q1⟩ := z
  obtain ⟨t, rfl⟩ := (show ∃ t, u = Value.int (n : Nat) t from rv)
  exact ⟨⟨by omega, by omega⟩, .int (n : Nat), H1, I1.tok _, ⟨_, rfl⟩, q1⟩
/-- the truth of o, by its len -/
def rTruO (C : Addr) (sp : Sp) : V → Hp → (Bool → Hp → Prop) → Prop := fun x H Q => ∃ a dx fs, x = .ref a ∧ H a = some (.ins C dx fs) ∧ sp [.ref a] H (fun v H' => ∃ n : Nat, v = .int (n : Nat) ∧ n < 2 ^ 62 ∧ Q (n != 0) H') E0
theorem truthyO {pins : List (Addr × Obj)} {σ : L2.St} {H : Hp} {s : Shared} {x : V} {u : Value} {Q : Bool → Hp → Prop} (no : NoAttr X.K C "__bool__") (hm : Meth X.K C "__len__" f) (F : FnOk X.prog X.w X.K X.mg X.base CX0 k f fd ps sp) (hr : Room (k + 1) X.A) (hb : Binds X.K fd ps [])
    (I : Inv X pins σ H s) (rx : RelV x u) (h : rTruO C sp x H Q) : wpAny (model X.prog X.w) X.A (truthy u) (TP X pins σ Q) X.xe s := by
  obtain ⟨a, dx, fs, rfl, ha, q⟩ := h
  cases rx
  obtain ⟨od, J⟩ := ins_look I ha
  refine truthy_len I.kIn J no hm.at_ hm.fn (wpAny_mono (run_in1 (vs := [.ref a]) F hr hb I (.cons rfl .nil) q) (fun u s1 z => ?_) fun _ _ e => e)
  obtain ⟨v, H1, I1, rv, n, rfl, hn, q1⟩ := z
  obtain ⟨t, rfl⟩ := (show ∃ t, u = Value.int (n : Nat) t from rv)
  refine ⟨⟨by omega, by omega⟩, _, _, rfl, H1, I1.tok _, ?_⟩
  have e : ((n : Int) != 0) = (n != 0) := by
    by_cases c : n = 0
    · subst c; rfl
    · have c' : (n : Int) ≠ 0 := by omega
      rw [bne_iff_ne.mpr c', bne_iff_ne.mpr c]
  rw [e]
  exact q1
/-- x in o -/
def rInO (C : Addr) (sp : Sp) (neg : Bool) : R2 := fun x y H Q => ∃ a dx fs, y = .ref a ∧ H a = some (.ins C dx fs) ∧ sp [.ref a, x] H (fun v H' => ∃ b, v = .bl b ∧ Q (.bl (if neg then !b else b)) H') E0
theorem op_inO (hm : Meth X.K C "__contains__" f) (F : FnOk X.prog X.w X.K X.mg X.base CX0 k f fd ps sp) (hr : Room k X.A) (hb : Binds X.K fd ps []) : OpR X (compareOp .In) (rInO C sp false) := by
  intro pins s σ H x y v u Q I rx ry h
  obtain ⟨a, dx, fs, rfl, ha, q⟩ := h
  cases ry
  obtain ⟨od, J⟩ := ins_look I ha
  show wpAny _ _ (contains (.ref a) v >>= fun b => pure (Value.bool b)) _ _ _
  refine wpAny_bind (contains_own I.kIn J hm.at_ hm.fn (wpAny_mono (run_at (vs := [.ref a, x]) F hr hb I (.cons rfl (.cons rx .nil)) q) (fun u s1 z => ?_) fun _ _ e => e))
  obtain ⟨v, H1, I1, rv, b, rfl, q1⟩ := z
  cases (show u = Value.bool b from rv)
  exact wpAny_pure ⟨.bl b, H1, I1, rfl, q1⟩
/-- o | p -/
def rBinO (C : Addr) (sp : Sp) : R2 := fun x y H Q => ∃ a dx fs b dy gs, x = .ref a ∧ y = .ref b ∧ H a = some (.ins C dx fs) ∧ H b = some (.ins C dy gs) ∧ sp [.ref a, .ref b] H Q E0
theorem op_binO {op : Operator} (sf : PySem.W.selfFirst X.K C = true) (hm : Meth X.K C (PySem.dunder op.info.2) f) (F : FnOk X.prog X.w X.K X.mg X.base CX0 k f fd ps sp) (hr : Room k X.A) (hb : Binds X.K fd ps []) : OpR X (binaryOp op) (rBinO C sp) := by
  intro pins s σ H x y v u Q I rx ry h
  obtain ⟨a, dx, fs, b, dy, gs, rfl, rfl, ha, hb2, q⟩ := h
  cases rx; cases ry
  obtain ⟨od, J⟩ := ins_look I ha
  obtain ⟨oe, J2⟩ := ins_look I hb2
  obtain ⟨m, fr⟩ := I.fr
  refine PySem.W.binop_K fr I.ok.mod.kin J J2.type sf hm.at_ hm.fn (wpAny_mono (run_at (vs := [.ref a, .ref b]) F hr hb I (.cons rfl (.cons rfl .nil)) q) (fun u s1 z => ?_) fun _ _ e => e)
  obtain ⟨v, H1, I1, rv, q1⟩ := z
  have hn := relv_ne rv
  cases u <;> first | exact ⟨v, H1, I1, rv, q1⟩ | exact (hn rfl).elim
/-- the type of data -/
theorem looks_data {pins : List (Addr × Obj)} {σ : L2.St} {H : Hp} {s : Shared} {v : V} {u : Value} {d : PyData} {M : Model} (I : Inv X pins σ H s) (h : Dq X.K H v d) (r : RelV v u) : PySem.W.Looks M s.heap (typeOf u) (.type (tyD d)) := by
  cases h with
  | non => cases (show u = Value.none from r); exact .of_pure rfl
  | bl b => cases (show u = Value.bool b from r); exact .of_pure rfl
  | int i => obtain ⟨t, rfl⟩ := (show ∃ t, u = Value.int i t from r); exact .of_pure rfl
  | str x => obtain ⟨t, rfl⟩ := (show ∃ t, u = Value.str x t from r); exact .of_pure rfl
  | lst h hs =>
    cases (show u = Value.ref _ from r)
    obtain ⟨its, rv, pl, hz⟩ := I.list (sq_of (K := X.K) h)
    obtain ⟨o, ho, hc, _⟩ := pl.isList
    exact fun A Q E s' k q => wpAny_typeOf (T := "list") ⟨o, k _ _ ho, hc⟩ q
  | tup h hs =>
    cases (show u = Value.ref _ from r)
    obtain ⟨its, rv, pt, hz⟩ := I.tuple h
    obtain ⟨o, ho, hc, _⟩ := pt
    exact fun A Q E s' k q => wpAny_typeOf (T := "tuple") ⟨o, k _ _ ho, hc⟩ q
  | @dic a h =>
    cases (show u = Value.ref _ from r)
    obtain ⟨_, _, vs, _, o, es, ep, h1, h2, _⟩ := (show ObjOk X.prog X.w H s.heap a (.dK []) from I.hok _ _ h)
    exact fun A Q E s' k q => wpAny_typeOf (T := "dict") ⟨o, k _ _ h1, h2.1⟩ q
def tysD : List String := ["NoneType", "bool", "int", "str", "list", "tuple", "dict"]
theorem tyD_mem {K : PySem.W.Frag} {H : Hp} {v : V} {d : PyData} (h : Dq K H v d) : tyD d ∈ tysD := by
  cases h <;> simp [tysD, tyD]
theorem notFirst_data {K : PySem.W.Frag} {T : String} (h : T ∈ tysD) : PySem.W.notFirst K C (.type T) = true := by
  have e : ∀ T ∈ tysD, ∃ l, PySem.fastBuiltinMro T = some l ∧ l.all (fun v => match v with | .type _ => true | _ => false) = true := by
    unfold tysD
    intro T hT
    simp only [List.mem_cons, List.not_mem_nil, or_false] at hT
    rcases hT with rfl | rfl | rfl | rfl | rfl | rfl | rfl
    · exact ⟨[.type "NoneType", .type "object"], by decide +kernel, rfl⟩
    · exact ⟨[.type "bool", .type "int", .type "object"], by decide +kernel, rfl⟩
    · exact ⟨[.type "int", .type "object"], by decide +kernel, rfl⟩
    · exact ⟨[.type "str", .type "object"], by decide +kernel, rfl⟩
    · exact ⟨[.type "list", .type "object"], by decide +kernel, rfl⟩
    · exact ⟨[.type "tuple", .type "object"], by decide +kernel, rfl⟩
    · exact ⟨[.type "dict", .type "object"], by decide +kernel, rfl⟩
  obtain ⟨l, e1, e2⟩ := e T h
  have e3 : PySem.W.subIn K (.type T) (.ref C) = some false := by
    show (PySem.fastBuiltinMro T).map (·.contains (.ref C)) = some false
    rw [e1]
    show some (l.contains (.ref C)) = some false
    congr 1
    rw [← Bool.not_eq_true, List.contains_iff_mem]
    intro z
    have := List.all_eq_true.mp e2 _ z
    cases this
  unfold PySem.W.notFirst
  rw [e3]
  simp
/-- o == y, o != y -/
def rEqO (C : Addr) (K : PySem.W.Frag) (sp : Sp) (neg : Bool) : R2 := fun x y H Q => ∃ a dx fs, x = .ref a ∧ H a = some (.ins C dx fs) ∧ ((∃ b dy gs, y = .ref b ∧ H b = some (.ins C dy gs)) ∨ ∃ d, Dq K H y d) ∧ sp [.ref a, y] H (fun v H' => ∃ b, v = .bl b ∧ Q (.bl (if neg then !b else b)) H') E0
theorem other_ok {pins : List (Addr × Obj)} {σ : L2.St} {H : Hp} {s : Shared} {y : V} {u : Value} {M : Model} (I : Inv X pins σ H s) (ry : RelV y u) (h : (∃ b dy gs, y = .ref b ∧ H b = some (.ins C dy gs)) ∨ ∃ d, Dq X.K H y d) : ∃ ty, PySem.W.Looks M s.heap (typeOf u) ty ∧ PySem.W.notFirst X.K C ty = true := by
  rcases h with ⟨b, dy, gs, rfl, hb⟩ | ⟨d, hd⟩
  · cases ry
    obtain ⟨oe, J⟩ := ins_look I hb
    exact ⟨.ref C, J.type, by unfold PySem.W.notFirst; simp⟩
  · exact ⟨_, looks_data I hd ry, notFirst_data (tyD_mem hd)⟩
theorem op_eqO (hm : Meth X.K C "__eq__" f) (F : FnOk X.prog X.w X.K X.mg X.base CX0 k f fd ps sp) (hr : Room k X.A) (hb : Binds X.K fd ps []) : OpR X (compareOp .Eq) (rEqO C X.K sp false) := by
  intro pins s σ H x y v u Q I rx ry h
  obtain ⟨a, dx, fs, rfl, ha, hy, q⟩ := h
  cases rx
  obtain ⟨od, J⟩ := ins_look I ha
  obtain ⟨ty, lk, nf⟩ := other_ok (M := model X.prog X.w) I ry hy
  obtain ⟨m, fr⟩ := I.fr
  refine PySem.W.cmp_ofEq (PySem.W.cmp_K (Nat.lt_of_le_of_lt (Nat.le_add_right _ _) hr.units) fr I.ok.mod.kin J lk nf hm.at_ hm.fn (wpAny_mono (run_at (vs := [.ref a, y]) F hr hb I (.cons rfl (.cons ry .nil)) q) (fun u s1 z => ?_) fun _ _ e => e))
  obtain ⟨v, H1, I1, rv, b, rfl, q1⟩ := z
  cases (show u = Value.bool b from rv)
  exact ⟨.bl b, H1, I1, rfl, q1⟩
theorem op_neO (hm : Meth X.K C "__eq__" f) (ne : PySem.W.findIn X.K (.ref C) "__ne__" = some (some (.builtin "object.__ne__"))) (ob : PySem.W.mroIn X.K C (.type "object") = some true) (F : FnOk X.prog X.w X.K X.mg X.base CX0 k f fd ps sp) (hr : Room (k + 1) X.A) (hb : Binds X.K fd ps []) : OpR X (compareOp .NotEq) (rEqO C X.K sp true) := by
  intro pins s σ H x y v u Q I rx ry h
  obtain ⟨a, dx, fs, rfl, ha, hy, q⟩ := h
  cases rx
  obtain ⟨od, J⟩ := ins_look I ha
  obtain ⟨ty, lk, nf⟩ := other_ok (M := model X.prog X.w) I ry hy
  refine compare_ne (Nat.lt_of_le_of_lt (Nat.add_le_add_left (by decide : 1 ≤ 64) _) hr.units) I.kIn J lk nf ob ne hm.at_ hm.fn (wpAny_mono (run_in1 (vs := [.ref a, y]) F hr hb I (.cons rfl (.cons ry .nil)) q) (fun u s1 z => ?_) fun _ _ e => e)
  obtain ⟨v, H1, I1, rv, b, rfl, q1⟩ := z
  cases (show u = Value.bool b from rv)
  exact ⟨.bl (!b), H1, I1, rfl, q1⟩
end
end Z
/-! what laws do: draws from the pool, rows put together -/
namespace Z
open PySem PySem.Spec PyProof.Rows L2 Evl
section
variable {K : PySem.W.Frag} {p : Me} {σ : L2.St} {H H' A A' : Hp} {te ta tb tc tl ti : TE} {tt : TT} {tu tz : TS} {D : Ends} {d dx dy dz : PyData} {ds es : List PyData}
theorem take_ev {i : Nat} {q : Addr} {own : Hp} {m : Int} (hs : σ[i]? = some (some (.ref q))) (hm : 0 < m) (hm2 : m < 1073741824) :
    EvG ⟨some q, own⟩ (tCall (takeS K) [] E0 (tCons (tVar i) (tCons (tC (.int m)) tNil))) σ H fun v _ => ∃ r : Int, v = .int r ∧ 0 ≤ r ∧ r < m := fun A R Q k =>
  ⟨.ref q, hs, H, q, own, m, rfl, R, hm, hm2, fun r A' H' g h0 h1 => k _ A' H' g ⟨r, rfl, h0, h1⟩⟩
/-- x, q = e, [] -/
theorem q_tupNew {a b : Nat} {e1 : TE} {P : V → Prop} (h1 : EvG p e1 σ H fun v _ => P v) (R : Reg p H A)
    (k : ∀ v q A' H', P v → Gr p A H A' H' → H' q = none → Reg ⟨p.pool, upd p.own q (.lst [])⟩ H' A' → tz D ((σ.set a (some v)).set b (some (.ref q))) A') :
    tSeq (tAsg (tTup (tCons e1 (tCons (tLst tNil) tNil))) (gTup K 2 (gCons (gName a) (gCons (gName b) gNil)))) tz D σ A :=
  h1 A R _ fun v A1 H1 g1 k1 => ⟨sz_of (by show 0 ≤ 100000; decide), fun l hn => ⟨sz_of (by show 2 ≤ 100000; decide), fun T hT => by
    have R1 := g1.to R
    have g2 := Gr.allocM R1 (o := .lst []) hn
    have R2 := g2.to R1
    have hnp : p.pool ≠ some l := fun z => by
      obtain ⟨a, b, e, _⟩ := R1.pool l z
      rw [hn] at e; cases e
    have hnH : H1 l = none := fresh_back R1.ex hn
    have g3 := Gr.allocM R2 (o := .tup [v, .ref l]) hT
    have r3 := (g3.to R2).put (o := .lst []) hnp hnH
    have hl3 : upd (upd A1 l (.lst [])) T (.tup [v, .ref l]) l = some (.lst []) := by
      have c : l ≠ T := fun z => by rw [← z, upd_same] at hT; cases hT
      rw [upd_ne c, upd_same]
    rw [upd_id hl3] at r3
    exact gtup2 upd_same (k v l _ H1 k1 ((g1.trans g2).trans g3) hnH r3)⟩⟩
/-- what was one's own is known from here on; nothing changes any more -/
theorem Reg.settle {q : Addr} {o : HO} (R : Reg p H A) (h : p.own q = some o) : Reg .non (upd H q o) A := by
  have e := R.own q o h
  refine ⟨fun x y hx => ?_, (fun q h => nomatch h), (fun q h => nomatch h), (fun q o h => nomatch h), (fun q o h => nomatch h)⟩
  by_cases c : x = q
  · subst c
    rw [upd_same] at hx
    rw [e]; exact hx
  · rw [upd_ne c] at hx
    exact R.ex x y hx
theorem dqall_ints {G : Hp} : ∀ r : List Int, DqAll K G (r.map V.int) (r.map .int)
  | [] => .nil
  | c :: r => .cons (.int c) (dqall_ints r)
/-- [te for j in range(n)], te some int of which Pc holds -/
theorem lcR_any {j : Nat} {vs : List Nat} {ta : TA} {n : Int} {Pc : Int → Prop} (h : EvS K p ta σ H [.int n]) (h0 : 0 ≤ n) (hz : n ≤ 60000) (hw : ∀ x, wipe ((wipe σ vs).set j (some x)) vs = wipe σ vs)
    (he : ∀ (i : Nat) H1, Ex H H1 → EvG p te ((wipe σ vs).set j (some (.int i))) H1 fun v _ => ∃ c : Int, v = .int c ∧ Pc c) :
    EvG p (tLc (iRng1 ta) (gName j) tYes te vs) σ H fun v H' => ∃ r : List Int, (r.length : Int) = n ∧ (∀ c ∈ r, Pc c) ∧ Dq K H' v (.list (r.map .int)) := fun A R Q q => h A R _ fun us A1 H1 g1 k1 => by
  cases k1 with | cons c1 c2 =>
  cases c2
  cases c1
  have R1 := g1.to R
  refine ⟨_, rfl, by omega, by omega, fun Dl hD => ?_⟩
  have nh : H1 Dl = none := fresh_back R1.ex hD
  have np : p.pool ≠ some Dl := fun z => by
    obtain ⟨a, b, h, _⟩ := R1.pool Dl z
    rw [hD] at h
    cases h
  refine lc_it (walk_range (lo := 0) (n := n.toNat)) (fun i A' => ∃ (H' : Hp) (r : List Int), Gr p A1 H1 A' H' ∧ H' Dl = none ∧ A' Dl = some (.lst (r.map V.int)) ∧ r.length = i ∧ ∀ c ∈ r, Pc c) ⟨H1, [], Gr.allocM R1 hD, nh, upd_same, rfl, (fun c h => nomatch h)⟩ (fun i A' _ _ => trivial) ?_ ?_
  · rintro i x A' A2 hi ⟨H', r, g2, m2, e2, l2, p2⟩ ⟨rfl, rfl⟩
    have e0 : (0 : Int) + (i : Int) = (i : Int) := Int.zero_add _
    refine ⟨hw _, ?_⟩
    dsimp only
    rw [e0]
    have R2 := g2.to R1
    show te _ A2 fun y A5 => _
    refine he i H' (g1.reg.trans g2.reg) A2 R2 _ fun z A5 H5 g5 ⟨c, hc, pc⟩ => ?_
    subst hc
    have new5 : H5 Dl = none := by
      cases q : H5 Dl with
      | none => rfl
      | some o =>
        have := g5.new Dl _ o e2 q
        rw [m2] at this
        cases this
    refine ⟨r.map V.int, g5.act Dl _ np e2, sz_lt (by rw [List.length_map]; omega), H5, r ++ [c], ?_, new5, ?_, by rw [List.length_append, l2]; rfl, fun b hb => ?_⟩
    · exact Gr.mut (g2.trans g5) hD new5 np
    · rw [upd_same, List.map_append]; rfl
    · rcases List.mem_append.mp hb with hb | hb
      · exact p2 b hb
      · have : b = c := by simpa using hb
        rw [this]; exact pc
  · rintro A' ⟨H', r, g2, m2, e2, l2, p2⟩
    have g3 := g2.know hD m2 e2
    exact q _ _ _ (g1.trans g3) ⟨r, by omega, p2, Dq.lst upd_same (dqall_ints r)⟩
theorem c_max2 {i j : Int} : CaD K p (fun xs H Q => ∃ i j, xs = [.int i, .int j] ∧ Q (.int (if j > i then j else i)) H) [.int i, .int j] (.int (if j > i then j else i)) := fun vs H A h R Q q => by
  obtain ⟨v, w, rfl, k1, k2⟩ := dqall_two h
  cases k1; cases k2
  exact ⟨i, j, rfl, q _ A H R.refl (.int _)⟩
theorem c_min2 {i j : Int} : CaD K p (fun xs H Q => ∃ i j, xs = [.int i, .int j] ∧ Q (.int (if j < i then j else i)) H) [.int i, .int j] (.int (if j < i then j else i)) := fun vs H A h R Q q => by
  obtain ⟨v, w, rfl, k1, k2⟩ := dqall_two h
  cases k1; cases k2
  exact ⟨i, j, rfl, q _ A H R.refl (.int _)⟩
theorem s_appOwnG {i : Nat} {q : Addr} {xs : List V} {P : V → Hp → Prop} (hs : σ[i]? = some (some (.ref q))) (ho : p.own q = some (.lst xs)) (h : EvG p te σ H P) (hz : xs.length < 100000) (R : Reg p H A)
    (k : ∀ v A' H', Gr p A H A' H' → P v H' → Reg ⟨p.pool, upd p.own q (.lst (xs ++ [v]))⟩ H' (upd A' q (.lst (xs ++ [v]))) → D.nx σ (upd A' q (.lst (xs ++ [v])))) : tDrop (tBM K "list" rAppend (tVar i) (tCons te tNil)) D σ A :=
  ⟨.ref q, hs, .inl ⟨rfl, xs, sq_of (R.own _ _ ho)⟩, h A R _ fun v A1 H1 g1 k1 => by
    have R1 := g1.to R
    exact ⟨q, xs, v, rfl, rfl, R1.own _ _ ho, sz_lt hz, k v A1 H1 g1 k1 (R1.put (R1.offO q _ ho).2 (R1.offO q _ ho).1)⟩⟩
theorem tup_any {P : List Int → Prop} (h : EvG p te σ H fun v H' => ∃ r : List Int, P r ∧ Dq K H' v (.list (r.map .int))) :
    EvG p (tCB (fun xs H Q => ∃ q ys, xs = [.ref q] ∧ ((SqL K H q ys ∧ ∀ l, H l = none → Q (.ref l) (upd H l (.tup ys))) ∨ (SqT K H q ys ∧ Q (.ref q) H))) (tCons te tNil)) σ H fun v H' => ∃ r : List Int, P r ∧ Dq K H' v (.tuple (r.map .int)) := fun A R Q k => h A R _ fun v A1 H1 g1 ⟨r, hr, kr⟩ => by
  obtain ⟨a, xs, rfl, h1, h2⟩ := dq_inv_l kr
  have R1 := g1.to R
  exact ⟨a, xs, rfl, .inl ⟨sq_of (R1.ex _ _ h1), fun l hl => by
    have g := Gr.alloc R1 (o := .tup xs) hl
    exact k _ _ _ (g1.trans g) ⟨r, hr, .tup (st_of upd_same) (dqall_ex g.reg h2)⟩⟩⟩
/-- [e, ..][_law_take(pool, m)] -/
theorem pick_any {i : Nat} {q : Addr} {own : Hp} {m : Int} {ta : TA} {Pc : Int → Prop} (hs : σ[i]? = some (some (.ref q))) (hm : 0 < m) (hm2 : m < 1073741824) (h : EvS K ⟨some q, own⟩ ta σ H ds) (hl : ds.length ≤ 100000) (ha : ∀ r : Int, 0 ≤ r → r < m → ∃ c : Int, atI ds r = some (.int c) ∧ Pc c) :
    EvG ⟨some q, own⟩ (tOp (rIx K) (tLst ta) (tCall (takeS K) [] E0 (tCons (tVar i) (tCons (tC (.int m)) tNil)))) σ H fun v _ => ∃ c : Int, v = .int c ∧ Pc c := fun A R Q k =>
  d_lst h hl A R _ fun lv A1 H1 g1 k1 => take_ev (K := K) (H := H1) hs hm hm2 A1 (g1.to R) _ fun v A2 H2 g2 ⟨r, hr, h0, h1⟩ => by
    subst hr
    obtain ⟨c, e, pc⟩ := ha r h0 h1
    exact o_ixL e lv (.int r) H2 A2 (dq_ex g2.reg _ _ k1) (.int r) (g2.to (g1.to R)) Q fun v A' H' g k4 => k v A' H' ((g1.trans g2).trans g) ⟨c, by cases k4; rfl, pc⟩
end
end Z
/-! comprehensions over enumerate(t), loops over enumerate(l), reversed and cut lists, lists unpacked -/
namespace Z
open PySem PySem.Spec PyProof.Rows L2 Evl
section
variable {K : PySem.W.Frag} {p : Me} {σ : L2.St} {H H' A A' : Hp} {te ta tb tc tl ti : TE} {tt : TT} {tu tz : TS} {D : Ends} {d dx dy dz : PyData} {ds es : List PyData}
/-- [te for i, x in enumerate(t) if tt] -/
theorem d_lcE {a b : Nat} {vs : List Nat} {ta : TA} (f : Nat → Bool) (v : Nat → PyData) (h : EvS K p ta σ H [.tuple ds]) (hz : ds.length ≤ 60000) (hw : ∀ x y, wipe (((wipe σ vs).set a (some x)).set b (some y)) vs = wipe σ vs)
    (ht : ∀ (i : Nat) c, ds[i]? = some c → ∀ x H1, Ex H H1 → Dq K H1 x c → EvB p tt (((wipe σ vs).set a (some (.int (i : Int)))).set b (some x)) H1 (f i))
    (he : ∀ (i : Nat) c, ds[i]? = some c → ∀ x H1, Ex H H1 → Dq K H1 x c → f i = true → EvD K p te (((wipe σ vs).set a (some (.int (i : Int)))).set b (some x)) H1 (v i)) :
    EvD K p (tLc (iEnumT K ta) (gTup K 2 (gCons (gName a) (gCons (gName b) gNil))) tt te vs) σ H (.list (((List.range ds.length).filter f).map v)) := fun A R Q q => h A R _ fun us A1 H1 g1 k1 => by
  obtain ⟨u0, rfl, k1x⟩ := dqall_one k1
  obtain ⟨t, xs, rfl, sq, el⟩ := dq_inv_t k1x
  have R1 := g1.to R
  have ln := dqall_len el
  refine ⟨t, xs, rfl, ex_t R1.ex sq, fun Dl hD => lc_w (K := K) (p := p) (H1 := H1) (walk_enumT (K := K) (a := t) (xs := xs)) R1 hD (by omega) f v (fun H' A' e r => ex_t (e.trans r.ex) sq) ?_ ?_ ?_⟩
  · rintro i x A' A2 H' hi e r ⟨T, y1, y2, rfl, nT, rfl, e1, e2⟩
    cases e1
    have hi' : i < ds.length := by omega
    obtain ⟨w1, hv, kv⟩ := dqall_get el (List.getElem?_eq_getElem hi')
    cases (show xs[i]? = some y2 from e2).symm.trans hv
    have g := Gr.allocM r (o := .tup [.int (i : Int), y2]) nT
    exact gtup2 upd_same ⟨hw _ _, H', g, ht i _ (List.getElem?_eq_getElem hi') y2 H' (g1.reg.trans e) (dq_ex e _ _ kv), he i _ (List.getElem?_eq_getElem hi') y2 H' (g1.reg.trans e) (dq_ex e _ _ kv)⟩
  · rintro x σ A Q Q' hq ⟨a, zs, e1, e2, e3, z1, r1, e4, z2, r2, e5, e6, q⟩
    exact ⟨a, zs, e1, e2, e3, z1, r1, e4, z2, r2, e5, e6, hq _ _ q⟩
  · intro A' H' zs g n' e k
    rw [ln] at k
    exact done_lc R1 hD g n' e k fun v A2 H2 g2 k2 => q v A2 H2 (g1.trans g2) k2
/-- for i, x in enumerate(l) -/
theorem s_forEL {a b : Nat} {ta : TA} (h : EvS K p ta σ H [.list ds]) (R : Reg p H A) (I : Iv) (h0 : ∀ A1 H1, Gr p A H A1 H1 → I 0 σ A1 H1 p.own)
    (hs : ∀ H1, Ex H H1 → ∀ (i : Nat) d v σ' A' A2 H' w, ds[i]? = some d → I i σ' A' H' w → Ex H1 H' → Gr ⟨p.pool, w⟩ A' H' A2 H' → Reg ⟨p.pool, w⟩ H' A2 → Dq K H' v d → tu { D with nx := Nx p (I (i + 1)) H1, ct := Nx p (I (i + 1)) H1, bk := D.nx } ((σ'.set a (some (.int i))).set b (some v)) A2)
    (hd : ∀ σ' A' H' w, I ds.length σ' A' H' w → Ex H H' → Reg ⟨p.pool, w⟩ H' A' → D.nx σ' A') : tFor (iEnum K ta) (gTup K 2 (gCons (gName a) (gCons (gName b) gNil))) tu D σ A := h A R _ fun us A1 H1 g1 k1 => by
  obtain ⟨v0, rfl, k1x⟩ := dqall_one k1
  obtain ⟨t, xs, rfl, sq, el⟩ := dq_inv_l k1x
  have R1 := g1.to R
  have ln := dqall_len el
  refine ⟨t, xs, rfl, sq_of (R1.ex _ _ sq), loop_w (walk_enum (K := K) (a := t) (xs := xs)) I R1 (fun H' A' w e r => sq_of ((e.trans r.ex) _ _ sq)) (h0 A1 H1 g1) ?_ ?_⟩
  · rintro i x σ' A' A2 H' w hi hI e r ⟨T, y1, y2, rfl, nT, rfl, e1, e2⟩
    cases e1
    have hi' : i < ds.length := by omega
    obtain ⟨v, hv, kv⟩ := dqall_get el (List.getElem?_eq_getElem hi')
    cases (show xs[i]? = some y2 from e2).symm.trans hv
    have g := Gr.allocM r (o := .tup [.int (i : Int), y2]) nT
    refine gtup2 upd_same ?_
    exact hs H1 g1.reg i _ y2 σ' A' _ H' w (List.getElem?_eq_getElem hi') hI e g (g.to r) (dq_ex e _ _ kv)
  · intro σ' A' H' w hI e r
    rw [ln] at hI
    exact hd σ' A' H' w hI (g1.reg.trans e) r
theorem dqall_rev {xs : List V} : ∀ {ds : List PyData}, DqAll K H xs ds → DqAll K H xs.reverse ds.reverse := by
  intro ds h
  induction ds generalizing xs with
  | nil => cases h; exact .nil
  | cons c cs ih =>
    cases h with | cons a b =>
    rw [List.reverse_cons, List.reverse_cons]
    exact dqall_append (ih b) (.cons a .nil)
/-- l[::-1] -/
theorem d_rev (h : EvD K p te σ H (.list ds)) : EvD K p (tRevL K te) σ H (.list ds.reverse) := fun A R Q q => h A R _ fun v A1 H1 g1 k1 => by
  obtain ⟨a, xs, rfl, h1, h2⟩ := dq_inv_l k1
  have R1 := g1.to R
  refine ⟨a, xs, rfl, sq_of (R1.ex _ _ h1), fun l hl => ?_⟩
  have g := Gr.alloc R1 (o := .lst xs.reverse) hl
  exact q _ _ _ (g1.trans g) (.lst upd_same (dqall_ex g.reg (dqall_rev h2)))
theorem dqall_take {xs : List V} (n : Nat) : ∀ {ds : List PyData}, DqAll K H xs ds → DqAll K H (xs.take n) (ds.take n) := by
  intro ds h
  induction ds generalizing xs n with
  | nil => cases h; simp only [List.take_nil]; exact .nil
  | cons c cs ih =>
    cases h with | cons a b =>
    cases n with
    | zero => exact .nil
    | succ n => exact .cons a (ih n b)
theorem dqall_drop {xs : List V} (n : Nat) : ∀ {ds : List PyData}, DqAll K H xs ds → DqAll K H (xs.drop n) (ds.drop n) := by
  intro ds h
  induction ds generalizing xs n with
  | nil => cases h; simp only [List.drop_nil]; exact .nil
  | cons c cs ih =>
    cases h with | cons a b =>
    cases n with
    | zero => exact .cons a b
    | succ n => exact ih n b
def cutD (xs : List PyData) (lo hi : Option Int) : List PyData := (xs.drop (HT.sIx xs.length 0 lo)).take (HT.sIx xs.length xs.length hi - HT.sIx xs.length 0 lo)
theorem dqall_cut {xs : List V} {lo hi : Option Int} (h : DqAll K H xs ds) : DqAll K H (cutV xs lo hi) (cutD ds lo hi) := by
  unfold cutV cutD
  rw [dqall_len h]
  exact dqall_take _ (dqall_drop _ h)
/-- l[:n] -/
theorem d_cutHi {n : Int} (h : EvD K p te σ H (.list ds)) (hn : EvD K p ti σ H (.int n)) : EvD K p (tSl (rSlL K) te tNoPart (tPart ti)) σ H (.list (cutD ds none (some n))) := fun A R Q q => h A R _ fun v A1 H1 g1 k1 => by
  refine EvD.mono g1.reg hn A1 (g1.to R) _ fun u A2 H2 g2 k2 => ?_
  cases k2
  obtain ⟨a, xs, rfl, h1, h2⟩ := dq_inv_l k1
  have R2 := g2.to (g1.to R)
  refine ⟨n, rfl, a, xs, rfl, sq_of (R2.ex _ _ (g2.reg _ _ h1)), fun l hl => ?_⟩
  have g := Gr.alloc R2 (o := .lst (cutV xs none (some n))) hl
  exact q _ _ _ ((g1.trans g2).trans g) (.lst upd_same (dqall_ex (g2.reg.trans g.reg) (dqall_cut h2)))
/-- x, y = l -/
theorem q_unl2 {a b : Nat} {d1 d2 : PyData} (h : EvD K p te σ H (.list [d1, d2])) (R : Reg p H A) (k : ∀ x y A' H', Gr p A H A' H' → Dq K H' x d1 → Dq K H' y d2 → tz D ((σ.set a (some x)).set b (some y)) A') :
    tSeq (tAsg te (gUnl K 2 (gCons (gName a) (gCons (gName b) gNil)))) tz D σ A := h A R _ fun v A1 H1 g1 k1 => by
  obtain ⟨l, xs, rfl, h1, h2⟩ := dq_inv_l k1
  obtain ⟨x, y, rfl, kx, ky⟩ := dqall_two h2
  exact ⟨l, [x, y], rfl, sq_of ((g1.to R).ex _ _ h1), rfl, x, [y], rfl, y, [], rfl, rfl, k x y A1 H1 g1 kx ky⟩
/-- i in l -/
theorem o_in {i : Int} {ns : List Int} : OpD K p (rIn K false) (.int i) (.list (ns.map .int)) (.bool (decide (i ∈ ns))) := fun x y H A hx hy R Q q => by
  cases hx
  obtain ⟨a, xs, rfl, h1, h2⟩ := dq_inv_l hy
  have := dq_ints h2
  subst this
  refine ⟨a, _, rfl, .inl (sq_of (R.ex _ _ h1)), rfl, flat_ints ns, ?_⟩
  show Q (.bl (inV (.int i) (ns.map V.int))) A
  rw [inV_ints]
  exact q _ A H R.refl (.bl _)
end
end Z
/-! set(xs) and sorted(set(xs)), xs a list of numbers -/
namespace Z
open PySem PySem.Spec PyProof.Rows L2 Evl
/-- a set as it is made -/
abbrev newSet (w : World) : Obj := { cls := .type "set", dict := none, data := .set #[] 0 (.fresh 0 0 (!w.params.followText "set-order")) }
section
variable {P : Program} {w : World} {A : Around} {E : Value → Shared → Prop} {s : Shared}
theorem call_setL {l : Addr} {xs : Array Value} (ns : List Int) {Q : Value → Shared → Prop} (calm : A.handled = none) (hl : s.heap.IsList l xs) (hi : IntsAre xs.toList ns) (few : ns.length + 1 < scanBound)
    (k : ∀ (g : Heap) (tk c : Nat), SetR w g s.heap.objs.size (fun j => decide (j ∈ ns)) c → c ≤ ns.length → (∀ b o, s.heap.get? b = some o → g.get? b = some o) → Q (.ref s.heap.objs.size) { s with heap := g, toks := tk }) :
    wpAny (model P w) A (call (.type "set") [.ref l]) Q E s := by
  have size : xs.size = ns.length := by have := hi.length; rwa [Array.length_toList] at this
  obtain ⟨mc, mt, hmro⟩ := F.called_set.mro
  have f1 := F.called_set.made; have f2 := F.called_set.sub
  refine wpAny_call (codeAny_of_tree ?_); show wpAny _ _ (callAny (.type "set") _) _ _ _
  refine wpAny_pure ⟨Code.quiet_builtin _ (by decide +kernel), codeAny_builtin F.entry_type_call ?_⟩; rw [Around.under_plain (weight_type_call_type "set" [.ref l] []) rfl]
  have f3 := F.called_set.notType; have f4 := F.called_set.canCreate; have f5 := F.typeCall_set_1 (.ref l)
  repeat (any_goals (first | wp_step | assumption))
  refine codeAny_mono (code_set_led1 (.ref l) (E := E) (Q₁ := fun o t => o = .ref s.heap.objs.size ∧ t = { s with heap := s.heap.push (newSet w) }) ⟨rfl, rfl⟩) fun r t hr => ?_
  cases r with
  | error e => exact hr
  | ok fin =>
  cases fin with
  | ret o =>
    obtain ⟨rfl, rfl⟩ := hr
    have at0 : (s.heap.push (newSet w)).get? s.heap.objs.size = some (newSet w) := Heap.get?_push_size _ rfl
    have ty0 : Shared.TypeIs { s with heap := s.heap.push (newSet w) } (.ref s.heap.objs.size) "set" := ⟨_, at0, rfl⟩
    have f6 := F.called_set.init.lookup; have f7 := F.called_set.init.bind (.ref s.heap.objs.size)
    repeat (any_goals (first | wp_step | assumption))
    refine codeAny_mono (codeAny_call_builtin (R := wants (fun r t => r = .none ∧ ∃ g tk c, t = { s with heap := g, toks := tk } ∧ SetR w g s.heap.objs.size (fun j => decide (j ∈ ns)) c ∧ c ≤ ns.length ∧ (∀ b o, s.heap.get? b = some o → g.get? b = some o)) E) F.called_set.init.plain F.entry_set_init (check_set_init_1 ty0 ?_)) fun r2 t2 hr2 => ?_
    · obtain ⟨⟨oc, od, odt, osl⟩, hol, hcl, nl, hdl⟩ := hl
      simp only at hcl hdl
      subst hcl; subst hdl
      have g1 := F.sub_list_set; have g2 := F.sub_list_frozenset
      have g3 : (Value.type "list" == Value.type "dict") = false := by decide
      have list1 : (s.heap.push (newSet w)).IsList l xs := ⟨_, Heap.get?_push_of_some _ hol, rfl, nl, rfl⟩
      have ol1 : (s.heap.push (newSet w)).get? l = some { cls := .type "list", dict := od, data := .seq xs nl, slots := osl } := Heap.get?_push_of_some _ hol
      unfold Builtin.«set.__init__» noKeywords Builtin.Frozenset.updateFrom; generalize hPI : pyIter = PI
      wp_walk
      subst hPI; refine wpAny_pyIter_list list1 ?_
      refine wpAny_bind (wpAny_runValue ?_)
      have lt : l < s.heap.objs.size := Heap.lt_size hol
      have calm3 : A.in1.in1.in1.handled = none := by simp [calm]
      have psz : (s.heap.push (newSet w)).objs.size = s.heap.objs.size + 1 := Heap.size_push ..
      have ne1 : l ≠ (s.heap.push (newSet w)).objs.size := by rw [psz]; exact Nat.ne_of_lt (Nat.lt_succ_of_lt lt)
      have ne2 : s.heap.objs.size ∉ [(s.heap.push (newSet w)).objs.size, l] := by
        rw [psz]
        intro z
        rcases List.mem_cons.mp z with z | z
        · exact Nat.ne_of_lt (Nat.lt_succ_self _) z
        · exact Nat.ne_of_gt lt (List.mem_singleton.mp z)
      have vals : ∀ (i : Nat) (v : Value), xs[i]? = some v → ∃ z t, ns[i]? = some z ∧ v = .int z t := fun i v hv => by
        have il : i < ns.length := by rw [← size]; exact (Array.getElem?_eq_some_iff.mp hv).1
        obtain ⟨t, e⟩ := PyProof.Rows.IntsAre.int_at hi i v (by rw [Array.getElem?_toList]; exact hv)
        exact ⟨ns[i], t, List.getElem?_eq_getElem il, by rw [e, List.getD_eq_getElem?_getD, List.getElem?_eq_getElem il] <;> rfl⟩
      refine set_update_ints ((Walks.list calm3 _ l ne1 xs).toS) s.heap.objs.size ne2 ns size few vals (xs.size - 0) 0 _ (by omega) (Nat.zero_le _) ⟨⟨_, Heap.get?_push_size _ rfl, rfl, rfl⟩, (list1.push _)⟩ ?first ?last
      case first => exact ⟨0, Nat.le_refl 0, setR_new_at (Heap.get?_push_of_some _ at0)⟩
      case last =>
        rintro ⟨g, gs, dr, tk, os⟩ c mv cn R
        have z1 : gs = s.gens := mv.gens
        have z2 : dr = s.drawn := mv.drawn
        have z3 : os = s.os := mv.os
        subst z1; subst z2; subst z3
        rw [size] at cn
        show wpAny _ _ _ _ _ _
        refine wpAny_pure ?_
        show wpAny _ _ (ret Value.none) _ _ _
        refine wpAny_pure ⟨rfl, g, tk, c, rfl, R, cn, fun b o e => ?_⟩
        have b0 : b < s.heap.objs.size := Heap.lt_size e
        refine mv.heap b o (fun z => ?_) (Heap.get?_push_of_some _ (Heap.get?_push_of_some _ e))
        rcases List.mem_cons.mp z with z | z
        · exact Nat.ne_of_lt b0 z
        · exact Nat.ne_of_lt (Nat.lt_succ_of_lt b0) ((List.mem_singleton.mp z).trans psz)
    · cases r2 with
      | error e => exact hr2
      | ok fin =>
      cases fin with
      | ret r =>
        obtain ⟨rfl, g, tk, c, rfl, R, cn, kp⟩ := hr2
        repeat (any_goals (first | wp_step | assumption))
        exact k _ _ _ R cn kp
      | _ => exact hr2.elim
  | _ => exact hr.elim
end
/-- set(xs): a set with just these -/
def rSetL (K : PySem.W.Frag) (w : World) : List V → Hp → VK → Prop := fun vs H Q => ∃ (a : Addr) (ns : List Int), vs = [.ref a] ∧ SqL K H a (ns.map V.int) ∧ ns.length ≤ 50 ∧ ∀ p c, H p = none → c ≤ ns.length → Q (.ref p) (upd H p (SetO w p (fun j => decide (j ∈ ns)) c))
theorem cr_setL {X : Cx} {K : PySem.W.Frag} (hK : X.K = K) (hc : X.calm = true) : CallR X (.type "set") (rSetL K X.w) := by
  subst hK
  intro pins s σ H vs us Q I r h
  obtain ⟨a, ns, rfl, hq, few, q⟩ := h
  rw [Vals.ref1 r]
  obtain ⟨its, rv, pl, hz⟩ := I.list hq
  refine call_setL ns (I.ok.hd hc) pl.isList (by simpa using ints_of_vals rv) (by unfold scanBound; omega) fun g tk c R cn kp => ?_
  have hn : H s.heap.objs.size = none := I.hok.fresh (Nat.le_refl _)
  exact ⟨.ref _, upd H s.heap.objs.size (SetO X.w s.heap.objs.size (fun j => decide (j ∈ ns)) c), I.laid (fun b u e => kp b u e) (Nat.le_refl _) (setO_new R), rfl, q _ c hn cn⟩
/-- the only rising list -/
theorem rising_eq : ∀ {l m : List Int}, l.Pairwise (· < ·) → m.Pairwise (· < ·) → (∀ j, j ∈ l ↔ j ∈ m) → l = m
  | [], [], _, _, _ => rfl
  | [], b :: m, _, _, h => absurd ((h b).mpr (List.mem_cons_self ..)) List.not_mem_nil
  | a :: l, [], _, _, h => absurd ((h a).mp (List.mem_cons_self ..)) List.not_mem_nil
  | a :: l, b :: m, hl, hm, h => by
    obtain ⟨l1, l2⟩ := List.pairwise_cons.mp hl
    obtain ⟨m1, m2⟩ := List.pairwise_cons.mp hm
    have hab : a = b := by
      rcases List.mem_cons.mp ((h a).mp (List.mem_cons_self ..)) with e | q
      · exact e
      · rcases List.mem_cons.mp ((h b).mpr (List.mem_cons_self ..)) with e | q2
        · exact e.symm
        · have := m1 a q
          have := l1 b q2
          omega
    subst hab
    rw [rising_eq l2 m2 fun j => ⟨fun q => ?_, fun q => ?_⟩]
    · rcases List.mem_cons.mp ((h j).mp (List.mem_cons_of_mem _ q)) with e | q2
      · have := l1 j q; omega
      · exact q2
    · rcases List.mem_cons.mp ((h j).mpr (List.mem_cons_of_mem _ q)) with e | q2
      · have := m1 j q; omega
      · exact q2
section
variable {K : PySem.W.Frag} {p : Me} {σ : L2.St} {H A : Hp} {te : TE}
/-- sorted(set(xs)), xs rising: the same again -/
theorem d_sortedSet {w : World} {ns : List Int} (h : EvD K p te σ H (.list (ns.map .int))) (few : ns.length ≤ 50) (hr : ns.Pairwise (· < ·)) : EvD K p (tCB (rSortedSet w) (tCons (tCB (rSetL K w) (tCons te tNil)) tNil)) σ H (.list (ns.map .int)) := fun A R Q q => h A R _ fun v A1 H1 g1 k1 => by
  obtain ⟨a, xs, rfl, h1, h2⟩ := dq_inv_l k1
  have := dq_ints h2
  subst this
  have R1 := g1.to R
  refine ⟨a, ns, rfl, sq_of (R1.ex _ _ h1), few, fun s c hs cn => ?_⟩
  have g2 := Gr.allocM R1 (o := SetO w s (fun j => decide (j ∈ ns)) c) hs
  have R2 := g2.to R1
  refine ⟨s, _, c, rfl, upd_same, by omega, fun ms b rm mem _ hb => ?_⟩
  have e : ms = ns := rising_eq rm hr fun j => by rw [mem j, decide_eq_true_eq]
  subst e
  have g3 := Gr.alloc R2 (o := .lst (ms.map V.int)) hb
  exact q _ _ _ ((g1.trans g2).trans g3) (.lst upd_same (dqall_ex (g2.reg.trans g3.reg) h2))
end
end Z
/-! objects that stand in what is known; promises that speak of more than data -/
namespace Z
open PySem PySem.Spec PyProof.Rows L2 Evl
/-- as EvS, of any values -/
def EvA (p : Me) (ta : TA) (σ : L2.St) (H : Hp) (P : List V → Hp → Prop) : Prop := ∀ A, Reg p H A → ∀ Q : List V → Hp → Prop, (∀ vs A' H', Gr p A H A' H' → P vs H' → Q vs A') → ta σ A Q
/-- nothing that stood is changed; F tells of the arguments and of the result -/
def SpG (F : List V → Hp → (V → Hp → Prop) → Prop) : Sp := fun vs A Q _ => ∃ H P, Reg .non H A ∧ F vs H P ∧ ∀ v A' H', Gr .non A H A' H' → P v H' → Q v A'
def Mono (P : V → Hp → Prop) : Prop := ∀ v H H', Ex H H' → P v H → P v H'
section
variable {K : PySem.W.Frag} {p : Me} {σ : L2.St} {H H' A A' : Hp} {te ta tb tc tl ti : TE} {tt : TT} {tu tz : TS} {D : Ends} {d dx dy dz : PyData} {ds es : List PyData} {P Px Py Pz : V → Hp → Prop}
theorem EvG.monoP {H2 : Hp} (hP : Mono P) (e : Ex H H2) (h : EvG p te σ H P) : EvG p te σ H2 P := fun A r Q q => by
  have r0 : Reg p H A := r.less e
  exact h A r0 Q fun v A' H' g k => by
    obtain ⟨g2, e2⟩ := g.wide r e
    exact q v A' _ g2 (hP v _ _ e2 k)
theorem EvG.imp (h : EvG p te σ H Px) (f : ∀ v H', Px v H' → Py v H') : EvG p te σ H Py := fun A R Q q => h A R Q fun v A' H' g k => q v A' H' g (f v H' k)
theorem mono_data : Mono fun v H => Dq K H v d := fun v H H' e k => dq_ex e d v k
theorem mono_is {x : V} : Mono fun v _ => v = x := fun v H H' e k => k
theorem g_var {i : Nat} {v : V} (h : σ[i]? = some (some v)) : EvG p (tVar i) σ H fun x _ => x = v := fun A R Q q => ⟨v, h, q v A H R.refl rfl⟩
theorem a_nil : EvA p tNil σ H fun vs _ => vs = [] := fun A R Q q => q [] A H R.refl rfl
theorem a_one (ha : EvG p ta σ H Px) : EvA p (tCons ta tNil) σ H fun vs H' => ∃ x, vs = [x] ∧ Px x H' := fun A R Q q => ha A R _ fun x A1 H1 g1 k1 => q [x] A1 H1 g1 ⟨x, rfl, k1⟩
theorem a_two (mx : Mono Px) (ha : EvG p ta σ H Px) (hb : ∀ H1, Ex H H1 → EvG p tb σ H1 Py) : EvA p (tCons ta (tCons tb tNil)) σ H fun vs H' => ∃ x y, vs = [x, y] ∧ Px x H' ∧ Py y H' := fun A R Q q => ha A R _ fun x A1 H1 g1 k1 =>
  hb H1 g1.reg A1 (g1.to R) _ fun y A2 H2 g2 k2 => q [x, y] A2 H2 (g1.trans g2) ⟨x, y, rfl, mx x _ _ g2.reg k1, k2⟩
/-- a call of such a def -/
theorem g_call {F : List V → Hp → (V → Hp → Prop) → Prop} {E : XK} {t : TA} {Pa : List V → Hp → Prop} (h : EvA p t σ H Pa) (hF : ∀ vs H', Ex H H' → Pa vs H' → F vs H' P) : EvG p (tCall (SpG F) [] E t) σ H P := fun A R Q q => h A R _ fun vs A1 H1 g1 k1 => by
  have R1 := g1.to R
  rw [List.append_nil]
  exact ⟨H1, P, R1.nil, hF vs H1 g1.reg k1, fun v A2 H2 g2 k2 => q v A2 H2 (g1.trans (g2.pure R1)) k2⟩
theorem g_opV {r : R2} (mx : Mono Px) (ha : EvG p ta σ H Px) (hb : ∀ H1, Ex H H1 → EvG p tb σ H1 Py) (hr : ∀ x y H2 A, Ex H H2 → Px x H2 → Py y H2 → Reg p H2 A → ∀ Q : VK, (∀ v A' H', Gr p A H2 A' H' → P v H' → Q v A') → r x y A Q) : EvG p (tOp r ta tb) σ H P := fun A R Q q =>
  ha A R _ fun x A1 H1 g1 k1 => hb H1 g1.reg A1 (g1.to R) _ fun y A2 H2 g2 k2 => hr x y H2 A2 (g1.reg.trans g2.reg) (mx x _ _ g2.reg k1) k2 (g2.to (g1.to R)) Q fun v A3 H3 g3 k3 => q v A3 H3 ((g1.trans g2).trans g3) k3
/-- o.f -/
theorem d_fld {i : Nat} {a dx C : Addr} {fs : List (Str × V)} {f : Str} {u : V} (hs : σ[i]? = some (some (.ref a))) (ho : H a = some (.ins C dx fs)) (c : Cls K C) (nf : NoAttr K C f) (hl : fs.lookup f = some u) (hd : Dq K H u d) : EvD K p (tFld K (tVar i) f) σ H d := fun A R Q q =>
  ⟨.ref a, hs, a, C, dx, fs, u, rfl, R.ex _ _ ho, c, nf, hl, q u A H R.refl hd⟩
/-- o.f = e, o one's own -/
theorem q_fldOwn {i : Nat} {a dx C : Addr} {fs : List (Str × V)} {f : Str} (h : EvD K p te σ H d) (hs : σ[i]? = some (some (.ref a))) (ho : p.own a = some (.ins C dx fs)) (c : Cls K C) (nf : NoAttr K C f) (hn : fs.length < 1000) (R : Reg p H A)
    (k : ∀ v A' H', Gr p A H A' H' → Dq K H' v d → Reg ⟨p.pool, upd p.own a (.ins C dx (putF f v fs))⟩ H' (upd A' a (.ins C dx (putF f v fs))) → D.nx σ (upd A' a (.ins C dx (putF f v fs)))) : sFld K (tVar i) te f D σ A :=
  h A R _ fun v A1 H1 g1 k1 => by
    have R1 := g1.to R
    exact ⟨.ref a, hs, a, C, dx, fs, rfl, R1.own _ _ ho, c, nf, hn, k v A1 H1 g1 k1 (R1.put (R1.offO a _ ho).2 (R1.offO a _ ho).1)⟩
/-- C(..): a new object; what its __init__ promises -/
def SpI (C : Addr) (F : List V → Hp → (List (Str × V) → Hp → Prop) → Prop) : Sp := fun vs A Q _ => ∃ (H : Hp) (x dx : Addr) (us : List V) (P : List (Str × V) → Hp → Prop), vs = .ref x :: us ∧ Reg ⟨none, upd (fun _ => none) x (.ins C dx [])⟩ H A ∧ F us H P ∧
  ∀ fs A' H', Reg ⟨none, upd (fun _ => none) x (.ins C dx fs)⟩ H' A' → Ex H H' → P fs H' → (∀ A0 H0, A0 x = none → Gr .non A0 H0 A H → Gr .non A0 H0 A' H') → Q .non A'
theorem Reg.one (r : Reg p H A) {q : Addr} {o : HO} (hq : A q = none) : Reg ⟨none, upd (fun _ => none) q o⟩ H (upd A q o) := by
  have nh : H q = none := fresh_back r.ex hq
  exact Reg.put (p := ⟨none, fun _ => none⟩) r.nil (fun z => nomatch z) nh
theorem g_make {C : Addr} {F : List V → Hp → (List (Str × V) → Hp → Prop) → Prop} {E : XK} {t : TA} {Pa : List V → Hp → Prop} {Pf : List (Str × V) → Hp → Prop} (mf : ∀ fs H H', Ex H H' → Pf fs H → Pf fs H') (h : EvA p t σ H Pa) (hF : ∀ vs H', Ex H H' → Pa vs H' → F vs H' Pf) (ma : ∀ vs H1 H2, Ex H1 H2 → Pa vs H1 → Pa vs H2) :
    EvG p (tMake C (SpI C F) [] E t) σ H fun v H' => ∃ a dx fs, v = .ref a ∧ H' a = some (.ins C dx fs) ∧ Pf fs H' := fun A R Q q => h A R _ fun vs A1 H1 g1 k1 x dx hx hdx ne => by
  have R1 := g1.to R
  have gd := Gr.alloc R1.nil (o := .own x) hdx
  have Rd := gd.to R1.nil
  have hx2 : upd A1 dx (.own x) x = none := by rw [upd_ne (fun z => ne z.symm)]; exact hx
  have gx := Gr.allocM Rd (o := .ins C dx []) hx2
  rw [List.append_nil]
  refine ⟨upd H1 dx (.own x), x, dx, vs, Pf, rfl, Reg.one Rd hx2, hF vs _ (g1.reg.trans gd.reg) (ma _ _ _ gd.reg k1), fun fs A' H' r e pf last => ⟨rfl, ?_⟩⟩
  have g2 := last A1 H1 hx (gd.trans gx)
  have hs : (Me.mk none (upd (fun _ => none) x (.ins C dx fs))).own x = some (.ins C dx fs) := own_same
  have ho := r.own x _ hs
  have nh : H' x = none := (r.offO x _ hs).1
  have g3 := g2.know hx nh ho
  exact q (.ref x) A' _ (g1.trans (g3.pure R1)) ⟨x, dx, fs, rfl, upd_same, mf _ _ _ (Ex.new nh) pf⟩
end
end Z
/-! defs of data whose result is new, or one of the arguments -/
namespace Z
open PySem PySem.Spec PyProof.Rows L2 Evl
def SpW (K : PySem.W.Frag) (F : List PyData → PyData → Prop) : Sp := fun vs A Q _ => ∃ H ds d, Reg .non H A ∧ DqAll K H vs ds ∧ F ds d ∧ ∀ v A' H', Gr .non A H A' H' → Dq K H' v d → (vs.head? = some v ∨ ∃ l, v = .ref l ∧ H l = none) → Q v A'
def SpN (K : PySem.W.Frag) (F : List PyData → PyData → Prop) : Sp := fun vs A Q _ => ∃ H ds d, Reg .non H A ∧ DqAll K H vs ds ∧ F ds d ∧ ∀ v A' H', Gr .non A H A' H' → Dq K H' v d → (∃ l, v = .ref l ∧ H l = none) → Q v A'
section
variable {K : PySem.W.Frag} {p : Me} {σ : L2.St} {H H' A A' : Hp} {te ta tb tc tl ti : TE} {tt : TT} {tu tz : TS} {D : Ends} {d dx dy dz : PyData} {ds es : List PyData}
theorem a_vars2 {i j : Nat} {x y : V} (hi : σ[i]? = some (some x)) (kx : Dq K H x dx) (hj : σ[j]? = some (some y)) (ky : Dq K H y dy) : EvA p (tCons (tVar i) (tCons (tVar j) tNil)) σ H fun vs H' => DqAll K H' vs [dx, dy] ∧ vs = [x, y] := fun A R Q q =>
  ⟨x, hi, y, hj, q [x, y] A H R.refl ⟨.cons kx (.cons ky .nil), rfl⟩⟩
theorem g_callW {F : List PyData → PyData → Prop} {E : XK} {t : TA} (hF : F ds d) {Pv : List V → Prop} (hv : EvA p t σ H fun vs H' => DqAll K H' vs ds ∧ Pv vs) :
    EvG p (tCall (SpW K F) [] E t) σ H fun v H' => Dq K H' v d ∧ ((∃ vs, Pv vs ∧ vs.head? = some v) ∨ ∃ l, v = .ref l ∧ H l = none) := fun A R Q q => hv A R _ fun vs A1 H1 g1 k1 => by
  have R1 := g1.to R
  rw [List.append_nil]
  refine ⟨H1, ds, d, R1.nil, k1.1, hF, fun v A2 H2 g2 k2 n2 => q v A2 H2 (g1.trans (g2.pure R1)) ⟨k2, ?_⟩⟩
  rcases n2 with n2 | ⟨l, e, n2⟩
  · exact .inl ⟨vs, k1.2, n2⟩
  · exact .inr ⟨l, e, fresh_back g1.reg n2⟩
theorem g_callN {F : List PyData → PyData → Prop} {E : XK} {t : TA} (h : EvS K p t σ H ds) (hF : F ds d) : EvG p (tCall (SpN K F) [] E t) σ H fun v H' => Dq K H' v d ∧ ∃ l, v = .ref l ∧ H l = none := fun A R Q q => h A R _ fun vs A1 H1 g1 k1 => by
  have R1 := g1.to R
  rw [List.append_nil]
  exact ⟨H1, ds, d, R1.nil, k1, hF, fun v A2 H2 g2 k2 ⟨l, e, n2⟩ => q v A2 H2 (g1.trans (g2.pure R1)) ⟨k2, l, e, fresh_back g1.reg n2⟩⟩
theorem d_callN {F : List PyData → PyData → Prop} {E : XK} {t : TA} (h : EvS K p t σ H ds) (hF : F ds d) : EvD K p (tCall (SpN K F) [] E t) σ H d := (g_callN h hF).imp fun _ _ k => k.1
theorem g_catN (ha : EvD K p ta σ H (.list ds)) (hb : EvD K p tb σ H (.list es)) (hl : ds.length + es.length ≤ 100000) : EvG p (tOp rCat ta tb) σ H fun v H' => Dq K H' v (.list (ds ++ es)) ∧ ∃ l, v = .ref l ∧ H l = none := fun A R Q q =>
  ha A R _ fun x A1 H1 g1 k1 => EvD.mono g1.reg hb A1 (g1.to R) _ fun y A2 H2 g2 k2 => by
    have R2 := g2.to (g1.to R)
    obtain ⟨a, xs, rfl, h1, h2⟩ := dq_inv_l (dq_ex g2.reg _ _ k1)
    obtain ⟨b, ys, rfl, h3, h4⟩ := dq_inv_l k2
    refine ⟨a, b, xs, ys, rfl, rfl, R2.ex _ _ h1, R2.ex _ _ h3, sz_of (by rw [dqall_len h2, dqall_len h4]; exact hl), fun l hn => ?_⟩
    have g := Gr.alloc R2 (o := .lst (xs ++ ys)) hn
    exact q _ _ _ ((g1.trans g2).trans g) ⟨.lst upd_same (dqall_append (dqall_ex g.reg h2) (dqall_ex g.reg h4)), l, rfl, fresh_back (g1.reg.trans g2.reg) (fresh_back R2.ex hn)⟩
theorem g_lstN {t : TA} (h : EvS K p t σ H ds) (hl : ds.length ≤ 100000) : EvG p (tLst t) σ H fun v H' => Dq K H' v (.list ds) ∧ ∃ l, v = .ref l ∧ H l = none := fun A R Q q =>
  h A R _ fun vs A1 H1 g1 k1 => ⟨by rw [dqall_len k1]; exact sz_of hl, fun l hn => by
    have R1 := g1.to R
    have g2 := Gr.alloc R1 (o := .lst vs) hn
    exact q (.ref l) _ _ (g1.trans g2) ⟨.lst upd_same (dqall_ex g2.reg k1), l, rfl, fresh_back g1.reg (fresh_back R1.ex hn)⟩⟩
end
/-- as dn_data -/
theorem dn_dataW {P : Program} {w : World} {K : PySem.W.Frag} {mg : Str → Option Value} {base : Heap} {x : Str} {st : Stmt} {N ps : List Str} {F : List PyData → PyData → Prop} (k : Nat) (Hx : St K mg x st ps) (S : FnScope N ps (defScope st)) (hl : ∀ ds d, F ds d → ds.length = ps.length)
    (ht : ∀ (f : Addr) (cdv : Value) (A : Around) (outer : List Env) (s : Shared) (H : Hp) (E : XK), Room k (A.deeper (envOfC x (defScope st) s.heap.objs.size f cdv)) → ∃ t, PSs (cxOf CX0 P w K mg base N x (defScope st) f cdv A outer s H E).nox (defBody st) t ∧
      ∀ vs H A ds d (Q : VK), Reg .non H A → DqAll K H vs ds → F ds d → (∀ v A' H', Gr .non A H A' H' → Dq K H' v d → (vs.head? = some v ∨ ∃ l, v = .ref l ∧ H l = none) → Q v A') → t { nx := fun _ H' => Q .non H', rt := Q } (start N vs) A) : Dn P w K mg base CX0 (k + 1) x ps (SpW K F) :=
  dn_of k Hx S (fun vs H Q E h => by obtain ⟨H, ds, d, _, k, f, _⟩ := h; rw [dqall_len k, hl ds d f]) fun f cdv A outer s H vs Q E hr h => by
    obtain ⟨H0, ds, d, R, k0, hF, q⟩ := h
    obtain ⟨t, h1, h2⟩ := ht f cdv A outer s H E hr
    exact ⟨t, h1, h2 vs H0 H ds d Q R k0 hF q⟩
theorem dn_dataN {P : Program} {w : World} {K : PySem.W.Frag} {mg : Str → Option Value} {base : Heap} {x : Str} {st : Stmt} {N ps : List Str} {F : List PyData → PyData → Prop} (k : Nat) (Hx : St K mg x st ps) (S : FnScope N ps (defScope st)) (hl : ∀ ds d, F ds d → ds.length = ps.length)
    (ht : ∀ (f : Addr) (cdv : Value) (A : Around) (outer : List Env) (s : Shared) (H : Hp) (E : XK), Room k (A.deeper (envOfC x (defScope st) s.heap.objs.size f cdv)) → ∃ t, PSs (cxOf CX0 P w K mg base N x (defScope st) f cdv A outer s H E).nox (defBody st) t ∧
      ∀ vs H A ds d (Q : VK), Reg .non H A → DqAll K H vs ds → F ds d → (∀ v A' H', Gr .non A H A' H' → Dq K H' v d → (∃ l, v = .ref l ∧ H l = none) → Q v A') → t { nx := fun _ H' => Q .non H', rt := Q } (start N vs) A) : Dn P w K mg base CX0 (k + 1) x ps (SpN K F) :=
  dn_of k Hx S (fun vs H Q E h => by obtain ⟨H, ds, d, _, k, f, _⟩ := h; rw [dqall_len k, hl ds d f]) fun f cdv A outer s H vs Q E hr h => by
    obtain ⟨H0, ds, d, R, k0, hF, q⟩ := h
    obtain ⟨t, h1, h2⟩ := ht f cdv A outer s H E hr
    exact ⟨t, h1, h2 vs H0 H ds d Q R k0 hF q⟩
end Z
/-! methods of one's own classes, by promises -/
namespace Z
open PySem PySem.Spec PyProof.Rows L2 Evl
/-- the method st stands at f -/
def StM (K : PySem.W.Frag) (x qual : Str) (st : Stmt) (f : Addr) (ps : List Str) : Prop := ∃ fd, FunD K x qual (defArgs st) (defBody st) (defScope st) [] [] f fd ∧ Binds K fd ps []
def Mn (P : Program) (w : World) (K : PySem.W.Frag) (mg : Str → Option Value) (base : Heap) (k : Nat) (f : Addr) (ps : List Str) (sp : Sp) : Prop := ∃ fd, FnOk P w K mg base CX0 k f fd ps sp ∧ Binds K fd ps []
theorem mn_of {P : Program} {w : World} {K : PySem.W.Frag} {mg : Str → Option Value} {base : Heap} {x qual : Str} {st : Stmt} {f : Addr} {N ps : List Str} {sp : Sp} (k : Nat) (Hx : StM K x qual st f ps) (S : FnScope N ps (defScope st)) (len : ∀ vs H Q E, sp vs H Q E → vs.length = ps.length)
    (hbody : ∀ (cdv : Value) (A : Around) (outer : List Env) (s : Shared) (H : Hp) (vs : List V) (Q : VK) (E : XK), Room k (A.deeper (envOfC qual (defScope st) s.heap.objs.size f cdv)) → sp vs H Q E →
      ∃ t, PSs (cxOf CX0 P w K mg base N qual (defScope st) f cdv A outer s H E).nox (defBody st) t ∧ t { nx := fun _ H' => Q .non H', rt := Q } (start N vs) H) : Mn P w K mg base (k + 1) f ps sp := by
  obtain ⟨fd, F, b⟩ := Hx
  refine ⟨fd, F.ok S len fun cdv A outer s H vs Q E hr h => ?_, b⟩
  obtain ⟨t, h1, h2⟩ := hbody cdv A outer s H vs Q E hr h
  exact ⟨t, h1.nox, h2⟩
section
variable {X : Cx} {k k' : Nat} {C f g pa : Addr} {ps : List Str} {sp : Sp} {e o : Expr} {es : List Expr} {x m : Str} {t : TA} {ta : TE} {p pos apos : Pos}
theorem pe_mk (M : Mk X.K C f) (D : Mn X.prog X.w X.K X.mg X.base k f ps sp) (hr : Room k' X.A) (hk : k + 1 ≤ k') (hg : Gl X x) (hm : X.mg x = some (.ref C)) (ha : PA X (e :: es) t)
    (hdb : (x == ("__debug__" : Str)) = false := by decide) (he : starEach (e :: es) X.env = (false, eval e X.env) :: starEach es X.env := by rfl) (hpl : (backTo pos (starEach es X.env)).any (·.1) = false := by rfl) : PE X (.Call (.Name x p) (e :: es) [] pos) (tMake C sp [] E0 t) := by
  obtain ⟨fd, F, b⟩ := D
  exact pe_make M F (hr.mono hk) hg hm b .nil pass0 ha hdb he hpl
theorem cr_lenM (hm : Meth X.K C "__len__" f) (D : Mn X.prog X.w X.K X.mg X.base k f ps sp) (hr : Room k' X.A) (hk : k + 1 ≤ k') : CallR X (.builtin "len") (rLenO C sp) := by
  obtain ⟨fd, F, b⟩ := D
  exact cr_lenO hm F (hr.mono hk) b
theorem op_inM (hm : Meth X.K C "__contains__" f) (D : Mn X.prog X.w X.K X.mg X.base k f ps sp) (hr : Room k' X.A) (hk : k ≤ k') : OpR X (compareOp .In) (rInO C sp false) := by
  obtain ⟨fd, F, b⟩ := D
  exact op_inO hm F (hr.mono hk) b
theorem op_eqM (hm : Meth X.K C "__eq__" f) (D : Mn X.prog X.w X.K X.mg X.base k f ps sp) (hr : Room k' X.A) (hk : k ≤ k') : OpR X (compareOp .Eq) (rEqO C X.K sp false) := by
  obtain ⟨fd, F, b⟩ := D
  exact op_eqO hm F (hr.mono hk) b
theorem op_neM (hm : Meth X.K C "__eq__" f) (ne : PySem.W.findIn X.K (.ref C) "__ne__" = some (some (.builtin "object.__ne__"))) (ob : PySem.W.mroIn X.K C (.type "object") = some true) (D : Mn X.prog X.w X.K X.mg X.base k f ps sp) (hr : Room k' X.A) (hk : k + 1 ≤ k') : OpR X (compareOp .NotEq) (rEqO C X.K sp true) := by
  obtain ⟨fd, F, b⟩ := D
  exact op_neO hm ne ob F (hr.mono hk) b
theorem op_binM {op : Operator} (sf : PySem.W.selfFirst X.K C = true) (hm : Meth X.K C (PySem.dunder op.info.2) f) (D : Mn X.prog X.w X.K X.mg X.base k f ps sp) (hr : Room k' X.A) (hk : k ≤ k') : OpR X (binaryOp op) (rBinO C sp) := by
  obtain ⟨fd, F, b⟩ := D
  exact op_binO sf hm F (hr.mono hk) b
theorem pe_propM (he : PE X e ta) (c : Cls X.K C) (hp : PropOf X.K C m pa g) (D : Mn X.prog X.w X.K X.mg X.base k g ps sp) (hr : Room k' X.A) (hk : k + 1 ≤ k') (hab : attributeBase e m X.env (eval e X.env) = eval e X.env := by rfl) : PE X (.Attribute e m pos) (tProp C sp [] E0 ta) := by
  obtain ⟨fd, F, b⟩ := D
  exact pe_prop he c hp F (hr.mono hk) b .nil pass0 hab
theorem pe_methM {pl : Sem Bool} (he : PE X o ta) (c : Cls X.K C) (hm : Meth X.K C m f) (D : Mn X.prog X.w X.K X.mg X.base k f ps sp) (hr : Room k' X.A) (hk : k ≤ k') (ha : PA X (e :: es) t)
    (hst : starEach (e :: es) X.env = (false, eval e X.env) :: starEach es X.env := by rfl) (hpl : (backTo pos (starEach es X.env)).any (·.1) = false := by rfl)
    (ht : eval (.Call (.Attribute o m apos) (e :: es) [] pos) X.env = (do
      let ov ← eval o X.env
      standAt apos.atName
      let (f, first) ← holding [ov] (getMethod ov m pl)
      callWith pos f first (backTo pos (starEach (e :: es) X.env)) (backToKw pos (keywordEach [] X.env))) := by rfl) : PE X (.Call (.Attribute o m apos) (e :: es) [] pos) (tMeth C m sp [] E0 ta t) := by
  obtain ⟨fd, F, b⟩ := D
  exact pe_meth he c hm F (hr.mono hk) b .nil pass0 ha hst hpl ht
end
/-! readings -/
/-- an object of the class C with those fields -/
def OB (C : Addr) (fs : List (Str × V)) : V → Hp → Prop := fun v H => ∃ a dx, v = .ref a ∧ H a = some (.ins C dx fs)
def IsO (C : Addr) : V → Hp → Prop := fun v H => ∃ a dx fs, v = .ref a ∧ H a = some (.ins C dx fs)
section
variable {K : PySem.W.Frag} {p : Me} {σ : L2.St} {H H' A A' : Hp} {te ta tb tc tl ti : TE} {tt : TT} {tu tz : TS} {D : Ends} {d dx dy dz : PyData} {ds es : List PyData} {P Px Py Pz : V → Hp → Prop} {C : Addr} {F : List V → Hp → (V → Hp → Prop) → Prop} {b : Bool} {n : Nat}
theorem mono_ob {fs : List (Str × V)} : Mono (OB C fs) := fun v H H' e ⟨a, dx, h1, h2⟩ => ⟨a, dx, h1, e _ _ h2⟩
theorem g_in {i : Nat} {v : V} (h : σ[i]? = some (some v)) (hp : Mono P) (k : P v H) : EvG p (tVar i) σ H P := fun A R Q q => ⟨v, h, q v A H R.refl k⟩
theorem g_cls : EvG p (tC (.ref C)) σ H fun v _ => v = .ref C := fun A R Q q => q _ A H R.refl rfl
theorem useG {vs : List V} {E : XK} (R : Reg p H A) (h : F vs H P) {Q : VK} (q : ∀ v A' H', Gr p A H A' H' → P v H' → Q v A') : SpG F vs A Q E := ⟨H, P, R.nil, h, fun v A' H' g k => q v A' H' (g.pure R) k⟩
theorem tyd_of {v : V} (R : Reg p H A) (k : Dq K H v d) : TyX K A v (.type (tyD d)) := tyx_of R k
theorem d_isiO (h : EvG p ta σ H Px) (iso : ∀ v H, Px v H → IsO C v H) (c : C8.InsC K C) : EvD K p (tCB (rIsi K) (tCons ta (tCons (tC (.ref C)) tNil))) σ H (.bool true) := fun A R Q q => h A R _ fun v A1 H1 g1 k1 => by
  obtain ⟨a, dx, fs, rfl, ha⟩ := iso v H1 k1
  exact ⟨.ref a, .ref C, .ref C, .ref C, true, rfl, .own C, .base (.ins ((g1.to R).ex _ _ ha) c.cl c.ha c.hn c.htk c.hm), c.me, q _ A1 H1 g1 (.bl true)⟩
theorem d_isiN (h : EvD K p ta σ H d) (c : ∀ T ∈ tysD, PySem.W.kitOne K (.type T) (.ref C) = some false) : EvD K p (tCB (rIsi K) (tCons ta (tCons (tC (.ref C)) tNil))) σ H (.bool false) := fun A R Q q => h A R _ fun v A1 H1 g1 k1 =>
  ⟨v, .ref C, .type (tyD d), .ref C, false, rfl, .own C, tyd_of (g1.to R) k1, c _ (tyD_mem k1), q _ A1 H1 g1 (.bl false)⟩
theorem g_two {r : R2} (mx : Mono Px) (ha : EvG p ta σ H Px) (hb : EvG p tb σ H Py) (my : Mono Py) (hr : ∀ x y H2 A, Ex H H2 → Px x H2 → Py y H2 → Reg p H2 A → ∀ Q : VK, (∀ v A' H', Gr p A H2 A' H' → P v H' → Q v A') → r x y A Q) : EvG p (tOp r ta tb) σ H P :=
  g_opV mx ha (fun H1 e => hb.monoP my e) hr
/-- x in o -/
theorem d_inO {neg : Bool} (hx : EvG p ta σ H Px) (mx : Mono Px) (ho : EvG p tb σ H Py) (my : Mono Py) (iso : ∀ v H, Py v H → IsO C v H) (hF : ∀ x y H', Ex H H' → Px x H' → Py y H' → F [y, x] H' fun v _ => v = .bl b) : EvD K p (tOp (rInO C (SpG F) neg) ta tb) σ H (.bool (if neg then !b else b)) :=
  g_two mx hx ho my fun x y H2 A e kx ky R Q q => by
    obtain ⟨a, dx, fs, rfl, ha⟩ := iso y H2 ky
    exact ⟨a, dx, fs, rfl, R.ex _ _ ha, useG R (hF x _ H2 e kx ky) fun v A3 H3 g3 k3 => ⟨b, k3, q _ A3 H3 g3 (.bl _)⟩⟩
/-- o == y, o != y: y an object of the class, or data -/
theorem d_eqO {neg : Bool} (hx : EvG p ta σ H Px) (mx : Mono Px) (iso : ∀ v H, Px v H → IsO C v H) (ho : EvG p tb σ H Py) (my : Mono Py) (isy : ∀ v H, Py v H → IsO C v H ∨ ∃ d, Dq K H v d) (hF : ∀ x y H', Ex H H' → Px x H' → Py y H' → F [x, y] H' fun v _ => v = .bl b) : EvD K p (tOp (rEqO C K (SpG F) neg) ta tb) σ H (.bool (if neg then !b else b)) :=
  g_two mx hx ho my fun x y H2 A e kx ky R Q q => by
    obtain ⟨a, dx, fs, rfl, ha⟩ := iso x H2 kx
    refine ⟨a, dx, fs, rfl, R.ex _ _ ha, ?_, useG R (hF _ y H2 e kx ky) fun v A3 H3 g3 k3 => ⟨b, k3, q _ A3 H3 g3 (.bl _)⟩⟩
    rcases isy y H2 ky with ⟨b, dy, gs, h1, h2⟩ | ⟨d, h1⟩
    · exact .inl ⟨b, dy, gs, h1, R.ex _ _ h2⟩
    · exact .inr ⟨d, dq_ex R.ex _ _ h1⟩
/-- o | y -/
theorem g_binO (hx : EvG p ta σ H Px) (mx : Mono Px) (iso : ∀ v H, Px v H → IsO C v H) (ho : EvG p tb σ H Py) (my : Mono Py) (isy : ∀ v H, Py v H → IsO C v H) (hF : ∀ x y H', Ex H H' → Px x H' → Py y H' → F [x, y] H' P) : EvG p (tOp (rBinO C (SpG F)) ta tb) σ H P :=
  g_two mx hx ho my fun x y H2 A e kx ky R Q q => by
    obtain ⟨a, dx, fs, rfl, ha⟩ := iso x H2 kx
    obtain ⟨b, dy, gs, rfl, hb⟩ := isy y H2 ky
    exact ⟨a, dx, fs, b, dy, gs, rfl, rfl, R.ex _ _ ha, R.ex _ _ hb, useG R (hF _ _ H2 e kx ky) q⟩
/-- len(o) -/
theorem d_lenO (ho : EvG p ta σ H Px) (iso : ∀ v H, Px v H → IsO C v H) (hn : n < 2 ^ 62) (hF : ∀ x H', Ex H H' → Px x H' → F [x] H' fun v _ => v = .int (n : Nat)) : EvD K p (tCB (rLenO C (SpG F)) (tCons ta tNil)) σ H (.int (n : Nat)) := fun A R Q q => ho A R _ fun v A1 H1 g1 k1 => by
  obtain ⟨a, dx, fs, rfl, ha⟩ := iso v H1 k1
  have R1 := g1.to R
  exact ⟨a, dx, fs, rfl, R1.ex _ _ ha, useG R1 (hF _ H1 g1.reg k1) fun v A3 H3 g3 k3 => ⟨n, k3, hn, q _ A3 H3 (g1.trans g3) (.int _)⟩⟩
/-- o.f, a property -/
theorem g_prop (ho : EvG p ta σ H Px) (iso : ∀ v H, Px v H → IsO C v H) (hF : ∀ x H', Ex H H' → Px x H' → F [x] H' P) : EvG p (tProp C (SpG F) [] E0 ta) σ H P := fun A R Q q => ho A R _ fun v A1 H1 g1 k1 => by
  obtain ⟨a, dx, fs, rfl, ha⟩ := iso v H1 k1
  have R1 := g1.to R
  exact ⟨a, dx, fs, rfl, R1.ex _ _ ha, useG R1 (hF _ H1 g1.reg k1) fun v A3 H3 g3 k3 => q _ A3 H3 (g1.trans g3) k3⟩
/-- o.m(y) -/
theorem g_meth1 {m : Str} (hx : EvG p ta σ H Px) (mx : Mono Px) (iso : ∀ v H, Px v H → ∃ a dx fs, v = .ref a ∧ H a = some (.ins C dx fs) ∧ fs.lookup m = none) (ho : EvG p tb σ H Py) (my : Mono Py) (hF : ∀ x y H', Ex H H' → Px x H' → Py y H' → F [x, y] H' P) : EvG p (tMeth C m (SpG F) [] E0 ta (tCons tb tNil)) σ H P := fun A R Q q =>
  hx A R _ fun v A1 H1 g1 k1 => by
    obtain ⟨a, dx, fs, rfl, ha, hl⟩ := iso v H1 k1
    have R1 := g1.to R
    refine ⟨a, dx, fs, rfl, R1.ex _ _ ha, hl, (ho.monoP my g1.reg) A1 R1 _ fun y A2 H2 g2 k2 => ?_⟩
    exact useG (E := E0) (vs := .ref a :: ([y] ++ [])) (g2.to R1) (hF _ y H2 (g1.reg.trans g2.reg) (mx _ _ _ g2.reg k1) k2) fun v A3 H3 g3 k3 => q v A3 H3 ((g1.trans g2).trans g3) k3
/-- writes to an object that is not known yet are not seen -/
theorem Gr.poke {A0 H0 : Hp} {x : Addr} {o : HO} (g : Gr .non A0 H0 A H) (hx : A0 x = none) (hn : H x = none) : Gr .non A0 H0 (upd A x o) H := by
  have ne : ∀ {a o}, A0 a = some o → a ≠ x := fun h z => by subst z; rw [hx] at h; cases h
  refine ⟨fun a o n h => ?_, fun a o h => ?_, fun q hq => (nomatch hq), g.reg, fun a o h => ?_, g.new⟩
  · rw [upd_ne (ne h)]; exact g.act a o n h
  · rw [upd_ne (ne h)]; exact g.dom a o h
  · have : a ≠ x := fun z => by subst z; rw [hn] at h; cases h
    rw [upd_ne this]; exact g.sub a o h
end
end Z
/-! more rules: list.clear, bool(o), not o, tuple * 1 -/
namespace Z
open PySem PySem.Spec PyProof.Rows L2 Evl
def rLClear : V → List V → Hp → VK → Prop := fun x vs H Q => ∃ l xs, x = .ref l ∧ vs = [] ∧ H l = some (.lst xs) ∧ Q .non (upd H l (.lst []))
theorem mt_clear {X : Cx} : MtR X "list.clear" rLClear := by
  intro pins s σ H x vs v us Q I rx rv h
  obtain ⟨l, xs, rfl, rfl, hH, q⟩ := h
  cases rx
  have hus := rv.zero
  subst hus
  obtain ⟨z, its, n, r, hl, e⟩ := I.lstM hH
  refine call_meets F.slot_list_clear ⟨_, e, rfl⟩ F.entry_list_clear (F.args_list_clear_1 _) (AutoSeq1.list_clear_list_0 l its.toArray n (by rw [List.size_toArray]; omega)) ⟨e, ?_⟩
  exact ⟨.non, _, I.lset (its' := []) hH e (by simp) .nil (Nat.zero_le _), rfl, q⟩
theorem pe_lclear {X : Cx} {o : Expr} {to : TE} {apos cpos : Pos} (ho : PE X o to) (hbase : attributeBase o "clear" X.env (eval o X.env) = eval o X.env := by rfl) (hline : (apos.endLine == cpos.line) = true := by rfl) : PE X (.Call (.Attribute o "clear" apos) [] [] cpos) (tBM0 X.K "list" rLClear to) :=
  pe_bm0 PySem.F.plainAttrs_list PySem.F.slot_list_clear PySem.F.type_list_clear mt_clear ho hbase hline
section
variable {prog : Program} {w : World}
theorem bool_new_own (c : Addr) : MeetsIn prog w (Builtin.«bool.__new__» ⟨[.type "bool", .ref c], []⟩) (fun A R s => wpAny (model prog w) A.in1 (truthy (.ref c)) (fun b t => R (.ok (.ret (.bool b))) t) (fun e t => R (.error e) t) s) :=
  MeetsIn.of_wp fun A R s hs => by
    have f1 := F.conv_sub_bool
    have key : wpAny (model prog w) A.in1 (truthy (.ref c)) (fun b t => ∃ v, Fin.done (.ret (.bool b)) = Fin.done (.ret v) ∧ R (.ok (.ret v)) t) (fun e t => R (.error e) t) s := wpAny_mono hs (fun b t z => ⟨_, rfl, z⟩) fun _ _ z => z
    obtain ⟨hp, g, d, tk, os⟩ := s
    repeat (any_goals (first | assumption | (refine wpAny_bind (wpAny_mono key (fun b t z => wpAny_pure z) fun _ _ z => z)) | wp_step))
end
section
variable {X : Cx} {k k' : Nat} {C f : Addr} {ps : List Str} {sp : Sp} {e : Expr} {ta : TE} {pos : Pos}
def rBoolO (C : Addr) (sp : Sp) : List V → Hp → VK → Prop := fun vs H Q => ∃ a dx fs, vs = [.ref a] ∧ H a = some (.ins C dx fs) ∧ sp [.ref a] H (fun v H' => ∃ n : Nat, v = .int (n : Nat) ∧ n < 2 ^ 62 ∧ Q (.bl (n != 0)) H') E0
theorem cr_boolM (no : NoAttr X.K C "__bool__") (hm : Meth X.K C "__len__" f) (D : Mn X.prog X.w X.K X.mg X.base k f ps sp) (hr : Room k' X.A) (hk : k + 3 ≤ k') : CallR X (.type "bool") (rBoolO C sp) := by
  obtain ⟨fd, F, hb0⟩ := D
  intro pins s σ H vs us Q I r h
  obtain ⟨a, dx, fs, rfl, ha, q⟩ := h
  rw [Vals.ref1 r]
  obtain ⟨od, J⟩ := ins_look I ha
  have hl : ([Value.ref a] ++ []).length = ps.length := by
    rw [List.append_nil]
    exact F.len _ _ _ _ q
  have b := hb0 s [.ref a] I.kIn hl
  rw [List.append_nil] at b
  have hr3 : Room k X.A.in1.in1.in1 := (hr.mono hk).in1.in1.in1
  refine callType_newIn PySem.F.called_bool PySem.F.newNe_bool (PySem.F.typeCall_bool_1 _) (PySem.F.newCall_bool_1 _) (fun obj => PySem.F.args_object_init_2 obj _) PySem.F.entry_bool_new (bool_new_own a) ?_
  refine truthy_len I.kIn J no hm.at_ hm.fn (wpAny_call (codeAny_mono (F.run X.A.in1.in1.in1 X.stack s H ⟨[.ref a], []⟩ [.ref a] [.ref a] _ E0 hr3 I.env0.in1.in1.in1 b (.cons rfl .nil) q) fun r s' hq => ?_))
  cases r with
  | error e => exact hq.elim
  | ok fl =>
    cases fl with
    | ret u =>
      obtain ⟨v, H1, I1, rv, n, rfl, hn, q1⟩ := I.after hq
      obtain ⟨t, rfl⟩ := (show ∃ t, u = Value.int (n : Nat) t from rv)
      have e : ((n : Int) != 0) = (n != 0) := by
        by_cases c : n = 0
        · subst c; rfl
        · have c' : (n : Int) ≠ 0 := by omega
          rw [bne_iff_ne.mpr c', bne_iff_ne.mpr c]
      refine ⟨⟨by omega, by omega⟩, _, _, rfl, rfl, ?_⟩
      rw [e]
      exact ⟨.bl (n != 0), H1, I1.tok _, rfl, q1⟩
    | next => exact hq.elim
    | brk => exact hq.elim
    | cont => exact hq.elim
/-- not o -/
def tNotO (C : Addr) (sp : Sp) (ta : TE) : TE := fun σ H Q => ta σ H fun x H1 => rTruO C sp x H1 fun b H2 => Q (.bl (!b)) H2
theorem pe_notM (he : PE X e ta) (no : NoAttr X.K C "__bool__") (hm : Meth X.K C "__len__" f) (D : Mn X.prog X.w X.K X.mg X.base k f ps sp) (hr : Room k' X.A) (hk : k + 1 ≤ k') : PE X (.UnaryOp .Not e pos) (tNotO C sp ta) := by
  obtain ⟨fd, F, hb⟩ := D
  refine ⟨fun pins s σ H Q I h => ?_⟩
  refine UnaryOp_ (thn (he.run pins s σ H _ I h) fun v s1 ⟨x, H1, I1, r1, q1⟩ => ?_)
  refine not_of (wpAny_mono (truthyO no hm F (hr.mono hk) hb I1 r1 q1) (fun c s2 z => ?_) fun _ _ z => z)
  obtain ⟨H2, I2, q2⟩ := z
  exact ⟨.bl (!c), H2, I2, rfl, q2⟩
end
section
variable {K : PySem.W.Frag} {p : Me} {σ : L2.St} {H H' A A' : Hp} {te ta tb tc tl ti : TE} {P Px Py Pz : V → Hp → Prop} {C : Addr} {F : List V → Hp → (V → Hp → Prop) → Prop} {b : Bool} {n : Nat}
theorem d_boolO (ho : EvG p ta σ H Px) (iso : ∀ v H, Px v H → IsO C v H) (hn : n < 2 ^ 62) (hF : ∀ x H', Ex H H' → Px x H' → F [x] H' fun v _ => v = .int (n : Nat)) : EvD K p (tCB (rBoolO C (SpG F)) (tCons ta tNil)) σ H (.bool (n != 0)) := fun A R Q q => ho A R _ fun v A1 H1 g1 k1 => by
  obtain ⟨a, dx, fs, rfl, ha⟩ := iso v H1 k1
  have R1 := g1.to R
  exact ⟨a, dx, fs, rfl, R1.ex _ _ ha, useG R1 (hF _ H1 g1.reg k1) fun v A3 H3 g3 k3 => ⟨n, k3, hn, q _ A3 H3 (g1.trans g3) (.bl _)⟩⟩
theorem d_notO (ho : EvG p ta σ H Px) (iso : ∀ v H, Px v H → IsO C v H) (hn : n < 2 ^ 62) (hF : ∀ x H', Ex H H' → Px x H' → F [x] H' fun v _ => v = .int (n : Nat)) : EvD K p (tNotO C (SpG F) ta) σ H (.bool (!(n != 0))) := fun A R Q q => ho A R _ fun v A1 H1 g1 k1 => by
  obtain ⟨a, dx, fs, rfl, ha⟩ := iso v H1 k1
  have R1 := g1.to R
  exact ⟨a, dx, fs, rfl, R1.ex _ _ ha, useG R1 (hF _ H1 g1.reg k1) fun v A3 H3 g3 k3 => ⟨n, k3, hn, q _ A3 H3 (g1.trans g3) (.bl _)⟩⟩
end
/-! tuple * 1, tuple * n -/
theorem tuple_mul1 (l : Addr) (items : Array Value) (n : Nat) (dd : Option Addr) (sl : Array (Option Value)) (u : Tok) :
    Meets (Builtin.«tuple.__mul__» ⟨[.ref l, .int 1 u], []⟩) (fun _ R s => s.heap.get? l = some { cls := .type "tuple", dict := dd, data := .seq items n, slots := sl } ∧ R (.ok (.ret (Value.ref l))) s) :=
  .of_wp fun prog w A R s h => by
    obtain ⟨hp, g, d, tk, os⟩ := s
    obtain ⟨hl, h⟩ := h
    have f1 := AutoSeq1.idx_int
    wp_walk using wpAny_loadPart' hl
    repeat (first
      | (refine wpAny_ite_false (by decide) ?_; wp_walk using wpAny_loadPart' hl)
      | (refine wpAny_ite_true (by simp) ?_; wp_walk using wpAny_loadPart' hl))
    all_goals first | exact ⟨_, rfl, h⟩ | skip
def rRepT1 (K : PySem.W.Frag) : R2 := fun x y H Q => ∃ l k xs, x = .ref l ∧ y = .int k ∧ SqT K H l xs ∧ xs ≠ [] ∧ 1 ≤ k ∧ k ≤ 1000 ∧ xs.length ≤ 1000 ∧ ((k = 1 ∧ Q (.ref l) H) ∨ (2 ≤ k ∧ ∀ p, H p = none → Q (.ref p) (upd H p (.tup (List.replicate k.toNat xs).flatten))))
theorem op_repT1 {X : Cx} : OpR X (binaryOp .Mult) (rRepT1 X.K) := by
  intro pins s σ H x y v u Q I rx ry h
  obtain ⟨l, k, xs, rfl, rfl, hT, hne, h1, h2, hz, q⟩ := h
  rcases q with ⟨rfl, q⟩ | ⟨hk, q⟩
  · cases rx
    obtain ⟨t, rfl⟩ := ry
    obtain ⟨its, r, ⟨⟨cls, dd, data, sl⟩, ho, hc, n, hd⟩, hs⟩ := I.tuple hT
    simp only at hc hd
    subst hc hd
    refine wpAny_binaryOp_repeat_ref (T := "tuple") (U := "int") (by decide) ⟨_, ho, rfl⟩ (fun s' => typeIs_int s' 1 t) noFill_tuple_mul PySem.F.fills_int_mul PySem.F.slot_int_rmul repeat_tuple PySem.F.slot_int_index.lookup
      (call_meets PySem.F.slot_int_rmul (typeIs_int s 1 t) PySem.F.entry_int_rmul (PySem.F.args_int_rmul_2 _ _) (int_rmul_tuple 1 t l its.toArray n dd sl)
        ⟨ho, rfl, ⟨_, ho, rfl⟩, call_meets PySem.F.slot_tuple_mul ⟨_, ho, rfl⟩ PySem.F.entry_tuple_mul (PySem.F.args_tuple_mul_2 _ _) (tuple_mul1 l its.toArray n dd sl t) ⟨ho, ?_⟩⟩)
    exact ⟨.ref l, H, I, rfl, q⟩
  · exact op_repT pins s σ H _ _ v u Q I rx ry ⟨l, k, xs, rfl, rfl, hT, hne, hk, h2, hz, q⟩
theorem op_repTK {X : Cx} {K : PySem.W.Frag} (h : X.K = K) : OpR X (binaryOp .Mult) (rRepT1 K) := h ▸ op_repT1
section
variable {K : PySem.W.Frag} {p : Me} {d : PyData}
theorem o_repT {n : Nat} (h1 : 1 ≤ n) (hn : n ≤ 1000) : OpD K p (rRepT1 K) (.tuple [d]) (.int n) (.tuple (List.replicate n d)) := fun x y H A hx hy R Q q => by
  obtain ⟨a, xs, rfl, sq, hz⟩ := dq_inv_t hx
  obtain ⟨v, rfl, kv⟩ := dqall_one hz
  cases hy
  refine ⟨a, n, [v], rfl, rfl, ex_t R.ex sq, by simp, by omega, by omega, by simp, ?_⟩
  by_cases c : n = 1
  · subst c
    exact .inl ⟨rfl, q _ A H R.refl hx⟩
  · refine .inr ⟨by omega, fun l hl => ?_⟩
    have g := Gr.alloc R (o := .tup (List.replicate n v)) hl
    have e : (List.replicate (n : Int).toNat [v]).flatten = List.replicate n v := by rw [Int.toNat_natCast]; exact flat_one n
    rw [e]
    exact q _ _ _ g (.tup (st_of upd_same) (dq_rep (dq_ex g.reg _ _ kv) n))
end
end Z
/-! the head's facts, with properties of one's own classes -/
namespace Z
open PySem PySem.Spec PyProof.Rows L2 He
/-- the getter of the property f of the class x -/
def gA (K : PySem.W.Frag) (x f : Str) : Addr := match PySem.W.recIn K (ma K (ga K x) f) "property" with
  | some (.ref g :: _) => g
  | _ => 0
def recB (K : PySem.W.Frag) (x f : Str) : Bool := match PySem.W.recIn K (ma K (ga K x) f) "property" with
  | some (.ref _ :: _) => true
  | _ => false
theorem rec_ok {K : PySem.W.Frag} {x f : Str} (h : recB K x f = true) : ∃ rest, PySem.W.recIn K (ma K (ga K x) f) "property" = some (.ref (gA K x f) :: rest) := by
  unfold recB at h
  unfold gA
  split at h
  · rename_i g rest e
    rw [e]
    exact ⟨rest, rfl⟩
  · cases h
def propB (K : PySem.W.Frag) (x f : Str) : Bool := eqO (PySem.W.findIn K (.ref (ga K x)) f) (some (some (.ref (ma K (ga K x) f)))) && (eqO (PySem.W.specialIn K (.ref (ma K (ga K x) f)) "__get__") (some (some (.builtin "property.__get__"))) && (decide (PySem.W.takesIn K (.ref (ma K (ga K x) f)) = some true) && recB K x f))
theorem prop_ok {K : PySem.W.Frag} {x f : Str} (h : propB K x f = true) : PropOf K (ga K x) f (ma K (ga K x) f) (gA K x f) := by
  obtain ⟨h1, h⟩ := ba h
  obtain ⟨h2, h⟩ := ba h
  obtain ⟨h3, h4⟩ := ba h
  exact ⟨eqO_ok h1, eqO_ok h2, of_decide_eq_true h3, rec_ok h4⟩
/-- a def at an address -/
def fnA (K : PySem.W.Frag) (a : Addr) : FnW := match K.lookup a with
  | some ⟨_, _, .func fd, _⟩ => some (fd.name, fd.qualname, fd.params, fd.body, fd.scope, fd.globals, fd.closure, fd.builtins)
  | _ => none
def getB (K : PySem.W.Frag) (x f qual : Str) : Bool := PySem.W.keepIn K (.ref (gA K x f)) && (match K.lookup (gA K x f) with
  | some ⟨_, _, .func fd, _⟩ => PySem.W.codeIn K fd.code qual && (dflB K fd.defaults [] && kwdB K fd.kwdefaults [])
  | _ => false)
/-- class, attribute, qualified name, the def -/
abbrev GetD : Type := Str × Str × Str × Stmt
def GetD.val (d : GetD) : FnW := some (d.2.1, d.2.2.1, defArgs d.2.2.2, .stmts (defBody d.2.2.2), defScope d.2.2.2, mainGlobals, [], builtinsNs)
theorem get_ok {K : PySem.W.Frag} {d : GetD} (e : fnA K (gA K d.1 d.2.1) = GetD.val d) (c : getB K d.1 d.2.1 d.2.2.1 = true) : ∃ fd, FunD K d.2.1 d.2.2.1 (defArgs d.2.2.2) (defBody d.2.2.2) (defScope d.2.2.2) [] [] (gA K d.1 d.2.1) fd := by
  obtain ⟨x, f, qual, st⟩ := d
  obtain ⟨kp, c2⟩ := ba c
  unfold fnA at e
  cases q : K.lookup (gA K x f) with
  | none =>
    rw [q] at c2
    cases c2
  | some o =>
    obtain ⟨oc, od, dt, osl⟩ := o
    dsimp only at e c2
    rw [q] at c2 e
    cases dt with
    | func fd =>
      obtain ⟨n1, n2, n3, n4, n5, n6, n7, n8, n9, n10, n11, n12, n13, n14, n15⟩ := fd
      have e2 : (some (n1, n2, n3, n4, n5, n6, n7, n15) : FnW) = some (f, qual, defArgs st, .stmts (defBody st), defScope st, mainGlobals, [], builtinsNs) := e
      simp only [Option.some.injEq, Prod.mk.injEq] at e2
      obtain ⟨h1, h2, h3, h4, h5, h6, h7, h8⟩ := e2
      subst h1 h2 h3 h4 h5 h6 h7 h8
      have c3 : (PySem.W.codeIn K n13 n2 && (dflB K n8 [] && kwdB K n9 [])) = true := c2
      obtain ⟨k1, k2⟩ := ba c3
      obtain ⟨k3, k4⟩ := ba k2
      exact ⟨_, ⟨oc, od, n8, n9, n10, n11, n12, n13, n14, osl, rfl, q, k1, dflB_ok k3, kwdB_ok k4⟩, kp⟩
    | _ => cases c2
/-! what isinstance asks of a class -/
def insB (K : PySem.W.Frag) (x : Str) : Bool := eqO (PySem.W.findIn K (.ref (ga K x)) "__class__") (some (some (.builtin "object.__class__"))) && (eqO (PySem.W.specialIn K (.builtin "object.__class__") "__get__") (some (some (.builtin "getset_descriptor.__get__"))) && (decide (PySem.W.takesIn K (.builtin "object.__class__") = some true) && decide (PySem.W.mroIn K (ga K x) (.type "object") = some true)))
theorem ins_ok {K : PySem.W.Frag} {x : Str} (c : Cls K (ga K x)) (h : insB K x = true) : C8.InsC K (ga K x) := by
  obtain ⟨h1, h⟩ := ba h
  obtain ⟨h2, h⟩ := ba h
  obtain ⟨h3, h4⟩ := ba h
  exact ⟨c, eqO_ok h1, eqO_ok h2, of_decide_eq_true h3, of_decide_eq_true h4, by unfold PySem.W.kitOne; simp⟩
def noInsB (K : PySem.W.Frag) (x : Str) : Bool := tysD.all fun T => decide (PySem.W.kitOne K (.type T) (.ref (ga K x)) = some false)
theorem noIns_ok {K : PySem.W.Frag} {x : Str} (h : noInsB K x = true) : ∀ T ∈ tysD, PySem.W.kitOne K (.type T) (.ref (ga K x)) = some false := fun T hT => of_decide_eq_true (List.all_eq_true.mp h T hT)
/-! the Hook -/
abbrev AlP : Type := AlX × List FnW
def getsA (K : PySem.W.Frag) (gs : List GetD) : List FnW := gs.map fun d => fnA K (gA K d.1 d.2.1)
def obsP (n : Nat) (fa : List Fa) (fn : List DefD) (ex : PySem.W.Frag → Bool) (gs : List GetD) (g : Addr → Option Obj) : AlP := (obsX n fa fn [] [] ex g, getsA (frT g (asD g n)) gs)
def hookP (n : Nat) (fa : List Fa) (fn : List DefD) (ex : PySem.W.Frag → Bool) (gs : List GetD) : PySem.W.Hook where
  α := AlP
  obs := fun s => obsP n fa fn ex gs s.heap.get?
  val := fun w => (valX fn [] w, gs.map GetD.val)
  says := fun w h => ∃ K : PySem.W.Frag, K.In h ∧ SaysX fa fn [] [] ex w h K ∧ getsA K gs = gs.map GetD.val
  of := fun _ _ e => ⟨_, frT_in, saysX_of (congrArg (fun z : AlP => z.1) e), congrArg (fun z : AlP => z.2) e⟩
  keeps := fun _ _ _ ⟨K, hK, c, cg⟩ k => ⟨K, PySem.W.Frag.In.keeps hK k, ⟨c.t, c.more, c.hd, c.out, fun p hp => k _ _ (c.empty p hp)⟩, cg⟩
theorem obsP_eq {n : Nat} {fa : List Fa} {fn : List DefD} {ex : PySem.W.Frag → Bool} {gs : List GetD} {g : Addr → Option Obj} {s : Shared} (h : ∀ a, g a = s.heap.get? a) : obsP n fa fn ex gs g = (hookP n fa fn ex gs).obs s := by
  have e : g = s.heap.get? := funext h
  rw [e] <;> rfl
theorem gets_at {K : PySem.W.Frag} {gs : List GetD} (c : getsA K gs = gs.map GetD.val) (i : Nat) {d : GetD} (h : gs[i]? = some d) : fnA K (gA K d.1 d.2.1) = GetD.val d := by
  have e : (getsA K gs)[i]? = (gs.map GetD.val)[i]? := by rw [c]
  unfold getsA at e
  rw [List.getElem?_map, List.getElem?_map, h] at e
  exact Option.some.inj e
end Z
/-! The package's errors over the layer: made as values, raised, their field read. -/
namespace L2
open PySem PySem.Spec PyProof.Rows
theorem relO_fld {fld : Str} {v : V} {v' : Value} (r : RelV v v') (f : Str) : RelO (List.lookup f [(fld, v)]) (if f = fld then some v' else none) := by
  by_cases hw : f = fld
  · subst hw
    rw [if_pos rfl, List.lookup_cons, beq_self_eq_true]
    exact r
  · rw [if_neg hw, List.lookup_cons, beq_eq_false_iff_ne.mpr hw]
    trivial
section
variable {X : Cx} {C fI : Addr} {fld x : Str}
/-- what the text says of such a class, its name x -/
structure ErrCls (X : Cx) (x : Str) (C fI : Addr) (fld : Str) : Prop where
  t : PySem.ZX.ErrTxt X.prog X.K C fI fld
  ok : PySem.ZX.okF fld = true
  top : (X.prog.main.scope.names.lookup ("super" : Str)).isSome = false
  g : X.mg x = some (.ref C)
  k : PySem.W.keepIn X.K (.ref C) = true
  exC : PySem.W.subIn X.K (.ref C) (.type "BaseException") = some true
  tyC : PySem.W.typeIn X.K (.ref C) = some (.type "type")
/-- X(e): the reading -/
def tMkE (C : Addr) (fld : Str) (ta : TA) : St → Hp → XK → Prop := fun σ H Q => ta σ H fun vs H1 => ∃ v, vs = [v] ∧ ∀ d, H1 d = none → Q (.ref C) (some d) (upd H1 d (.xd [(fld, v)]))
theorem pmk_err {a : Expr} {ta : TA} {p pos : Pos} {k : Nat} (T : ErrCls X x C fI fld) (hr : Room k X.A) (ha : PA X [a] ta) (hg : Gl X x := by rfl) (hdb : (x == ("__debug__" : Str)) = false := by decide)
    (he : starEach (a :: []) X.env = (false, eval a X.env) :: starEach [] X.env := by rfl) (hpl : (backTo pos (starEach [] X.env)).any (·.1) = false := by rfl) :
    PMk X (.Call (.Name x p) [a] [] pos) (tMkE C fld ta) := by
  intro pins s σ H Q I h
  refine wpAny_Call_Name_kw (ld_glob I hg T.g ?_ hdb)
  refine PySem.W.callWith_K (h₀ := X.base) I.ok.mod.kin T.k (thn (ha.run pos pins s σ H _ I h) fun us s1 hh => ?_) he hpl
  obtain ⟨vs, H1, I1, r1, v, ev, q1⟩ := hh
  subst ev
  refine ⟨I1.kIn, ?_⟩
  cases r1 with
  | cons rv rn =>
    rename_i v' us'
    cases rn
    show wpAny _ _ (call (.ref C) [v']) _ _ _
    have hlim := I1.nolimit
    obtain ⟨mb, b1, b2⟩ := I1.mod.blt
    have G := I1.mod.glob.keeps I1.bk
    have B := b1.keeps I1.bk
    have hB : mb ("super" : Str) = some (.type "super") := (b2 "super" (by decide)).trans (by decide +kernel)
    obtain ⟨hp, g, dr, tk, os⟩ := s1
    refine wpAny_call (PySem.ZX.err_made T.t T.ok T.top I1.kIn G B hB hlim (by have := hr.dp; omega) fun h' tk' e d M => ?_)
    show MkP X pins σ Q (.ref e) ⟨h', g, dr, tk', os⟩
    obtain ⟨t1, hoe⟩ := M.obj
    have hns := M.ns
    obtain ⟨G', g1, g2⟩ := restrict h' fun b => decide (b ≠ e)
    have gk : ∀ b, b ≠ e → G'.get? b = h'.get? b := fun b hb => g1 b (decide_eq_true hb)
    have ge : G'.get? e = none := g2 e (by simp)
    have old : ∀ b o, hp.get? b = some o → G'.get? b = some o := fun b o q => (gk b (Nat.ne_of_lt (Nat.lt_of_lt_of_le (Heap.lt_size q) M.new))).trans (M.keep b o q)
    have ob : ObjOk X.prog X.w (upd H1 d (.xd [(fld, v)])) G' d (.xd [(fld, v)]) := ⟨_, hns.at (fun o q => (gk d M.dne).trans q), fun f => relO_fld rv f⟩
    have J : Inv X pins σ (upd H1 d (.xd [(fld, v)])) ⟨G', g, dr, tk', os⟩ := I1.laid (t' := tk') old M.dbig ob
    refine ⟨e, _, _, ⟨G', g, dr, tk', os⟩, _, .ref C, some d, rfl, J, fun b o q => ?_, ge, hoe, ⟨rfl, rfl⟩, rfl, rfl, ?_, rfl, I1.bare, raises_own T.exC T.tyC, q1 d (I1.hok.fresh M.dbig)⟩
    · by_cases hb : b = e
      · have q' : G'.get? b = some o := q
        rw [hb, ge] at q'; cases q'
      · exact (gk b hb).symm.trans q
    · rw [upd_ne (Ne.symm M.dne)]
      exact I1.hok.fresh M.new
/-- raise X(e) -/
def tRaiseE (C : Addr) (fld : Str) (W : WX) (ta : TA) : TS := fun _ σ H => tMkE C fld ta σ H fun cls d H' => W cls d σ H'
theorem ps_raiseE {a : Expr} {ta : TA} {W : WX} {p pos pos2 : Pos} {k : Nat} (hc : X.calm = true) (T : ErrCls X x C fI fld) (hr : Room k X.A) (tk : Takes X W) (ha : PA X [a] ta) (hg : Gl X x := by rfl) (hdb : (x == ("__debug__" : Str)) = false := by decide)
    (he : starEach (a :: []) X.env = (false, eval a X.env) :: starEach [] X.env := by rfl) (hpl : (backTo pos (starEach [] X.env)).any (·.1) = false := by rfl) :
    PS X (.Raise (some (.Call (.Name x p) [a] [] pos)) none pos2) (tRaiseE C fld W ta) := ps_raise hc tk (pmk_err T hr ha hg hdb he hpl)
end
end L2
/-! defs that raise an error of one's own -/
namespace Z
open PySem PySem.Spec PyProof.Rows L2 Evl
/-- an error class of the text, apart from any place -/
structure ErrC (P : Program) (K : PySem.W.Frag) (mg : Str → Option Value) (x : Str) (C fI : Addr) (fld : Str) : Prop where
  t : PySem.ZX.ErrTxt P K C fI fld
  ok : PySem.ZX.okF fld = true
  top : (P.main.scope.names.lookup ("super" : Str)).isSome = false
  g : mg x = some (.ref C)
  k : PySem.W.keepIn K (.ref C) = true
  exC : PySem.W.subIn K (.ref C) (.type "BaseException") = some true
  tyC : PySem.W.typeIn K (.ref C) = some (.type "type")
theorem ErrC.at {X : Cx} {x : Str} {C fI : Addr} {fld : Str} (T : ErrC X.prog X.K X.mg x C fI fld) : ErrCls X x C fI fld := ⟨T.t, T.ok, T.top, T.g, T.k, T.exC, T.tyC⟩
/-- it raises the error C, its field of P -/
def SpR (C : Addr) (fld : Str) (F : List V → Hp → (V → Hp → Prop) → Prop) : Sp := fun vs A _ E => ∃ H P, Reg .non H A ∧ F vs H P ∧ ∀ v dd A' H', Gr .non A H A' H' → H' dd = some (.xd [(fld, v)]) → P v H' → E (.ref C) (some dd) A'
theorem lenR {C : Addr} {fld : Str} {F : List V → Hp → (V → Hp → Prop) → Prop} {n : Nat} (h : ∀ vs H P, F vs H P → vs.length = n) : ∀ vs H Q E, SpR C fld F vs H Q E → vs.length = n := fun vs H Q E ⟨_, _, _, k, _⟩ => h _ _ _ k
section
variable {P : Program} {w : World} {K : PySem.W.Frag} {mg : Str → Option Value} {base : Heap}
theorem dnx_of {x : Str} {st : Stmt} {N ps : List Str} {sp : Sp} (k : Nat) (Hx : St K mg x st ps) (S : FnScope N ps (defScope st)) (len : ∀ vs H Q E, sp vs H Q E → vs.length = ps.length)
    (hbody : ∀ (f : Addr) (cdv : Value) (A : Around) (outer : List Env) (s : Shared) (H : Hp) (vs : List V) (Q : VK) (E : XK), Room k (A.deeper (envOfC x (defScope st) s.heap.objs.size f cdv)) → sp vs H Q E →
      ∃ t, PSs (cxOf (L2.CX P w) P w K mg base N x (defScope st) f cdv A outer s H E) (defBody st) t ∧ t { nx := fun _ H' => Q .non H', rt := Q } (start N vs) H) : Dn P w K mg base (L2.CX P w) (k + 1) x ps sp := by
  obtain ⟨f, fd, F, m, b⟩ := Hx
  exact ⟨f, fd, F.ok S len fun cdv A outer s H vs Q E hr h => hbody f cdv A outer s H vs Q E hr h, m, F.kp, b⟩
theorem mnx_of {x qual : Str} {st : Stmt} {f : Addr} {N ps : List Str} {sp : Sp} (k : Nat) (Hx : StM K x qual st f ps) (S : FnScope N ps (defScope st)) (len : ∀ vs H Q E, sp vs H Q E → vs.length = ps.length)
    (hbody : ∀ (cdv : Value) (A : Around) (outer : List Env) (s : Shared) (H : Hp) (vs : List V) (Q : VK) (E : XK), Room k (A.deeper (envOfC qual (defScope st) s.heap.objs.size f cdv)) → sp vs H Q E →
      ∃ t, PSs (cxOf (L2.CX P w) P w K mg base N qual (defScope st) f cdv A outer s H E) (defBody st) t ∧ t { nx := fun _ H' => Q .non H', rt := Q } (start N vs) H) : ∃ fd, FnOk P w K mg base (L2.CX P w) (k + 1) f fd ps sp ∧ Binds K fd ps [] := by
  obtain ⟨fd, F, b⟩ := Hx
  exact ⟨fd, F.ok S len fun cdv A outer s H vs Q E hr h => hbody cdv A outer s H vs Q E hr h, b⟩
theorem takes_fn {N : List Str} {qual : Str} {sc : Scope} {f : Addr} {cdv : Value} {A : Around} {outer : List Env} {s : Shared} {H : Hp} {E : XK} : Takes (cxOf (L2.CX P w) P w K mg base N qual sc f cdv A outer s H E) (fun cls d _ H => E cls d H) := takes_of rfl rfl rfl rfl
theorem own_fn {N : List Str} {qual : Str} {sc : Scope} {f : Addr} {cdv : Value} {A : Around} {outer : List Env} {s : Shared} {H : Hp} {E : XK} : PassesOwn (model P w) (cxOf (L2.CX P w) P w K mg base N qual sc f cdv A outer s H E).A (cxOf (L2.CX P w) P w K mg base N qual sc f cdv A outer s H E).env (cxOf (L2.CX P w) P w K mg base N qual sc f cdv A outer s H E).xe := passes_of rfl
/-- f(..), f lets its errors out -/
theorem pe_cdX {X : Cx} {x : Str} {ps : List Str} {sp : Sp} {k k' : Nat} {e : Expr} {es : List Expr} {t : TA} {W : WX} {p pos : Pos} (D : Dn X.prog X.w X.K X.mg X.base (L2.CX X.prog X.w) k x ps sp) (tk : Takes X W) (hr : Room k' X.A) (hk : k ≤ k') (hg : Gl X x) (ha : PA X (e :: es) t)
    (hdb : (x == ("__debug__" : Str)) = false := by decide) (he : starEach (e :: es) X.env = (false, eval e X.env) :: starEach es X.env := by rfl) (hpl : (backTo pos (starEach es X.env)).any (·.1) = false := by rfl) :
    PE X (.Call (.Name x p) (e :: es) [] pos) (tCallS sp (WE W) t) := by
  obtain ⟨f, fd, F, m, kp, b⟩ := D
  exact pe_callS F (hr.mono hk) hg m kp b (fun σ => passAt tk σ) ha hdb he hpl
end
section
variable {K : PySem.W.Frag} {p : Me} {σ : L2.St} {H H' A A' : Hp} {te ta tb : TE} {tt : TT} {tu tz : TS} {D : Ends} {P : V → Hp → Prop} {C : Addr} {fld : Str} {F : List V → Hp → (V → Hp → Prop) → Prop}
/-- raise C(e) -/
theorem s_raise {W : WX} {ta : TE} (h : EvG p ta σ H P) (mp : Mono P) (R : Reg p H A) (k : ∀ v dd A' H', Gr p A H A' H' → H' dd = some (.xd [(fld, v)]) → P v H' → W (.ref C) (some dd) σ A') : tRaiseE C fld W (tCons ta tNil) D σ A :=
  h A R _ fun v A1 H1 g1 k1 => ⟨v, rfl, fun d hd => by
    have R1 := g1.to R
    have ga := Gr.alloc R1 (o := .xd [(fld, v)]) hd
    exact k v d _ _ (g1.trans ga) upd_same (mp _ _ _ ga.reg k1)⟩
/-- a call that raises -/
theorem s_dropR {W : WX} {Pa : List V → Hp → Prop} {t : TA} (h : EvA p t σ H Pa) (R : Reg p H A) (hF : ∀ vs H', Ex H H' → Pa vs H' → F vs H' P) (k : ∀ v dd A' H', Gr p A H A' H' → H' dd = some (.xd [(fld, v)]) → P v H' → W (.ref C) (some dd) σ A') : tDrop (tCallS (SpR C fld F) (WE W) t) D σ A :=
  h A R _ fun vs A1 H1 g1 k1 => by
    have R1 := g1.to R
    exact ⟨H1, P, R1.nil, hF vs H1 g1.reg k1, fun v dd A2 H2 g2 e2 k2 => k v dd A2 H2 (g1.trans (g2.pure R1)) e2 k2⟩
theorem q_dropR {W : WX} {Pa : List V → Hp → Prop} {t : TA} (h : EvA p t σ H Pa) (R : Reg p H A) (hF : ∀ vs H', Ex H H' → Pa vs H' → F vs H' P) (k : ∀ v dd A' H', Gr p A H A' H' → H' dd = some (.xd [(fld, v)]) → P v H' → W (.ref C) (some dd) σ A') : tSeq (tDrop (tCallS (SpR C fld F) (WE W) t)) tz D σ A := s_dropR (D := { D with nx := tz D }) h R hF k
end
end Z
namespace Z
open PySem PySem.Spec PyProof.Rows L2 Evl
/-- an __init__ that raises: the object was one's own -/
def SpRI (C Ce : Addr) (fld : Str) (F : List V → Hp → (V → Hp → Prop) → Prop) : Sp := fun vs A _ E => ∃ (H : Hp) (x dx : Addr) (us : List V) (P : V → Hp → Prop), vs = .ref x :: us ∧ Reg ⟨none, upd (fun _ => none) x (.ins C dx [])⟩ H A ∧ F us H P ∧
  ∀ v dd A' H', Reg .non H' A' → Ex H H' → (∀ A0 H0, A0 x = none → Gr .non A0 H0 A H → Gr .non A0 H0 A' H') → H' dd = some (.xd [(fld, v)]) → P v H' → E (.ref Ce) (some dd) A'
section
variable {K : PySem.W.Frag} {p : Me} {σ : L2.St} {H H' A A' : Hp} {te ta tb : TE} {tt : TT} {tu tz : TS} {D : Ends} {P : V → Hp → Prop} {C Ce : Addr} {fld : Str} {F : List V → Hp → (V → Hp → Prop) → Prop}
/-- o.f = f(..) that raises -/
theorem s_fldR {W : WX} {Pa : List V → Hp → Prop} {t : TA} {f : Str} (h : EvA p t σ H Pa) (R : Reg p H A) (hF : ∀ vs H', Ex H H' → Pa vs H' → F vs H' P) (k : ∀ v dd A' H', Gr p A H A' H' → H' dd = some (.xd [(fld, v)]) → P v H' → W (.ref C) (some dd) σ A') : sFld K ta (tCallS (SpR C fld F) (WE W) t) f D σ A :=
  h A R _ fun vs A1 H1 g1 k1 => by
    have R1 := g1.to R
    exact ⟨H1, P, R1.nil, hF vs H1 g1.reg k1, fun v dd A2 H2 g2 e2 k2 => k v dd A2 H2 (g1.trans (g2.pure R1)) e2 k2⟩
/-- return f(..) that raises -/
theorem s_retR {W : WX} {Pa : List V → Hp → Prop} {t : TA} (h : EvA p t σ H Pa) (R : Reg p H A) (hF : ∀ vs H', Ex H H' → Pa vs H' → F vs H' P) (k : ∀ v dd A' H', Gr p A H A' H' → H' dd = some (.xd [(fld, v)]) → P v H' → W (.ref C) (some dd) σ A') : tRet (tCallS (SpR C fld F) (WE W) t) D σ A :=
  h A R _ fun vs A1 H1 g1 k1 => by
    have R1 := g1.to R
    exact ⟨H1, P, R1.nil, hF vs H1 g1.reg k1, fun v dd A2 H2 g2 e2 k2 => k v dd A2 H2 (g1.trans (g2.pure R1)) e2 k2⟩
/-- C(..) that raises, as what is returned -/
theorem s_retMkR {E : XK} {Pa : List V → Hp → Prop} {t : TA} (mp : Mono P) (h : EvA p t σ H Pa) (ma : ∀ vs H1 H2, Ex H1 H2 → Pa vs H1 → Pa vs H2) (R : Reg p H A) (hF : ∀ vs H', Ex H H' → Pa vs H' → F vs H' P) (k : ∀ v dd A' H', Gr p A H A' H' → H' dd = some (.xd [(fld, v)]) → P v H' → E (.ref Ce) (some dd) A') : tRet (tMake C (SpRI C Ce fld F) [] E t) D σ A :=
  h A R _ fun vs A1 H1 g1 k1 x dx hx hdx ne => by
    have R1 := g1.to R
    have gd := Gr.alloc R1.nil (o := .own x) hdx
    have Rd := gd.to R1.nil
    have hx2 : upd A1 dx (.own x) x = none := by rw [upd_ne (fun z => ne z.symm)]; exact hx
    have gx := Gr.allocM Rd (o := .ins C dx []) hx2
    rw [List.append_nil]
    refine ⟨upd H1 dx (.own x), x, dx, vs, P, rfl, Reg.one Rd hx2, hF vs _ (g1.reg.trans gd.reg) (ma _ _ _ gd.reg k1), fun v dd A' H' r e last hd pv => ?_⟩
    exact k v dd A' H' (g1.trans ((last A1 H1 hx (gd.trans gx)).pure R1)) hd pv
end
end Z
/-! an error that a clause caught, held behind the try -/
namespace Z
open PySem PySem.Spec PyProof.Rows L2 Evl
/-- a caught error of the class cls, its dict d, at a -/
def ExH (cls : Value) (d : Option Addr) (a : Addr) : HO := .ext fun h => ∃ oe vs, h.get? a = some oe ∧ Zc cls d oe ∧ oe.data = .fields vs
section
variable {X : Cx} {pins : List (Addr × Obj)} {σ : L2.St} {H : Hp} {s : Shared} {a : Addr}
/-- what stands and is not known becomes known -/
theorem Inv.knowE {cls : Value} {d : Option Addr} {oe : Obj} {vs : Array Value} (I : Inv X pins σ H s) (he : s.heap.get? a = some oe) (hz : Zc cls d oe) (hd : oe.data = .fields vs) (na : H a = none) (nL : a ≠ X.env.locals) (n0 : X.s_0.heap.get? a = none) (hp : ∀ p ∈ X.pn ++ pins, p.1 ≠ a) :
    Inv X pins σ (upd H a (ExH cls d a)) s := by
  have ne : ∀ {b : Addr}, H b ≠ none → b ≠ a := fun h z => h (by rw [z]; exact na)
  refine ⟨I.ok, I.os, I.bare, ⟨I.base.keep, I.base.slot, fun b o e n x => ?_, I.base.there, fun b xs e => ?_, fun b o u e => ?_, fun b ps e => ?_⟩, I.loc, I.cell, ?_, fun x c e => ?_, fun p hq => ?_, ?_, I.len⟩
  · have : b ≠ a := fun z => by subst z; rw [n0] at e; cases e
    rw [upd_ne this]; exact I.base.free b o e n x
  · have k := I.base.tups b xs e
    rw [upd_ne (ne (by rw [k]; simp))]; exact k
  · have k := I.base.frzs b o u e
    rw [upd_ne (ne (by rw [k]; simp))]; exact k
  · obtain ⟨more, k⟩ := I.base.tbls b ps e
    exact ⟨more, by rw [upd_ne (ne (by rw [k]; simp))]; exact k⟩
  · rw [upd_ne (fun z => nL z.symm)]; exact I.free
  · have : c ≠ a := fun z => by
      subst z
      obtain ⟨v, o, k, kd⟩ := I.cell x c e
      rw [he] at k
      cases k
      simp_all
    rw [upd_ne this]; exact I.freeC x c e
  · obtain ⟨h1, h2, h3⟩ := I.pin p hq
    exact ⟨h1, by rw [upd_ne (hp p hq)]; exact h2, h3⟩
  · exact HOk.laidN I.hok (fun b u k => k) na ⟨⟨oe, vs, he, hz, hd⟩, ⟨oe, he⟩, fun _ _ ⟨o, v, k, r⟩ st => ⟨o, v, st o k, r⟩⟩
end
/-- what 'except x as n' wishes, where the error may be held on: slot i is n's -/
def wHeld (K : PySem.W.Frag) (c : Value) (i : Nat) (ts : Addr → Value → Option Addr → TS) (Wout : WX) (D : Ends) : WX := fun cls d σ H => ∃ b, PySem.W.exmOne K cls c = some b ∧ (b = false → Wout cls d σ H) ∧
  (b = true → ∀ a, H a = none → ts a cls d { nx := fun σ' H' => D.nx (σ'.set i none) (upd H' a (ExH cls d a)), rt := fun v H' => D.rt v (upd H' a (ExH cls d a)), bk := fun σ' H' => D.bk (σ'.set i none) (upd H' a (ExH cls d a)), ct := fun σ' H' => D.ct (σ'.set i none) (upd H' a (ExH cls d a)) } (σ.set i (some (.ref a))) H)
section
variable {X : Cx} {x n : Str} {c : Value} {i : Nat} {body suite : List Stmt} {b₀ : Stmt} {np pos pos' : Pos} {tb : WX → TS} {ts : Addr → Value → Option Addr → TS} {Wout : WX}
theorem ps_try_held (hs : X.stack = X.env :: X.outer) (hf : X.env.frame = some X.env.locals) (hex : X.ex = []) (hN : X.N.Nodup) (hi : X.N[i]? = some n) (hln : X.env.kindOf n = some .local) (hc : Names X x c) (tk : Takes X Wout)
    (hb : ∀ (W : WX) (pn : List (Addr × Obj)) (xe : Value → Shared → Prop), Takes (X.tr pn xe) W → PassesOwn (model X.prog X.w) X.A X.env xe → PSs (X.tr pn xe) body (tb W))
    (hsu : ∀ (a : Addr) (oe : Obj) (cls : Value) (d : Option Addr) (pn : List (Addr × Obj)), Zc cls d oe → (∃ vs, oe.data = .fields vs) → PSs (X.suite a ((a, oe) :: pn)) (b₀ :: suite) (ts a cls d)) :
    PS X (.Try body [.ExceptHandler (some (.Name x np)) (some n) (b₀ :: suite) pos'] [] [] pos) (fun D σ H => tb (wHeld X.K c i ts Wout D) D σ H) := by
  refine ⟨fun pins s σ H D I h => ?_⟩
  have ok := I.ok
  have hfr : X.A.frames = some (X.env :: X.outer) := hs ▸ ok.frames
  refine wpAny_Try_except (wpAny_mono ((hb (wHeld X.K c i ts Wout D) (X.pn ++ pins) _ (fun u s' up => ?_) PassesOwn.looking).run [] s σ H D (I.toTry _) h) (fun f s1 q => ?_) fun _ _ q => q)
  case refine_2 =>
    cases f with
    | next => obtain ⟨σ', H', J, q⟩ := q; exact wpAny_execs_nil ⟨σ', H', J.ofTry ok, q⟩
    | brk => obtain ⟨σ', H', J, q⟩ := q; exact ⟨σ', H', J.ofTry ok, q⟩
    | cont => obtain ⟨σ', H', J, q⟩ := q; exact ⟨σ', H', J.ofTry ok, q⟩
    | ret u => obtain ⟨v, σ', H', J, r, q⟩ := q; exact ⟨v, σ', H', J.ofTry ok, r, q⟩
  obtain ⟨a, B, sI, _, σ1, H1, cls, d, rfl, J0, nb, upI, sky, na, os, ag, b, hm, hno, hyes⟩ := up
  have J : Inv X pins σ1 H1 sI := J0.ofTry ok
  have sky1 : Sky B (X.env :: X.outer) a (Zc cls d) X.env.locals s'.heap := hs ▸ sky
  refine Sky.land (A := X.A) Zc.steady hfr hf sky1 fun h3 fl up3 => ?_
  have land : ∀ {h4 : Heap}, HandSPX.FlyingZ B (X.env :: X.outer) a (Zc cls d) h4 → h3.UpToSlots h4 → Inv X pins σ1 H1 { s' with heap := h4 } := fun f4 u4 => J.landed nb f4.1 ((upI.trans up3).trans u4) os ag
  have out : ∀ {h4 : Heap} {o : Obj} {vs : Array Value}, h4.FunFrames B (X.env :: X.outer) → h4.get? a = some o → o.data = .fields vs → a ∉ frs (X.env :: X.outer) := fun ff e dd m => by
    obtain ⟨_, _, e', nf⟩ := ff.mem m
    rw [e] at e'
    cases e'
    exact nf _ dd
  obtain ⟨oe, vs, he, hz, hd⟩ := fl.there
  have nfr := out fl.2.2.1 he hd
  have nL : a ≠ X.env.locals := fun z => nfr (List.mem_filterMap.mpr ⟨X.env, List.mem_cons_self, by rw [hf, z]⟩)
  have nF : a ∉ X.fs := fun m => by
    obtain ⟨e, me, q⟩ := List.mem_filterMap.mp m
    exact nfr (List.mem_filterMap.mpr ⟨e, List.mem_cons_of_mem _ me, q⟩)
  have nI : sI.heap.get? a = none := by
    cases e : sI.heap.get? a with
    | none => rfl
    | some o =>
      have := nb a o e (by rw [hs]; exact nfr)
      rw [fl.2.1] at this
      cases this
  have n0 : X.s_0.heap.get? a = none := by
    cases e : X.s_0.heap.get? a with
    | none => rfl
    | some o =>
      obtain ⟨o', k⟩ := J.base.there a o e (by rw [hex]; exact List.not_mem_nil)
      rw [nI] at k
      cases k
  have np0 : ∀ p ∈ X.pn ++ pins, p.1 ≠ a := fun p hp z => by
    have k := (J.pin p hp).1
    rw [z, nI] at k
    cases k
  have J3 := land fl (Heap.UpToSlots.refl _)
  have S3 := J3.suite he hd na nL nF
  refine wpAny_handleBy_cons (codeAny_handlers_test ?_) (by intro q; cases q)
  have LT : PySem.W.Looks (model X.prog X.w) h3 (typeOf (.ref a)) cls := fun A Q E s k q => wpAny_typeOf_ref (k _ _ he) (by rw [hz.1]; exact q)
  have LM := PySem.W.exm_one (M := model X.prog X.w) J3.kIn LT hm
  have name : ∀ {Q : Value → Shared → Prop} {E : Value → Shared → Prop}, Q c { s' with heap := h3 } → wpAny (model X.prog X.w) (X.A.mark (some (.ref a))) (eval (.Name x np) X.env) Q E { s' with heap := h3 } := fun q => by
    obtain ⟨hg, hdbg, hm | ⟨hm, hv, hnn⟩⟩ := hc
    · exact ld_glob (X := X.suite a ((a, oe) :: (X.pn ++ pins))) S3 hg hm q hdbg
    · exact ld_blt (X := X.suite a ((a, oe) :: (X.pn ++ pins))) S3 hg hm hv q hnn hdbg
  refine name (LM.here ?_)
  cases b with
  | false =>
    show wpAny _ X.A (handleBy (.ref a) X.env []) _ _ _
    refine wpAny_handleBy_nil ?_
    obtain ⟨_, _, _, oe', vs', T, _, _, he', _, hd', h1, _⟩ := id fl
    unfold PySem.passOn
    refine wpAny_bind (wpAny_field he' hd' h1 ?_)
    rw [if_neg (show ¬ ((Value.ref T == Value.none) = true) from by simp)]
    have fin : wpAny (model X.prog X.w) X.A (setFlight (.ref a) X.env.frame) (fun _ s4 => wpAny (model X.prog X.w) X.A (throw (.ref a) : Sem Flow) (SP X pins D) X.xe s4) X.xe { s' with heap := h3 } := by
      rw [hf]
      exact HandSPX.setFlight_upZ fl fun h4 hh4 up4 => wpAny_throw (tk _ _ ⟨a, B, sI, pins, σ1, H1, cls, d, rfl, J, nb, (upI.trans up3).trans up4, .inr (.inr (by rw [hs]; exact hh4)), na, os, ag, hno rfl⟩)
    first
      | exact wpAny_bind (wpAny_pure (wpAny_bind fin))
      | exact wpAny_bind fin
  | true =>
    refine codeAny_handlers_suite_as (HandSPX.lands_againZ fl fun h4 fl4 up4 => ?_)
    have J4 := land fl4 up4
    obtain ⟨o4, vs4, he4, hz4, hd4⟩ := fl4.there
    have S4 := J4.suite he4 hd4 na nL nF
    refine store_ok (X := X.suite a ((a, o4) :: (X.pn ++ pins))) (v := .ref a) S4 hN hi (.inl hln) rfl (fun s5 S5 => ?_) (.inr hln)
    refine wpAny_mono ((hsu a o4 cls d (X.pn ++ pins) hz4 ⟨_, hd4⟩).run [] s5 _ H1 _ S5 (hyes rfl a na)) (fun f s6 q => ?_) (fun _ _ z => False.elim z)
    have after : ∀ {σ6 : L2.St} {H6 : Hp} {Q : Shared → Prop}, Inv (X.suite a ((a, o4) :: (X.pn ++ pins))) [] σ6 H6 s6 → (∀ s7, Inv X pins (σ6.set i none) (upd H6 a (ExH cls d a)) s7 → Q s7) →
        wpAny (model X.prog X.w) X.A (do bindName X.env n .none; unbindBehindTheSuite X.env n pos') (fun _ s7 => Q s7) X.xe s6 := fun {σ6 H6 Q} S6 hq => by
      have pa := S6.pin (a, o4) (List.mem_append_left _ List.mem_cons_self)
      have U := S6.unsuite ok
      have U2 : Inv X ((a, o4) :: pins) σ6 H6 s6 := U.pins_of fun p hp => by
        rcases List.mem_cons.mp hp with e | hp
        · rw [e]; exact pa
        · exact U.pin p (List.mem_append_right _ hp)
      refine gone_ok U2 hN hi hln fun s7 J7 => hq s7 ?_
      have p7 := J7.pin (a, o4) (List.mem_append_right _ List.mem_cons_self)
      have J8 : Inv X pins (σ6.set i none) H6 s7 := J7.pins_of fun p hp => J7.pin p (List.mem_append_right _ (List.mem_cons_of_mem _ hp))
      exact Z.Inv.knowE J8 p7.1 hz4 hd4 p7.2.1 nL n0 np0
    cases f with
    | next => obtain ⟨σ6, H6, S6, q6⟩ := q; exact after S6 fun s7 J7 => ⟨_, _, J7, q6⟩
    | brk => obtain ⟨σ6, H6, S6, q6⟩ := q; exact after S6 fun s7 J7 => ⟨_, _, J7, q6⟩
    | cont => obtain ⟨σ6, H6, S6, q6⟩ := q; exact after S6 fun s7 J7 => ⟨_, _, J7, q6⟩
    | ret u => obtain ⟨v6, σ6, H6, S6, r6, q6⟩ := q; exact after S6 fun s7 J7 => ⟨_, _, _, J7, r6, q6⟩
end
end Z
/-! isinstance and fields of an error that is held -/
namespace Z
open PySem PySem.Spec PyProof.Rows L2 Evl
section
variable {prog : Program} {w : World} {A : Around} {E : Value → Shared → Prop} {s : Shared} {K : PySem.W.Frag} {x D : Addr} {ox : Obj} {od : Option Obj}
theorem cls_found (C : ExcC K D) : PySem.W.findObj K D od "__class__" = some (.bind (.builtin "getset_descriptor.__get__") (.builtin "object.__class__")) := by
  obtain ⟨cd, hc, _⟩ := PySem.W.any_some C.hd
  unfold PySem.W.findObj
  rw [hc, Option.bind_some, C.ha, Option.bind_some]
  simp [C.hn, C.ht]
theorem cls_asked {Q : Option Value → Shared → Prop} (C : ExcC K D) (X : K.In s.heap) (I : PySem.W.InstAt s.heap x ox D od) (h : Q (some (.ref D)) { s with toks := s.toks + 1 }) : wpAny (model prog w) A (getAttr? (.ref x) "__class__") Q E s := by
  obtain ⟨hp, g, dr, t, os⟩ := s
  have T := I.type (M := model prog w)
  have two : (Value.builtin "BaseException.__getattribute__" == Value.builtin "object.__getattribute__") = false := by decide +kernel
  unfold getAttr? getAttrBy? getAttrBy
  refine wpAny_bind (wpAny_mkText (wpAny_bind (wpAny_attempt (wpAny_holding (wpAny_bind (T.at (wpAny_bind ((PySem.W.looks_findIn (M := model prog w) X C.hg).at ?_))))))))
  show wpAny _ _ (if (onTheHeap (Value.ref D) && Value.builtin "BaseException.__getattribute__" == Value.builtin "object.__getattribute__") = true then _ else _) _ _ _
  rw [two, Bool.and_false, if_neg Bool.false_ne_true]
  unfold getAttrByItsOwn hookBefore
  refine wpAny_bind ?_
  rw [if_pos (show onTheHeap (Value.ref D) = true from rfl)]
  refine (PySem.W.looks_findIn (M := model prog w) X C.hk).at (wpAny_bind (wpAny_attempt (wpAny_holding ?_)))
  unfold callGetattribute
  rw [show (false && onTheHeap (Value.builtin "BaseException.__getattribute__")) = false from rfl, if_neg Bool.false_ne_true]
  unfold boundAndCalled
  rw [PySem.F.excAttr_ValueError.ga.bind (.ref x)]
  refine wpAny_bind (wpAny_pure ?_)
  show wpAny _ _ (call (.builtin "BaseException.__getattribute__") [.ref x, .str "__class__" t]) _ _ _
  refine wpAny_call (codeAny_call_builtin PySem.F.excAttr_ValueError.ga.plain PySem.F.entry_bexc_ga ?_)
  refine @PySem.W.check_slot (model prog w) _ _ ⟨hp, g, dr, t + 1, os⟩ "BaseException.__getattribute__" "BaseException" "__getattribute__" (.ref x) [.str "__class__" t] [] _ (by decide +kernel) (by decide +kernel) (T.andThen (PySem.W.looks_subIn X C.hs)) (PySem.F.args_bexc_ga (.ref x) (.str "__class__" t)) ?_
  unfold Builtin.«object.__getattribute__»
  refine wpAny_bind (wpAny_of_eq (a := ((Value.ref x : Value), [Value.str "__class__" t])) (by first | rfl | (simp only [slotArgs]; rfl)) ?_)
  refine wpAny_bind (wpAny_pure (wpAny_bind (T.at (wpAny_bind ((PySem.W.looks_find (M := model prog w) X I (cls_found C)).at ?_)))))
  show wpAny _ _ (holding [Value.builtin "object.__class__"] (call (.builtin "getset_descriptor.__get__") [.builtin "object.__class__", .ref x, .ref D]) >>= ret) _ _ _
  refine wpAny_bind (wpAny_holding (wpAny_call (PySem.W.class_get (s := ⟨hp, g, dr, t + 1, os⟩) (ox := ox) (od := od) X I C.hm (wpAny_pure ?_))))
  show wpAny _ _ (handedOut (.ref D)) _ _ _
  rw [PySem.W.handedOut_of (v := .ref D) rfl]
  first
    | exact wpAny_pure (wpAny_pure h)
    | exact wpAny_pure h
    | exact wpAny_pure (wpAny_bind (wpAny_pure (wpAny_pure h)))
end
section
variable {X : Cx} {pins : List (Addr × Obj)} {σ : L2.St} {H : Hp} {s : Shared} {a C dd : Addr} {fs : List (Str × V)}
/-- a held error with its dict, in the heap -/
theorem held_at (I : Inv X pins σ H s) (ha : H a = some (ExH (.ref C) (some dd) a)) (hd : H dd = some (.xd fs)) : ∃ oe od mA, PySem.W.InstAt s.heap a oe C (some od) ∧ s.heap.get? dd = some od ∧ s.heap.Ns1 dd mA ∧ ∀ f, RelO (fs.lookup f) (mA f) := by
  obtain ⟨⟨oe, vs, e, z, hv⟩, _, _⟩ := I.hok a _ ha
  obtain ⟨mA, hns, hr⟩ := (show ObjOk X.prog X.w H s.heap dd (.xd fs) from I.hok dd _ hd)
  have hns2 := hns
  obtain ⟨od, es, ep, ho, _⟩ := hns2
  exact ⟨oe, od, mA, ⟨e, z.1, by unfold PySem.W.notCls; rw [hv] <;> rfl, by rw [z.2]; exact ho⟩, ho, hns, hr⟩
theorem kit_held {K : PySem.W.Frag} {x D : Addr} {ox : Obj} {od : Option Obj} (T : ExcC K D) : PySem.W.KitX K (.ref x) (.ref D) (fun h => PySem.W.InstAt h x ox D od) where
  ty := fun _ _ _ I => I.type
  it := fun M h X I => by
    obtain ⟨cd, hc, _⟩ := PySem.W.any_some T.hd
    unfold PySem.W.clsIn at hc
    split at hc
    · rename_i ho
      exact fun A Q E s k q => by unfold isType loadHead; exact wpAny_bind (wpAny_loadPart (k _ _ (X _ _ ho)) (wpAny_pure q))
    · cases hc
  ne := (PySem.W.handS_kitx_exc (x := x) (ox := ox) T.hg T.hk T.hs T.hd T.ha T.hn T.ht T.hm).ne
  ca := fun X I k => cls_asked T X I k
/-- isinstance(e, c), e an error that is held -/
def rIsiH (K : PySem.W.Frag) : List V → Hp → VK → Prop := fun xs H Q => ∃ (a C dd : Addr) (fs : List (Str × V)) (c : V) (u : Value) (b : Bool), xs = [.ref a, c] ∧ ClsV c u ∧ H a = some (ExH (.ref C) (some dd) a) ∧ H dd = some (.xd fs) ∧ ExcC K C ∧ PySem.W.kitOne K (.ref C) u = some b ∧ Q (.bl b) H
theorem call_isiH : CallR X (.builtin "isinstance") (rIsiH X.K) := by
  intro pins s σ H xs us Q I r h
  obtain ⟨a, C, dd, fs, c, u, b, rfl, kc, ha, hd, T, e, q⟩ := h
  obtain ⟨u1, u2, rfl, r1, r2⟩ := vals2 r
  have e2 := kc.eq r2
  subst e2
  cases r1
  obtain ⟨oe, od, mA, J, _⟩ := held_at I ha hd
  exact PySem.W.kia_one (kit_held T) I.kIn J e (fun z => nomatch z) fun tk => ⟨.bl b, H, I.tok tk, rfl, q⟩
/-- e.f, e an error that is held -/
def tHf (K : PySem.W.Frag) (f : Str) (te : TE) : TE := fun σ H Q => te σ H fun x H1 => ∃ (a C dd : Addr) (fs : List (Str × V)) (v : V), x = .ref a ∧ H1 a = some (ExH (.ref C) (some dd) a) ∧ H1 dd = some (.xd fs) ∧ XfC K C ∧ PySem.W.findIn K (.ref C) f = some none ∧ fs.lookup f = some v ∧ Q v H1
theorem pe_hf {e : Expr} {te : TE} {pos : Pos} {n : Str} (he : PE X e te) (hb : attributeBase e n X.env (eval e X.env) = eval e X.env := by rfl) : PE X (.Attribute e n pos) (tHf X.K n te) := by
  refine ⟨fun pins s σ H Q I h => ?_⟩
  refine attr_of hb (thn (he.run pins s σ H _ I h) fun u s1 ⟨x, H1, I1, rx, a, C, dd, fs, v, ex, ha, hd, T, hno, l, q⟩ => ?_)
  subst ex
  obtain rfl : u = Value.ref a := rx
  obtain ⟨oe, od, mA, J, ho, hns, hr⟩ := held_at I1 ha hd
  obtain ⟨od2, ho2, hl⟩ := lookIn_ns hns
  rw [ho] at ho2
  cases ho2
  obtain ⟨u, hu, ru⟩ := RelO.some_of (v := v) (o := mA n) (by rw [← l]; exact hr n)
  exact HandSPX.exc_get I1.kIn J T.ga T.gg T.exC (PySem.W.findObj_own T.hdC hno rfl (by rw [hl, hu])) (handed_of ru) ⟨v, H1, I1.tok _, ru, q⟩
end
end Z
/-! errors as values: made (by position, by name), asked, their fields -/
namespace Z
open PySem PySem.Spec PyProof.Rows L2 Evl
open PySem.ZB
/-- an error class of the text over some built-in error -/
structure ErrB (P : Program) (K : PySem.W.Frag) (mg : Str → Option Value) (x : Str) (C fI : Addr) (fld : Str) : Prop where
  ex : ∃ (newId D initId B i0 : String) (tl b0 : List Value), ErrTxtB P K C fI fld newId D initId tl ∧ Tail tl ∧ IniF D initId ∧ ExcBaseFacts B newId i0 b0 ∧ tl.contains (.type B) = true ∧ tl.contains (.type "AttributeError") = false ∧ tl.contains (.type "NameError") = false
  ok : PySem.ZX.okF fld = true
  top : (P.main.scope.names.lookup ("super" : Str)).isSome = false
  g : mg x = some (.ref C)
  k : PySem.W.keepIn K (.ref C) = true
section
variable {X : Cx} {C fI : Addr} {fld x : Str} {pins : List (Addr × Obj)} {σ : L2.St} {H : Hp} {s : Shared} {k : Nat}
theorem run_err {v : V} {v' : Value} {rest : List Value} {kw : List (Str × Value)} {Q : VK} (T : ErrB X.prog X.K X.mg x C fI fld) (hr : Room k X.A) (hex : X.ex = []) (I : Inv X pins σ H s) (rv : RelV v v') (gv : Given fld v' rest kw)
    (h : ∀ d e, H d = none → H e = none → d ≠ e → Q (.ref e) (upd (upd H d (.xd [(fld, v)])) e (ExH (.ref C) (some d) e))) : wpAny (model X.prog X.w) X.A (call (.ref C) rest kw) (EP X pins σ Q) X.xe s := by
  obtain ⟨newId, D, initId, B, i0, tl, b0, t1, t2, t3, t4, t5, t6, t7⟩ := T.ex
  have lim := I.nolimit
  obtain ⟨mb, b1, b2⟩ := I.mod.blt
  have G := I.mod.glob.keeps I.bk
  have Bn := b1.keeps I.bk
  have sB : mb ("super" : Str) = some (.type "super") := (b2 "super" (by decide)).trans (by decide +kernel)
  obtain ⟨hp, g, dr, tk, os⟩ := s
  refine wpAny_call (made_of t1 t2 t3 t4 t5 t6 t7 T.ok T.top gv I.kIn G Bn sB lim (by have := hr.dp; omega) fun h' tk' e d M => ?_)
  obtain ⟨t0, he⟩ := M.obj
  have hns := M.ns
  have ob : ObjOk X.prog X.w (upd H d (.xd [(fld, v)])) h' d (.xd [(fld, v)]) := ⟨_, hns, fun f => relO_fld rv f⟩
  have J : Inv X pins σ (upd H d (.xd [(fld, v)])) ⟨h', g, dr, tk', os⟩ := I.laid (t' := tk') M.keep M.dbig ob
  have nd : H d = none := I.hok.fresh M.dbig
  have ne : H e = none := I.hok.fresh M.new
  have noOld : ∀ {b : Addr} {o : Obj}, hp.get? b = some o → b ≠ e := fun {b o} q z => by
    subst z
    exact Nat.lt_irrefl _ (Nat.lt_of_lt_of_le (Heap.lt_size q) M.new)
  have n0 : X.s_0.heap.get? e = none := by
    cases q : X.s_0.heap.get? e with
    | none => rfl
    | some o =>
      obtain ⟨o', q'⟩ := I.base.there e o q (by rw [hex]; exact fun z => nomatch z)
      exact absurd rfl (noOld q')
  have J2 := Inv.knowE (oe := _) (vs := _) (cls := .ref C) (d := some d) J he ⟨rfl, rfl⟩ rfl (by rw [upd_ne M.dne.symm]; exact ne) (fun z => by
    have := I.lt
    rw [← z] at this
    exact Nat.lt_irrefl _ (Nat.lt_of_lt_of_le this M.new)) n0 fun p hp => noOld (I.pin p hp).1
  exact ⟨.ref e, _, J2, rfl, h d e nd ne M.dne⟩
/-- X(e), X(f = e) -/
def tErrV (C : Addr) (fld : Str) (ta : TA) : TE := fun σ H Q => ta σ H fun vs H1 => ∃ v, vs = [v] ∧ ∀ d e, H1 d = none → H1 e = none → d ≠ e → Q (.ref e) (upd (upd H1 d (.xd [(fld, v)])) e (ExH (.ref C) (some d) e))
theorem pe_errV {a : Expr} {ta : TA} {p pos : Pos} (T : ErrB X.prog X.K X.mg x C fI fld) (hr : Room k X.A) (hex : X.ex = []) (ha : PA X [a] ta) (hg : Gl X x := by rfl) (hdb : (x == ("__debug__" : Str)) = false := by decide)
    (he : starEach (a :: []) X.env = (false, eval a X.env) :: starEach [] X.env := by rfl) (hpl : (backTo pos (starEach [] X.env)).any (·.1) = false := by rfl) :
    PE X (.Call (.Name x p) [a] [] pos) (tErrV C fld ta) := by
  refine ⟨fun pins s σ H Q I h => ?_⟩
  refine wpAny_Call_Name_kw (ld_glob I hg T.g ?_ hdb)
  refine PySem.W.callWith_K (h₀ := X.base) I.ok.mod.kin T.k (thn (ha.run pos pins s σ H _ I h) fun us s1 hh => ?_) he hpl
  obtain ⟨vs, H1, I1, r1, v, ev, q1⟩ := hh
  subst ev
  refine ⟨I1.kIn, ?_⟩
  cases r1 with
  | cons rv rn =>
    cases rn
    exact run_err T hr hex I1 rv (.inl ⟨rfl, rfl⟩) q1
theorem pe_errK {kws : List Keyword} {tk : TA} {p pos : Pos} (T : ErrB X.prog X.K X.mg x C fI fld) (hr : Room k X.A) (hex : X.ex = []) (hkw : PK X kws tk) (hg : Gl X x := by rfl) (hdb : (x == ("__debug__" : Str)) = false := by decide)
    (hall : (backToKw pos (keywordEach kws X.env)).all (·.1.isSome) = true := by rfl) (hks : (backToKw pos (keywordEach kws X.env)).filterMap (·.1) = [fld] := by rfl)
    (hpl : ((backTo pos (starEach [] X.env)).any (·.1) || (backToKw pos (keywordEach kws X.env)).any (·.1.isNone)) = false := by rfl) :
    PE X (.Call (.Name x p) [] kws pos) (tErrV C fld tk) := by
  refine ⟨fun pins s σ H Q I h => ?_⟩
  refine wpAny_Call_Name_kw (ld_glob I hg T.g ?_ hdb)
  refine PySem.W.callWith_KW0 (h₀ := X.base) I.ok.mod.kin T.k hall ?_ hpl
  refine thn (hkw.run pos pins s σ H _ I h) fun ws s2 hh => ?_
  obtain ⟨vs, H1, I1, r1, v, ev, q1⟩ := hh
  subst ev
  refine ⟨I1.kIn, ?_⟩
  rw [hks]
  cases r1 with
  | cons rv rn =>
    cases rn
    exact run_err T hr hex I1 rv (.inr ⟨rfl, rfl⟩) q1
end
/-! readings -/
/-- an error of the class C, its field d -/
def ErV (K : PySem.W.Frag) (C : Addr) (fld : Str) (d : PyData) : V → Hp → Prop := fun v H => ∃ e dd u, v = .ref e ∧ H e = some (ExH (.ref C) (some dd) e) ∧ H dd = some (.xd [(fld, u)]) ∧ Dq K H u d
/-- all of them, one after the other -/
def AllP (Ps : List (V → Hp → Prop)) (xs : List V) (H : Hp) : Prop := xs.length = Ps.length ∧ ∀ (i : Nat) (P : V → Hp → Prop) (x : V), Ps[i]? = some P → xs[i]? = some x → P x H
/-- a list of such values -/
def LoV (Ps : List (V → Hp → Prop)) : V → Hp → Prop := fun v H => ∃ a xs, v = .ref a ∧ H a = some (.lst xs) ∧ AllP Ps xs H
section
variable {K : PySem.W.Frag} {p : Me} {σ : L2.St} {H H' A : Hp} {te ta tb : TE} {t : TA} {C : Addr} {fld : Str} {d : PyData} {Ps Rs : List (V → Hp → Prop)} {P : V → Hp → Prop} {xs ys : List V}
theorem mono_er : Mono (ErV K C fld d) := fun v H H' e ⟨a, dd, u, h1, h2, h3, h4⟩ => ⟨a, dd, u, h1, e _ _ h2, e _ _ h3, dq_ex e _ _ h4⟩
theorem allP_nil : AllP [] [] H := ⟨rfl, fun i P x h => by simp at h⟩
theorem allP_cons {x : V} (h : P x H) (hs : AllP Ps xs H) : AllP (P :: Ps) (x :: xs) H := by
  refine ⟨by rw [List.length_cons, List.length_cons, hs.1], fun i R y h1 h2 => ?_⟩
  cases i with
  | zero => cases h1; cases h2; exact h
  | succ i => exact hs.2 i R y h1 h2
theorem allP_app (h1 : AllP Ps xs H) (h2 : AllP Rs ys H) : AllP (Ps ++ Rs) (xs ++ ys) H := by
  refine ⟨by rw [List.length_append, List.length_append, h1.1, h2.1], fun i R y k1 k2 => ?_⟩
  by_cases c : i < Ps.length
  · rw [List.getElem?_append_left c] at k1
    rw [List.getElem?_append_left (by rw [h1.1]; exact c)] at k2
    exact h1.2 i R y k1 k2
  · rw [List.getElem?_append_right (by omega)] at k1
    rw [List.getElem?_append_right (by rw [h1.1]; omega), h1.1] at k2
    exact h2.2 _ R y k1 k2
theorem allP_ex (m : ∀ P ∈ Ps, Mono P) (e : Ex H H') (h : AllP Ps xs H) : AllP Ps xs H' := ⟨h.1, fun i P x h1 h2 => m P (List.mem_of_getElem? h1) x _ _ e (h.2 i P x h1 h2)⟩
theorem mono_lov (m : ∀ P ∈ Ps, Mono P) : Mono (LoV Ps) := fun v H H' e ⟨a, xs, h1, h2, h3⟩ => ⟨a, xs, h1, e _ _ h2, allP_ex m e h3⟩
theorem a_nilP : EvA p tNil σ H (AllP []) := fun A R Q q => q [] A H R.refl allP_nil
theorem a_consP (mp : Mono P) (h : EvG p te σ H P) (hs : ∀ H1, Ex H H1 → EvA p t σ H1 (AllP Ps)) : EvA p (tCons te t) σ H (AllP (P :: Ps)) := fun A R Q q => h A R _ fun x A1 H1 g1 k1 =>
  hs H1 g1.reg A1 (g1.to R) _ fun xs A2 H2 g2 k2 => q (x :: xs) A2 H2 (g1.trans g2) (allP_cons (mp x _ _ g2.reg k1) k2)
theorem g_lstP (m : ∀ P ∈ Ps, Mono P) (h : EvA p t σ H (AllP Ps)) (hl : Ps.length ≤ 100000) : EvG p (tLst t) σ H (LoV Ps) := fun A R Q q => h A R _ fun xs A1 H1 g1 k1 => ⟨by rw [k1.1]; exact sz_of hl, fun l hn => by
  have g2 := Gr.alloc (g1.to R) (o := .lst xs) hn
  exact q (.ref l) _ _ (g1.trans g2) ⟨l, xs, rfl, upd_same, allP_ex m g2.reg k1⟩⟩
theorem g_catP (m1 : ∀ P ∈ Ps, Mono P) (m2 : ∀ P ∈ Rs, Mono P) (ha : EvG p ta σ H (LoV Ps)) (hb : ∀ H1, Ex H H1 → EvG p tb σ H1 (LoV Rs)) (hl : Ps.length + Rs.length ≤ 100000) : EvG p (tOp rCat ta tb) σ H (LoV (Ps ++ Rs)) :=
  g_opV (mono_lov m1) ha hb fun x y H2 A e ⟨a, xs, e1, h1, k1⟩ ⟨b, ys, e2, h2, k2⟩ R Q q => by
    subst e1 e2
    refine ⟨a, b, xs, ys, rfl, rfl, R.ex _ _ h1, R.ex _ _ h2, sz_of (by rw [k1.1, k2.1]; exact hl), fun l hn => ?_⟩
    have g := Gr.alloc R (o := .lst (xs ++ ys)) hn
    exact q _ _ _ g ⟨l, _, rfl, upd_same, allP_app (allP_ex m1 g.reg k1) (allP_ex m2 g.reg k2)⟩
/-- l[i] -/
theorem g_ixP {i : Nat} (m : Mono P) (ha : EvG p ta σ H (LoV Ps)) (hi : Ps[i]? = some P) : EvG p (tOp (rIx K) ta (tC (.int (i : Nat)))) σ H P := fun A R Q q => ha A R _ fun x A1 H1 g1 ⟨a, xs, e1, h1, k1⟩ => by
  subst e1
  have R1 := g1.to R
  have lt : i < Ps.length := by
    by_cases c : i < Ps.length
    · exact c
    · rw [List.getElem?_eq_none (by omega)] at hi
      cases hi
  have hx : i < xs.length := by rw [k1.1]; exact lt
  have e2 : xs[i]? = some xs[i] := List.getElem?_eq_getElem hx
  refine .inl ⟨a, xs, i, xs[i], rfl, rfl, sq_of (R1.ex _ _ h1), ?_, q _ A1 H1 g1 (k1.2 i P _ hi e2)⟩
  unfold atI
  rw [ixN_nat hx]
  exact e2
/-- X(e) -/
theorem g_errV (h : EvD K p te σ H d) : EvG p (tErrV C fld (tCons te tNil)) σ H (ErV K C fld d) := fun A R Q q => h A R _ fun v A1 H1 g1 k1 => ⟨v, rfl, fun dd e nd ne dn => by
  have R1 := g1.to R
  have g2 := Gr.alloc R1 (o := .xd [(fld, v)]) nd
  have R2 := g2.to R1
  have ne2 : upd A1 dd (.xd [(fld, v)]) e = none := by rw [upd_ne dn.symm]; exact ne
  have g3 := Gr.alloc R2 (o := ExH (.ref C) (some dd) e) ne2
  refine q _ _ _ ((g1.trans g2).trans g3) ⟨e, dd, v, rfl, upd_same, ?_, dq_ex (g2.reg.trans g3.reg) _ _ k1⟩
  exact g3.reg _ _ upd_same⟩
/-- isinstance(e, c) -/
theorem d_isiE {c : V} {u : Value} {b : Bool} (h : EvG p ta σ H (ErV K C fld d)) (kc : ClsV c u) (x : ExcC K C) (kit : PySem.W.kitOne K (.ref C) u = some b) : EvD K p (tCB (rIsiH K) (tCons ta (tCons (tC c) tNil))) σ H (.bool b) := fun A R Q q => h A R _ fun v A1 H1 g1 ⟨e, dd, w, e1, h1, h2, _⟩ => by
  subst e1
  have R1 := g1.to R
  exact ⟨e, C, dd, _, c, u, b, rfl, kc, R1.ex _ _ h1, R1.ex _ _ h2, x, kit, q _ A1 H1 g1 (.bl b)⟩
/-- e.f -/
theorem d_hfE (h : EvG p ta σ H (ErV K C fld d)) (x : XfC K C) (no : PySem.W.findIn K (.ref C) fld = some none) : EvD K p (tHf K fld ta) σ H d := fun A R Q q => h A R _ fun v A1 H1 g1 ⟨e, dd, w, e1, h1, h2, h3⟩ => by
  subst e1
  have R1 := g1.to R
  exact ⟨e, C, dd, _, w, rfl, R1.ex _ _ h1, R1.ex _ _ h2, x, no, by rw [List.lookup_cons, beq_self_eq_true], q _ A1 H1 g1 h3⟩
end
end Z
namespace Q13
open PySem PySem.Spec PyProof.Rows L2 Z
def top (i : Nat) : Stmt := PySem.Challenge.pw_freshplaces_k13_classes_of_errors.main.body.getD i (.Pass ⟨0, 0, 0, 0⟩)
theorem getD_at {r : List Int} {k : Nat} (h : k < r.length) : r[k]? = some (r.getD k 0) := by
  simp [List.getD, h]
end Q13
namespace Q13
open PySem PySem.Spec PyProof.Rows L2 Z
section
variable {P : Program} {w : World} {K : PySem.W.Frag} {mg : Str → Option Value} {base : Heap}
abbrev s__law_take : Stmt := top 25
theorem sc__law_take : FnScope N_take ["_law_pool_here", "_law_wide"] (defScope s__law_take) := ⟨rfl, rfl, rfl, by decide +kernel, rfl, by decide +kernel, by decide +kernel⟩
theorem dn__law_take (Hx : St K mg "_law_take" s__law_take ["_law_pool_here", "_law_wide"]) (B : Bs mg) : Dn P w K mg base CX0 1 "_law_take" ["_law_pool_here", "_law_wide"] (takeS K) := by
  refine dn_of 0 Hx sc__law_take (fun vs H Q E h => by obtain ⟨_, _, _, _, rfl, _⟩ := h; rfl) fun f cdv A outer s H vs Q E hr h => ⟨_, (pss_cons (ps_if (pt_cmpR op_gt (pe_ix (ix_K (K := K) rfl) (pv 0) pe_int (fun _ _ => rfl)) pe_int (nomark _)) (pss_cons (ps_set (i := 2) sc__law_take.nd rfl (Or.inl rfl) (pe_op op_mod (pe_callTy call_int1 (by rfl) B.int (by decide +kernel) (pa_cons (pe_ix (ix_K (K := K) rfl) (pv 0) pe_int (fun _ _ => rfl)) pa_nil)) (pv 1)))
    (pss_cons (ps_asg (pe_op op_fdiv (pe_ix (ix_K (K := K) rfl) (pv 0) pe_int (fun _ _ => rfl)) (pv 1)) (pg_sub (pv 0) pe_int set_list))
    (pss_one (ps_ret (pv 2))))) pss_nil)
    (pss_cons (ps_asg (pe_op op_mod (pe_callTy call_int1 (by rfl) B.int (by decide +kernel) (pa_cons (pe_op op_add (pe_op op_mul (pe_ix (ix_K (K := K) rfl) (pv 0) pe_int (fun _ _ => rfl)) pe_int) pe_int) pa_nil)) pe_int) (pg_sub (pv 0) pe_int set_list))
    (pss_one (ps_ret (pe_op op_mod (pe_op op_fdiv (pe_op op_mod (pe_callTy call_int1 (by rfl) B.int (by decide +kernel) (pa_cons (pe_op op_mul (pe_ix (ix_K (K := K) rfl) (pv 0) pe_int (fun _ _ => rfl)) (pe_ix (ix_K (K := K) rfl) (pv 0) pe_int (fun _ _ => rfl))) pa_nil)) pe_int) pe_int) (pv 1)))))), ?_⟩
  obtain ⟨H0, q, own, m, rfl, R, h1, h2, k⟩ := h
  exact take_run R h1 h2 k
abbrev s__law_pool : Stmt := top 24
abbrev N__law_pool : List Str := ["_law_script", "_law_k", "_law_cell", "_law_heavy", "_law_blend", "_law_seed"]
theorem sc__law_pool : FnScope N__law_pool ["_law_script", "_law_k"] (defScope s__law_pool) := ⟨rfl, rfl, rfl, by decide +kernel, rfl, by decide +kernel, by decide +kernel⟩
theorem dn__law_pool (Hx : St K mg "_law_pool" s__law_pool ["_law_script", "_law_k"]) (B : Bs mg) : Dn P w K mg base CX0 1 "_law_pool" ["_law_script", "_law_k"] (poolS K) := by
  refine dn_of 0 Hx sc__law_pool (fun vs H Q E h => by obtain ⟨_, _, _, _, _, rfl, _⟩ := h; rfl) fun f cdv A outer s H vs Q E hr h => ⟨_, (pss_cons (ps_set (i := 2) sc__law_pool.nd rfl (Or.inl rfl) pe_int)
    (pss_cons (ps_if (pt_cmpR op_lt (pv 1) (pe_callB call_len_seq (by rfl) B.len (by decide +kernel) (pa_cons (pv 0) pa_nil)) (nomark _)) (pss_one (ps_set (i := 2) sc__law_pool.nd rfl (Or.inl rfl) (pe_ix (ix_K (K := K) rfl) (pv 0) (pv 1) (fun _ _ => rfl)))) pss_nil)
    (pss_cons (ps_set (i := 3) sc__law_pool.nd rfl (Or.inl rfl) (pe_callB call_abs (by rfl) B.abs (by decide +kernel) (pa_cons (pv 2) pa_nil)))
    (pss_cons (ps_set (i := 4) sc__law_pool.nd rfl (Or.inl rfl) (pe_op op_mod (pe_op op_mul (pe_callTy call_int1 (by rfl) B.int (by decide +kernel) (pa_cons (pe_op op_add (pe_op op_mod (pe_callTy call_int1 (by rfl) B.int (by decide +kernel) (pa_cons (pv 2) pa_nil)) pe_int) (pe_op op_mul pe_int (pe_op op_add (pv 1) pe_int))) pa_nil)) (pe_op op_add (pv 1) pe_int)) pe_int))
    (pss_cons (ps_set (i := 5) sc__law_pool.nd rfl (Or.inl rfl) (pe_op op_mod (pe_op op_mul (pe_op op_mod (pe_callTy call_int1 (by rfl) B.int (by decide +kernel) (pa_cons (pe_op op_mul (pv 4) (pv 4)) pa_nil)) pe_int) pe_int) pe_int))
    (pss_one (ps_ret (pe_lst (pa_cons (pe_op op_mul (pv 3) (pe_callTy call_int1 (by rfl) B.int (by decide +kernel) (pa_cons (pe_cmpR op_ge (pv 3) (pe_op op_pow pe_int pe_int) (nomark _)) pa_nil))) (pa_cons (pv 5) pa_nil)))))))))), ?_⟩
  obtain ⟨H0, sa, ns, k, R, rfl, k1, hk8, q⟩ := h
  refine q_asg (P := fun v H' => Dq K H' v (.int 0)) (d_int (K := K)) R fun u A1 H1 g1 ku => ?_
  cases ku
  have R1 := g1.to R
  have hl : ∀ {c : Int}, (0 : Int) ≤ (if c < 0 then -c else c) * (if decide ((10 : Int) ^ (18 : Int).toNat ≤ (if c < 0 then -c else c)) then 1 else 0) := fun {c} => by
    refine Int.mul_nonneg (by split <;> omega) ite01
  refine q_when (b_test (d_op (K := K) (d_var rfl (.int _)) (d_lenS rfl (sql_ex g1.reg k1)) o_lt)) R1
    (fun hb A2 H2 g2 => Z.s_asg (d_ixS (K := K) rfl (sql_ex (g1.reg.trans g2.reg) k1) (d_var rfl (.int _)) (n := ns.getD k 0) (atI_nat (by rw [List.getElem?_map, getD_at (by simpa using hb)]; rfl))) (g2.to R1) fun v3 A4 H4 g3 k3 => ?a) (fun hb A4 H4 g2 => ?b)
  case' a => cases k3; have gg := (g1.trans g2).trans g3
  case' b => have gg := g1.trans g2
  all_goals
    have R4 := gg.to R
    refine q_asg (d_cb (K := K) (s_cons (d_var rfl (.int _)) s_nil) c_abs) R4 fun v5 A5 H5 g5 k5 => ?_
    cases k5
    have R5 := g5.to R4
    refine q_asg (d_mods (d_op (K := K) (d_op (d_cb (s_cons (d_op (d_op (d_cb (s_cons (d_var rfl (.int _)) s_nil) c_int1) d_int (o_mod (by decide))) (d_op d_int (d_op (d_var rfl (.int _)) d_int o_add) (o_mul (.inl (by decide)))) o_add) s_nil) c_int1) (d_op (d_var rfl (.int _)) d_int o_add) (o_mul (.inr ⟨by omega, by omega⟩))) d_int (o_mod (by decide))) (by decide)) R5 fun v6 A6 H6 g6 k6 => ?_
    obtain ⟨b, rfl, b0, b1⟩ := k6
    have R6 := g6.to R5
    refine q_asg (d_mods (d_op (K := K) (d_op (d_op (d_cb (s_cons (d_op (d_var rfl (.int b)) (d_var rfl (.int b)) (o_mul (.inl ⟨by omega, by omega⟩))) s_nil) c_int1) d_int (o_mod (by decide))) d_int (o_mul (.inr (by decide)))) d_int (o_mod (by decide))) (by decide)) R6 fun v7 A7 H7 g7 k7 => ?_
    obtain ⟨sd, rfl, s0, s1⟩ := k7
    have R7 := g7.to R6
    refine s_retNew (K := K) (s_cons (d_op (d_var rfl (.int _)) (d_cb (s_cons (d_op (d_var rfl (.int _)) (d_op d_int d_int (o_I (C := CPow) (f := fun i j => i ^ j.toNat) ⟨by decide, by decide, by decide⟩)) o_ge) s_nil) c_intB) (o_mul ite01m)) (s_cons (d_var rfl (.int sd)) s_nil)) (by show 2 ≤ 100000; decide) R7 fun l vs A8 H8 g8 k8 n1 n2 n3 => ?_
    obtain ⟨x, y, rfl, kx, ky⟩ := dqall_two k8
    cases kx
    cases ky
    have g08 := (((gg.trans g5).trans g6).trans g7).trans g8
    refine q l _ _ _ H8 (g08.trans (Gr.allocM (g08.to R) n1)) ?_ n2 upd_same hl s0 s1
    cases e : H l with
    | none => rfl
    | some o => obtain ⟨o', e'⟩ := g08.dom l o e; rw [n1] at e'; cases e'
end
end Q13
/-! the law's helpers: errors made, their fields, their kinds -/
namespace Q13
open PySem PySem.Spec PyProof.Rows L2 Z Evl
/-- the classes and their fields, as the law lists them -/
def CT : List (Str × Str) := [("InvalidText", "value"), ("InvalidSyntax", "position"), ("InvalidTree", "value"), ("DuplicateName", "name"), ("UnknownName", "name"), ("InvalidCall", "place"), ("InvalidCarry", "place"), ("InvalidFormula", "value"), ("TooLarge", "word"), ("TooMany", "word"), ("InvalidRow", "value"), ("InvalidEntry", "value"), ("InvalidChoices", "value"), ("InvalidAction", "value"), ("InvalidWeights", "value"), ("InvalidEvent", "value"), ("InvalidQuestion", "position"), ("InvalidCommand", "word"), ("InvalidFaults", "value"), ("UnknownProcedure", "name"), ("LimitExceeded", "word")]
theorem mem_ct (i : Nat) {q : Str × Str} (h : CT[i]? = some q) : q ∈ CT := List.mem_of_getElem? h
structure Cs (P : Program) (K : PySem.W.Frag) (mg : Str → Option Value) (ca fa : Str → Addr) : Prop where
  err : ∀ q ∈ CT, ErrB P K mg q.1 (ca q.1) (fa q.1) q.2
  exc : ∀ q ∈ CT, ExcC K (ca q.1) ∧ XfC K (ca q.1) ∧ PySem.W.findIn K (.ref (ca q.1)) q.2 = some none
  kit : ∀ (i j : Nat) (p q : Str × Str), CT[i]? = some p → CT[j]? = some q → PySem.W.kitOne K (.ref (ca p.1)) (.ref (ca q.1)) = some (decide (i = j))
  bas : ∀ (i : Nat) (p : Str × Str), CT[i]? = some p → PySem.W.kitOne K (.ref (ca p.1)) (.ref (ca "FreshError")) = some (decide (i < 19)) ∧ PySem.W.kitOne K (.ref (ca p.1)) (.type "ValueError") = some (decide (i < 19)) ∧ PySem.W.kitOne K (.ref (ca p.1)) (.type "KeyError") = some (decide (i = 19)) ∧ PySem.W.kitOne K (.ref (ca p.1)) (.type "RuntimeError") = some (decide (i = 20))
  fresh : mg "FreshError" = some (.ref (ca "FreshError"))
  ValueError : mg "ValueError" = none
  KeyError : mg "KeyError" = none
  RuntimeError : mg "RuntimeError" = none
section
variable {K : PySem.W.Frag} {p : Me} {σ : L2.St} {H A : Hp} {ca fa : Str → Addr} {mg : Str → Option Value} {P : Program} {d : PyData} {x : V}
abbrev evs (K : PySem.W.Frag) (ca : Str → Addr) (d : PyData) (cs : List (Str × Str)) : List (V → Hp → Prop) := cs.map fun q => ErV K (ca q.1) q.2 d
theorem mono_evs (cs : List (Str × Str)) : ∀ P ∈ evs K ca d cs, Mono P := fun P h => by
  obtain ⟨q, _, rfl⟩ := List.mem_map.mp h
  exact mono_er
theorem mono_two {Ps Rs : List (V → Hp → Prop)} (h1 : ∀ P ∈ Ps, Mono P) (h2 : ∀ P ∈ Rs, Mono P) : ∀ P ∈ Ps ++ Rs, Mono P := fun P h => (List.mem_append.mp h).elim (h1 P) (h2 P)
theorem q_appOwnG {p : Me} {σ : L2.St} {H A : Hp} {te : TE} {tz : TS} {D : Ends} {i : Nat} {q : Addr} {xs : List V} {P : V → Hp → Prop} (hs : σ[i]? = some (some (.ref q))) (ho : p.own q = some (.lst xs)) (h : EvG p te σ H P) (hz : xs.length < 100000) (R : Reg p H A)
    (k : ∀ v A' H', Gr p A H A' H' → P v H' → Reg ⟨p.pool, upd p.own q (.lst (xs ++ [v]))⟩ H' (upd A' q (.lst (xs ++ [v]))) → tz D σ (upd A' q (.lst (xs ++ [v])))) : tSeq (tDrop (tBM K "list" rAppend (tVar i) (tCons te tNil))) tz D σ A := s_appOwnG (D := { D with nx := tz D }) hs ho h hz R k
/-- errors over one value -/
def errsT (ca : Str → Addr) (i : Nat) : List (Str × Str) → TA
  | [] => tNil
  | q :: r => tCons (tErrV (ca q.1) q.2 (tCons (tVar i) tNil)) (errsT ca i r)
theorem errs_ev {i : Nat} (hs : σ[i]? = some (some x)) : ∀ (cs : List (Str × Str)) (H : Hp), Dq K H x d → EvA p (errsT ca i cs) σ H (AllP (evs K ca d cs))
  | [], H, k => a_nilP
  | q :: r, H, k => a_consP mono_er (g_errV (d_var hs k)) fun H1 e => errs_ev hs r H1 (dq_ex e _ _ k)
theorem errs_lst {i : Nat} (cs : List (Str × Str)) (hs : σ[i]? = some (some x)) (k : Dq K H x d) (hl : cs.length ≤ 100000) : EvG p (tLst (errsT ca i cs)) σ H (LoV (evs K ca d cs)) := g_lstP (mono_evs cs) (errs_ev hs cs H k) (by rw [List.length_map]; exact hl)
/-- fields of errors of a list -/
def fldsT (K : PySem.W.Frag) (i : Nat) : List (Nat × Str) → TA
  | [] => tNil
  | q :: r => tCons (tHf K q.2 (tOp (rIx K) (tVar i) (tC (.int (q.1 : Nat))))) (fldsT K i r)
theorem flds_ev {i : Nat} (S : Cs P K mg ca fa) (hs : σ[i]? = some (some x)) : ∀ (is : List (Nat × Str)) (H : Hp), (∀ q ∈ is, (CT[q.1]?).map (·.2) = some q.2) → LoV (evs K ca d CT) x H → EvS K p (fldsT K i is) σ H (is.map fun _ => d)
  | [], H, ok, k => s_nil
  | q :: r, H, ok, k => by
    have h1 := ok q (List.mem_cons_self ..)
    cases h2 : CT[q.1]? with
    | none => rw [h2] at h1; cases h1
    | some c =>
      rw [h2] at h1
      have e : c.2 = q.2 := Option.some.inj h1
      have h3 : (evs K ca d CT)[q.1]? = some (ErV K (ca c.1) q.2 d) := by rw [List.getElem?_map, h2, ← e]; rfl
      have xs := S.exc c (mem_ct q.1 h2)
      exact s_cons (d_hfE (C := ca c.1) (g_ixP mono_er (g_in hs (mono_lov (mono_evs CT)) k) h3) xs.2.1 (e ▸ xs.2.2)) (flds_ev S hs r H (fun z hz => ok z (List.mem_cons_of_mem _ hz)) k)
/-- is it of these classes -/
def knsT (K : PySem.W.Frag) (ca : Str → Addr) (i : Nat) : List Str → TA
  | [] => tNil
  | c :: r => tCons (tCB (rIsiH K) (tCons (tVar i) (tCons (tC (.ref (ca c))) tNil))) (knsT K ca i r)
theorem kns_ev {i m : Nat} {c : Str × Str} (S : Cs P K mg ca fa) (hs : σ[i]? = some (some x)) (hm : CT[m]? = some c) : ∀ (js : List (Nat × Str)) (H : Hp), (∀ q ∈ js, (CT[q.1]?).map (·.1) = some q.2) → ErV K (ca c.1) c.2 d x H → EvS K p (knsT K ca i (js.map (·.2))) σ H (js.map fun q => .bool (decide (m = q.1)))
  | [], H, ok, k => s_nil
  | q :: r, H, ok, k => by
    have h1 := ok q (List.mem_cons_self ..)
    cases h2 : CT[q.1]? with
    | none => rw [h2] at h1; cases h1
    | some b =>
      rw [h2] at h1
      have e : b.1 = q.2 := Option.some.inj h1
      have kk := S.kit m q.1 c b hm h2
      rw [e] at kk
      exact s_cons (d_isiE (g_in hs mono_er k) (.own _) (S.exc c (mem_ct m hm)).1 kk) (kns_ev S hs hm r H (fun z hz => ok z (List.mem_cons_of_mem _ hz)) k)
end
section
variable {P : Program} {w : World} {K : PySem.W.Frag} {mg : Str → Option Value} {base : Heap} {ca fa : Str → Addr}
abbrev s__law_made : Stmt := top 26
abbrev N__law_made : List Str := ["_law_one", "_law_found"]
theorem sc__law_made : FnScope N__law_made ["_law_one"] (defScope s__law_made) := ⟨rfl, rfl, rfl, by decide +kernel, rfl, by decide +kernel, by decide +kernel⟩
abbrev s__law_named : Stmt := top 27
abbrev N__law_named : List Str := ["_law_one", "_law_found"]
theorem sc__law_named : FnScope N__law_named ["_law_one"] (defScope s__law_named) := ⟨rfl, rfl, rfl, by decide +kernel, rfl, by decide +kernel, by decide +kernel⟩
abbrev s__law_fields : Stmt := top 28
abbrev N__law_fields : List Str := ["_law_some", "_law_found"]
theorem sc__law_fields : FnScope N__law_fields ["_law_some"] (defScope s__law_fields) := ⟨rfl, rfl, rfl, by decide +kernel, rfl, by decide +kernel, by decide +kernel⟩
abbrev s__law_kinds : Stmt := top 29
abbrev N__law_kinds : List Str := ["_law_e", "_law_found"]
theorem sc__law_kinds : FnScope N__law_kinds ["_law_e"] (defScope s__law_kinds) := ⟨rfl, rfl, rfl, by decide +kernel, rfl, by decide +kernel, by decide +kernel⟩
abbrev s__law_bases : Stmt := top 30
abbrev N__law_bases : List Str := ["_law_e", "_law_found"]
theorem sc__law_bases : FnScope N__law_bases ["_law_e"] (defScope s__law_bases) := ⟨rfl, rfl, rfl, by decide +kernel, rfl, by decide +kernel, by decide +kernel⟩

def F_made (K : PySem.W.Frag) (ca : Str → Addr) : List V → Hp → (V → Hp → Prop) → Prop := fun vs H P => ∃ (d : PyData) (x : V), vs = [x] ∧ Dq K H x d ∧ P = LoV (evs K ca d CT)
def F_fields (K : PySem.W.Frag) (ca : Str → Addr) : List V → Hp → (V → Hp → Prop) → Prop := fun vs H P => ∃ (d : PyData) (x : V), vs = [x] ∧ LoV (evs K ca d CT) x H ∧ P = fun v H' => Dq K H' v (.list (List.replicate 21 d))
def F_kinds (K : PySem.W.Frag) (ca : Str → Addr) : List V → Hp → (V → Hp → Prop) → Prop := fun vs H P => ∃ (d : PyData) (x : V) (m : Nat) (c : Str × Str), vs = [x] ∧ CT[m]? = some c ∧ ErV K (ca c.1) c.2 d x H ∧ P = fun v H' => Dq K H' v (.list ((List.range 21).map fun j => .bool (decide (m = j))))
def F_bases (K : PySem.W.Frag) (ca : Str → Addr) : List V → Hp → (V → Hp → Prop) → Prop := fun vs H P => ∃ (d : PyData) (x : V) (m : Nat) (c : Str × Str), vs = [x] ∧ CT[m]? = some c ∧ ErV K (ca c.1) c.2 d x H ∧ P = fun v H' => Dq K H' v (.list [.bool (decide (m < 19)), .bool (decide (m < 19)), .bool (decide (m = 19)), .bool (decide (m = 20))])
theorem dn_made (Hx : St K mg "_law_made" s__law_made ["_law_one"]) (S : Cs P K mg ca fa) : Dn P w K mg base CX0 1 "_law_made" ["_law_one"] (SpG (F_made K ca)) := by
  refine dn_of 0 Hx sc__law_made (fun vs H Q E ⟨_, _, _, ⟨_, _, h, _⟩, _⟩ => by rw [h]; rfl) fun f cdv A outer s H vs Q E hr h => ⟨_, (pss_cons (ps_set (i := 1) sc__law_made.nd rfl (Or.inl rfl) (pe_lst (pa_cons (pe_errV (S.err ("InvalidText", "value") (mem_ct 0 rfl)) hr rfl (pa_cons (pv 0) pa_nil)) (pa_cons (pe_errV (S.err ("InvalidSyntax", "position") (mem_ct 1 rfl)) hr rfl (pa_cons (pv 0) pa_nil)) (pa_cons (pe_errV (S.err ("InvalidTree", "value") (mem_ct 2 rfl)) hr rfl (pa_cons (pv 0) pa_nil)) (pa_cons (pe_errV (S.err ("DuplicateName", "name") (mem_ct 3 rfl)) hr rfl (pa_cons (pv 0) pa_nil)) (pa_cons (pe_errV (S.err ("UnknownName", "name") (mem_ct 4 rfl)) hr rfl (pa_cons (pv 0) pa_nil)) pa_nil)))))))
    (pss_cons (ps_set (i := 1) sc__law_made.nd rfl (Or.inl rfl) (pe_op op_cat (pv 1) (pe_lst (pa_cons (pe_errV (S.err ("InvalidCall", "place") (mem_ct 5 rfl)) hr rfl (pa_cons (pv 0) pa_nil)) (pa_cons (pe_errV (S.err ("InvalidCarry", "place") (mem_ct 6 rfl)) hr rfl (pa_cons (pv 0) pa_nil)) (pa_cons (pe_errV (S.err ("InvalidFormula", "value") (mem_ct 7 rfl)) hr rfl (pa_cons (pv 0) pa_nil)) (pa_cons (pe_errV (S.err ("TooLarge", "word") (mem_ct 8 rfl)) hr rfl (pa_cons (pv 0) pa_nil)) (pa_cons (pe_errV (S.err ("TooMany", "word") (mem_ct 9 rfl)) hr rfl (pa_cons (pv 0) pa_nil)) pa_nil))))))))
    (pss_cons (ps_set (i := 1) sc__law_made.nd rfl (Or.inl rfl) (pe_op op_cat (pv 1) (pe_lst (pa_cons (pe_errV (S.err ("InvalidRow", "value") (mem_ct 10 rfl)) hr rfl (pa_cons (pv 0) pa_nil)) (pa_cons (pe_errV (S.err ("InvalidEntry", "value") (mem_ct 11 rfl)) hr rfl (pa_cons (pv 0) pa_nil)) (pa_cons (pe_errV (S.err ("InvalidChoices", "value") (mem_ct 12 rfl)) hr rfl (pa_cons (pv 0) pa_nil)) (pa_cons (pe_errV (S.err ("InvalidAction", "value") (mem_ct 13 rfl)) hr rfl (pa_cons (pv 0) pa_nil)) (pa_cons (pe_errV (S.err ("InvalidWeights", "value") (mem_ct 14 rfl)) hr rfl (pa_cons (pv 0) pa_nil)) pa_nil))))))))
    (pss_cons (ps_set (i := 1) sc__law_made.nd rfl (Or.inl rfl) (pe_op op_cat (pv 1) (pe_lst (pa_cons (pe_errV (S.err ("InvalidEvent", "value") (mem_ct 15 rfl)) hr rfl (pa_cons (pv 0) pa_nil)) (pa_cons (pe_errV (S.err ("InvalidQuestion", "position") (mem_ct 16 rfl)) hr rfl (pa_cons (pv 0) pa_nil)) (pa_cons (pe_errV (S.err ("InvalidCommand", "word") (mem_ct 17 rfl)) hr rfl (pa_cons (pv 0) pa_nil)) (pa_cons (pe_errV (S.err ("InvalidFaults", "value") (mem_ct 18 rfl)) hr rfl (pa_cons (pv 0) pa_nil)) pa_nil)))))))
    (pss_one (ps_ret (pe_op op_cat (pv 1) (pe_lst (pa_cons (pe_errV (S.err ("UnknownProcedure", "name") (mem_ct 19 rfl)) hr rfl (pa_cons (pv 0) pa_nil)) (pa_cons (pe_errV (S.err ("LimitExceeded", "word") (mem_ct 20 rfl)) hr rfl (pa_cons (pv 0) pa_nil)) pa_nil)))))))))), ?_⟩
  obtain ⟨H0, P0, R, ⟨d, x, rfl, kx, rfl⟩, q⟩ := h
  refine q_asg (errs_lst ((CT.drop 0).take 5) rfl kx (by decide +kernel)) R fun v1 A1 H1 g1 k1 => ?_
  refine q_asg (g_catP (mono_evs _) (mono_evs _) (g_in rfl (mono_lov (mono_evs _)) k1) (fun H' e => errs_lst ((CT.drop 5).take 5) rfl (dq_ex (g1.reg.trans e) _ _ kx) (by decide +kernel)) (by show 10 ≤ 100000; decide)) (g1.to R) fun v2 A2 H2 g2 k2 => ?_
  have m2 : ∀ P ∈ evs K ca d ((CT.drop 0).take 5) ++ evs K ca d ((CT.drop 5).take 5), Mono P := mono_two (mono_evs _) (mono_evs _)
  have g12 := g1.trans g2
  refine q_asg (g_catP m2 (mono_evs _) (g_in rfl (mono_lov m2) k2) (fun H' e => errs_lst ((CT.drop 10).take 5) rfl (dq_ex (g12.reg.trans e) _ _ kx) (by decide +kernel)) (by show 15 ≤ 100000; decide)) (g12.to R) fun v3 A3 H3 g3 k3 => ?_
  have m3 := mono_two m2 (mono_evs (K := K) (ca := ca) (d := d) ((CT.drop 10).take 5))
  have g13 := g12.trans g3
  refine q_asg (g_catP m3 (mono_evs _) (g_in rfl (mono_lov m3) k3) (fun H' e => errs_lst ((CT.drop 15).take 4) rfl (dq_ex (g13.reg.trans e) _ _ kx) (by decide +kernel)) (by show 19 ≤ 100000; decide)) (g13.to R) fun v4 A4 H4 g4 k4 => ?_
  have m4 := mono_two m3 (mono_evs (K := K) (ca := ca) (d := d) ((CT.drop 15).take 4))
  have g14 := g13.trans g4
  exact Z.s_ret (g_catP m4 (mono_evs _) (g_in rfl (mono_lov m4) k4) (fun H' e => errs_lst ((CT.drop 19).take 2) rfl (dq_ex (g14.reg.trans e) _ _ kx) (by decide +kernel)) (by show 21 ≤ 100000; decide)) (g14.to R) fun v5 A5 H5 g5 k5 => q v5 A5 H5 (g14.trans g5) k5
theorem dn_named (Hx : St K mg "_law_named" s__law_named ["_law_one"]) (S : Cs P K mg ca fa) : Dn P w K mg base CX0 1 "_law_named" ["_law_one"] (SpG (F_made K ca)) := by
  refine dn_of 0 Hx sc__law_named (fun vs H Q E ⟨_, _, _, ⟨_, _, h, _⟩, _⟩ => by rw [h]; rfl) fun f cdv A outer s H vs Q E hr h => ⟨_, (pss_cons (ps_set (i := 1) sc__law_named.nd rfl (Or.inl rfl) (pe_lst (pa_cons (pe_errK (S.err ("InvalidText", "value") (mem_ct 0 rfl)) hr rfl (pk_cons (pv 0) pk_nil)) (pa_cons (pe_errK (S.err ("InvalidSyntax", "position") (mem_ct 1 rfl)) hr rfl (pk_cons (pv 0) pk_nil)) (pa_cons (pe_errK (S.err ("InvalidTree", "value") (mem_ct 2 rfl)) hr rfl (pk_cons (pv 0) pk_nil)) (pa_cons (pe_errK (S.err ("DuplicateName", "name") (mem_ct 3 rfl)) hr rfl (pk_cons (pv 0) pk_nil)) pa_nil))))))
    (pss_cons (ps_set (i := 1) sc__law_named.nd rfl (Or.inl rfl) (pe_op op_cat (pv 1) (pe_lst (pa_cons (pe_errK (S.err ("UnknownName", "name") (mem_ct 4 rfl)) hr rfl (pk_cons (pv 0) pk_nil)) (pa_cons (pe_errK (S.err ("InvalidCall", "place") (mem_ct 5 rfl)) hr rfl (pk_cons (pv 0) pk_nil)) (pa_cons (pe_errK (S.err ("InvalidCarry", "place") (mem_ct 6 rfl)) hr rfl (pk_cons (pv 0) pk_nil)) (pa_cons (pe_errK (S.err ("InvalidFormula", "value") (mem_ct 7 rfl)) hr rfl (pk_cons (pv 0) pk_nil)) pa_nil)))))))
    (pss_cons (ps_set (i := 1) sc__law_named.nd rfl (Or.inl rfl) (pe_op op_cat (pv 1) (pe_lst (pa_cons (pe_errK (S.err ("TooLarge", "word") (mem_ct 8 rfl)) hr rfl (pk_cons (pv 0) pk_nil)) (pa_cons (pe_errK (S.err ("TooMany", "word") (mem_ct 9 rfl)) hr rfl (pk_cons (pv 0) pk_nil)) (pa_cons (pe_errK (S.err ("InvalidRow", "value") (mem_ct 10 rfl)) hr rfl (pk_cons (pv 0) pk_nil)) (pa_cons (pe_errK (S.err ("InvalidEntry", "value") (mem_ct 11 rfl)) hr rfl (pk_cons (pv 0) pk_nil)) pa_nil)))))))
    (pss_cons (ps_set (i := 1) sc__law_named.nd rfl (Or.inl rfl) (pe_op op_cat (pv 1) (pe_lst (pa_cons (pe_errK (S.err ("InvalidChoices", "value") (mem_ct 12 rfl)) hr rfl (pk_cons (pv 0) pk_nil)) (pa_cons (pe_errK (S.err ("InvalidAction", "value") (mem_ct 13 rfl)) hr rfl (pk_cons (pv 0) pk_nil)) (pa_cons (pe_errK (S.err ("InvalidWeights", "value") (mem_ct 14 rfl)) hr rfl (pk_cons (pv 0) pk_nil)) pa_nil))))))
    (pss_cons (ps_set (i := 1) sc__law_named.nd rfl (Or.inl rfl) (pe_op op_cat (pv 1) (pe_lst (pa_cons (pe_errK (S.err ("InvalidEvent", "value") (mem_ct 15 rfl)) hr rfl (pk_cons (pv 0) pk_nil)) (pa_cons (pe_errK (S.err ("InvalidQuestion", "position") (mem_ct 16 rfl)) hr rfl (pk_cons (pv 0) pk_nil)) (pa_cons (pe_errK (S.err ("InvalidCommand", "word") (mem_ct 17 rfl)) hr rfl (pk_cons (pv 0) pk_nil)) pa_nil))))))
    (pss_cons (ps_expr (pe_bm PySem.F.plainAttrs_list PySem.F.slot_list_append PySem.F.type_list_append mt_append (pv 1) (pa_cons (pe_errK (S.err ("InvalidFaults", "value") (mem_ct 18 rfl)) hr rfl (pk_cons (pv 0) pk_nil)) pa_nil)))
    (pss_one (ps_ret (pe_op op_cat (pv 1) (pe_lst (pa_cons (pe_errK (S.err ("UnknownProcedure", "name") (mem_ct 19 rfl)) hr rfl (pk_cons (pv 0) pk_nil)) (pa_cons (pe_errK (S.err ("LimitExceeded", "word") (mem_ct 20 rfl)) hr rfl (pk_cons (pv 0) pk_nil)) pa_nil)))))))))))), ?_⟩
  obtain ⟨H0, P0, R, ⟨d, x, rfl, kx, rfl⟩, q⟩ := h
  refine q_asg (errs_lst ((CT.drop 0).take 4) rfl kx (by decide +kernel)) R fun v1 A1 H1 g1 k1 => ?_
  refine q_asg (g_catP (mono_evs _) (mono_evs _) (g_in rfl (mono_lov (mono_evs _)) k1) (fun H' e => errs_lst ((CT.drop 4).take 4) rfl (dq_ex (g1.reg.trans e) _ _ kx) (by decide +kernel)) (by show 8 ≤ 100000; decide)) (g1.to R) fun v2 A2 H2 g2 k2 => ?_
  have m2 : ∀ P ∈ evs K ca d ((CT.drop 0).take 4) ++ evs K ca d ((CT.drop 4).take 4), Mono P := mono_two (mono_evs _) (mono_evs _)
  have g12 := g1.trans g2
  refine q_asg (g_catP m2 (mono_evs _) (g_in rfl (mono_lov m2) k2) (fun H' e => errs_lst ((CT.drop 8).take 4) rfl (dq_ex (g12.reg.trans e) _ _ kx) (by decide +kernel)) (by show 12 ≤ 100000; decide)) (g12.to R) fun v3 A3 H3 g3 k3 => ?_
  have m3 := mono_two m2 (mono_evs (K := K) (ca := ca) (d := d) ((CT.drop 8).take 4))
  have g13 := g12.trans g3
  refine q_asg (g_catP m3 (mono_evs _) (g_in rfl (mono_lov m3) k3) (fun H' e => errs_lst ((CT.drop 12).take 3) rfl (dq_ex (g13.reg.trans e) _ _ kx) (by decide +kernel)) (by show 15 ≤ 100000; decide)) (g13.to R) fun v4 A4 H4 g4 k4 => ?_
  have m4 := mono_two m3 (mono_evs (K := K) (ca := ca) (d := d) ((CT.drop 12).take 3))
  have g14 := g13.trans g4
  have R4 := g14.to R
  -- the list becomes one's own, and grows
  obtain ⟨a4, xs4, rfl, h4, al4⟩ := k4
  refine q_asgQ ⟨.ref a4, rfl, (errs_lst ((CT.drop 15).take 3) rfl (dq_ex g14.reg _ _ kx) (by decide +kernel)) A4 R4 _ fun y A5 H5 g5 k5 => ?_⟩
  obtain ⟨a5, xs5, rfl, h5, al5⟩ := k5
  have g15 := g14.trans g5
  have R5 := g15.to R
  have all5 := allP_app (allP_ex m4 g5.reg al4) al5
  refine ⟨a4, a5, xs4, xs5, rfl, rfl, R5.ex _ _ (g5.reg _ _ h4), R5.ex _ _ h5, sz_of (by rw [al4.1, al5.1]; show 18 ≤ 100000; decide), fun l hl => ?_⟩
  have m5 := mono_two m4 (mono_evs (K := K) (ca := ca) (d := d) ((CT.drop 15).take 3))
  have hl0 : H l = none := by
    cases e : H l with
    | none => rfl
    | some o =>
      obtain ⟨o', e'⟩ := g15.dom l o e
      rw [hl] at e'
      cases e'
  have n5 : H5 l = none := fresh_back R5.ex hl
  have R6 : Reg ⟨none, upd (fun _ => none) l (.lst (xs4 ++ xs5))⟩ H5 (upd A5 l (.lst (xs4 ++ xs5))) := Reg.one R5 hl
  have g6 := g15.poke (o := .lst (xs4 ++ xs5)) hl0 n5
  refine q_appOwnG (K := K) (P := ErV K (ca "InvalidFaults") "value" d) rfl own_same (g_errV (d_var rfl (dq_ex g15.reg _ _ kx))) (by rw [List.length_append, al4.1, al5.1]; show 18 < 100000; decide) R6 fun v A7 H7 g7 k7 R8 => ?_
  have g8 := g6.trans (g7.as (p' := .non) rfl)
  have n7 := (g7.to R6).offO l _ own_same |>.1
  have g9 := g8.poke (o := .lst ((xs4 ++ xs5) ++ [v])) hl0 n7
  have all7 : AllP _ ((xs4 ++ xs5) ++ [v]) H7 := allP_app (allP_ex m5 g7.reg all5) (allP_cons (P := ErV K (ca "InvalidFaults") "value" d) k7 allP_nil)
  have m7 := mono_two m5 (mono_evs (K := K) (ca := ca) (d := d) [("InvalidFaults", "value")])
  refine ⟨.ref l, rfl, (errs_lst ((CT.drop 19).take 2) rfl (dq_ex g9.reg _ _ kx) (by decide +kernel)) _ R8 _ fun y A9 H9 g10 k9 => ?_⟩
  obtain ⟨a9, xs9, rfl, h9, al9⟩ := k9
  have R9 := g10.to R8
  refine ⟨l, a9, _, xs9, rfl, rfl, R9.own _ _ own_same, R9.ex _ _ h9, sz_of (by rw [all7.1, al9.1]; show 21 ≤ 100000; decide), fun l2 hl2 => ?_⟩
  have g11 := (g9.trans (g10.as (p' := .non) rfl))
  have R10 : Reg .non H9 A9 := R9.nil
  have gl := Gr.alloc R10 (o := .lst (((xs4 ++ xs5) ++ [v]) ++ xs9)) hl2
  exact q _ _ _ (g11.trans gl) ⟨l2, _, rfl, upd_same, allP_app (allP_ex m7 (g10.reg.trans gl.reg) all7) (allP_ex (mono_evs (K := K) (ca := ca) (d := d) ((CT.drop 19).take 2)) gl.reg al9)⟩
theorem dn_fields (Hx : St K mg "_law_fields" s__law_fields ["_law_some"]) (S : Cs P K mg ca fa) : Dn P w K mg base CX0 1 "_law_fields" ["_law_some"] (SpG (F_fields K ca)) := by
  refine dn_of 0 Hx sc__law_fields (fun vs H Q E ⟨_, _, _, ⟨_, _, h, _⟩, _⟩ => by rw [h]; rfl) fun f cdv A outer s H vs Q E hr h => ⟨_, (pss_cons (ps_set (i := 1) sc__law_fields.nd rfl (Or.inl rfl) (pe_lst (pa_cons (pe_hf (pe_ix (ix_K (K := K) rfl) (pv 0) pe_int (fun _ _ => rfl))) (pa_cons (pe_hf (pe_ix (ix_K (K := K) rfl) (pv 0) pe_int (fun _ _ => rfl))) (pa_cons (pe_hf (pe_ix (ix_K (K := K) rfl) (pv 0) pe_int (fun _ _ => rfl))) (pa_cons (pe_hf (pe_ix (ix_K (K := K) rfl) (pv 0) pe_int (fun _ _ => rfl))) (pa_cons (pe_hf (pe_ix (ix_K (K := K) rfl) (pv 0) pe_int (fun _ _ => rfl))) (pa_cons (pe_hf (pe_ix (ix_K (K := K) rfl) (pv 0) pe_int (fun _ _ => rfl))) (pa_cons (pe_hf (pe_ix (ix_K (K := K) rfl) (pv 0) pe_int (fun _ _ => rfl))) pa_nil)))))))))
    (pss_cons (ps_set (i := 1) sc__law_fields.nd rfl (Or.inl rfl) (pe_op op_cat (pv 1) (pe_lst (pa_cons (pe_hf (pe_ix (ix_K (K := K) rfl) (pv 0) pe_int (fun _ _ => rfl))) (pa_cons (pe_hf (pe_ix (ix_K (K := K) rfl) (pv 0) pe_int (fun _ _ => rfl))) (pa_cons (pe_hf (pe_ix (ix_K (K := K) rfl) (pv 0) pe_int (fun _ _ => rfl))) (pa_cons (pe_hf (pe_ix (ix_K (K := K) rfl) (pv 0) pe_int (fun _ _ => rfl))) (pa_cons (pe_hf (pe_ix (ix_K (K := K) rfl) (pv 0) pe_int (fun _ _ => rfl))) (pa_cons (pe_hf (pe_ix (ix_K (K := K) rfl) (pv 0) pe_int (fun _ _ => rfl))) pa_nil)))))))))
    (pss_cons (ps_set (i := 1) sc__law_fields.nd rfl (Or.inl rfl) (pe_op op_cat (pv 1) (pe_lst (pa_cons (pe_hf (pe_ix (ix_K (K := K) rfl) (pv 0) pe_int (fun _ _ => rfl))) (pa_cons (pe_hf (pe_ix (ix_K (K := K) rfl) (pv 0) pe_int (fun _ _ => rfl))) (pa_cons (pe_hf (pe_ix (ix_K (K := K) rfl) (pv 0) pe_int (fun _ _ => rfl))) (pa_cons (pe_hf (pe_ix (ix_K (K := K) rfl) (pv 0) pe_int (fun _ _ => rfl))) (pa_cons (pe_hf (pe_ix (ix_K (K := K) rfl) (pv 0) pe_int (fun _ _ => rfl))) pa_nil))))))))
    (pss_one (ps_ret (pe_op op_cat (pv 1) (pe_lst (pa_cons (pe_hf (pe_ix (ix_K (K := K) rfl) (pv 0) pe_int (fun _ _ => rfl))) (pa_cons (pe_hf (pe_ix (ix_K (K := K) rfl) (pv 0) pe_int (fun _ _ => rfl))) (pa_cons (pe_hf (pe_ix (ix_K (K := K) rfl) (pv 0) pe_int (fun _ _ => rfl))) pa_nil)))))))))), ?_⟩
  obtain ⟨H0, P0, R, ⟨d, x, rfl, kx, rfl⟩, q⟩ := h
  have mo : ∀ {H H' : Hp}, Ex H H' → LoV (evs K ca d CT) x H → LoV (evs K ca d CT) x H' := fun e k => mono_lov (mono_evs CT) x _ _ e k
  refine q_asg (P := fun v H' => Dq K H' v (.list (List.replicate 7 d))) (d_lst (flds_ev (d := d) S rfl [(0, "value"), (1, "position"), (2, "value"), (3, "name"), (4, "name"), (5, "place"), (6, "place")] H0 (by decide +kernel) kx) (by show 7 ≤ 100000; decide)) R fun v1 A1 H1 g1 k1 => ?_
  refine q_asg (P := fun v H' => Dq K H' v (.list (List.replicate 13 d))) (d_op (d_var rfl k1) (d_lst (flds_ev (d := d) S rfl [(7, "value"), (8, "word"), (9, "word"), (10, "value"), (11, "value"), (12, "value")] H1 (by decide +kernel) (mo g1.reg kx)) (by show 6 ≤ 100000; decide)) (o_cat (ds := List.replicate 7 d) (es := List.replicate 6 d) (by show 13 ≤ 100000; decide))) (g1.to R) fun v2 A2 H2 g2 k2 => ?_
  have g12 := g1.trans g2
  refine q_asg (P := fun v H' => Dq K H' v (.list (List.replicate 18 d))) (d_op (d_var rfl k2) (d_lst (flds_ev (d := d) S rfl [(13, "value"), (14, "value"), (15, "value"), (16, "position"), (17, "word")] H2 (by decide +kernel) (mo g12.reg kx)) (by show 5 ≤ 100000; decide)) (o_cat (ds := List.replicate 13 d) (es := List.replicate 5 d) (by show 18 ≤ 100000; decide))) (g12.to R) fun v3 A3 H3 g3 k3 => ?_
  have g13 := g12.trans g3
  exact Z.s_ret (P := fun v H' => Dq K H' v (.list (List.replicate 21 d))) (d_op (d_var rfl k3) (d_lst (flds_ev (d := d) S rfl [(18, "value"), (19, "name"), (20, "word")] H3 (by decide +kernel) (mo g13.reg kx)) (by show 3 ≤ 100000; decide)) (o_cat (ds := List.replicate 18 d) (es := List.replicate 3 d) (by show 21 ≤ 100000; decide))) (g13.to R) fun v4 A4 H4 g4 k4 => q v4 A4 H4 (g13.trans g4) k4
theorem dn_kinds (Hx : St K mg "_law_kinds" s__law_kinds ["_law_e"]) (B : Bs mg) (S : Cs P K mg ca fa) : Dn P w K mg base CX0 1 "_law_kinds" ["_law_e"] (SpG (F_kinds K ca)) := by
  refine dn_of 0 Hx sc__law_kinds (fun vs H Q E ⟨_, _, _, ⟨_, _, _, _, h, _⟩, _⟩ => by rw [h]; rfl) fun f cdv A outer s H vs Q E hr h => ⟨_, (pss_cons (ps_set (i := 1) sc__law_kinds.nd rfl (Or.inl rfl) (pe_lst (pa_cons (pe_callB call_isiH (by rfl) B.isinstance (by decide +kernel) (pa_cons (pv 0) (pa_cons (C8.pe_gc (v := .ref (ca "InvalidText")) (by rfl) ⟨.ref (ca "InvalidText"), (S.err ("InvalidText", "value") (mem_ct 0 rfl)).g, rfl⟩) pa_nil))) (pa_cons (pe_callB call_isiH (by rfl) B.isinstance (by decide +kernel) (pa_cons (pv 0) (pa_cons (C8.pe_gc (v := .ref (ca "InvalidSyntax")) (by rfl) ⟨.ref (ca "InvalidSyntax"), (S.err ("InvalidSyntax", "position") (mem_ct 1 rfl)).g, rfl⟩) pa_nil))) (pa_cons (pe_callB call_isiH (by rfl) B.isinstance (by decide +kernel) (pa_cons (pv 0) (pa_cons (C8.pe_gc (v := .ref (ca "InvalidTree")) (by rfl) ⟨.ref (ca "InvalidTree"), (S.err ("InvalidTree", "value") (mem_ct 2 rfl)).g, rfl⟩) pa_nil))) pa_nil)))))
    (pss_cons (ps_set (i := 1) sc__law_kinds.nd rfl (Or.inl rfl) (pe_op op_cat (pv 1) (pe_lst (pa_cons (pe_callB call_isiH (by rfl) B.isinstance (by decide +kernel) (pa_cons (pv 0) (pa_cons (C8.pe_gc (v := .ref (ca "DuplicateName")) (by rfl) ⟨.ref (ca "DuplicateName"), (S.err ("DuplicateName", "name") (mem_ct 3 rfl)).g, rfl⟩) pa_nil))) (pa_cons (pe_callB call_isiH (by rfl) B.isinstance (by decide +kernel) (pa_cons (pv 0) (pa_cons (C8.pe_gc (v := .ref (ca "UnknownName")) (by rfl) ⟨.ref (ca "UnknownName"), (S.err ("UnknownName", "name") (mem_ct 4 rfl)).g, rfl⟩) pa_nil))) (pa_cons (pe_callB call_isiH (by rfl) B.isinstance (by decide +kernel) (pa_cons (pv 0) (pa_cons (C8.pe_gc (v := .ref (ca "InvalidCall")) (by rfl) ⟨.ref (ca "InvalidCall"), (S.err ("InvalidCall", "place") (mem_ct 5 rfl)).g, rfl⟩) pa_nil))) pa_nil))))))
    (pss_cons (ps_set (i := 1) sc__law_kinds.nd rfl (Or.inl rfl) (pe_op op_cat (pv 1) (pe_lst (pa_cons (pe_callB call_isiH (by rfl) B.isinstance (by decide +kernel) (pa_cons (pv 0) (pa_cons (C8.pe_gc (v := .ref (ca "InvalidCarry")) (by rfl) ⟨.ref (ca "InvalidCarry"), (S.err ("InvalidCarry", "place") (mem_ct 6 rfl)).g, rfl⟩) pa_nil))) (pa_cons (pe_callB call_isiH (by rfl) B.isinstance (by decide +kernel) (pa_cons (pv 0) (pa_cons (C8.pe_gc (v := .ref (ca "InvalidFormula")) (by rfl) ⟨.ref (ca "InvalidFormula"), (S.err ("InvalidFormula", "value") (mem_ct 7 rfl)).g, rfl⟩) pa_nil))) (pa_cons (pe_callB call_isiH (by rfl) B.isinstance (by decide +kernel) (pa_cons (pv 0) (pa_cons (C8.pe_gc (v := .ref (ca "TooLarge")) (by rfl) ⟨.ref (ca "TooLarge"), (S.err ("TooLarge", "word") (mem_ct 8 rfl)).g, rfl⟩) pa_nil))) pa_nil))))))
    (pss_cons (ps_set (i := 1) sc__law_kinds.nd rfl (Or.inl rfl) (pe_op op_cat (pv 1) (pe_lst (pa_cons (pe_callB call_isiH (by rfl) B.isinstance (by decide +kernel) (pa_cons (pv 0) (pa_cons (C8.pe_gc (v := .ref (ca "TooMany")) (by rfl) ⟨.ref (ca "TooMany"), (S.err ("TooMany", "word") (mem_ct 9 rfl)).g, rfl⟩) pa_nil))) (pa_cons (pe_callB call_isiH (by rfl) B.isinstance (by decide +kernel) (pa_cons (pv 0) (pa_cons (C8.pe_gc (v := .ref (ca "InvalidRow")) (by rfl) ⟨.ref (ca "InvalidRow"), (S.err ("InvalidRow", "value") (mem_ct 10 rfl)).g, rfl⟩) pa_nil))) (pa_cons (pe_callB call_isiH (by rfl) B.isinstance (by decide +kernel) (pa_cons (pv 0) (pa_cons (C8.pe_gc (v := .ref (ca "InvalidEntry")) (by rfl) ⟨.ref (ca "InvalidEntry"), (S.err ("InvalidEntry", "value") (mem_ct 11 rfl)).g, rfl⟩) pa_nil))) pa_nil))))))
    (pss_cons (ps_set (i := 1) sc__law_kinds.nd rfl (Or.inl rfl) (pe_op op_cat (pv 1) (pe_lst (pa_cons (pe_callB call_isiH (by rfl) B.isinstance (by decide +kernel) (pa_cons (pv 0) (pa_cons (C8.pe_gc (v := .ref (ca "InvalidChoices")) (by rfl) ⟨.ref (ca "InvalidChoices"), (S.err ("InvalidChoices", "value") (mem_ct 12 rfl)).g, rfl⟩) pa_nil))) (pa_cons (pe_callB call_isiH (by rfl) B.isinstance (by decide +kernel) (pa_cons (pv 0) (pa_cons (C8.pe_gc (v := .ref (ca "InvalidAction")) (by rfl) ⟨.ref (ca "InvalidAction"), (S.err ("InvalidAction", "value") (mem_ct 13 rfl)).g, rfl⟩) pa_nil))) (pa_cons (pe_callB call_isiH (by rfl) B.isinstance (by decide +kernel) (pa_cons (pv 0) (pa_cons (C8.pe_gc (v := .ref (ca "InvalidWeights")) (by rfl) ⟨.ref (ca "InvalidWeights"), (S.err ("InvalidWeights", "value") (mem_ct 14 rfl)).g, rfl⟩) pa_nil))) pa_nil))))))
    (pss_cons (ps_set (i := 1) sc__law_kinds.nd rfl (Or.inl rfl) (pe_op op_cat (pv 1) (pe_lst (pa_cons (pe_callB call_isiH (by rfl) B.isinstance (by decide +kernel) (pa_cons (pv 0) (pa_cons (C8.pe_gc (v := .ref (ca "InvalidEvent")) (by rfl) ⟨.ref (ca "InvalidEvent"), (S.err ("InvalidEvent", "value") (mem_ct 15 rfl)).g, rfl⟩) pa_nil))) (pa_cons (pe_callB call_isiH (by rfl) B.isinstance (by decide +kernel) (pa_cons (pv 0) (pa_cons (C8.pe_gc (v := .ref (ca "InvalidQuestion")) (by rfl) ⟨.ref (ca "InvalidQuestion"), (S.err ("InvalidQuestion", "position") (mem_ct 16 rfl)).g, rfl⟩) pa_nil))) (pa_cons (pe_callB call_isiH (by rfl) B.isinstance (by decide +kernel) (pa_cons (pv 0) (pa_cons (C8.pe_gc (v := .ref (ca "InvalidCommand")) (by rfl) ⟨.ref (ca "InvalidCommand"), (S.err ("InvalidCommand", "word") (mem_ct 17 rfl)).g, rfl⟩) pa_nil))) pa_nil))))))
    (pss_one (ps_ret (pe_op op_cat (pv 1) (pe_lst (pa_cons (pe_callB call_isiH (by rfl) B.isinstance (by decide +kernel) (pa_cons (pv 0) (pa_cons (C8.pe_gc (v := .ref (ca "InvalidFaults")) (by rfl) ⟨.ref (ca "InvalidFaults"), (S.err ("InvalidFaults", "value") (mem_ct 18 rfl)).g, rfl⟩) pa_nil))) (pa_cons (pe_callB call_isiH (by rfl) B.isinstance (by decide +kernel) (pa_cons (pv 0) (pa_cons (C8.pe_gc (v := .ref (ca "UnknownProcedure")) (by rfl) ⟨.ref (ca "UnknownProcedure"), (S.err ("UnknownProcedure", "name") (mem_ct 19 rfl)).g, rfl⟩) pa_nil))) (pa_cons (pe_callB call_isiH (by rfl) B.isinstance (by decide +kernel) (pa_cons (pv 0) (pa_cons (C8.pe_gc (v := .ref (ca "LimitExceeded")) (by rfl) ⟨.ref (ca "LimitExceeded"), (S.err ("LimitExceeded", "word") (mem_ct 20 rfl)).g, rfl⟩) pa_nil))) pa_nil))))))))))))), ?_⟩
  obtain ⟨H0, P0, R, ⟨d, x, m, c, rfl, hm, kx, rfl⟩, q⟩ := h
  have mo : ∀ {H H' : Hp}, Ex H H' → ErV K (ca c.1) c.2 d x H → ErV K (ca c.1) c.2 d x H' := fun e k => mono_er x _ _ e k
  refine q_asg (P := fun v H' => Dq K H' v (.list ((List.range 3).map fun j => PyData.bool (decide (m = j))))) (d_lst (kns_ev (d := d) S rfl hm [(0, "InvalidText"), (1, "InvalidSyntax"), (2, "InvalidTree")] H0 (by decide +kernel) kx) (by show 3 ≤ 100000; decide)) R fun v0 A0 H0' g0 k0 => ?_
  refine q_asg (P := fun v H' => Dq K H' v (.list ((List.range 6).map fun j => PyData.bool (decide (m = j))))) (d_op (d_var rfl k0) (d_lst (kns_ev (d := d) S rfl hm [(3, "DuplicateName"), (4, "UnknownName"), (5, "InvalidCall")] H0' (by decide +kernel) (mo g0.reg kx)) (by show 3 ≤ 100000; decide)) (o_cat (ds := ((List.range 3).map fun j => PyData.bool (decide (m = j)))) (es := _) (by show 6 ≤ 100000; decide))) (g0.to R) fun v1 A1 H1' h1 k1 => ?_
  have gg1 := g0.trans h1
  refine q_asg (P := fun v H' => Dq K H' v (.list ((List.range 9).map fun j => PyData.bool (decide (m = j))))) (d_op (d_var rfl k1) (d_lst (kns_ev (d := d) S rfl hm [(6, "InvalidCarry"), (7, "InvalidFormula"), (8, "TooLarge")] H1' (by decide +kernel) (mo gg1.reg kx)) (by show 3 ≤ 100000; decide)) (o_cat (ds := ((List.range 6).map fun j => PyData.bool (decide (m = j)))) (es := _) (by show 9 ≤ 100000; decide))) (gg1.to R) fun v2 A2 H2' h2 k2 => ?_
  have gg2 := gg1.trans h2
  refine q_asg (P := fun v H' => Dq K H' v (.list ((List.range 12).map fun j => PyData.bool (decide (m = j))))) (d_op (d_var rfl k2) (d_lst (kns_ev (d := d) S rfl hm [(9, "TooMany"), (10, "InvalidRow"), (11, "InvalidEntry")] H2' (by decide +kernel) (mo gg2.reg kx)) (by show 3 ≤ 100000; decide)) (o_cat (ds := ((List.range 9).map fun j => PyData.bool (decide (m = j)))) (es := _) (by show 12 ≤ 100000; decide))) (gg2.to R) fun v3 A3 H3' h3 k3 => ?_
  have gg3 := gg2.trans h3
  refine q_asg (P := fun v H' => Dq K H' v (.list ((List.range 15).map fun j => PyData.bool (decide (m = j))))) (d_op (d_var rfl k3) (d_lst (kns_ev (d := d) S rfl hm [(12, "InvalidChoices"), (13, "InvalidAction"), (14, "InvalidWeights")] H3' (by decide +kernel) (mo gg3.reg kx)) (by show 3 ≤ 100000; decide)) (o_cat (ds := ((List.range 12).map fun j => PyData.bool (decide (m = j)))) (es := _) (by show 15 ≤ 100000; decide))) (gg3.to R) fun v4 A4 H4' h4 k4 => ?_
  have gg4 := gg3.trans h4
  refine q_asg (P := fun v H' => Dq K H' v (.list ((List.range 18).map fun j => PyData.bool (decide (m = j))))) (d_op (d_var rfl k4) (d_lst (kns_ev (d := d) S rfl hm [(15, "InvalidEvent"), (16, "InvalidQuestion"), (17, "InvalidCommand")] H4' (by decide +kernel) (mo gg4.reg kx)) (by show 3 ≤ 100000; decide)) (o_cat (ds := ((List.range 15).map fun j => PyData.bool (decide (m = j)))) (es := _) (by show 18 ≤ 100000; decide))) (gg4.to R) fun v5 A5 H5' h5 k5 => ?_
  have gg5 := gg4.trans h5
  exact Z.s_ret (P := fun v H' => Dq K H' v (.list ((List.range 21).map fun j => PyData.bool (decide (m = j))))) (d_op (d_var rfl k5) (d_lst (kns_ev (d := d) S rfl hm [(18, "InvalidFaults"), (19, "UnknownProcedure"), (20, "LimitExceeded")] H5' (by decide +kernel) (mo gg5.reg kx)) (by show 3 ≤ 100000; decide)) (o_cat (ds := ((List.range 18).map fun j => PyData.bool (decide (m = j)))) (es := _) (by show 21 ≤ 100000; decide))) (gg5.to R) fun v A H' g k => q v A H' (gg5.trans g) k
theorem dn_bases (Hx : St K mg "_law_bases" s__law_bases ["_law_e"]) (B : Bs mg) (S : Cs P K mg ca fa) : Dn P w K mg base CX0 1 "_law_bases" ["_law_e"] (SpG (F_bases K ca)) := by
  refine dn_of 0 Hx sc__law_bases (fun vs H Q E ⟨_, _, _, ⟨_, _, _, _, h, _⟩, _⟩ => by rw [h]; rfl) fun f cdv A outer s H vs Q E hr h => ⟨_, (pss_cons (ps_set (i := 1) sc__law_bases.nd rfl (Or.inl rfl) (pe_lst (pa_cons (pe_callB call_isiH (by rfl) B.isinstance (by decide +kernel) (pa_cons (pv 0) (pa_cons (C8.pe_gc (v := .ref (ca "FreshError")) (by rfl) ⟨.ref (ca "FreshError"), S.fresh, rfl⟩) pa_nil))) (pa_cons (pe_callB call_isiH (by rfl) B.isinstance (by decide +kernel) (pa_cons (pv 0) (pa_cons (pty (by rfl) S.ValueError (by rfl)) pa_nil))) (pa_cons (pe_callB call_isiH (by rfl) B.isinstance (by decide +kernel) (pa_cons (pv 0) (pa_cons (pty (by rfl) S.KeyError (by rfl)) pa_nil))) pa_nil)))))
    (pss_one (ps_ret (pe_op op_cat (pv 1) (pe_lst (pa_cons (pe_callB call_isiH (by rfl) B.isinstance (by decide +kernel) (pa_cons (pv 0) (pa_cons (pty (by rfl) S.RuntimeError (by rfl)) pa_nil))) pa_nil)))))), ?_⟩
  obtain ⟨H0, P0, R, ⟨d, x, m, c, rfl, hm, kx, rfl⟩, q⟩ := h
  have mo : ∀ {H H' : Hp}, Ex H H' → ErV K (ca c.1) c.2 d x H → ErV K (ca c.1) c.2 d x H' := fun e k => mono_er x _ _ e k
  obtain ⟨b1, b2, b3, b4⟩ := S.bas m c hm
  have xc := (S.exc c (mem_ct m hm)).1
  refine q_asg (d_lst (s_cons (d_isiE (g_in rfl mono_er kx) (.own _) xc b1) (s_cons (d_isiE (g_in rfl mono_er kx) (.ty _) xc b2) (s_cons (d_isiE (g_in rfl mono_er kx) (.ty _) xc b3) s_nil))) (by show 3 ≤ 100000; decide)) R fun v1 A1 H1 g1 k1 => ?_
  exact Z.s_ret (d_op (d_var rfl k1) (d_lst (s_cons (d_isiE (g_in rfl mono_er (mo g1.reg kx)) (.ty _) xc b4) s_nil) (by show 1 ≤ 100000; decide)) (o_cat (by show 4 ≤ 100000; decide))) (g1.to R) fun v A H' g k => q v A H' (g1.trans g) k
end
end Q13
/-! raise X(e), X over any built-in error -/
namespace Z
open PySem PySem.Spec PyProof.Rows L2 Evl
open PySem.ZB
section
variable {X : Cx} {C fI : Addr} {fld x : Str}
theorem pmk_errB {a : Expr} {ta : TA} {p pos : Pos} {k : Nat} (T : ErrB X.prog X.K X.mg x C fI fld) (exC : PySem.W.subIn X.K (.ref C) (.type "BaseException") = some true) (tyC : PySem.W.typeIn X.K (.ref C) = some (.type "type")) (hr : Room k X.A) (ha : PA X [a] ta) (hg : Gl X x := by rfl) (hdb : (x == ("__debug__" : Str)) = false := by decide)
    (he : starEach (a :: []) X.env = (false, eval a X.env) :: starEach [] X.env := by rfl) (hpl : (backTo pos (starEach [] X.env)).any (·.1) = false := by rfl) :
    PMk X (.Call (.Name x p) [a] [] pos) (tMkE C fld ta) := by
  intro pins s σ H Q I h
  refine wpAny_Call_Name_kw (ld_glob I hg T.g ?_ hdb)
  refine PySem.W.callWith_K (h₀ := X.base) I.ok.mod.kin T.k (thn (ha.run pos pins s σ H _ I h) fun us s1 hh => ?_) he hpl
  obtain ⟨vs, H1, I1, r1, v, ev, q1⟩ := hh
  subst ev
  refine ⟨I1.kIn, ?_⟩
  cases r1 with
  | cons rv rn =>
    rename_i v' us'
    cases rn
    show wpAny _ _ (call (.ref C) [v']) _ _ _
    obtain ⟨newId, D, initId, B, i0, tl, b0, t1, t2, t3, t4, t5, t6, t7⟩ := T.ex
    have hlim := I1.nolimit
    obtain ⟨mb, b1, b2⟩ := I1.mod.blt
    have G := I1.mod.glob.keeps I1.bk
    have Bn := b1.keeps I1.bk
    have hB : mb ("super" : Str) = some (.type "super") := (b2 "super" (by decide)).trans (by decide +kernel)
    obtain ⟨hp, g, dr, tk, os⟩ := s1
    refine wpAny_call (made_of t1 t2 t3 t4 t5 t6 t7 T.ok T.top (.inl ⟨rfl, rfl⟩) I1.kIn G Bn hB hlim (by have := hr.dp; omega) fun h' tk' e d M => ?_)
    show MkP X pins σ Q (.ref e) ⟨h', g, dr, tk', os⟩
    obtain ⟨t0, hoe⟩ := M.obj
    have hns := M.ns
    obtain ⟨G', g1, g2⟩ := restrict h' fun b => decide (b ≠ e)
    have gk : ∀ b, b ≠ e → G'.get? b = h'.get? b := fun b hb => g1 b (decide_eq_true hb)
    have ge : G'.get? e = none := g2 e (by simp)
    have old : ∀ b o, hp.get? b = some o → G'.get? b = some o := fun b o q => (gk b (Nat.ne_of_lt (Nat.lt_of_lt_of_le (Heap.lt_size q) M.new))).trans (M.keep b o q)
    have ob : ObjOk X.prog X.w (upd H1 d (.xd [(fld, v)])) G' d (.xd [(fld, v)]) := ⟨_, hns.at (fun o q => (gk d M.dne).trans q), fun f => relO_fld rv f⟩
    have J : Inv X pins σ (upd H1 d (.xd [(fld, v)])) ⟨G', g, dr, tk', os⟩ := I1.laid (t' := tk') old M.dbig ob
    refine ⟨e, _, _, ⟨G', g, dr, tk', os⟩, _, .ref C, some d, rfl, J, fun b o q => ?_, ge, hoe, ⟨rfl, rfl⟩, rfl, rfl, ?_, rfl, I1.bare, raises_own exC tyC, q1 d (I1.hok.fresh M.dbig)⟩
    · by_cases hb : b = e
      · have q' : G'.get? b = some o := q
        rw [hb, ge] at q'; cases q'
      · exact (gk b hb).symm.trans q
    · rw [upd_ne (Ne.symm M.dne)]
      exact I1.hok.fresh M.new
theorem ps_raiseB {a : Expr} {ta : TA} {W : WX} {p pos pos2 : Pos} {k : Nat} (hc : X.calm = true) (T : ErrB X.prog X.K X.mg x C fI fld) (exC : PySem.W.subIn X.K (.ref C) (.type "BaseException") = some true) (tyC : PySem.W.typeIn X.K (.ref C) = some (.type "type")) (hr : Room k X.A) (tk : Takes X W) (ha : PA X [a] ta) (hg : Gl X x := by rfl) (hdb : (x == ("__debug__" : Str)) = false := by decide)
    (he : starEach (a :: []) X.env = (false, eval a X.env) :: starEach [] X.env := by rfl) (hpl : (backTo pos (starEach [] X.env)).any (·.1) = false := by rfl) :
    PS X (.Raise (some (.Call (.Name x p) [a] [] pos)) none pos2) (tRaiseE C fld W ta) := ps_raise hc tk (pmk_errB T exC tyC hr ha hg hdb he hpl)
end
end Z
/-! repr of any data, {} too -/
namespace Z
open PySem PySem.Spec PyProof.Rows L2 Evl
def showD : PyData → Str
  | .none => "None"
  | .bool b => if b then "True" else "False"
  | .int i => toString i
  | .str x => reprText x
  | d => d.shown
def ShowOk : PyData → Prop
  | .none => True
  | .bool _ => True
  | .int i => i.natAbs.log2 < 1920
  | .str x => (reprText x).length ≤ sizeLine
  | .dict _ => True
  | d => d.showable = true ∧ d.hasDict = false ∧ d.depth ≤ 60 ∧ d.shown.length ≤ sizeLine
def rReprA (K : PySem.W.Frag) : List V → Hp → VK → Prop := fun vs H Q => ∃ (v : V) (d : PyData), vs = [v] ∧ Dq K H v d ∧ ShowOk d ∧ Q (.str (showD d)) H
theorem cr_reprA {X : Cx} (hg : X.A.guards = some []) (hu : X.A.units + 64 < cLine) : CallR X (.builtin "repr") (rReprA X.K) := by
  intro pins s σ H vs us Q I r h
  obtain ⟨v, d, rfl, hd, ok, q⟩ := h
  obtain ⟨u, rfl, ru⟩ := vals1 r
  have k0 := hd
  cases hd with
  | non =>
    cases (show u = Value.none from ru)
    exact PySem.P.repr_of_none ⟨.str _, H, I.tok _, ⟨_, rfl⟩, q⟩
  | bl b =>
    cases (show u = Value.bool b from ru)
    refine PySem.P.repr_of_bool ⟨.str _, H, I.tok _, ?_, q⟩
    cases b <;> exact ⟨_, rfl⟩
  | int i =>
    obtain ⟨t, rfl⟩ := (show ∃ t, u = Value.int i t from ru)
    exact PySem.P.repr_of_int ok ⟨.str _, H, I.tok _, ⟨_, rfl⟩, q⟩
  | str x =>
    obtain ⟨t, rfl⟩ := (show ∃ t, u = Value.str x t from ru)
    exact PySem.P.repr_of_str ⟨.str _, H, I.tok _, ⟨_, rfl⟩, q⟩ ok
  | @lst a xs ds _ _ =>
    cases (show u = Value.ref a from ru)
    obtain ⟨h1, h2, h3, h4⟩ := ok
    obtain ⟨as, rd⟩ := Dp.reads I _ (.ref a) (.ref a) (dq_dp _ _ h2 k0) rfl
    exact repr_of_reads' rd h1 (fun z => by rw [h2] at z; cases z) hg (by omega) (fun b o e => e) (fun h' u tk hk => ⟨.str _, H, I.kept hk, ⟨u, rfl⟩, q⟩) h4
  | @tup a xs ds _ _ =>
    cases (show u = Value.ref a from ru)
    obtain ⟨h1, h2, h3, h4⟩ := ok
    obtain ⟨as, rd⟩ := Dp.reads I _ (.ref a) (.ref a) (dq_dp _ _ h2 k0) rfl
    exact repr_of_reads' rd h1 (fun z => by rw [h2] at z; cases z) hg (by omega) (fun b o e => e) (fun h' u tk hk => ⟨.str _, H, I.kept hk, ⟨u, rfl⟩, q⟩) h4
  | @dic a hd =>
    cases (show u = Value.ref a from ru)
    obtain ⟨_, nm, vs, kv, o, es, ep, h1, h2, h3, h4, h5, _⟩ := dk_of I.hok hd
    cases kv
    have ee : es.toList = [] := by
      cases e : es.toList with
      | nil => rfl
      | cons a l => rw [e] at h5; cases h5
    have rd : Reads s.heap (.ref a) (.dict []) (a :: [] ++ []) := .dict h1 h2.1 h3 (by rw [ee]; exact .nil) (by rw [ee]; exact .nil)
    refine repr_of_reads' rd rfl (fun _ hm => ?_) hg (by have : (PyData.dict []).depth = 1 := rfl; omega) (fun b o e => e) (fun h' u tk hk => ⟨.str _, H, I.kept hk, ⟨u, rfl⟩, q⟩) (by decide +kernel)
    have : sysModules = a := by simpa using hm
    rw [← this] at nm
    simp at nm
theorem cr_reprAK {X : Cx} {K : PySem.W.Frag} (hK : X.K = K) (hg : X.A.guards = some []) (hu : X.A.units + 64 < cLine) : CallR X (.builtin "repr") (rReprA K) := hK ▸ cr_reprA hg hu
theorem c_reprA {K : PySem.W.Frag} {p : Me} {d : PyData} (h : ShowOk d) : CaD K p (rReprA K) [d] (.str (showD d)) := fun vs H A kk R Q q => by
  obtain ⟨v, rfl, kv⟩ := dqall_one kk
  exact ⟨v, d, rfl, dq_ex R.ex _ _ kv, h, q _ A H R.refl (.str _)⟩
end Z
namespace Z
open PySem PySem.Spec PyProof.Rows L2 Evl
/-- {} -/
theorem d_dicN {K : PySem.W.Frag} {p : Me} {σ : L2.St} {H : Hp} : EvD K p tDNewK σ H (.dict []) := fun A R Q q l hl => by
  have g := Gr.alloc R (o := .dK []) hl
  exact q (.ref l) _ _ g (.dic upd_same)
end Z
/-! the helper that raises; what repr writes of what is drawn -/
namespace Q13
open PySem PySem.Spec PyProof.Rows L2 Z Evl
section
variable {P : Program} {w : World} {K : PySem.W.Frag} {mg : Str → Option Value} {base : Heap} {ca fa : Str → Addr}
abbrev s__law_raised : Stmt := top 31
abbrev N__law_raised : List Str := ["_law_one", "_law_e"]
theorem sc__law_raised : FnScope N__law_raised ["_law_one"] (defScope s__law_raised) := ⟨rfl, rfl, rfl, by decide +kernel, rfl, by decide +kernel, by decide +kernel⟩
def F_raised (K : PySem.W.Frag) : List V → Hp → (V → Hp → Prop) → Prop := fun vs H P => ∃ (d : PyData) (x : V), vs = [x] ∧ Dq K H x d ∧ ShowOk d ∧ P = fun v _ => v = .str (showD d)
theorem dn_raised (Hx : St K mg "_law_raised" s__law_raised ["_law_one"]) (S : Cs P K mg ca fa) (m_repr : mg "repr" = none) (exm : PySem.W.exmOne K (.ref (ca "TooMany")) (.ref (ca "FreshError")) = some true) (exC : PySem.W.subIn K (.ref (ca "TooMany")) (.type "BaseException") = some true) (tyC : PySem.W.typeIn K (.ref (ca "TooMany")) = some (.type "type")) :
    DnG P w K mg base 1 "_law_raised" ["_law_one"] (SpG (F_raised K)) := by
  obtain ⟨f, fd, F, m, b⟩ := Hx
  have T := S.err ("TooMany", "word") (mem_ct 9 rfl)
  have X9 := S.exc ("TooMany", "word") (mem_ct 9 rfl)
  refine ⟨f, fd, fnG_of F sc__law_raised (fun vs H Q E ⟨_, _, _, ⟨_, _, h, _⟩, _⟩ => by rw [h]; rfl) (fun cdv A outer s H vs Q E gd hr h => ⟨_, pss_one (ps_try_held (c := .ref (ca "FreshError")) (i := 1) (Wout := fun _ _ _ _ => False)
      rfl rfl rfl sc__law_raised.nd rfl rfl ⟨rfl, by decide, .inl S.fresh⟩ L2.takes0 (fun W pn xe tk _ => pss_one (ps_raiseB rfl T exC tyC hr tk (pa_cons (pv 0) pa_nil))) (fun a oe cls d pn hz hf => pss_one (ps_ret (pe_callB (cr_reprAK (K := K) rfl gd (Nat.lt_of_le_of_lt (Nat.add_le_add_left (by decide : 64 ≤ 64) _) hr.units)) (by rfl) m_repr (by decide +kernel) (pa_cons (pe_xf X9.2.1 X9.2.2 hz hf (pv 1)) pa_nil))))), ?_⟩), m, F.kp, b⟩
  obtain ⟨H0, P0, R, ⟨d, x, rfl, kx, sw, rfl⟩, q⟩ := h
  refine ⟨x, rfl, x, rfl, fun dd hdd => ⟨true, exm, (fun z => nomatch z), fun _ a na => ?_⟩⟩
  have g1 := Gr.alloc R (o := .xd [(("word" : Str), x)]) hdd
  have R1 := g1.to R
  have g2 := Gr.alloc R1 (o := ExH (.ref (ca "TooMany")) (some dd) a) na
  refine ⟨.ref a, rfl, rfl, rfl, dd, _, x, rfl, upd_same, rfl, x, d, rfl, ?_, sw, q _ _ _ (g1.trans g2) rfl⟩
  exact dq_ex R1.ex _ _ (dq_ex g1.reg _ _ kx)
end
/-! texts -/
theorem ok_str (s : String) : PyData.strOk (Str.ofString s) = true := by
  rw [Str.ofString_eq_toList]
  unfold PyData.strOk
  rw [Array.all_eq_true]
  intro i hi
  simp only [List.getElem_toArray, List.getElem_map]
  have := (s.toList[i]'(by simpa using hi)).valid
  have h2 : (s.toList[i]'(by simpa using hi)).toNat < 1114112 := by
    rcases this with h | ⟨_, h⟩
    · exact Nat.lt_trans h (by decide)
    · exact h
  exact decide_eq_true h2
theorem ok_app {a b : Str} (h1 : PyData.strOk a = true) (h2 : PyData.strOk b = true) : PyData.strOk (a ++ b) = true := by
  unfold PyData.strOk at *
  show (a.cps ++ b.cps).all _ = true
  rw [Array.all_append, h1, h2]
  rfl
/-- what is drawn -/
def ones (n : Int) : List PyData := [.none, .int n, .int (-n), .str "a", .tuple [.str "a", .int n], .list [.str "a"], .str "", .bool true, .dict [], .int (10 ^ 50)]
theorem one_ok {n : Int} (h0 : 0 ≤ n) (h : n < 1000000000) : ∀ d ∈ ones n, ShowOk d ∧ PyData.strOk (showD d) = true := by
  have lg : ∀ i : Int, i.natAbs < 1000000000 → i.natAbs.log2 < 1920 := fun i hi => by
    by_cases c : i.natAbs = 0
    · rw [c]; decide
    · exact (Nat.log2_lt c).mpr (Nat.lt_trans hi (by decide))
  have l1 : n.natAbs.log2 < 1920 := lg n (by omega)
  have l2 : (-n).natAbs.log2 < 1920 := lg (-n) (by omega)
  have tl := int_text_len_1921 l1
  intro d hd
  unfold ones at hd
  simp only [List.mem_cons, List.not_mem_nil, or_false] at hd
  rcases hd with rfl | rfl | rfl | rfl | rfl | rfl | rfl | rfl | rfl | rfl
  · exact ⟨trivial, by decide +kernel⟩
  · exact ⟨l1, ok_str _⟩
  · exact ⟨l2, ok_str _⟩
  · exact ⟨by show List.length _ ≤ _; decide +kernel, by decide +kernel⟩
  · refine ⟨⟨?_, rfl, by simp [PyData.depth, PyData.depthAll], ?_⟩, ?_⟩
    · show (PyData.showable (.str "a") && (decide (n.natAbs.log2 < 1920) && true)) = true
      rw [decide_eq_true l1, show PyData.showable (.str "a") = true by decide +kernel]
      rfl
    · have := tupleText_len_le (PyData.shownAll [.str "a", .int n])
      have e : PyData.shownAll [.str "a", .int n] = [reprText "a", Str.ofString (toString n)] := rfl
      show (tupleText (PyData.shownAll [.str "a", .int n])).length ≤ sizeLine
      rw [e] at this ⊢
      have r : (reprText "a").length = 3 := by decide +kernel
      simp only [List.map_cons, List.map_nil, List.sum_cons, List.sum_nil, List.length_cons, List.length_nil, r] at this
      rw [sizeLine_eq]
      omega
    · show PyData.strOk (tupleText [reprText "a", Str.ofString (toString n)]) = true
      refine ok_app (ok_app (by decide +kernel) ?_) (show PyData.strOk (Str.ofString ")") = true by decide +kernel)
      exact ok_app (ok_app (by decide +kernel) (by decide +kernel)) (ok_str _)
  · exact ⟨⟨by decide +kernel, by decide +kernel, by decide +kernel, by decide +kernel⟩, by decide +kernel⟩
  · exact ⟨by show List.length _ ≤ _; decide +kernel, by decide +kernel⟩
  · exact ⟨trivial, by decide +kernel⟩
  · exact ⟨trivial, by decide +kernel⟩
  · exact ⟨by show _ < _; decide +kernel, by decide +kernel⟩
end Q13
/-! the law -/
namespace Q13
open PySem PySem.Spec PyProof.Rows L2 Z Evl
def spLaw (K : PySem.W.Frag) : Sp := fun vs H Q _ => ∃ (a : Addr) (ns : List Int), vs = [.ref a] ∧ SqL K H a (ns.map V.int) ∧ ns.length ≤ 1000 ∧ ∀ H', Q (.bl true) H'
abbrev s_law : Stmt := top 32
abbrev N_law : List Str := ["_law_script", "_law_k", "_law_pool_here", "_law_number", "_law_one", "_law_some", "_law_at", "_law_error", "_law_fields_here", "_law_other", "_law_field"]
theorem sc_law : FnScope N_law ["_law_script"] (defScope s_law) := ⟨rfl, rfl, rfl, by decide +kernel, rfl, by decide +kernel, by decide +kernel⟩
theorem start_law {v : V} : start N_law [v] = [some v, none, none, none, none, none, none, none, none, none, none] := rfl
section
variable {K : PySem.W.Frag} {p : Me} {σ : L2.St} {H A : Hp} {D : Ends} {tu : TS} {ca fa : Str → Addr} {P : Program} {mg : Str → Option Value}
/-- for i, x in enumerate(l), l a list of values -/
theorem s_forEV {a b : Nat} {ta : TA} {Pl : List (V → Hp → Prop)} (m : ∀ P ∈ Pl, Mono P) (h : EvA p ta σ H fun vs H' => ∃ x, vs = [x] ∧ LoV Pl x H') (R : Reg p H A) (I : Iv) (h0 : ∀ A1 H1, Gr p A H A1 H1 → I 0 σ A1 H1 p.own)
    (hs : ∀ H1, Ex H H1 → ∀ (i : Nat) P v σ' A' A2 H' w, Pl[i]? = some P → I i σ' A' H' w → Ex H1 H' → Gr ⟨p.pool, w⟩ A' H' A2 H' → Reg ⟨p.pool, w⟩ H' A2 → P v H' → tu { D with nx := Nx p (I (i + 1)) H1, ct := Nx p (I (i + 1)) H1, bk := D.nx } ((σ'.set a (some (.int i))).set b (some v)) A2)
    (hd : ∀ σ' A' H' w, I Pl.length σ' A' H' w → Ex H H' → Reg ⟨p.pool, w⟩ H' A' → D.nx σ' A') : tFor (iEnum K ta) (gTup K 2 (gCons (gName a) (gCons (gName b) gNil))) tu D σ A := h A R _ fun us A1 H1 g1 k1 => by
  obtain ⟨v0, rfl, t, xs, rfl, sq, el⟩ := k1
  have R1 := g1.to R
  have ln := el.1
  refine ⟨t, xs, rfl, sq_of (R1.ex _ _ sq), loop_w (walk_enum (K := K) (a := t) (xs := xs)) I R1 (fun H' A' w e r => sq_of ((e.trans r.ex) _ _ sq)) (h0 A1 H1 g1) ?_ ?_⟩
  · rintro i x σ' A' A2 H' w hi hI e r ⟨T, y1, y2, rfl, nT, rfl, e1, e2⟩
    cases e1
    have hi' : i < Pl.length := by omega
    have e3 : xs[i]? = some y2 := e2
    have g := Gr.allocM r (o := .tup [.int (i : Int), y2]) nT
    refine gtup2 upd_same ?_
    exact hs H1 g1.reg i _ y2 σ' A' _ H' w (List.getElem?_eq_getElem hi') hI e g (g.to r) (m _ (List.getElem_mem hi') _ _ _ e (el.2 i _ y2 (List.getElem?_eq_getElem hi') e3))
  · intro σ' A' H' w hI e r
    rw [ln] at hI
    exact hd σ' A' H' w hI (g1.reg.trans e) r
end
end Q13
namespace Q13
open PySem PySem.Spec PyProof.Rows L2 Z Evl
section
variable {K : PySem.W.Frag} {p : Me} {σ : L2.St} {H A : Hp} {ca fa : Str → Addr} {P : Program} {mg : Str → Option Value}
abbrev powT (a b : Int) : TE := tOp (rI CPow fun i j => V.int (i ^ j.toNat)) (tC (.int a)) (tC (.int b))
theorem pow9 : EvD K p (powT 10 9) σ H (.int 1000000000) := d_op (K := K) d_int d_int (o_I (C := CPow) (f := fun i j => i ^ j.toNat) ⟨by decide, by decide, by decide⟩)
theorem pow50 : EvD K p (powT 10 50) σ H (.int (10 ^ 50)) := d_op (K := K) d_int d_int (o_I (C := CPow) (f := fun i j => i ^ j.toNat) ⟨by decide, by decide, by decide⟩)
theorem num_ev {q : Addr} {i : Nat} (hs : σ[i]? = some (some (.ref q))) : EvG ⟨some q, fun _ => none⟩ (tCall (takeS K) [] E0 (tCons (tVar i) (tCons (powT 10 9) tNil))) σ H fun v _ => ∃ r : Int, v = .int r ∧ 0 ≤ r ∧ r < 1000000000 := fun A R Q k =>
  ⟨.ref q, hs, (pow9 (K := K)) A R _ fun y A1 H1 g1 k1 => by
    cases k1
    exact ⟨H1, q, _, 1000000000, rfl, g1.to R, by decide, by decide, fun r A' H' g h0 h1 => k _ A' H' (g1.trans g) ⟨r, rfl, h0, h1⟩⟩⟩
theorem pick {n : Int} {r : Int} (r0 : 0 ≤ r) (r1 : r < 10) : ∃ d, atI (ones n) r = some d ∧ d ∈ ones n := by
  obtain ⟨m, rfl⟩ : ∃ m : Nat, r = (m : Int) := ⟨r.toNat, by omega⟩
  have : m = 0 ∨ m = 1 ∨ m = 2 ∨ m = 3 ∨ m = 4 ∨ m = 5 ∨ m = 6 ∨ m = 7 ∨ m = 8 ∨ m = 9 := by omega
  rcases this with rfl | rfl | rfl | rfl | rfl | rfl | rfl | rfl | rfl | rfl <;> exact ⟨_, rfl, by simp [ones]⟩
theorem one_ev {q : Addr} {n : Int} {tl : TE} (hs : σ[2]? = some (some (.ref q))) (hl : EvD K ⟨some q, fun _ => none⟩ tl σ H (.list (ones n))) : EvG ⟨some q, fun _ => none⟩ (tOp (rIx K) tl (tCall (takeS K) [] E0 (tCons (tVar 2) (tCons (tC (.int 10)) tNil)))) σ H fun v H' => ∃ d, d ∈ ones n ∧ Dq K H' v d := fun A R Q k =>
  hl A R _ fun x A1 H1 g1 k1 => take_ev (K := K) (m := 10) hs (by decide) (by decide) A1 (g1.to R) _ fun y A2 H2 g2 ⟨r, er, r0, r1⟩ => by
    subst er
    have R2 := g2.to (g1.to R)
    obtain ⟨a, xs, rfl, h1, h2⟩ := dq_inv_l (dq_ex g2.reg _ _ k1)
    obtain ⟨d, e1, e2⟩ := pick (n := n) r0 r1
    obtain ⟨v, hv, kv⟩ := dqall_at h2 e1
    exact .inl ⟨a, xs, r, v, rfl, rfl, sq_of (R2.ex _ _ h1), hv, k v A2 H2 (g1.trans g2) ⟨d, e2, kv⟩⟩
/-! lists of bools, of texts -/
theorem lay_bools : ∀ bs : List Bool, PyData.canLayAll0 (bs.map .bool) = true ∧ PyData.depthAll (bs.map .bool) = 0
  | [] => ⟨rfl, rfl⟩
  | b :: bs => by
    obtain ⟨h1, h2⟩ := lay_bools bs
    refine ⟨?_, ?_⟩
    · show (true && PyData.canLayAll0 (bs.map .bool)) = true
      rw [h1]; rfl
    · show max 0 (PyData.depthAll (bs.map .bool)) = 0
      rw [h2]; rfl
theorem lay_strs {s : Str} (h : PyData.strOk s = true) : ∀ n : Nat, PyData.canLayAll0 (List.replicate n (.str s)) = true ∧ PyData.depthAll (List.replicate n (.str s)) = 0
  | 0 => ⟨rfl, rfl⟩
  | n + 1 => by
    obtain ⟨h1, h2⟩ := lay_strs h n
    rw [List.replicate_succ]
    refine ⟨?_, ?_⟩
    · show (PyData.strOk s && PyData.canLayAll0 (List.replicate n (.str s))) = true
      rw [h, h1]; rfl
    · show max 0 (PyData.depthAll (List.replicate n (.str s))) = 0
      rw [h2]; rfl
theorem ne_same {ds : List PyData} (h1 : PyData.canLayAll0 ds = true) (h2 : PyData.depthAll ds = 0) : OpD K p (rNeD K) (.list ds) (.list ds) (.bool false) := by
  have sh : SeqAt.shaped (.list ds) = true := by
    show (PyData.canLayAll0 ds && decide (PyData.depthAll ds + 1 ≤ 64)) = true
    rw [h1, h2]; rfl
  have o := o_neD (K := K) (p := p) sh sh
  rw [SeqAt.eqv_refl (.list ds) h1] at o
  exact o
theorem at_ct {m : Nat} {R : V → Hp → Prop} {d : PyData} (h : (evs K ca d CT)[m]? = some R) : ∃ c, CT[m]? = some c ∧ R = ErV K (ca c.1) c.2 d := by
  rw [List.getElem?_map] at h
  cases e : CT[m]? with
  | none => rw [e] at h; cases h
  | some c =>
    rw [e] at h
    exact ⟨c, rfl, (Option.some.inj h).symm⟩
end
section
variable {P : Program} {w : World} {K : PySem.W.Frag} {mg : Str → Option Value} {base : Heap} {ca fa : Str → Addr}
theorem ok_law {f : Addr} {fd : FuncData} (F : FnP K "law" s_law f fd) (B : Bs mg) (m_repr : mg "repr" = none) (S : Cs P K mg ca fa)
    (D_pool : Dn P w K mg base CX0 1 "_law_pool" ["_law_script", "_law_k"] (poolS K)) (D_take : Dn P w K mg base CX0 1 "_law_take" ["_law_pool_here", "_law_wide"] (takeS K))
    (D_made : Dn P w K mg base CX0 1 "_law_made" ["_law_one"] (SpG (F_made K ca))) (D_named : Dn P w K mg base CX0 1 "_law_named" ["_law_one"] (SpG (F_made K ca))) (D_fields : Dn P w K mg base CX0 1 "_law_fields" ["_law_some"] (SpG (F_fields K ca)))
    (D_kinds : Dn P w K mg base CX0 1 "_law_kinds" ["_law_e"] (SpG (F_kinds K ca))) (D_bases : Dn P w K mg base CX0 1 "_law_bases" ["_law_e"] (SpG (F_bases K ca))) (D_raised : DnG P w K mg base 1 "_law_raised" ["_law_one"] (SpG (F_raised K))) : FnG P w K mg base 4 f fd ["_law_script"] (spLaw K) := by
  refine fnG_of F sc_law (fun vs H Q E h => by obtain ⟨_, _, rfl, _⟩ := h; rfl) (fun cdv A outer s H vs Q E gd hr h => ⟨_, PSs.nox (pss_cons (ps_for PassesOwn.never rfl (pi_range1 (by rfl) B.range (pa_cons (pe_callB (call_max2 rfl) (by rfl) B.max (by decide +kernel) (pa_cons pe_int (pa_cons (pe_callB (call_min2 rfl) (by rfl) B.min (by decide +kernel) (pa_cons (pe_callB call_len_seq (by rfl) B.len (by decide +kernel) (pa_cons (pv 0) pa_nil)) (pa_cons pe_int pa_nil))) pa_nil))) pa_nil)) (pg_name (i := 1) sc_law.nd rfl (Or.inl rfl)) (pss_cons (ps_set (i := 2) sc_law.nd rfl (Or.inl rfl) (pe_cd D_pool hr (by decide) rfl (pa_cons (pv 0) (pa_cons (pv 1) pa_nil))))
    (pss_cons (ps_set (i := 3) sc_law.nd rfl (Or.inl rfl) (pe_cd D_take hr (by decide) rfl (pa_cons (pv 2) (pa_cons (pe_op op_pow pe_int pe_int) pa_nil))))
    (pss_cons (ps_set (i := 4) sc_law.nd rfl (Or.inl rfl) (pe_ix (ix_K (K := K) rfl) (pe_lst (pa_cons pe_non (pa_cons (pv 3) (pa_cons (pe_un un_neg (pv 3)) (pa_cons pe_str (pa_cons (pe_tup (pa_cons pe_str (pa_cons (pv 3) pa_nil))) (pa_cons (pe_lst (pa_cons pe_str pa_nil)) (pa_cons pe_str (pa_cons pe_bl (pa_cons pe_dnewK (pa_cons (pe_op op_pow pe_int pe_int) pa_nil))))))))))) (pe_cd D_take hr (by decide) rfl (pa_cons (pv 2) (pa_cons pe_int pa_nil))) (fun _ _ => rfl)))
    (pss_cons (ps_set (i := 5) sc_law.nd rfl (Or.inl rfl) (pe_cd D_made hr (by decide) rfl (pa_cons (pv 4) pa_nil)))
    (pss_cons (ps_for PassesOwn.never rfl (pi_enum (by rfl) B.enumerate (pa_cons (pv 5) pa_nil)) (pg_tup rfl (pgs_cons (pg_name (i := 6) sc_law.nd rfl (Or.inr rfl)) (pgs_cons (pg_name (i := 7) sc_law.nd rfl (Or.inl rfl)) pgs_nil))) (pss_cons (ps_if (pt_cmpR (op_neDK (K := K) rfl (Nat.lt_of_le_of_lt (Nat.add_le_add_left (by decide : 64 ≤ 64) _) hr.units)) (pe_cd D_kinds hr (by decide) rfl (pa_cons (pv 7) pa_nil)) (pe_lc (own := [("_law_other", 9)]) (g := gName 9) (tt := tYes) rfl sc_law.nd (pi_range1 (by rfl) B.range (pa_cons pe_int pa_nil)) (blkOk_by (N := N_law) (sc := defScope s_law) (by decide +kernel)) (fun _ _ _ _ _ => (pg_name (i := 9) sc_law.nd rfl (Or.inl rfl))) (fun _ _ _ _ _ => pts_nil) (fun _ _ _ _ _ => (pe_cmpR op_eq (pv 6) (pv 9) (nomark _)))) (nomark _)) (pss_one (ps_ret pe_bl)) pss_nil)
    (pss_one (ps_if (pt_cmpR (op_neDK (K := K) rfl (Nat.lt_of_le_of_lt (Nat.add_le_add_left (by decide : 64 ≤ 64) _) hr.units)) (pe_cd D_bases hr (by decide) rfl (pa_cons (pv 7) pa_nil)) (pe_lst (pa_cons (pe_cmpR op_lt (pv 6) pe_int (nomark _)) (pa_cons (pe_cmpR op_lt (pv 6) pe_int (nomark _)) (pa_cons (pe_cmpR op_eq (pv 6) pe_int (nomark _)) (pa_cons (pe_cmpR op_eq (pv 6) pe_int (nomark _)) pa_nil))))) (nomark _)) (pss_one (ps_ret pe_bl)) pss_nil))))
    (pss_cons (ps_set (i := 8) sc_law.nd rfl (Or.inl rfl) (pe_op op_cat (pe_cd D_fields hr (by decide) rfl (pa_cons (pv 5) pa_nil)) (pe_cd D_fields hr (by decide) rfl (pa_cons (pe_cd D_named hr (by decide) rfl (pa_cons (pv 4) pa_nil)) pa_nil))))
    (pss_one (ps_if (PW.pt (pw_or (pt_cmpR (op_neDK (K := K) rfl (Nat.lt_of_le_of_lt (Nat.add_le_add_left (by decide : 64 ≤ 64) _) hr.units)) (pe_lc (own := [("_law_field", 10)]) (g := gName 10) (tt := tYes) rfl sc_law.nd (pi_list (pv 8)) (blkOk_by (N := N_law) (sc := defScope s_law) (by decide +kernel)) (fun _ _ _ _ _ => (pg_name (i := 10) sc_law.nd rfl (Or.inl rfl))) (fun _ _ _ _ _ => pts_nil) (fun _ _ _ _ _ => (pe_callB (cr_reprAK (K := K) rfl gd (Nat.lt_of_le_of_lt (Nat.add_le_add_left (by decide : 64 ≤ 64) _) hr.units)) (by rfl) m_repr (by decide +kernel) (pa_cons (pv 10) pa_nil)))) (pe_op op_rep (pe_lst (pa_cons (pe_callB (cr_reprAK (K := K) rfl gd (Nat.lt_of_le_of_lt (Nat.add_le_add_left (by decide : 64 ≤ 64) _) hr.units)) (by rfl) m_repr (by decide +kernel) (pa_cons (pv 4) pa_nil)) pa_nil)) pe_int) (nomark _)) (pw_or1 (pt_cmpR op_ne (pe_cdG D_raised hr gd (by decide) rfl (pa_cons (pv 4) pa_nil)) (pe_callB (cr_reprAK (K := K) rfl gd (Nat.lt_of_le_of_lt (Nat.add_le_add_left (by decide : 64 ≤ 64) _) hr.units)) (by rfl) m_repr (by decide +kernel) (pa_cons (pv 4) pa_nil)) (nomark _))))) (pss_one (ps_ret pe_bl)) pss_nil)))))))))
    (pss_one (ps_ret pe_bl))), ?_⟩)
  obtain ⟨sa, ns, rfl, hs, hn, q⟩ := h
  have R : Reg .non H H := ⟨Evl.Ex.refl H, (fun q h => nomatch h), (fun q h => nomatch h), (fun q o h => nomatch h), (fun q o h => nomatch h)⟩
  rw [start_law]
  have hturns : ∃ N : Int, N = (if (if (6 : Int) < (ns.length : Nat) then (6 : Int) else (ns.length : Nat)) > 1 then (if (6 : Int) < (ns.length : Nat) then (6 : Int) else (ns.length : Nat)) else 1) ∧ 1 ≤ N ∧ N ≤ 6 := ⟨_, rfl, by split <;> omega, by split <;> (try split) <;> omega⟩
  obtain ⟨N, hN, hN1, hN8⟩ := hturns
  refine s_forR (K := K) (n := N) (s_cons (d_cb (d := .int N) (s_cons d_int (s_cons (d_cb (s_cons (d_lenS rfl hs) (s_cons d_int s_nil)) (c_min2 (K := K))) s_nil)) (by rw [hN]; exact c_max2)) s_nil) (by omega) R
    (fun i σ' A' H' w => (∃ y1 y2 y3 y4 y5 y6 y7 y8 y9 y10, σ' = [some (.ref sa), y1, y2, y3, y4, y5, y6, y7, y8, y9, y10]) ∧ w = Me.non.own) (fun _ _ _ => ⟨⟨_, _, _, _, _, _, _, _, _, _, rfl⟩, rfl⟩) ?_ ?_
  · rintro H1 e1 i σ' A1 H1' w hi ⟨⟨y1, y2, y3, y4, y5, y6, y7, y8, y9, y10, rfl⟩, rfl⟩ ex R1
    -- the pool
    refine q_asgQ ⟨.ref sa, rfl, .int (i : Int), rfl, H1', sa, ns, i, R1, rfl, sql_ex (e1.trans ex) hs, by omega, fun qp pa pb A2 H2 g2 n1 n2 hq b0 b1 b2 => ?_⟩
    have R2 : Reg ⟨some qp, fun _ => none⟩ H2 A2 := by
      have r := g2.to R1
      refine ⟨r.ex, fun x hx => ?_, fun x hx => ?_, (fun q o h => nomatch h), (fun q o h => nomatch h)⟩
      · cases hx; exact ⟨pa, pb, hq, b0, b1, b2⟩
      · cases hx; exact n2
    -- what is drawn
    refine q_asg (num_ev (K := K) (i := 2) rfl) R2 fun v3 A3 H3 g3 k3 => ?_
    obtain ⟨n, rfl, n0, n9⟩ := k3
    have R3 := g3.to R2
    refine q_asg (one_ev (K := K) (n := n) rfl (d_lst (ds := ones n) (s_cons d_non (s_cons (d_var rfl (.int n)) (s_cons (d_un (d_var rfl (.int n)) u_neg) (s_cons d_str (s_cons (d_tup (s_cons d_str (s_cons (d_var rfl (.int n)) s_nil)) (by show 2 ≤ 100000; decide)) (s_cons (d_lst (s_cons d_str s_nil) (by show 1 ≤ 100000; decide)) (s_cons d_str (s_cons d_bl (s_cons d_dicN (s_cons pow50 s_nil)))))))))) (by show 10 ≤ 100000; decide))) R3 fun x A4 H4 g4 ⟨d, hd, kx⟩ => ?_
    have R4 := g4.to R3
    obtain ⟨sw, so⟩ := one_ok n0 n9 d hd
    have e14 : Evl.Ex H1' H4 := (g2.reg.trans g3.reg).trans g4.reg
    -- an error of each class
    refine q_asg (g_call (P := LoV (evs K ca d CT)) (F := F_made K ca) (a_one (Px := fun v H' => Dq K H' v d) (d_var rfl kx)) fun vs H' e ⟨y, h1, h2⟩ => ⟨d, y, h1, h2, rfl⟩) R4 fun som A5 H5 g5 k5 => ?_
    have R5 := g5.to R4
    have kx5 := dq_ex g5.reg _ _ kx
    -- their kinds
    refine s_forEV (D := { nx := _, rt := _, bk := _, ct := _ }) (K := K) (Pl := evs K ca d CT) (mono_evs CT) (a_one (g_in rfl (mono_lov (mono_evs CT)) k5)) R5
      (fun _ σ' A' H' w => (∃ z6 z7, σ' = [some (.ref sa), some (.int (i : Int)), some (.ref qp), some (.int n), some x, some som, z6, z7, y8, y9, y10]) ∧ w = fun _ => none) (fun _ _ _ => ⟨⟨_, _, rfl⟩, rfl⟩) ?_ ?_
    · rintro H6 e6 m Q6 er σ' A6 A6' H6' w hm ⟨⟨z6, z7, rfl⟩, rfl⟩ ex6 g6 R6 ke
      obtain ⟨c, hc, rfl⟩ := at_ct hm
      have kk := (g_call (E := E0) (p := ⟨some qp, fun _ => none⟩) (σ := [some (.ref sa), some (.int (i : Int)), some (.ref qp), some (.int n), some x, some som, some (.int (m : Int)), some er, y8, y9, y10]) (H := H6') (P := fun v H' => Dq K H' v (.list ((List.range 21).map fun j => .bool (decide (m = j))))) (F := F_kinds K ca) (a_one (Px := ErV K (ca c.1) c.2 d) (g_in (i := 7) rfl mono_er ke)) fun vs H' e ⟨y, h1, h2⟩ => ⟨d, y, m, c, h1, hc, h2, rfl⟩)
      have kl : EvD K ⟨some qp, fun _ => none⟩ (tLc (iRng1 (tCons (tC (.int 21)) tNil)) (gName 9) tYes (tOp rEq (tVar 6) (tVar 9)) [9]) [some (.ref sa), some (.int (i : Int)), some (.ref qp), some (.int n), some x, some som, some (.int (m : Int)), some er, y8, y9, y10] H6' (.list ((List.range 21).map fun j => .bool (decide (m = j)))) := by
        have h := d_lcR (K := K) (p := ⟨some qp, fun _ => none⟩) (σ := [some (.ref sa), some (.int (i : Int)), some (.ref qp), some (.int n), some x, some som, some (.int (m : Int)), some er, y8, y9, y10]) (H := H6') (j := 9) (vs := [9]) (ta := tCons (tC (.int 21)) tNil) (n := 21) (tt := tYes) (te := tOp rEq (tVar 6) (tVar 9)) (fun _ => true) (fun j => .bool (decide (m = j))) (s_cons d_int s_nil) (by decide) (fun _ => rfl) (fun _ _ _ _ => b_yes) (fun j _ H' e _ => by
          have o := d_op (K := K) (p := ⟨some qp, fun _ => none⟩) (H := H') (σ := [some (.ref sa), some (.int (i : Int)), some (.ref qp), some (.int n), some x, some som, some (.int (m : Int)), some er, y8, some (.int (j : Int)), y10]) (d_var (i := 6) rfl (.int (m : Int))) (d_var (i := 9) rfl (.int (j : Int))) o_eqI
          have e2 : decide ((m : Int) = (j : Int)) = decide (m = j) := decide_eq_decide.mpr Int.ofNat_inj
          rw [e2] at o
          exact o)
        have ef : (List.range (21 : Int).toNat).filter (fun _ => true) = List.range 21 := List.filter_eq_self.mpr fun _ _ => rfl
        rwa [ef] at h
      have lb := lay_bools ((List.range 21).map fun j => decide (m = j))
      rw [List.map_map] at lb
      refine q_when (b := false) (b_test (d_op kk kl (ne_same lb.1 lb.2))) R6 (fun z => nomatch z) fun _ A7 H7 g7 => ?_
      have R7 := g7.to R6
      have ke7 := mono_er _ _ _ g7.reg ke
      have kb := (g_call (E := E0) (p := ⟨some qp, fun _ => none⟩) (σ := [some (.ref sa), some (.int (i : Int)), some (.ref qp), some (.int n), some x, some som, some (.int (m : Int)), some er, y8, y9, y10]) (H := H7) (P := fun v H' => Dq K H' v (.list [.bool (decide (m < 19)), .bool (decide (m < 19)), .bool (decide (m = 19)), .bool (decide (m = 20))])) (F := F_bases K ca) (a_one (Px := ErV K (ca c.1) c.2 d) (g_in (i := 7) rfl mono_er ke7)) fun vs H' e ⟨y, h1, h2⟩ => ⟨d, y, m, c, h1, hc, h2, rfl⟩)
      have l19 : decide ((m : Int) < 19) = decide (m < 19) := decide_eq_decide.mpr (by omega)
      have q19 : decide ((m : Int) = 19) = decide (m = 19) := decide_eq_decide.mpr (by omega)
      have q20 : decide ((m : Int) = 20) = decide (m = 20) := decide_eq_decide.mpr (by omega)
      have kr := d_lst (K := K) (p := ⟨some qp, fun _ => none⟩) (H := H7) (σ := [some (.ref sa), some (.int (i : Int)), some (.ref qp), some (.int n), some x, some som, some (.int (m : Int)), some er, y8, y9, y10]) (s_cons (d_op (d_var (i := 6) rfl (.int (m : Int))) (d_int (i := 19)) o_lt) (s_cons (d_op (d_var (i := 6) rfl (.int (m : Int))) (d_int (i := 19)) o_lt) (s_cons (d_op (d_var (i := 6) rfl (.int (m : Int))) (d_int (i := 19)) o_eqI) (s_cons (d_op (d_var (i := 6) rfl (.int (m : Int))) (d_int (i := 20)) o_eqI) s_nil)))) (by show 4 ≤ 100000; decide)
      rw [l19, q19, q20] at kr
      have lc := lay_bools [decide (m < 19), decide (m < 19), decide (m = 19), decide (m = 20)]
      exact Z.s_if (b := false) (b_test (d_op kb kr (ne_same lc.1 lc.2))) R7 (fun z => nomatch z) fun _ A8 H8 g8 => ⟨H8, _, ⟨⟨_, _, rfl⟩, rfl⟩, (ex6.trans g7.reg).trans g8.reg, g8.to R7⟩
    rintro σ' A6 H6 w ⟨⟨z6, z7, rfl⟩, rfl⟩ e6 R6
    have k6 := mono_lov (mono_evs CT) _ _ _ e6 k5
    have kx6 := dq_ex e6 _ _ kx5
    -- their fields
    have f1 : ∀ (ta : TE) (σ : L2.St) (H : Hp), EvG ⟨some qp, fun _ => none⟩ ta σ H (LoV (evs K ca d CT)) → EvD K ⟨some qp, fun _ => none⟩ (tCall (SpG (F_fields K ca)) [] E0 (tCons ta tNil)) σ H (.list (List.replicate 21 d)) := fun ta σ H h => g_call (F := F_fields K ca) (a_one h) fun vs H' e ⟨y, h1, h2⟩ => ⟨d, y, h1, h2, rfl⟩
    refine q_asg (P := fun v H' => Dq K H' v (.list (List.replicate 42 d))) (d_op (f1 _ _ _ (g_in rfl (mono_lov (mono_evs CT)) k6)) (f1 _ _ _ (g_call (F := F_made K ca) (a_one (Px := fun v H' => Dq K H' v d) (d_var rfl kx6)) fun vs H' e ⟨y, h1, h2⟩ => ⟨d, y, h1, h2, rfl⟩)) (o_cat (ds := List.replicate 21 d) (es := List.replicate 21 d) (by show 42 ≤ 100000; decide))) R6 fun fv A7 H7 g7 k7 => ?_
    have R7 := g7.to R6
    have kx7 := dq_ex g7.reg _ _ kx6
    have ls := lay_strs so 42
    have kl : EvD K ⟨some qp, fun _ => none⟩ (tLc (iList K (tVar 8)) (gName 10) tYes (tCB (rReprA K) (tCons (tVar 10) tNil)) [10]) [some (.ref sa), some (.int (i : Int)), some (.ref qp), some (.int n), some x, some som, z6, z7, some fv, y9, y10] H7 (.list (List.replicate 42 (.str (showD d)))) := by
      have h := d_lcL (K := K) (p := ⟨some qp, fun _ => none⟩) (σ := [some (.ref sa), some (.int (i : Int)), some (.ref qp), some (.int n), some x, some som, z6, z7, some fv, y9, y10]) (H := H7) (j := 10) (vs := [10]) (tl := tVar 8) (tt := tYes) (te := tCB (rReprA K) (tCons (tVar 10) tNil)) (fun _ => true) (fun c => .str (showD c)) (d_var rfl k7) (by show 42 ≤ 60000; decide) (fun _ => rfl) (fun _ _ _ _ _ _ => b_yes) (fun c hc y H' e kc _ => by
        have ec := List.eq_of_mem_replicate hc
        subst ec
        exact d_cb (s_cons (d_var rfl kc) s_nil) (c_reprA sw))
      have ef : (List.replicate 42 d).filter (fun _ => true) = List.replicate 42 d := List.filter_eq_self.mpr fun _ _ => rfl
      rwa [ef, List.map_replicate] at h
    have rr := ne_same (K := K) (p := ⟨some qp, fun _ => none⟩) ls.1 ls.2
    have os := o_neS (K := K) (p := ⟨some qp, fun _ => none⟩) (a := showD d) (b := showD d)
    rw [decide_eq_true rfl] at os
    refine Z.s_if (b := false) ((b_or (a := false) (b_test (d_op kl (d_op (d_lst (s_cons (d_cb (s_cons (d_var rfl kx7) s_nil) (c_reprA sw)) s_nil) (by show 1 ≤ 100000; decide)) d_int (o_rep1 (n := 42) (by decide))) rr)) fun _ => b_test (d_op (dx := .str (showD d)) (dy := .str (showD d)) ((g_call (P := fun v _ => v = .str (showD d)) (F := F_raised K) (a_one (Px := fun v H' => Dq K H' v d) (d_var rfl kx7)) fun vs H' e ⟨y, h1, h2⟩ => ⟨d, y, h1, h2, sw, rfl⟩).imp fun v H' k => by subst k; exact .str _) (d_cb (s_cons (d_var rfl kx7) s_nil) (c_reprA sw)) os)).is rfl) R7 (fun z => nomatch z) fun _ A8 H8 g8 => ⟨H8, _, ⟨⟨_, _, _, _, _, _, _, _, _, _, rfl⟩, rfl⟩, ?_, (g8.to R7).nil⟩
    exact ((((ex.trans e14).trans g5.reg).trans e6).trans g7.reg).trans g8.reg
  · rintro σ' A1 H1' w ⟨⟨y1, y2, y3, y4, y5, y6, y7, y8, y9, y10, rfl⟩, rfl⟩ e R1
    exact q A1
end
end Q13
/-! what is known stays known where lambdas are made (tables of code objects are written then) -/
namespace Z
open PySem PySem.Spec PyProof.Rows L2 Evl LamX
/-- what is known but tables -/
def nt (H : Hp) : Hp := fun a => match H a with
  | some (.tbl _) => none
  | o => o
section
variable {K : PySem.W.Frag} {p : Me} {H H' A A' : Hp} {T : List (Addr × Str)}
theorem nt_ex : Ex (nt H) H := fun a o h => by
  unfold nt at h
  split at h
  · cases h
  · exact h
theorem nt_at {a : Addr} {o : HO} (h : H a = some o) (n : ∀ ps, o ≠ .tbl ps) : nt H a = some o := by
  unfold nt
  split
  · rename_i ps e
    rw [h] at e
    exact absurd (Option.some.inj e) (n ps)
  · exact h
theorem nt_no {a : Addr} {ps : Array Value} : nt H a ≠ some (.tbl ps) := fun h => by
  unfold nt at h
  split at h
  · cases h
  · rename_i q
    exact q ps h
theorem sqt_nt {a : Addr} {xs : List V} (h : SqT K H a xs) : SqT K (nt H) a xs := by
  rcases h with (h | ⟨o, h⟩) | h
  · exact .inl (.inl (nt_at h fun _ => by simp))
  · exact .inl (.inr ⟨o, nt_at h fun _ => by simp⟩)
  · exact .inr h
theorem dq_nt : ∀ (d : PyData) (v : V), Dq K H v d → Dq K (nt H) v d
  | .none, _, .non => .non
  | .bool _, _, .bl b => .bl b
  | .int _, _, .int i => .int i
  | .str _, _, .str x => .str x
  | .list ds, _, .lst h hs => .lst (nt_at h fun _ => by simp) (all ds _ hs)
  | .tuple ds, _, .tup h hs => .tup (sqt_nt h) (all ds _ hs)
  | .dict [], _, .dic h => .dic (nt_at h fun _ => by simp)
where
  all : ∀ (ds : List PyData) (vs : List V), DqAll K H vs ds → DqAll K (nt H) vs ds
  | [], _, .nil => .nil
  | d :: ds, _, .cons h hs => .cons (dq_nt d _ h) (all ds _ hs)
/-- a lambda was made -/
theorem Reg.lam (R : Reg p H A) (e : ExtN A A') (ho : ∀ q o, p.own q = some o → ∀ ps, o ≠ .tbl ps) : Reg p (nt H) A' := by
  have keep : Ex (nt H) A' := fun a o h => e a o (R.ex a o (nt_ex a o h)) fun ps z => by subst z; exact nt_no h
  refine ⟨keep, fun q hq => ?_, fun q hq => fresh_back nt_ex (R.off q hq), fun q o h => e q o (R.own q o h) (ho q o h), fun q o h => ⟨fresh_back nt_ex (R.offO q o h).1, (R.offO q o h).2⟩⟩
  obtain ⟨a, b, h, k⟩ := R.pool q hq
  exact ⟨a, b, e q _ h fun _ => by simp, k⟩
/-- the tables stay where an expression is evaluated -/
theorem tabs_gr (R : Reg p H A) (t : Tabs T A) (g : Gr p A H A' H') : Tabs T A' := fun q hq => by
  obtain ⟨ps, h1, h2, h3⟩ := t q hq
  have np : ∀ {b : Addr} {o : HO}, A b = some o → (∀ xs, o ≠ .lst xs) → p.pool ≠ some b := fun h n z => by
    obtain ⟨x, y, k, _⟩ := R.pool _ z
    rw [h] at k
    exact n _ (Option.some.inj k)
  refine ⟨ps, g.act _ _ (np h1 fun _ => by simp) h1, h2, fun pos cv hc => ?_⟩
  obtain ⟨c, e1, e2⟩ := h3 pos cv hc
  exact ⟨c, e1, g.act _ _ (np e2 fun xs z => by unfold CodeO at z; cases z) e2⟩
end
end Z
/-! an operator of one's own class that may raise; its right side an object of the class, or data -/
namespace Z
open PySem PySem.Spec PyProof.Rows L2 Evl
theorem sub_data {K : PySem.W.Frag} {C : Addr} {T : String} (h : T ∈ tysD) : PySem.W.subIn K (.type T) (.ref C) = some false := by
  have e : ∀ T ∈ tysD, ∃ l : List Value, PySem.fastBuiltinMro T = some l ∧ (l.all fun v => match v with | .type _ => true | _ => false) = true := by
    intro T hT
    unfold tysD at hT
    simp only [List.mem_cons, List.not_mem_nil, or_false] at hT
    rcases hT with rfl | rfl | rfl | rfl | rfl | rfl | rfl
    · exact ⟨[.type "NoneType", .type "object"], by decide +kernel, rfl⟩
    · exact ⟨[.type "bool", .type "int", .type "object"], by decide +kernel, rfl⟩
    · exact ⟨[.type "int", .type "object"], by decide +kernel, rfl⟩
    · exact ⟨[.type "str", .type "object"], by decide +kernel, rfl⟩
    · exact ⟨[.type "list", .type "object"], by decide +kernel, rfl⟩
    · exact ⟨[.type "tuple", .type "object"], by decide +kernel, rfl⟩
    · exact ⟨[.type "dict", .type "object"], by decide +kernel, rfl⟩
  obtain ⟨l, e1, e2⟩ := e T h
  show (PySem.fastBuiltinMro T).map (·.contains (.ref C)) = some false
  rw [e1]
  show some (l.contains (.ref C)) = some false
  congr 1
  rw [← Bool.not_eq_true, List.contains_iff_mem]
  intro z
  have := List.all_eq_true.mp e2 _ z
  cases this
section
variable {prog : Program} {w : World} {A : Around} {E : Value → Shared → Prop} {s : Shared} {K : PySem.W.Frag} {x C L f : Addr} {h0 : Heap} {m : Str → Option Value} {ox : Obj} {od : Option Obj} {T : String}
open PySem.W in
/-- o op b, b of a built-in type, told by what a look at the heap says -/
theorem bin_left {op : Operator} {b : Value} {fo ro : Option Value} {Q : Value → Shared → Prop} (fr : Fr h0 L s.heap m) (inK : K.In h0) (I : InstAt s.heap x ox C od) (hb : Looks (model prog w) s.heap (typeOf b) (.type T))
    (sf : selfFirst K C = true) (own : findIn K (.ref C) (PySem.dunder op.info.2) = some (some (.ref f))) (isf : isFn K (.ref f) = true) (nor : findIn K (.ref C) (dunderR op.info.2) = some none)
    (l1 : findIn K (.type T) (PySem.dunder op.info.2) = some fo) (l2 : findIn K (.type T) (dunderR op.info.2) = some ro) (ns : subIn K (.type T) (.ref C) = some false)
    (go : wpAny (model prog w) A (call (.ref f) [.ref x, b]) (PySem.W.CmpBack Q) E s) : wpAny (model prog w) A (binaryOp op (.ref x) b) Q E s := by
  have at0 := inK.keeps fr.keep
  obtain ⟨cd, rest, isC, mro⟩ := ksp_first sf
  rcases q : op.info with ⟨sy, n⟩
  rw [q] at own nor l1 l2
  dsimp only at own nor l1 l2
  have tried := ksp_try at0 I own isf go
  obtain ⟨hh, gg, dd, tt, os⟩ := s
  have k1 : Looks (model prog w) hh (typeOf (.ref x)) (.ref C) := I.type
  have k2 : Looks (model prog w) hh (typeOf b) (.type T) := hb
  have k3 : Looks (model prog w) hh (fillsNumberSlot (.ref C) n) true := fills_K at0 isC mro own
  have k4 := ksp_fillsT (M := model prog w) at0 l1 l2
  have k5 : Looks (model prog w) hh (isSubtype (.type T) (.ref C)) false := looks_subIn at0 ns
  have k6 : Looks (model prog w) hh (numberSlotInPython (.ref C) n) true := ksp_inPy at0 own nor (.inl rfl)
  have k7 : Looks (model prog w) hh (numberSlotInPython (.type T) n) false := Looks.of_pure rfl
  have k8 : Looks (model prog w) hh (typeLookup (.type T) (dunderR n)) ro := looks_findIn at0 l2
  generalize ((fo.isSome && !isSeqSlot fo) || (ro.isSome && !isSeqSlot ro)) = rt at k4
  have ne : (Value.ref C == Value.type T) = false := Bool.eq_false_iff.mpr fun z => by cases beq_iff_eq.mp z
  simp only [binaryOp, q]
  refine wpAny_holding (wpAny_bind ?_)
  unfold binaryOp1
  refine wpAny_bind (k1.at (wpAny_bind (k2.at (wpAny_bind (k3.at ?_)))))
  simp only [ne, Bool.false_eq_true, if_false]
  cases rt <;>
  · ksp_lk
    refine wpAny_mono tried (fun r s' z => ?_) fun _ _ z => z
    obtain ⟨v, rfl, z⟩ := z
    ksp_lk
    exact z
end
theorem or_look : ∀ T ∈ tysD, ∃ fo ro, PySem.fastLookup T "__or__" = some fo ∧ PySem.fastLookup T "__ror__" = some ro := by
  intro T hT
  unfold tysD at hT
  simp only [List.mem_cons, List.not_mem_nil, or_false] at hT
  rcases hT with rfl | rfl | rfl | rfl | rfl | rfl | rfl <;> exact ⟨_, _, rfl, rfl⟩
section
variable {X : Cx} {k k' : Nat} {C f : Addr} {ps : List Str} {sp : Sp} {E : XK} {fd : FuncData}
/-- o | y; y may be data -/
def rOrX (C : Addr) (K : PySem.W.Frag) (sp : Sp) (E : XK) : R2 := fun x y H Q => ∃ a dx fs, x = .ref a ∧ H a = some (.ins C dx fs) ∧ ((∃ b dy gs, y = .ref b ∧ H b = some (.ins C dy gs)) ∨ ∃ d, Dq K H y d) ∧ sp [.ref a, y] H Q E
theorem op_orX (sf : PySem.W.selfFirst X.K C = true) (hm : Meth X.K C "__or__" f) (nor : NoAttr X.K C "__ror__") (F : FnOk X.prog X.w X.K X.mg X.base (L2.CX X.prog X.w) k f fd ps sp) (hr : Room k X.A) (hb : Binds X.K fd ps []) (hx : Passes (L2.CX X.prog X.w) X E) : OpR X (binaryOp .BitOr) (rOrX C X.K sp E) := by
  intro pins s σ H x y v u Q I rx ry h
  obtain ⟨a, dx, fs, rfl, ha, hy, q⟩ := h
  cases rx
  obtain ⟨od, J⟩ := ins_look I ha
  obtain ⟨m, fr⟩ := I.fr
  have go : wpAny (model X.prog X.w) X.A (call (.ref f) [.ref a, u]) (PySem.W.CmpBack (EP X pins σ Q)) X.xe s :=
    wpAny_mono (run_fn (dvs := []) (ds := []) F hr hb .nil hx I (vs := [.ref a, y]) (.cons rfl (.cons ry .nil)) q) (fun u2 s1 z => by
      obtain ⟨v, H1, I1, rv, q1⟩ := z
      have hn := relv_ne rv
      cases u2 <;> first | exact ⟨v, H1, I1, rv, q1⟩ | exact (hn rfl).elim) fun _ _ e => e
  rcases hy with ⟨b, dy, gs, rfl, hb2⟩ | ⟨d, hd⟩
  · cases ry
    obtain ⟨oe, J2⟩ := ins_look I hb2
    exact PySem.W.binop_K fr I.ok.mod.kin J J2.type sf hm.at_ hm.fn go
  · obtain ⟨fo, ro, l1, l2⟩ := or_look _ (tyD_mem hd)
    exact bin_left (op := .BitOr) fr I.ok.mod.kin J (looks_data I hd ry) sf hm.at_ hm.fn nor l1 l2 (sub_data (tyD_mem hd)) go
theorem op_orXK {K : PySem.W.Frag} (hK : X.K = K) (sf : PySem.W.selfFirst K C = true) (hm : Meth K C "__or__" f) (nor : NoAttr K C "__ror__") (F : FnOk X.prog X.w K X.mg X.base (L2.CX X.prog X.w) k f fd ps sp) (hr : Room k X.A) (hb : Binds K fd ps []) (hx : Passes (L2.CX X.prog X.w) X E) : OpR X (binaryOp .BitOr) (rOrX C K sp E) := by
  subst hK
  exact op_orX sf hm nor F hr hb hx
end
end Z
/-! laws that hand lambdas on: what is known has no tables; walks; bodies that raise -/
namespace Z
open PySem PySem.Spec PyProof.Rows L2 Evl LamX
def NoT (H : Hp) : Prop := ∀ a ps, H a ≠ some (.tbl ps)
section
variable {K : PySem.W.Frag} {p : Me} {H H' A A' : Hp} {T : List (Addr × Str)} {σ : L2.St} {te ta tb tl : TE} {tu tz : TS} {D : Ends} {ds : List PyData}
theorem noT_nt : NoT (nt H) := fun a ps => nt_no
theorem ex_nt (e : Ex H H') (n : NoT H) : Ex H (nt H') := fun a o h => nt_at (e a o h) fun ps z => n a ps (by rw [h, z])
theorem nt_mono (e : Ex H H') : Ex (nt H) (nt H') := ex_nt (nt_ex.trans e) noT_nt
theorem sql_nt {a : Addr} {xs : List V} (h : SqL K H a xs) : SqL K (nt H) a xs := by
  rcases h with (h | ⟨o, h⟩) | h
  · exact .inl (.inl (nt_at h fun _ => by simp))
  · exact .inl (.inr ⟨o, nt_at h fun _ => by simp⟩)
  · exact .inr h
/-- at the start: all that is tracked but tables -/
theorem reg_nt (A : Hp) : Reg .non (nt A) A := ⟨nt_ex, (fun q h => nomatch h), (fun q h => nomatch h), (fun q o h => nomatch h), (fun q o h => nomatch h)⟩
theorem tabs_nil {cs : List (Addr × Str)} (h : ∀ q ∈ cs, A q.1 = some (.tbl #[])) : Tabs cs A := fun q hq => TabS.nil (h q hq)
/-- over a list, what is known having no tables -/
theorem s_forLn {j : Nat} (h : EvD K p tl σ H (.list ds)) (R : Reg p H A) (I : Iv) (h0 : ∀ A1 H1, Gr p A H A1 H1 → I 0 σ A1 (nt H1) p.own)
    (hs : ∀ H1, NoT H1 → Ex (nt H) H1 → ∀ i d v σ' A' H' w, ds[i]? = some d → I i σ' A' H' w → Ex H1 H' → Reg ⟨p.pool, w⟩ H' A' → Dq K H' v d → tu { D with nx := Nx p (I (i + 1)) H1, ct := Nx p (I (i + 1)) H1, bk := D.nx } (σ'.set j (some v)) A')
    (hd : ∀ σ' A' H' w, I ds.length σ' A' H' w → Ex (nt H) H' → Reg ⟨p.pool, w⟩ H' A' → D.nx σ' A') : tFor (iList K tl) (gName j) tu D σ A := h A R _ fun v A1 H1 g1 k1 => by
  obtain ⟨a, xs, rfl, sq, el⟩ := dq_inv_l (dq_nt _ _ k1)
  have R1 : Reg p (nt H1) A1 := (g1.to R).less nt_ex
  have ln := dqall_len el
  refine ⟨a, rfl, ⟨xs, sq_of (R1.ex _ _ sq)⟩, loop_w (walk_list (K := K) (a := a) (xs := xs)) I R1 (fun H' A' w e r => sq_of ((e.trans r.ex) _ _ sq)) (h0 A1 H1 g1) ?_ ?_⟩
  · rintro i x σ' A' A2 H' w hi hI e r ⟨rfl, hx⟩
    have hi' : i < ds.length := by omega
    obtain ⟨v, hv, kv⟩ := dqall_get el (List.getElem?_eq_getElem hi')
    rw [hx] at hv
    cases hv
    exact hs (nt H1) noT_nt (nt_mono g1.reg) i _ x σ' A2 H' w (List.getElem?_eq_getElem hi') hI e r (dq_ex e _ _ kv)
  · intro σ' A' H' w hI e r
    rw [ln] at hI
    exact hd σ' A' H' w hI ((nt_mono g1.reg).trans e) r
/-- over range(n), likewise -/
theorem s_forRn {tr : TA} {j : Nat} {n : Int} (h : EvS K p tr σ H [.int n]) (hn : -1000000 ≤ n ∧ n ≤ 1000000) (R : Reg p H A) (I : Iv) (h0 : ∀ A1 H1, Gr p A H A1 H1 → I 0 σ A1 (nt H1) p.own)
    (hs : ∀ H1, NoT H1 → Ex (nt H) H1 → ∀ (i : Nat) σ' A' H' w, (i : Int) < n → I i σ' A' H' w → Ex H1 H' → Reg ⟨p.pool, w⟩ H' A' → tu { D with nx := Nx p (I (i + 1)) H1, ct := Nx p (I (i + 1)) H1, bk := D.nx } (σ'.set j (some (.int (i : Int)))) A')
    (hd : ∀ σ' A' H' w, I n.toNat σ' A' H' w → Ex (nt H) H' → Reg ⟨p.pool, w⟩ H' A' → D.nx σ' A') : tFor (iRng1 tr) (gName j) tu D σ A := h A R _ fun vs A1 H1 g1 k1 => by
  cases k1 with | cons c1 c2 =>
  cases c2
  cases c1
  have R1 : Reg p (nt H1) A1 := (g1.to R).less nt_ex
  refine ⟨_, rfl, by omega, by omega, loop_w (walk_range (lo := 0) (n := n.toNat)) I R1 (fun H' A' w e r => trivial) (h0 A1 H1 g1) ?_ ?_⟩
  · rintro i x σ' A' A2 H' w hi hI e r ⟨rfl, rfl⟩
    have e0 : (0 : Int) + (i : Int) = (i : Int) := Int.zero_add _
    show tu _ (σ'.set j (some (.int ((0 : Int) + (i : Int))))) A2
    rw [e0]
    exact hs (nt H1) noT_nt (nt_mono g1.reg) i σ' A2 H' w (by omega) hI e r
  · intro σ' A' H' w hI e r
    exact hd σ' A' H' w hI ((nt_mono g1.reg).trans e) r
/-! bodies that raise C, the field of P -/
def Rz (C : Addr) (fld : Str) (p : Me) (tb : XK → TE) (σ : L2.St) (H : Hp) (P : V → Hp → Prop) : Prop := ∀ A, Reg p H A → ∀ (E : XK) (Q : VK), (∀ v dd A' H', Gr p A H A' H' → H' dd = some (.xd [(fld, v)]) → P v H' → E (.ref C) (some dd) A') → tb E σ A Q
variable {C Ce : Addr} {fld : Str} {F : List V → Hp → (V → Hp → Prop) → Prop} {P Px Py : V → Hp → Prop} {t : TA} {Pa : List V → Hp → Prop}
theorem rz_call (h : EvA p t σ H Pa) (hF : ∀ vs H', Ex H H' → Pa vs H' → F vs H' P) : Rz Ce fld p (fun E => tCallS (SpR Ce fld F) (WE fun cls d _ H => E cls d H) t) σ H P := fun A R E Q k =>
  h A R _ fun vs A1 H1 g1 k1 => by
    have R1 := g1.to R
    exact ⟨H1, P, R1.nil, hF vs H1 g1.reg k1, fun v dd A2 H2 g2 e2 k2 => k v dd A2 H2 (g1.trans (g2.pure R1)) e2 k2⟩
theorem rz_make (h : EvA p t σ H Pa) (ma : ∀ vs H1 H2, Ex H1 H2 → Pa vs H1 → Pa vs H2) (hF : ∀ vs H', Ex H H' → Pa vs H' → F vs H' P) : Rz Ce fld p (fun E => tMake C (SpRI C Ce fld F) [] E t) σ H P := fun A R E Q k =>
  h A R _ fun vs A1 H1 g1 k1 x dx hx hdx ne => by
    have R1 := g1.to R
    have gd := Gr.alloc R1.nil (o := .own x) hdx
    have Rd := gd.to R1.nil
    have hx2 : upd A1 dx (.own x) x = none := by rw [upd_ne (fun z => ne z.symm)]; exact hx
    have gx := Gr.allocM Rd (o := .ins C dx []) hx2
    rw [List.append_nil]
    exact ⟨upd H1 dx (.own x), x, dx, vs, P, rfl, Reg.one Rd hx2, hF vs _ (g1.reg.trans gd.reg) (ma _ _ _ gd.reg k1), fun v dd A' H' r e last hd pv => k v dd A' H' (g1.trans ((last A1 H1 hx (gd.trans gx)).pure R1)) hd pv⟩
theorem rz_meth {m : Str} (hx : EvG p ta σ H Px) (mx : Mono Px) (iso : ∀ v H, Px v H → ∃ a dx fs, v = .ref a ∧ H a = some (.ins C dx fs) ∧ fs.lookup m = none) (hy : EvG p tb σ H Py) (my : Mono Py) (hF : ∀ x y H', Ex H H' → Px x H' → Py y H' → F [x, y] H' P) :
    Rz Ce fld p (fun E => tMeth C m (SpR Ce fld F) [] E ta (tCons tb tNil)) σ H P := fun A R E Q k => hx A R _ fun v A1 H1 g1 k1 => by
  obtain ⟨a, dx, fs, rfl, ha, hl⟩ := iso v H1 k1
  have R1 := g1.to R
  refine ⟨a, dx, fs, rfl, R1.ex _ _ ha, hl, (hy.monoP my g1.reg) A1 R1 _ fun y A2 H2 g2 k2 => ?_⟩
  have R2 := g2.to R1
  exact ⟨H2, P, R2.nil, hF _ y H2 (g1.reg.trans g2.reg) (mx _ _ _ g2.reg k1) k2, fun v dd A3 H3 g3 e3 k3 => k v dd A3 H3 ((g1.trans g2).trans (g3.pure R2)) e3 k3⟩
theorem rz_or (hx : EvG p ta σ H Px) (mx : Mono Px) (iso : ∀ v H, Px v H → IsO C v H) (hy : EvG p tb σ H Py) (my : Mono Py) (isy : ∀ v H, Py v H → IsO C v H ∨ ∃ d, Dq K H v d) (hF : ∀ x y H', Ex H H' → Px x H' → Py y H' → F [x, y] H' P) :
    Rz Ce fld p (fun E => tOp (rOrX C K (SpR Ce fld F) E) ta tb) σ H P := fun A R E Q k => hx A R _ fun x A1 H1 g1 k1 => (hy.monoP my g1.reg) A1 (g1.to R) _ fun y A2 H2 g2 k2 => by
  have R2 := g2.to (g1.to R)
  have kx := mx _ _ _ g2.reg k1
  obtain ⟨a, dx, fs, rfl, ha⟩ := iso x H2 kx
  refine ⟨a, dx, fs, rfl, R2.ex _ _ ha, ?_, H2, P, R2.nil, hF _ y H2 (g1.reg.trans g2.reg) kx k2, fun v dd A3 H3 g3 e3 k3 => k v dd A3 H3 ((g1.trans g2).trans (g3.pure R2)) e3 k3⟩
  rcases isy y H2 k2 with ⟨b, dy, gs, h1, h2⟩ | ⟨d, h1⟩
  · exact .inl ⟨b, dy, gs, h1, R2.ex _ _ h2⟩
  · exact .inr ⟨d, dq_ex R2.ex _ _ h1⟩
/-- what is known is handed on as it is -/
theorem g_val {v : V} (mp : Mono P) (k : P v H) : EvG p (fun σ H Q => Q v H) σ H P := fun A R Q q => q v A H R.refl k
end
/-! an error raised in a lambda's body -/
theorem takes_lam {X : Cx} {A : Around} {outer : List Env} {s : Shared} {H : Hp} {E : XK} {scope : Scope} {f c' : Addr} : Takes (lamCx X A outer s H E scope f c') (fun cls d _ H => E cls d H) := takes_of rfl rfl rfl rfl
theorem pass_lam {X : Cx} {A : Around} {outer : List Env} {s : Shared} {H : Hp} {E : XK} {scope : Scope} {f c' : Addr} : Passes (L2.CX X.prog X.w) (lamCx X A outer s H E scope f c') E := passes_call takes_lam fun _ _ _ _ h => h
end Z
/-! a law whose defs have tables (lambdas): its def, its end, the head's facts -/
namespace Z
open PySem PySem.Spec PyProof.Rows L2 Evl LamX
/-- as fnG_of; the def's own code object is told -/
theorem fnG_ofC {P : Program} {w : World} {K : PySem.W.Frag} {mg : Str → Option Value} {base : Heap} {x qual : Str} {params : Arguments} {body : List Stmt} {scope : Scope} {dvs : List V} {kws : List (Str × V)} {f : Addr} {fd : FuncData} {N ps : List Str} {k : Nat} {sp : Sp} (F : FunD K x qual params body scope dvs kws f fd) (S : FnScope N ps scope)
    (ln : ∀ vs H Q E, sp vs H Q E → vs.length = ps.length)
    (hB : ∀ (A : Around) (outer : List Env) (s : Shared) (H : Hp) (vs : List V) (Q : VK) (E : XK), A.guards = some [] → Room k (A.deeper (envOfC qual scope s.heap.objs.size f fd.code)) → sp vs H Q E →
      ∃ t, PSs (cxOf CX0 P w K mg base N qual scope f fd.code A outer s H E) body t ∧ t { nx := fun _ G => Q .non G, rt := Q } (start N vs) H) : FnG P w K mg base (k + 1) f fd ps sp := by
  obtain ⟨oc, od, dV, kV, doc, pm, an, cdv, ct, osl, rfl, lk, cd, _, _⟩ := F.ex
  refine ⟨ln, fun A outer s H args us vs Q E gd room env bnd rv promise => ?_⟩
  have lenV := ln _ _ _ _ promise
  have inK : K.In s.heap := env.mod.kin.keeps (fun b o z => (env.bs b o z).1)
  have noL : s.heap.NoLimit := env.mod.nolimit.keeps (fun b o z => (env.bs b o z).1)
  have kinds : ∀ y ∈ ps.zip us, scope.names.lookup y.1 = some .local ∨ (scope.names.lookup y.1 = some .cell ∧ ((cellsFrom (s.heap.objs.size + 1) scope.names []).lookup y.1).isSome = true) := by
    rintro ⟨n, v⟩ hy
    cases S.par n (List.of_mem_zip hy).1 with
    | inl z => exact .inl z
    | inr z => exact .inr ⟨z, PySem.W.cellsFrom_some _ _ _ (.inl z)⟩
  refine codeAny_call_function room.depth (inK _ _ lk) rfl S.co S.gen rfl (PySem.W.codeRec_of inK cd) (bnd _ _ _ _ (wpAny_newFunctionEnv_cells S.kind kinds ?_))
  intro e he s1 z
  cases he
  refine ⟨noL.keeps z.toInCall.keep, codeAny_func ?_⟩
  obtain ⟨t, ht, hq⟩ := hB A outer s H vs Q E gd (room.deeper _) promise
  have J0 := inv_start (N := N) S room.hd env lenV rv z (E := E) (CX := CX0)
  refine wpAny_mono (ht.run [] s1 (start N vs) H _ J0 hq) (fun fl s' hs => ?_) (fun _ _ hs => hs)
  cases fl with
  | ret u =>
    obtain ⟨v, σ', H', J, r, q⟩ := hs
    exact ⟨v, H', J.os, J.bare, J.base, J.hok, r, q⟩
  | next =>
    obtain ⟨σ', H', J, q⟩ := hs
    exact ⟨.non, H', J.os, J.bare, J.base, J.hok, rfl, q⟩
  | brk => exact hs.elim fun _ h => h.elim fun _ h => False.elim h.2
  | cont => exact hs.elim fun _ h => h.elim fun _ h => False.elim h.2
section
variable {P : Program} {w : World} {K : PySem.W.Frag} {mg mb : Str → Option Value} {k : Nat} {fa a : Addr} {fd : FuncData} {x : Str} {sp : Sp} {s1 : Shared} {vs : List Value} {ns : List Int} {cs : List (Addr × Addr)}
abbrev bare0 : Obj := { cls := .none, data := .fields #[] }
abbrev OneOf (cs : List (Addr × Addr)) (b : Addr) : Prop := ∃ q ∈ cs, b = q.2
theorem callT_core (KX : K.In s1.heap) (hns : s1.heap.Ns mainGlobals mg) (hb : s1.heap.Ns builtinsNs mb) (hbb : ∀ x : Str, x ≠ "__name__" → mb x = bootBuiltins x) (nl : s1.heap.NoLimit) (gn : s1.gens = #[])
    (empty : ∀ q ∈ cs, s1.heap.get? q.2 = some bare0) (out : ∀ q ∈ cs, K.lookup q.2 = none) (code : ∀ q ∈ cs, PySem.W.codeHdIn K q.1 q.2 = true)
    (bmod : ∃ (bm : Addr) (o : Obj), mg "__builtins__" = some (.ref bm) ∧ bm ≠ builtinsNs ∧ s1.heap.get? bm = some o ∧ o.cls = .type "module" ∧ o.dict = some builtinsNs ∧ o.data = .plain)
    (ha : s1.heap.get? a = some { cls := .type "list", data := .seq vs.toArray }) (room : Room k callerA)
    (F : ∀ base : Heap, K.In base → base.Ns mainGlobals mg → (∀ q ∈ cs, TabB base mg q.1 q.2) → FnG P w K mg base k fa fd [x] sp) (bnd : ∀ (s : Shared) (u : Value), BindsTo s fd ⟨[u], []⟩ [(x, u)])
    (H : Hp) (only : ∀ b, H b = none ∨ OneOf cs b ∨ ∃ o xs, H b = some (.frz o (.lst xs))) (tabs : ∀ q ∈ cs, H q.2 = some (.tbl #[])) (promise : sp [.ref a] H (fun v _ => v = .bl true) fun _ _ _ => False)
    (ok : HOk P w H s1.heap) (isA : ∀ b, H b ≠ none → b = a ∨ OneOf cs b) (notK : H a ≠ none → K.lookup a = none) :
    codeAny (model P w) callerA (.call (.ref fa) ⟨[.ref a], []⟩) (fun r s' => r = .ok (.ret (.bool true)) ∧ OldK s1.heap s'.heap ∧ s'.os = s1.os ∧ AllBare s'.gens) s1 := by
  let B := hidT s1.heap H
  have toB : ∀ {b : Addr} {o : Obj}, s1.heap.get? b = some o → H b = none → B.get? b = some o := hidT_get
  -- what is neither the script nor a table is not tracked
  have free : ∀ {b : Addr} {o : Obj}, s1.heap.get? b = some o → (∀ xs n, o.data ≠ .seq xs n) → o.data ≠ .fields #[] → H b = none := by
    intro b o e n1 n2
    cases q : H b with
    | none => rfl
    | some u =>
      rcases isA b (by rw [q]; exact fun z => nomatch z) with rfl | ⟨r, hr, rfl⟩
      · rw [ha] at e
        cases e
        exact absurd rfl (n1 _ _)
      · rw [empty r hr] at e
        cases e
        exact absurd rfl n2
  have nsB : ∀ {b : Addr} {m : Str → Option Value}, s1.heap.Ns b m → B.Ns b m := by
    rintro b m ⟨o, es, ep, e, d, r⟩
    exact ⟨o, es, ep, toB e (free e (fun _ _ z => by rw [d] at z; cases z) fun z => by rw [d] at z; cases z), d, r⟩
  have inB : K.In B := fun b o e => toB (KX b o e) (by
    cases q : H b with
    | none => rfl
    | some u =>
      rcases isA b (by rw [q]; exact fun z => nomatch z) with rfl | ⟨r, hr, rfl⟩
      · rw [notK (by rw [q]; exact fun z => nomatch z)] at e
        cases e
      · rw [out r hr] at e
        cases e)
  have tB : ∀ q ∈ cs, TabB B mg q.1 q.2 := by
    intro q hq
    have eq := empty q hq
    refine ⟨PySem.W.codeHd_of_K inB (code q hq), ?_, ?_⟩
    · obtain ⟨bm, o, m1, m2, m3, m4, m5, m6⟩ := bmod
      refine ⟨bm, o, m1, m2, ?_, ?_, toB m3 (free m3 (fun _ _ z => by rw [m6] at z; cases z) fun z => by rw [m6] at z; cases z), m4, m5, m6⟩
      · rintro rfl
        obtain ⟨o', es, ep, e, d, _⟩ := hns
        rw [m3] at e
        cases e
        rw [m6] at d
        cases d
      · rintro rfl
        rw [m3] at eq
        cases eq
        cases m6
    · intro z
      obtain ⟨o', es, ep, e, d, _⟩ := hns
      rw [z, eq] at e
      cases e
      cases d
  obtain ⟨mc, nl1, nl2⟩ := nl
  have md : Mod K mg B := ⟨inB, nsB hns, ⟨mb, nsB hb, hbb⟩, mc, nsB nl1, nl2⟩
  have env : Env0 P w K mg B callerA [] s1 H := ⟨rfl, md, fun b o e => of_hidT e, Nat.le_of_eq (hidT_size _ _), trivial, (fun b z => nomatch z), ok, .of_eq gn⟩
  have go := (F B inB (nsB hns) tB).run callerA [] s1 H ⟨[.ref a], []⟩ [.ref a] [.ref a] _ _ rfl room env (bnd s1 (.ref a)) (.cons rfl .nil) promise
  refine codeAny_mono go fun r s' h => ?_
  match r, h with
  | .error e, h => exact h.elim
  | .ok .next, h => exact False.elim h
  | .ok .brk, h => exact False.elim h
  | .ok .cont, h => exact False.elim h
  | .ok (.ret u), ⟨v, H', os, bare, un, ok', rv, q⟩ =>
    cases (show v = .bl true from q)
    cases (show u = Value.bool true from rv)
    have more : ∀ q ∈ cs, ∃ m : Array Value, s'.heap.get? q.2 = some { cls := .none, data := .fields m } := fun q hq => by
      obtain ⟨m, z⟩ := un.tbls q.2 #[] (tabs q hq)
      exact ⟨_, ok' q.2 _ z⟩
    have stays : ∀ b o, ¬ OneOf cs b → s1.heap.get? b = some o → s'.heap.get? b = some o := by
      intro b o nb e
      cases q : H b with
      | none => exact un.keep b o e q (fun z => nomatch z) (fun z => nomatch z)
      | some u =>
        rcases only b with z | z | ⟨ob, xs, z⟩
        · rw [q] at z
          cases z
        · exact absurd z nb
        · have e1 := (ok b _ z).1
          have e2 := (ok' b _ (un.frzs b ob _ z)).1
          rw [e] at e1
          cases e1
          exact e2
    refine ⟨rfl, ⟨?_, ?_⟩, os, bare⟩
    · intro b o e
      by_cases c : OneOf cs b
      · obtain ⟨q, hq, rfl⟩ := c
        obtain ⟨m, hm⟩ := more q hq
        rw [empty q hq] at e
        cases e
        have hd := PySem.W.codeHd_of_K KX (code q hq)
        exact .inr (.inl ⟨(hd.tab (empty q hq)).isCodeTable, rfl, #[], m, rfl, by rw [hm, Array.empty_append]⟩)
      · exact .inl (stays b o c e)
    · intro b o e
      by_cases c : OneOf cs b
      · obtain ⟨q, hq, rfl⟩ := c
        obtain ⟨m, hm⟩ := more q hq
        exact ⟨_, hm⟩
      · exact ⟨o, stays b o c e⟩
theorem callT_all (KX : K.In s1.heap) (hns : s1.heap.Ns mainGlobals mg) (hb : s1.heap.Ns builtinsNs mb) (hbb : ∀ x : Str, x ≠ "__name__" → mb x = bootBuiltins x) (nl : s1.heap.NoLimit) (gn : s1.gens = #[])
    (empty : ∀ q ∈ cs, s1.heap.get? q.2 = some bare0) (out : ∀ q ∈ cs, K.lookup q.2 = none) (code : ∀ q ∈ cs, PySem.W.codeHdIn K q.1 q.2 = true)
    (bmod : ∃ (bm : Addr) (o : Obj), mg "__builtins__" = some (.ref bm) ∧ bm ≠ builtinsNs ∧ s1.heap.get? bm = some o ∧ o.cls = .type "module" ∧ o.dict = some builtinsNs ∧ o.data = .plain)
    (ha : s1.heap.get? a = some { cls := .type "list", data := .seq vs.toArray }) (wholes : IntsAre vs ns) (sz : ns.length ≤ sizeLine) (room : Room k callerA)
    (F : ∀ base : Heap, K.In base → base.Ns mainGlobals mg → (∀ q ∈ cs, TabB base mg q.1 q.2) → FnG P w K mg base k fa fd [x] sp) (bnd : ∀ (s : Shared) (u : Value), BindsTo s fd ⟨[u], []⟩ [(x, u)])
    (promise : ∀ H : Hp, (∀ q ∈ cs, H q.2 = some (.tbl #[])) → SqL K H a (ns.map V.int) → sp [.ref a] H (fun v _ => v = .bl true) fun _ _ _ => False) :
    codeAny (model P w) callerA (.call (.ref fa) ⟨[.ref a], []⟩) (fun r s' => r = .ok (.ret (.bool true)) ∧ OldK s1.heap s'.heap ∧ s'.os = s1.os ∧ AllBare s'.gens) s1 := by
  classical
  have rv := vals_ints wholes
  have na : ¬ OneOf cs a := by
    rintro ⟨q, hq, rfl⟩
    have z := empty q hq
    rw [ha] at z
    have z2 : Data.seq vs.toArray _ = Data.fields #[] := congrArg Obj.data (Option.some.inj z)
    cases z2
  let T : Hp := fun b => if OneOf cs b then some (.tbl #[]) else none
  have tT : ∀ q ∈ cs, T q.2 = some (.tbl #[]) := fun q hq => if_pos ⟨q, hq, rfl⟩
  have tN : ∀ b, ¬ OneOf cs b → T b = none := fun b h => if_neg h
  cases lk : K.lookup a with
  | some o =>
    have e := KX a o lk
    rw [ha] at e
    cases e
    refine callT_core KX hns hb hbb nl gn empty out code bmod ha room F bnd T (fun b => ?_) tT (promise T tT (.inr ⟨_, vs.toArray, _, lk, rfl, rfl, rfl, by rw [List.size_toArray, wholes.length]; exact sz, by simpa using rv⟩)) (fun b u z => ?_) (fun b z => ?_) fun z => absurd (tN a na) z
    · by_cases c : OneOf cs b
      · exact .inr (.inl c)
      · exact .inl (tN b c)
    · by_cases c : OneOf cs b
      · obtain ⟨q, hq, rfl⟩ := c
        rw [tT q hq] at z
        cases z
        exact empty q hq
      · rw [tN b c] at z
        cases z
    · by_cases c : OneOf cs b
      · exact .inr c
      · exact absurd (tN b c) z
  | none =>
    let G : Hp := upd T a (.frz { cls := .type "list", data := .seq vs.toArray } (.lst (ns.map V.int)))
    have ga : G a = some (.frz { cls := .type "list", data := .seq vs.toArray } (.lst (ns.map V.int))) := upd_same
    have gT : ∀ b, b ≠ a → G b = T b := fun b z => upd_ne z
    have gt : ∀ q ∈ cs, G q.2 = some (.tbl #[]) := fun q hq => by
      rw [gT _ fun z => na ⟨q, hq, z.symm⟩]
      exact tT q hq
    refine callT_core KX hns hb hbb nl gn empty out code bmod ha room F bnd G (fun b => ?_) gt (promise G gt (.inl (.inr ⟨_, ga⟩))) (fun b u z => ?_) (fun b z => ?_) fun _ => lk
    · by_cases c : b = a
      · subst c; exact .inr (.inr ⟨_, _, ga⟩)
      · by_cases c2 : OneOf cs b
        · exact .inr (.inl c2)
        · exact .inl ((gT b c).trans (tN b c2))
    · by_cases c : b = a
      · subst c
        rw [ga] at z
        cases z
        exact ⟨ha, by rw [List.length_map]; exact sz, vs, _, rv, ha⟩
      · rw [gT b c] at z
        by_cases c2 : OneOf cs b
        · obtain ⟨q, hq, rfl⟩ := c2
          rw [tT q hq] at z
          cases z
          exact empty q hq
        · rw [tN b c2] at z
          cases z
    · by_cases c : b = a
      · exact .inl c
      · by_cases c2 : OneOf cs b
        · exact .inr c2
        · exact absurd ((gT b c).trans (tN b c2)) z
end
/-- as walk_ofG, with tables -/
theorem walk_ofGT {l : PySem.W.OpenLaw} {n k : Nat} {q : Program} {loose : List Str} {XP : (Str → Option Value) → Heap → Prop} {YP : World → Heap → Prop} {d : DefRec} {x : Str} (most : l.most = some n) (few : n ≤ sizeLine) (nodef : d.params.defaults = []) (room : Room k callerA)
    (F : ∀ (w : World) (mg : Str → Option Value) (fa : Addr) (h : Heap), YP w h → h.Ns mainGlobals mg → mg d.name = some (.ref fa) →
      ∃ (K : PySem.W.Frag) (fd : FuncData) (cs : List (Addr × Addr)) (sp : Sp), K.In h ∧ (∀ q ∈ cs, h.get? q.2 = some bare0) ∧ (∀ q ∈ cs, K.lookup q.2 = none) ∧ (∀ q ∈ cs, PySem.W.codeHdIn K q.1 q.2 = true) ∧ (∀ (s : Shared) (u : Value), BindsTo s fd ⟨[u], []⟩ [(x, u)]) ∧
        (∀ (H : Hp) (a : Addr) (ns : List Int), ns.length ≤ n → (∀ q ∈ cs, H q.2 = some (.tbl #[])) → SqL K H a (ns.map V.int) → sp [.ref a] H (fun v _ => v = .bl true) fun _ _ _ => False) ∧
        ∀ base : Heap, K.In base → base.Ns mainGlobals mg → (∀ q ∈ cs, TabB base mg q.1 q.2) → FnG l.prog w K mg base k fa fd [x] sp) :
    PySem.W.WalkO q loose XP YP l.row.toRowW d [] (fun f vs => PySem.call f vs) := by
  refine Att.attach_call most nodef ?_
  intro w s0 s1 mg mb fa o pm cd doc a vs ns G Y ho hd hcd hmg hobj wholes len gens
  obtain ⟨K, fd, cs, sp, inK, empty, out, code, bnd, promise, ok⟩ := F w mg fa _ Y G.T.g hmg
  exact callT_all inK G.T.g G.T.b G.T.builtins G.T.nolimit gens empty out code G.T.bmain hobj wholes (Nat.le_trans len few) room ok bnd fun H tb sq => promise H a ns len tb sq
/-! the head's facts, with tables -/
def obsPT (n : Nat) (fa : List He.Fa) (fn : List He.DefD) (tf : List He.Defn) (ex : PySem.W.Frag → Bool) (gs : List GetD) (g : Addr → Option Obj) : AlP := (He.obsX n fa fn [] tf ex g, getsA (He.frT g (He.asD g n)) gs)
def hookPT (n : Nat) (fa : List He.Fa) (fn : List He.DefD) (tf : List He.Defn) (ex : PySem.W.Frag → Bool) (gs : List GetD) : PySem.W.Hook where
  α := AlP
  obs := fun s => obsPT n fa fn tf ex gs s.heap.get?
  val := fun w => (He.valX fn [] w, gs.map GetD.val)
  says := fun w h => ∃ K : PySem.W.Frag, K.In h ∧ He.SaysX fa fn [] tf ex w h K ∧ getsA K gs = gs.map GetD.val
  of := fun _ _ e => ⟨_, He.frT_in, He.saysX_of (congrArg (fun z : AlP => z.1) e), congrArg (fun z : AlP => z.2) e⟩
  keeps := fun _ _ _ ⟨K, hK, c, cg⟩ k => ⟨K, PySem.W.Frag.In.keeps hK k, ⟨c.t, c.more, c.hd, c.out, fun p hp => k _ _ (c.empty p hp)⟩, cg⟩
theorem obsPT_eq {n : Nat} {fa : List He.Fa} {fn : List He.DefD} {tf : List He.Defn} {ex : PySem.W.Frag → Bool} {gs : List GetD} {g : Addr → Option Obj} {s : Shared} (h : ∀ a, g a = s.heap.get? a) : obsPT n fa fn tf ex gs g = (hookPT n fa fn tf ex gs).obs s := by
  have e : g = s.heap.get? := funext h
  rw [e] <;> rfl
end Z
/-! the head's facts of error classes of one's own -/
namespace Z
open PySem PySem.Spec PyProof.Rows L2
open PySem.ZX (eA eB eS EvSup ErrTxt okF)
abbrev ErrW : Type := Option (Str × Str × Arguments × FuncBody × Scope × Addr × List Str × Addr)
def errA (K : PySem.W.Frag) (a : Addr) : ErrW := match K.lookup a with
  | some ⟨_, _, .func fd, _⟩ => some (fd.name, fd.qualname, fd.params, fd.body, fd.scope, fd.globals, fd.closure.map (·.1), fd.builtins)
  | _ => none
/-- the class, its field, its __init__ -/
abbrev ErrD : Type := Str × Str × Str × Stmt
def ErrD.val (d : ErrD) : ErrW := some ("__init__", d.2.2.1, defArgs d.2.2.2, .stmts (defBody d.2.2.2), defScope d.2.2.2, mainGlobals, [("__class__" : Str)], builtinsNs)
def errObjB (K : PySem.W.Frag) (C : Addr) : Bool := match K.lookup C with
  | some ⟨.type "type", _, .cls cd, sl⟩ => (match cd.mro, sl.toList with
    | .ref C' :: bm, [_, _, _, _, some (.builtin n), _] => decide (C' = C) && (decide (n = "ValueError.__new__") && (!cd.hasDel && (cd.hasDict && HandSPX.refsVE bm)))
    | _, _ => false)
  | _ => false
theorem errObj_ok {K : PySem.W.Frag} {C : Addr} (h : errObjB K C = true) : ∃ nm q N bs bm sn sub ab col dd k0 k1 k2 k3 k5, K.lookup C = some (PySem.excClassObj nm q C N bs bm true sn sub ab col dd k0 k1 k2 k3 k5 "ValueError.__new__") ∧ HandSPX.refsVE bm = true := by
  unfold errObjB at h
  split at h
  · rename_i dd cd sl ho
    split at h
    · rename_i C' bm k0 k1 k2 k3 n k5 hm hs
      obtain ⟨h1, h⟩ := Bool.and_eq_true_iff.mp h
      obtain ⟨h2, h⟩ := Bool.and_eq_true_iff.mp h
      obtain ⟨h3, h⟩ := Bool.and_eq_true_iff.mp h
      obtain ⟨h4, h5⟩ := Bool.and_eq_true_iff.mp h
      have e1 := of_decide_eq_true h1
      have e2 := of_decide_eq_true h2
      subst e1 e2
      obtain ⟨nm, bs, mro, ns, qn, hd, sn, sub, ab, col, del⟩ := cd
      dsimp only at hm h3 h4
      subst hm h4
      have e3 : del = false := by simpa using h3
      subst e3
      have e4 : sl = #[k0, k1, k2, k3, some (.builtin "ValueError.__new__"), k5] := by
        obtain ⟨l⟩ := sl
        simp only at hs
        rw [hs]
      subst e4
      exact ⟨nm, qn, ns, bs, bm, sn, sub, ab, col, dd, k0, k1, k2, k3, k5, ho, h5⟩
    · cases h
  · cases h
def isNn : Value → Bool
  | .none => true
  | _ => false
theorem isNn_ok {v : Value} (h : isNn v = true) : v = .none := by
  cases v <;> first | rfl | cases h
def errFileB (K : PySem.W.Frag) (C fI : Addr) (qual file : Str) : Bool := match K.lookup fI with
  | some ⟨_, _, .func fd, _⟩ => (isNn fd.defaults && isNn fd.kwdefaults) && (PySem.W.codeIn K fd.code qual && ((match fd.code with
    | .ref cda => (match K.lookup cda with
      | some ⟨_, _, .fields vs, _⟩ => (match vs[2]? with
        | some (Value.str fl _) => (file : Str) == fl
        | _ => false)
      | _ => false)
    | _ => false) && (match fd.closure with
    | [(_, cc)] => (match K.lookup cc with
      | some ⟨_, _, .cell (some (.ref C')), _⟩ => decide (C' = C)
      | _ => false)
    | _ => false)))
  | _ => false
def errB (K : PySem.W.Frag) (x fld qual file : Str) : Bool :=
  errObjB K (He.ga K x) && (He.eqO (PySem.W.findIn K (.ref (He.ga K x)) "__setattr__") (some (some (.builtin "object.__setattr__"))) && (He.eqO (PySem.W.findIn K (.ref (He.ga K x)) fld) (some none) && (He.eqO (PySem.W.findIn K (.ref (He.ga K x)) "__init__") (some (some (.ref (He.ma K (He.ga K x) "__init__")))) &&
  (decide (PySem.W.typeIn K (.ref (He.ma K (He.ga K x) "__init__")) = some (.type "function")) && (He.eqO (PySem.W.ks_superIn K (He.ga K x) (He.ga K x) "__init__") (some (some (.builtin "ValueError.__init__"))) && (decide (PySem.W.subIn K (.ref (He.ga K x)) (.type "ValueError") = some true) && (decide (PySem.W.mroIn K (He.ga K x) (.ref (He.ga K x)) = some true) &&
  (He.eqO (PySem.W.nsIn K cStatics "thirdparty.any") (some none) && (He.eqO (PySem.W.nsIn K mainGlobals "super") (some none) && (PySem.W.keepIn K (.ref (He.ga K x)) && (decide (PySem.W.subIn K (.ref (He.ga K x)) (.type "BaseException") = some true) && (decide (PySem.W.typeIn K (.ref (He.ga K x)) = some (.type "type")) && errFileB K (He.ga K x) (He.ma K (He.ga K x) "__init__") qual file))))))))))))
theorem errC_ok {P : Program} {K : PySem.W.Frag} {mg : Str → Option Value} {x fld qual : Str} {st : Stmt} {p1 p2 : Pos} {q : Nat → Pos} {txt : Str} {n1 : Nat} (e : errA K (He.ma K (He.ga K x) "__init__") = ErrD.val (x, fld, qual, st)) (h : errB K x fld qual P.main.file = true) (g : mg x = some (.ref (He.ga K x))) (top : (P.main.scope.names.lookup ("super" : Str)).isSome = false)
    (ok : okF fld = true) (ea : defArgs st = eA fld p1 p2) (eb : defBody st = eB fld txt n1 q) (es : defScope st = eS fld) (ev : EvSup txt n1 q)
    (bnd : ∀ (doc pm : Value) (an : Option Addr) (cda : Addr) (ct : Value) (cc : Addr) (x v : Value), bindArgs (PySem.W.ksFn "__init__" qual (eA fld p1 p2) (eB fld txt n1 q) (eS fld) .none .none doc pm an (.ref cda) ct cc) ⟨[x, v], []⟩ = pure [(("self" : Str), x), (fld, v)]) :
    ErrC P K mg x (He.ga K x) (He.ma K (He.ga K x) "__init__") fld := by
  unfold errB at h
  obtain ⟨h1, h⟩ := Bool.and_eq_true_iff.mp h
  obtain ⟨h2, h⟩ := Bool.and_eq_true_iff.mp h
  obtain ⟨h3, h⟩ := Bool.and_eq_true_iff.mp h
  obtain ⟨h4, h⟩ := Bool.and_eq_true_iff.mp h
  obtain ⟨h5, h⟩ := Bool.and_eq_true_iff.mp h
  obtain ⟨h6, h⟩ := Bool.and_eq_true_iff.mp h
  obtain ⟨h7, h⟩ := Bool.and_eq_true_iff.mp h
  obtain ⟨h8, h⟩ := Bool.and_eq_true_iff.mp h
  obtain ⟨h9, h⟩ := Bool.and_eq_true_iff.mp h
  obtain ⟨h10, h⟩ := Bool.and_eq_true_iff.mp h
  obtain ⟨h11, h⟩ := Bool.and_eq_true_iff.mp h
  obtain ⟨h12, h⟩ := Bool.and_eq_true_iff.mp h
  obtain ⟨h13, h14⟩ := Bool.and_eq_true_iff.mp h
  refine ⟨⟨errObj_ok h1, He.eqO_ok h2, He.eqO_ok h3, He.eqO_ok h4, of_decide_eq_true h5, He.eqO_ok h6, of_decide_eq_true h7, of_decide_eq_true h8, He.eqO_ok h9, He.eqO_ok h10, ?_⟩, ok, top, g, h11, of_decide_eq_true h12, of_decide_eq_true h13⟩
  unfold errFileB at h14
  unfold errA at e
  split at h14
  · rename_i oc od fd osl ho
    rw [ho] at e
    obtain ⟨n1', n2, n3, n4, n5, n6, n7, n8, n9, n10, n11, n12, n13, n14, n15⟩ := fd
    have e2 : (some (n1', n2, n3, n4, n5, n6, n7.map (·.1), n15) : ErrW) = ErrD.val (x, fld, qual, st) := e
    unfold ErrD.val at e2
    simp only [Option.some.injEq, Prod.mk.injEq] at e2
    obtain ⟨k1, k2, k3, k4, k5, k6, k7, k8⟩ := e2
    subst k1 k2 k3 k4 k5 k6 k8
    obtain ⟨d1, h15⟩ := Bool.and_eq_true_iff.mp h14
    obtain ⟨d2, d3⟩ := Bool.and_eq_true_iff.mp d1
    obtain ⟨c1, h16⟩ := Bool.and_eq_true_iff.mp h15
    obtain ⟨f1, f2⟩ := Bool.and_eq_true_iff.mp h16
    have e8 := isNn_ok d2
    have e9 := isNn_ok d3
    dsimp only at e8 e9 c1 f1 f2
    subst e8 e9
    cases n13 with
    | ref cda =>
      dsimp only at f1
      split at f1
      · rename_i ccl cdd vs ccs hoc
        split at f1
        · rename_i fl tf hv
          split at f2
          · rename_i _ nm cc
            have e7 : nm = ("__class__" : Str) := by simpa using k7
            subst e7
            split at f2
            · rename_i cl cld C' csl hcc
              have e10 := of_decide_eq_true f2
              subst e10
              refine ⟨cda, ccl, cdd, vs, ccs, fl, tf, cc, cl, cld, csl, oc, od, n10, n11, n12, n14, osl, txt, n1, p1, p2, q, n2, ev, hoc, hv, f1, hcc, ?_, c1, fun x v => bnd _ _ _ _ _ _ x v⟩
              rw [ho, ← ea, ← eb, ← es]
            · cases f2
          · cases f2
        · cases f1
      · cases f1
    | _ => cases f1
  · cases h14
/-! what isinstance and a field ask of an error class -/
def excCB (K : PySem.W.Frag) (C : Addr) : Bool := He.eqO (PySem.W.findIn K (.ref C) "__getattribute__") (some (some (.builtin "BaseException.__getattribute__"))) && (He.eqO (PySem.W.findIn K (.ref C) "__getattr__") (some none) && (decide (PySem.W.subIn K (.ref C) (.type "BaseException") = some true) && (PySem.W.hasDictIn K C &&
  (He.eqO (PySem.W.findIn K (.ref C) "__class__") (some (some (.builtin "object.__class__"))) && (He.eqO (PySem.W.specialIn K (.builtin "object.__class__") "__get__") (some (some (.builtin "getset_descriptor.__get__"))) && (decide (PySem.W.takesIn K (.builtin "object.__class__") = some true) && decide (PySem.W.mroIn K C (.type "object") = some true)))))))
theorem excC_ok {K : PySem.W.Frag} {C : Addr} (h : excCB K C = true) : ExcC K C ∧ XfC K C := by
  unfold excCB at h
  obtain ⟨h1, h⟩ := Bool.and_eq_true_iff.mp h
  obtain ⟨h2, h⟩ := Bool.and_eq_true_iff.mp h
  obtain ⟨h3, h⟩ := Bool.and_eq_true_iff.mp h
  obtain ⟨h4, h⟩ := Bool.and_eq_true_iff.mp h
  obtain ⟨h5, h⟩ := Bool.and_eq_true_iff.mp h
  obtain ⟨h6, h⟩ := Bool.and_eq_true_iff.mp h
  obtain ⟨h7, h8⟩ := Bool.and_eq_true_iff.mp h
  exact ⟨⟨He.eqO_ok h1, He.eqO_ok h2, of_decide_eq_true h3, h4, He.eqO_ok h5, He.eqO_ok h6, of_decide_eq_true h7, of_decide_eq_true h8⟩, He.eqO_ok h1, He.eqO_ok h2, of_decide_eq_true h3, h4⟩
/-- a def's code object -/
theorem code_is {K : PySem.W.Frag} {x qual : Str} {params : Arguments} {body : List Stmt} {scope : Scope} {dvs : List V} {kws : List (Str × V)} {p : Str × Option Str} {fd : FuncData} (F : FunD K x qual params body scope dvs kws (He.fAd K p) fd) : fd.code = .ref (He.codeOf K p) := by
  obtain ⟨oc, od, dV, kV, doc, pm, an, cdv, ct, osl, rfl, lk, cd, _, _⟩ := F.ex
  obtain ⟨c, rfl⟩ := He.codeIn_ref cd
  rw [He.codeOf_eq lk rfl]
/-! the Hook, with tables and error classes; the interpreter's statics, too -/
def asS (g : Addr → Option Obj) (n : Nat) : List Addr := He.asD g n ++ [cStatics]
def obsXS (n : Nat) (fa : List He.Fa) (fn : List He.DefD) (tf : List He.Defn) (ex : PySem.W.Frag → Bool) (g : Addr → Option Obj) : He.AlX := (He.obsT fa fn [] (He.frT g (asS g n)), ex (He.frT g (asS g n)) && He.tabsB g tf (He.frT g (asS g n)))
theorem saysXS {n : Nat} {fa : List He.Fa} {fn : List He.DefD} {tf : List He.Defn} {ex : PySem.W.Frag → Bool} {w : World} {h : Heap} (e : obsXS n fa fn tf ex h.get? = He.valX fn [] w) : He.SaysX fa fn [] tf ex w h (He.frT h.get? (asS h.get? n)) := by
  obtain ⟨h1, h2⟩ := Bool.and_eq_true_iff.mp (show (ex (He.frT h.get? (asS h.get? n)) && He.tabsB h.get? tf (He.frT h.get? (asS h.get? n))) = true from congrArg (fun z : He.AlX => z.2) e)
  have tab : ∀ p ∈ tf, PySem.W.codeHdIn (He.frT h.get? (asS h.get? n)) (He.cT (He.frT h.get? (asS h.get? n)) p).1 (He.cT (He.frT h.get? (asS h.get? n)) p).2 = true ∧ ∃ o, h.get? (He.cT (He.frT h.get? (asS h.get? n)) p).2 = some o ∧ He.emptyTab o = true := by
    intro p hp
    obtain ⟨h3, h4⟩ := Bool.and_eq_true_iff.mp (List.all_eq_true.mp h2 p hp)
    refine ⟨h3, ?_⟩
    generalize h.get? (He.cT (He.frT h.get? (asS h.get? n)) p).2 = r at h4
    match r, h4 with
    | some o, z => exact ⟨o, rfl, z⟩
  refine ⟨congrArg (fun z : He.AlX => z.1) e, h1, fun p hp => (tab p hp).1, fun p hp => ?_, fun p hp => ?_⟩
  · obtain ⟨_, o, q, z⟩ := tab p hp
    exact He.frT_none q z
  · obtain ⟨_, o, q, z⟩ := tab p hp
    rw [q, He.emptyTab_eq z]
abbrev AlE : Type := AlP × List ErrW
def errsA (K : PySem.W.Frag) (es : List ErrD) : List ErrW := es.map fun d => errA K (He.ma K (He.ga K d.1) "__init__")
def obsE (n : Nat) (fa : List He.Fa) (fn : List He.DefD) (tf : List He.Defn) (ex : PySem.W.Frag → Bool) (gs : List GetD) (es : List ErrD) (g : Addr → Option Obj) : AlE := ((obsXS n fa fn tf ex g, getsA (He.frT g (asS g n)) gs), errsA (He.frT g (asS g n)) es)
def hookE (n : Nat) (fa : List He.Fa) (fn : List He.DefD) (tf : List He.Defn) (ex : PySem.W.Frag → Bool) (gs : List GetD) (es : List ErrD) : PySem.W.Hook where
  α := AlE
  obs := fun s => obsE n fa fn tf ex gs es s.heap.get?
  val := fun w => ((He.valX fn [] w, gs.map GetD.val), es.map ErrD.val)
  says := fun w h => ∃ K : PySem.W.Frag, K.In h ∧ He.SaysX fa fn [] tf ex w h K ∧ getsA K gs = gs.map GetD.val ∧ errsA K es = es.map ErrD.val
  of := fun _ _ e => ⟨_, He.frT_in, saysXS (congrArg (fun z : AlE => z.1.1) e), congrArg (fun z : AlE => z.1.2) e, congrArg (fun z : AlE => z.2) e⟩
  keeps := fun _ _ _ ⟨K, hK, c, cg, ce⟩ k => ⟨K, PySem.W.Frag.In.keeps hK k, ⟨c.t, c.more, c.hd, c.out, fun p hp => k _ _ (c.empty p hp)⟩, cg, ce⟩
theorem obsE_eq {n : Nat} {fa : List He.Fa} {fn : List He.DefD} {tf : List He.Defn} {ex : PySem.W.Frag → Bool} {gs : List GetD} {es : List ErrD} {g : Addr → Option Obj} {s : Shared} (h : ∀ a, g a = s.heap.get? a) : obsE n fa fn tf ex gs es g = (hookE n fa fn tf ex gs es).obs s := by
  have e : g = s.heap.get? := funext h
  rw [e] <;> rfl
theorem errs_at {K : PySem.W.Frag} {es : List ErrD} (c : errsA K es = es.map ErrD.val) (i : Nat) {d : ErrD} (h : es[i]? = some d) : errA K (He.ma K (He.ga K d.1) "__init__") = ErrD.val d := by
  have e : (errsA K es)[i]? = (es.map ErrD.val)[i]? := by rw [c]
  unfold errsA at e
  rw [List.getElem?_map, List.getElem?_map, h] at e
  exact Option.some.inj e
end Z
namespace Z
open PySem PySem.Spec PyProof.Rows L2
/-- where the parts of such an __init__ stand -/
def eposOf (st : Stmt) : Nat → Pos := match defBody st with
  | [.Expr (.Call (.Attribute (.Call (.Name _ a0) _ _ a1) _ a2) [.Constant _ _ a3] _ a4) a5, .Assign [.Attribute (.Name _ a6) _ a7] (.Name _ a8) a9] => fun i => match i with
    | 0 => a0
    | 1 => a1
    | 2 => a2
    | 3 => a3
    | 4 => a4
    | 5 => a5
    | 6 => a6
    | 7 => a7
    | 8 => a8
    | _ => a9
  | _ => fun _ => ⟨0, 0, 0, 0⟩
end Z
/-! the head's facts of error classes over any built-in error -/
namespace Z
open PySem PySem.Spec PyProof.Rows L2
open PySem.ZX (eA eB eS EvSup okF)
open PySem.ZB
/-- a built-in error that own ones stand over: what makes it, whose __init__ it has, its mro -/
structure BaseP (newId D initId : String) (tl : List Value) : Prop where
  ex : ∃ (B i0 : String) (b0 : List Value), Tail tl ∧ IniF D initId ∧ ExcBaseFacts B newId i0 b0 ∧ tl.contains (.type B) = true ∧ tl.contains (.type "AttributeError") = false ∧ tl.contains (.type "NameError") = false
theorem ini_of {D newId initId : String} {bm : List Value} (F : ExcBaseFacts D newId initId bm) (k : PySem.W.KxsFacts D initId) : IniF D initId := ⟨F.init, F.initEntry, F.initKind, F.initRow, F.noStar, k⟩
abbrev veTl : List Value := [.type "ValueError", .type "Exception", .type "BaseException", .type "object"]
abbrev reTl : List Value := [.type "RuntimeError", .type "Exception", .type "BaseException", .type "object"]
abbrev keTl : List Value := [.type "KeyError", .type "LookupError", .type "Exception", .type "BaseException", .type "object"]
theorem base_ve : BaseP "ValueError.__new__" "ValueError" "ValueError.__init__" veTl :=
  ⟨_, _, _, ⟨fun self => by kernel_rfl, by decide +kernel, rfl⟩, ini_of PySem.F.excBase_ValueError PySem.W.kxs_ValueError, PySem.F.excBase_ValueError, by decide +kernel, by decide +kernel, by decide +kernel⟩
theorem base_re : BaseP "RuntimeError.__new__" "RuntimeError" "RuntimeError.__init__" reTl :=
  ⟨_, _, _, ⟨fun self => by kernel_rfl, by decide +kernel, rfl⟩, ini_of PySem.F.excBase_RuntimeError PySem.W.kxs_RuntimeError, PySem.F.excBase_RuntimeError, by decide +kernel, by decide +kernel, by decide +kernel⟩
theorem kx_key : PySem.W.KxsFacts "KeyError" "KeyError.__init__" :=
  ⟨by show builtinType _ = _
      rw [builtinType_eq_fast]
      kernel_rfl, by first | kernel_rfl | rfl⟩
theorem ini_key : IniF "KeyError" "KeyError.__init__" :=
  ⟨.of (owner := "KeyError") (n := "__init__")
      (by rw [typeLookup_type, builtinLookup_eq_fast]; kernel_rfl)
      (by decide +kernel) (by decide +kernel) (by decide +kernel)
      (by first | exact .inl (by decide +kernel) | exact .inr (by decide +kernel))
      (by rw [isSubtype_type]; kernel_rfl),
    entryFor_alias (id' := "BaseException.__init__")
      (by rw [fastTable_eq_tree]; kernel_rfl)
      (by first | rfl | decide +kernel) (by decide +kernel)
      (by rw [fastTable_eq_tree]; kernel_rfl),
    by kernel_rfl, by kernel_rfl, by decide +kernel, kx_key⟩
theorem base_ke : BaseP "LookupError.__new__" "KeyError" "KeyError.__init__" keTl :=
  ⟨_, _, _, ⟨fun self => by kernel_rfl, by decide +kernel, rfl⟩, ini_key, PySem.F.excBase_LookupError, by decide +kernel, by decide +kernel, by decide +kernel⟩
def bObjB (K : PySem.W.Frag) (C : Addr) (newId : String) (tl : List Value) : Bool := match K.lookup C with
  | some ⟨.type "type", _, .cls cd, sl⟩ => (match cd.mro, sl.toList with
    | .ref C' :: bm, [_, _, _, _, some (.builtin n), _] => decide (C' = C) && (decide (n = newId) && (!cd.hasDel && (cd.hasDict && refsB tl bm)))
    | _, _ => false)
  | _ => false
theorem bObj_ok {K : PySem.W.Frag} {C : Addr} {newId : String} {tl : List Value} (h : bObjB K C newId tl = true) : ∃ nm q N bs bm sn sub ab col dd k0 k1 k2 k3 k5, K.lookup C = some (PySem.excClassObj nm q C N bs bm true sn sub ab col dd k0 k1 k2 k3 k5 newId) ∧ refsB tl bm = true := by
  unfold bObjB at h
  split at h
  · rename_i dd cd sl ho
    split at h
    · rename_i C' bm k0 k1 k2 k3 n k5 hm hs
      obtain ⟨h1, h⟩ := Bool.and_eq_true_iff.mp h
      obtain ⟨h2, h⟩ := Bool.and_eq_true_iff.mp h
      obtain ⟨h3, h⟩ := Bool.and_eq_true_iff.mp h
      obtain ⟨h4, h5⟩ := Bool.and_eq_true_iff.mp h
      have e1 := of_decide_eq_true h1
      have e2 := of_decide_eq_true h2
      subst e1 e2
      obtain ⟨nm, bs, mro, ns, qn, hd, sn, sub, ab, col, del⟩ := cd
      dsimp only at hm h3 h4
      subst hm h4
      have e3 : del = false := by simpa using h3
      subst e3
      have e4 : sl = #[k0, k1, k2, k3, some (.builtin n), k5] := by
        obtain ⟨l⟩ := sl
        simp only at hs
        rw [hs]
      subst e4
      exact ⟨nm, qn, ns, bs, bm, sn, sub, ab, col, dd, k0, k1, k2, k3, k5, ho, h5⟩
    · cases h
  · cases h
def errBB (K : PySem.W.Frag) (x fld qual file : Str) (newId D initId : String) (tl : List Value) : Bool :=
  bObjB K (He.ga K x) newId tl && (He.eqO (PySem.W.findIn K (.ref (He.ga K x)) "__setattr__") (some (some (.builtin "object.__setattr__"))) && (He.eqO (PySem.W.findIn K (.ref (He.ga K x)) fld) (some none) && (He.eqO (PySem.W.findIn K (.ref (He.ga K x)) "__init__") (some (some (.ref (He.ma K (He.ga K x) "__init__")))) &&
  (decide (PySem.W.typeIn K (.ref (He.ma K (He.ga K x) "__init__")) = some (.type "function")) && (He.eqO (PySem.W.ks_superIn K (He.ga K x) (He.ga K x) "__init__") (some (some (.builtin initId))) && (decide (PySem.W.subIn K (.ref (He.ga K x)) (.type D) = some true) && (decide (PySem.W.mroIn K (He.ga K x) (.ref (He.ga K x)) = some true) &&
  (He.eqO (PySem.W.nsIn K cStatics "thirdparty.any") (some none) && (He.eqO (PySem.W.nsIn K mainGlobals "super") (some none) && (PySem.W.keepIn K (.ref (He.ga K x)) && errFileB K (He.ga K x) (He.ma K (He.ga K x) "__init__") qual file))))))))))
theorem errB_ok {P : Program} {K : PySem.W.Frag} {mg : Str → Option Value} {x fld qual : Str} {st : Stmt} {p1 p2 : Pos} {q : Nat → Pos} {txt : Str} {n1 : Nat} {newId D initId : String} {tl : List Value} (bp : BaseP newId D initId tl) (e : errA K (He.ma K (He.ga K x) "__init__") = ErrD.val (x, fld, qual, st)) (h : errBB K x fld qual P.main.file newId D initId tl = true)
    (g : mg x = some (.ref (He.ga K x))) (top : (P.main.scope.names.lookup ("super" : Str)).isSome = false) (ok : okF fld = true) (ea : defArgs st = eA fld p1 p2) (eb : defBody st = eB fld txt n1 q) (es : defScope st = eS fld) (ev : EvSup txt n1 q)
    (bnd : ∀ (doc pm : Value) (an : Option Addr) (cda : Addr) (ct : Value) (cc : Addr) (x v : Value) (rest : List Value) (kw : List (Str × Value)), Given fld v rest kw → bindArgs (PySem.W.ksFn "__init__" qual (eA fld p1 p2) (eB fld txt n1 q) (eS fld) .none .none doc pm an (.ref cda) ct cc) ⟨x :: rest, kw⟩ = pure [(("self" : Str), x), (fld, v)]) :
    ErrB P K mg x (He.ga K x) (He.ma K (He.ga K x) "__init__") fld := by
  unfold errBB at h
  obtain ⟨h1, h⟩ := Bool.and_eq_true_iff.mp h
  obtain ⟨h2, h⟩ := Bool.and_eq_true_iff.mp h
  obtain ⟨h3, h⟩ := Bool.and_eq_true_iff.mp h
  obtain ⟨h4, h⟩ := Bool.and_eq_true_iff.mp h
  obtain ⟨h5, h⟩ := Bool.and_eq_true_iff.mp h
  obtain ⟨h6, h⟩ := Bool.and_eq_true_iff.mp h
  obtain ⟨h7, h⟩ := Bool.and_eq_true_iff.mp h
  obtain ⟨h8, h⟩ := Bool.and_eq_true_iff.mp h
  obtain ⟨h9, h⟩ := Bool.and_eq_true_iff.mp h
  obtain ⟨h10, h⟩ := Bool.and_eq_true_iff.mp h
  obtain ⟨h11, h14⟩ := Bool.and_eq_true_iff.mp h
  obtain ⟨B, i0, b0, t2, t3, t4, t5, t6, t7⟩ := bp.ex
  refine ⟨⟨newId, D, initId, B, i0, tl, b0, ⟨bObj_ok h1, He.eqO_ok h2, He.eqO_ok h3, He.eqO_ok h4, of_decide_eq_true h5, He.eqO_ok h6, of_decide_eq_true h7, of_decide_eq_true h8, He.eqO_ok h9, He.eqO_ok h10, ?_⟩, t2, t3, t4, t5, t6, t7⟩, ok, top, g, h11⟩
  unfold errFileB at h14
  unfold errA at e
  split at h14
  · rename_i oc od fd osl ho
    rw [ho] at e
    obtain ⟨n1', n2, n3, n4, n5, n6, n7, n8, n9, n10, n11, n12, n13, n14, n15⟩ := fd
    have e2 : (some (n1', n2, n3, n4, n5, n6, n7.map (·.1), n15) : ErrW) = ErrD.val (x, fld, qual, st) := e
    unfold ErrD.val at e2
    simp only [Option.some.injEq, Prod.mk.injEq] at e2
    obtain ⟨k1, k2, k3, k4, k5, k6, k7, k8⟩ := e2
    subst k1 k2 k3 k4 k5 k6 k8
    obtain ⟨d1, h15⟩ := Bool.and_eq_true_iff.mp h14
    obtain ⟨d2, d3⟩ := Bool.and_eq_true_iff.mp d1
    obtain ⟨c1, h16⟩ := Bool.and_eq_true_iff.mp h15
    obtain ⟨f1, f2⟩ := Bool.and_eq_true_iff.mp h16
    have e8 := isNn_ok d2
    have e9 := isNn_ok d3
    dsimp only at e8 e9 c1 f1 f2
    subst e8 e9
    cases n13 with
    | ref cda =>
      dsimp only at f1
      split at f1
      · rename_i ccl cdd vs ccs hoc
        split at f1
        · rename_i fl tf hv
          split at f2
          · rename_i _ nm cc
            have e7 : nm = ("__class__" : Str) := by simpa using k7
            subst e7
            split at f2
            · rename_i cl cld C' csl hcc
              have e10 := of_decide_eq_true f2
              subst e10
              refine ⟨cda, ccl, cdd, vs, ccs, fl, tf, cc, cl, cld, csl, oc, od, n10, n11, n12, n14, osl, txt, n1, p1, p2, q, n2, ev, hoc, hv, f1, hcc, ?_, c1, fun x v rest kw gv => bnd _ _ _ _ _ _ x v rest kw gv⟩
              rw [ho, ← ea, ← eb, ← es]
            · cases f2
          · cases f2
        · cases f1
      · cases f1
    | _ => cases f1
  · cases h14
end Z
/-! the head: what the top has written, the run, the law -/
namespace Q13
open PySem PySem.Spec PyProof.Rows L2 Z
abbrev dfn (x : Str) (s : Stmt) : He.DefD := ⟨(x, none), x, x, defArgs s, defBody s, defScope s, [], []⟩
def fnL : List He.DefD := [dfn "_law_pool" s__law_pool, dfn "_law_take" s__law_take, dfn "_law_made" s__law_made, dfn "_law_named" s__law_named, dfn "_law_fields" s__law_fields, dfn "_law_kinds" s__law_kinds, dfn "_law_bases" s__law_bases, dfn "_law_raised" s__law_raised, dfn "law" s_law]
def faL : List He.Fa := [.glo "_law_pool", .glo "_law_take", .glo "_law_made", .glo "_law_named", .glo "_law_fields", .glo "_law_kinds", .glo "_law_bases", .glo "_law_raised", .glo "law", .free "isinstance", .free "len", .free "all", .free "any", .free "tuple", .free "list", .free "int", .free "bool", .free "abs", .free "range", .free "zip", .free "enumerate", .free "sum", .free "max", .free "min", .free "repr", .free "ValueError", .free "KeyError", .free "RuntimeError", .glo "FreshError", .glo "InvalidText", .glo "InvalidSyntax", .glo "InvalidTree", .glo "DuplicateName", .glo "UnknownName", .glo "InvalidCall", .glo "InvalidCarry", .glo "InvalidFormula", .glo "TooLarge", .glo "TooMany", .glo "InvalidRow", .glo "InvalidEntry", .glo "InvalidChoices", .glo "InvalidAction", .glo "InvalidWeights", .glo "InvalidFaults", .glo "InvalidEvent", .glo "InvalidQuestion", .glo "InvalidCommand", .glo "UnknownProcedure", .glo "LimitExceeded", .exm "TooMany" "FreshError" true]
def fileL : Str := PySem.Challenge.pw_freshplaces_k13_classes_of_errors.main.file
def esL : List ErrD := [("InvalidText", "value", "InvalidText.__init__", inClass (top 2) 0), ("InvalidSyntax", "position", "InvalidSyntax.__init__", inClass (top 3) 0), ("InvalidTree", "value", "InvalidTree.__init__", inClass (top 4) 0), ("DuplicateName", "name", "DuplicateName.__init__", inClass (top 5) 0), ("UnknownName", "name", "UnknownName.__init__", inClass (top 6) 0), ("InvalidCall", "place", "InvalidCall.__init__", inClass (top 7) 0), ("InvalidCarry", "place", "InvalidCarry.__init__", inClass (top 8) 0), ("InvalidFormula", "value", "InvalidFormula.__init__", inClass (top 9) 0), ("TooLarge", "word", "TooLarge.__init__", inClass (top 10) 0), ("TooMany", "word", "TooMany.__init__", inClass (top 11) 0), ("InvalidRow", "value", "InvalidRow.__init__", inClass (top 12) 0), ("InvalidEntry", "value", "InvalidEntry.__init__", inClass (top 13) 0), ("InvalidChoices", "value", "InvalidChoices.__init__", inClass (top 14) 0), ("InvalidAction", "value", "InvalidAction.__init__", inClass (top 15) 0), ("InvalidWeights", "value", "InvalidWeights.__init__", inClass (top 16) 0), ("InvalidFaults", "value", "InvalidFaults.__init__", inClass (top 17) 0), ("InvalidEvent", "value", "InvalidEvent.__init__", inClass (top 18) 0), ("InvalidQuestion", "position", "InvalidQuestion.__init__", inClass (top 19) 0), ("InvalidCommand", "word", "InvalidCommand.__init__", inClass (top 20) 0), ("UnknownProcedure", "name", "UnknownProcedure.__init__", inClass (top 21) 0), ("LimitExceeded", "word", "LimitExceeded.__init__", inClass (top 22) 0)]
def nmAt (i : Nat) : Str := (CT.getD i ("", "")).1
def exL (K : PySem.W.Frag) : Bool := ((CT.all fun q => excCB K (He.ga K q.1)) && ((CT.all fun q => He.eqO (PySem.W.findIn K (.ref (He.ga K q.1)) q.2) (some none)) && (((List.range 21).all fun i => (List.range 21).all fun j => decide (PySem.W.kitOne K (.ref (He.ga K (nmAt i))) (.ref (He.ga K (nmAt j))) = some (decide (i = j)))) && (((List.range 21).all fun i => decide (PySem.W.kitOne K (.ref (He.ga K (nmAt i))) (.ref (He.ga K "FreshError")) = some (decide (i < 19))) && (decide (PySem.W.kitOne K (.ref (He.ga K (nmAt i))) (.type "ValueError") = some (decide (i < 19))) && (decide (PySem.W.kitOne K (.ref (He.ga K (nmAt i))) (.type "KeyError") = some (decide (i = 19))) && decide (PySem.W.kitOne K (.ref (He.ga K (nmAt i))) (.type "RuntimeError") = some (decide (i = 20)))))) && (decide (PySem.W.subIn K (.ref (He.ga K "TooMany")) (.type "BaseException") = some true) && (decide (PySem.W.typeIn K (.ref (He.ga K "TooMany")) = some (.type "type")) && (errBB K "InvalidText" "value" "InvalidText.__init__" fileL "ValueError.__new__" "ValueError" "ValueError.__init__" veTl && (errBB K "InvalidSyntax" "position" "InvalidSyntax.__init__" fileL "ValueError.__new__" "ValueError" "ValueError.__init__" veTl && (errBB K "InvalidTree" "value" "InvalidTree.__init__" fileL "ValueError.__new__" "ValueError" "ValueError.__init__" veTl && (errBB K "DuplicateName" "name" "DuplicateName.__init__" fileL "ValueError.__new__" "ValueError" "ValueError.__init__" veTl && (errBB K "UnknownName" "name" "UnknownName.__init__" fileL "ValueError.__new__" "ValueError" "ValueError.__init__" veTl && (errBB K "InvalidCall" "place" "InvalidCall.__init__" fileL "ValueError.__new__" "ValueError" "ValueError.__init__" veTl && (errBB K "InvalidCarry" "place" "InvalidCarry.__init__" fileL "ValueError.__new__" "ValueError" "ValueError.__init__" veTl && (errBB K "InvalidFormula" "value" "InvalidFormula.__init__" fileL "ValueError.__new__" "ValueError" "ValueError.__init__" veTl && (errBB K "TooLarge" "word" "TooLarge.__init__" fileL "ValueError.__new__" "ValueError" "ValueError.__init__" veTl && (errBB K "TooMany" "word" "TooMany.__init__" fileL "ValueError.__new__" "ValueError" "ValueError.__init__" veTl && (errBB K "InvalidRow" "value" "InvalidRow.__init__" fileL "ValueError.__new__" "ValueError" "ValueError.__init__" veTl && (errBB K "InvalidEntry" "value" "InvalidEntry.__init__" fileL "ValueError.__new__" "ValueError" "ValueError.__init__" veTl && (errBB K "InvalidChoices" "value" "InvalidChoices.__init__" fileL "ValueError.__new__" "ValueError" "ValueError.__init__" veTl && (errBB K "InvalidAction" "value" "InvalidAction.__init__" fileL "ValueError.__new__" "ValueError" "ValueError.__init__" veTl && (errBB K "InvalidWeights" "value" "InvalidWeights.__init__" fileL "ValueError.__new__" "ValueError" "ValueError.__init__" veTl && (errBB K "InvalidFaults" "value" "InvalidFaults.__init__" fileL "ValueError.__new__" "ValueError" "ValueError.__init__" veTl && (errBB K "InvalidEvent" "value" "InvalidEvent.__init__" fileL "ValueError.__new__" "ValueError" "ValueError.__init__" veTl && (errBB K "InvalidQuestion" "position" "InvalidQuestion.__init__" fileL "ValueError.__new__" "ValueError" "ValueError.__init__" veTl && (errBB K "InvalidCommand" "word" "InvalidCommand.__init__" fileL "ValueError.__new__" "ValueError" "ValueError.__init__" veTl && (errBB K "UnknownProcedure" "name" "UnknownProcedure.__init__" fileL "LookupError.__new__" "KeyError" "KeyError.__init__" keTl && errBB K "LimitExceeded" "word" "LimitExceeded.__init__" fileL "RuntimeError.__new__" "RuntimeError" "RuntimeError.__init__" reTl))))))))))))))))))))))))))
abbrev Rw : PySem.W.OpenRow := PySem.W.OpenLaw.row PySem.Challenge.rw_freshplaces_k13_classes_of_errors
abbrev hk : PySem.W.Hook := hookE 8 faL fnL [] exL [] esL
def ob (s : PySem.W.SharedT) : AlE := obsE 8 faL fnL [] exL [] esL (HandSHeadRun.getT s)
theorem ob_eq (s : PySem.W.SharedT) : ob s = hk.obs s.abs := obsE_eq (HandSHeadRun.getT_eq s)
def loose : List PySem.Str := ["__name__", "FreshError", "InvalidText", "InvalidSyntax", "InvalidTree", "DuplicateName", "UnknownName", "InvalidCall", "InvalidCarry", "InvalidFormula", "TooLarge", "TooMany", "InvalidRow", "InvalidEntry", "InvalidChoices", "InvalidAction", "InvalidWeights", "InvalidFaults", "InvalidEvent", "InvalidQuestion", "InvalidCommand", "UnknownProcedure", "LimitExceeded", "_law_pool", "_law_take", "_law_made", "_law_named", "_law_fields", "_law_kinds", "_law_bases", "_law_raised"]
theorem lt_ct {i : Nat} {p : Str × Str} (h : CT[i]? = some p) : i < 21 := by
  by_cases c : i < 21
  · exact c
  · rw [List.getElem?_eq_none (show CT.length ≤ i by show 21 ≤ i; omega)] at h
    cases h
theorem nm_at {i : Nat} {p : Str × Str} (h : CT[i]? = some p) : nmAt i = p.1 := by
  unfold nmAt
  rw [List.getD_eq_getElem?_getD, h]
  rfl
theorem facts {P : Program} {w : World} {K : PySem.W.Frag} {h : Heap} {mg : Str → Option Value} {f : Addr} (X : K.In h) (G : h.Ns mainGlobals mg) (hfa : mg ("law" : Str) = some (.ref f)) (cx : He.SaysX faL fnL [] [] exL w h K) (ce : errsA K esL = esL.map ErrD.val) (hfile : P.main.file = PySem.Challenge.pw_freshplaces_k13_classes_of_errors.main.file) (hsup : (P.main.scope.names.lookup ("super" : Str)).isSome = false) :
    ∃ fd : FuncData, (∀ (s : Shared) (v : Value), BindsTo s fd ⟨[v], []⟩ [("_law_script", v)]) ∧ ∀ base : Heap, K.In base → base.Ns mainGlobals mg → FnG P w K mg base 4 f fd ["_law_script"] (spLaw K) := by
  have c := cx.t.d
  have e2 : exL K = true := cx.more
  unfold exL at e2
  obtain ⟨x_exc, e3⟩ := Bool.and_eq_true_iff.mp e2
  obtain ⟨x_fld, e4⟩ := Bool.and_eq_true_iff.mp e3
  obtain ⟨x_kit, e5⟩ := Bool.and_eq_true_iff.mp e4
  obtain ⟨x_bas, e6⟩ := Bool.and_eq_true_iff.mp e5
  obtain ⟨x_sub, e7⟩ := Bool.and_eq_true_iff.mp e6
  obtain ⟨x_typ, e8⟩ := Bool.and_eq_true_iff.mp e7
  obtain ⟨x_e_InvalidText, e9⟩ := Bool.and_eq_true_iff.mp e8
  obtain ⟨x_e_InvalidSyntax, e10⟩ := Bool.and_eq_true_iff.mp e9
  obtain ⟨x_e_InvalidTree, e11⟩ := Bool.and_eq_true_iff.mp e10
  obtain ⟨x_e_DuplicateName, e12⟩ := Bool.and_eq_true_iff.mp e11
  obtain ⟨x_e_UnknownName, e13⟩ := Bool.and_eq_true_iff.mp e12
  obtain ⟨x_e_InvalidCall, e14⟩ := Bool.and_eq_true_iff.mp e13
  obtain ⟨x_e_InvalidCarry, e15⟩ := Bool.and_eq_true_iff.mp e14
  obtain ⟨x_e_InvalidFormula, e16⟩ := Bool.and_eq_true_iff.mp e15
  obtain ⟨x_e_TooLarge, e17⟩ := Bool.and_eq_true_iff.mp e16
  obtain ⟨x_e_TooMany, e18⟩ := Bool.and_eq_true_iff.mp e17
  obtain ⟨x_e_InvalidRow, e19⟩ := Bool.and_eq_true_iff.mp e18
  obtain ⟨x_e_InvalidEntry, e20⟩ := Bool.and_eq_true_iff.mp e19
  obtain ⟨x_e_InvalidChoices, e21⟩ := Bool.and_eq_true_iff.mp e20
  obtain ⟨x_e_InvalidAction, e22⟩ := Bool.and_eq_true_iff.mp e21
  obtain ⟨x_e_InvalidWeights, e23⟩ := Bool.and_eq_true_iff.mp e22
  obtain ⟨x_e_InvalidFaults, e24⟩ := Bool.and_eq_true_iff.mp e23
  obtain ⟨x_e_InvalidEvent, e25⟩ := Bool.and_eq_true_iff.mp e24
  obtain ⟨x_e_InvalidQuestion, e26⟩ := Bool.and_eq_true_iff.mp e25
  obtain ⟨x_e_InvalidCommand, e27⟩ := Bool.and_eq_true_iff.mp e26
  obtain ⟨x_e_UnknownProcedure, e28⟩ := Bool.and_eq_true_iff.mp e27
  have x_e_LimitExceeded := e28
  have B : Bs mg := ⟨He.free_ok X G (c.fact 9 (f := .free "isinstance") rfl), He.free_ok X G (c.fact 10 (f := .free "len") rfl), He.free_ok X G (c.fact 11 (f := .free "all") rfl), He.free_ok X G (c.fact 12 (f := .free "any") rfl), He.free_ok X G (c.fact 13 (f := .free "tuple") rfl), He.free_ok X G (c.fact 14 (f := .free "list") rfl), He.free_ok X G (c.fact 15 (f := .free "int") rfl), He.free_ok X G (c.fact 16 (f := .free "bool") rfl), He.free_ok X G (c.fact 17 (f := .free "abs") rfl), He.free_ok X G (c.fact 18 (f := .free "range") rfl), He.free_ok X G (c.fact 19 (f := .free "zip") rfl), He.free_ok X G (c.fact 20 (f := .free "enumerate") rfl), He.free_ok X G (c.fact 21 (f := .free "sum") rfl), He.free_ok X G (c.fact 22 (f := .free "max") rfl), He.free_ok X G (c.fact 23 (f := .free "min") rfl)⟩
  have g := fun i (x : Str) (h : faL[i]? = some (.glo x)) => He.glo_ok X G (c.fact i (f := .glo x) h)
  have m_repr : mg "repr" = none := He.free_ok X G (c.fact 24 (f := .free "repr") rfl)
  have m_ValueError : mg "ValueError" = none := He.free_ok X G (c.fact 25 (f := .free "ValueError") rfl)
  have m_KeyError : mg "KeyError" = none := He.free_ok X G (c.fact 26 (f := .free "KeyError") rfl)
  have m_RuntimeError : mg "RuntimeError" = none := He.free_ok X G (c.fact 27 (f := .free "RuntimeError") rfl)
  have H__law_pool : Z.St K mg "_law_pool" s__law_pool ["_law_script", "_law_k"] := by
    obtain ⟨fd, F⟩ := c.def_ 0 (d := dfn "_law_pool" s__law_pool) rfl
    exact ⟨_, fd, F, g 0 _ rfl, F.bindsN fun _ _ _ _ _ _ us hl => match us, hl with | [_, _], _ => rfl⟩
  have H__law_take : Z.St K mg "_law_take" s__law_take ["_law_pool_here", "_law_wide"] := by
    obtain ⟨fd, F⟩ := c.def_ 1 (d := dfn "_law_take" s__law_take) rfl
    exact ⟨_, fd, F, g 1 _ rfl, F.bindsN fun _ _ _ _ _ _ us hl => match us, hl with | [_, _], _ => rfl⟩
  have H__law_made : Z.St K mg "_law_made" s__law_made ["_law_one"] := by
    obtain ⟨fd, F⟩ := c.def_ 2 (d := dfn "_law_made" s__law_made) rfl
    exact ⟨_, fd, F, g 2 _ rfl, F.bindsN fun _ _ _ _ _ _ us hl => match us, hl with | [_], _ => rfl⟩
  have H__law_named : Z.St K mg "_law_named" s__law_named ["_law_one"] := by
    obtain ⟨fd, F⟩ := c.def_ 3 (d := dfn "_law_named" s__law_named) rfl
    exact ⟨_, fd, F, g 3 _ rfl, F.bindsN fun _ _ _ _ _ _ us hl => match us, hl with | [_], _ => rfl⟩
  have H__law_fields : Z.St K mg "_law_fields" s__law_fields ["_law_some"] := by
    obtain ⟨fd, F⟩ := c.def_ 4 (d := dfn "_law_fields" s__law_fields) rfl
    exact ⟨_, fd, F, g 4 _ rfl, F.bindsN fun _ _ _ _ _ _ us hl => match us, hl with | [_], _ => rfl⟩
  have H__law_kinds : Z.St K mg "_law_kinds" s__law_kinds ["_law_e"] := by
    obtain ⟨fd, F⟩ := c.def_ 5 (d := dfn "_law_kinds" s__law_kinds) rfl
    exact ⟨_, fd, F, g 5 _ rfl, F.bindsN fun _ _ _ _ _ _ us hl => match us, hl with | [_], _ => rfl⟩
  have H__law_bases : Z.St K mg "_law_bases" s__law_bases ["_law_e"] := by
    obtain ⟨fd, F⟩ := c.def_ 6 (d := dfn "_law_bases" s__law_bases) rfl
    exact ⟨_, fd, F, g 6 _ rfl, F.bindsN fun _ _ _ _ _ _ us hl => match us, hl with | [_], _ => rfl⟩
  have H__law_raised : Z.St K mg "_law_raised" s__law_raised ["_law_one"] := by
    obtain ⟨fd, F⟩ := c.def_ 7 (d := dfn "_law_raised" s__law_raised) rfl
    exact ⟨_, fd, F, g 7 _ rfl, F.bindsN fun _ _ _ _ _ _ us hl => match us, hl with | [_], _ => rfl⟩
  have exm_TooMany_FreshError : PySem.W.exmOne K (.ref (He.ga K "TooMany")) (.ref (He.ga K "FreshError")) = some true := He.exm_ok (c.fact 50 (f := .exm "TooMany" "FreshError" true) rfl)
  have T_InvalidText : ErrB P K mg "InvalidText" (He.ga K "InvalidText") (He.ma K (He.ga K "InvalidText") "__init__") "value" := errB_ok (q := eposOf (inClass (top 2) 0)) base_ve (errs_at ce 0 rfl) (by rw [hfile]; exact x_e_InvalidText) (g 29 _ rfl) hsup (by decide +kernel) rfl rfl rfl (fun env => ⟨_, rfl⟩) (fun _ _ _ _ _ _ x v rest kw gv => by rcases gv with ⟨rfl, rfl⟩ | ⟨rfl, rfl⟩ <;> rfl)
  have T_InvalidSyntax : ErrB P K mg "InvalidSyntax" (He.ga K "InvalidSyntax") (He.ma K (He.ga K "InvalidSyntax") "__init__") "position" := errB_ok (q := eposOf (inClass (top 3) 0)) base_ve (errs_at ce 1 rfl) (by rw [hfile]; exact x_e_InvalidSyntax) (g 30 _ rfl) hsup (by decide +kernel) rfl rfl rfl (fun env => ⟨_, rfl⟩) (fun _ _ _ _ _ _ x v rest kw gv => by rcases gv with ⟨rfl, rfl⟩ | ⟨rfl, rfl⟩ <;> rfl)
  have T_InvalidTree : ErrB P K mg "InvalidTree" (He.ga K "InvalidTree") (He.ma K (He.ga K "InvalidTree") "__init__") "value" := errB_ok (q := eposOf (inClass (top 4) 0)) base_ve (errs_at ce 2 rfl) (by rw [hfile]; exact x_e_InvalidTree) (g 31 _ rfl) hsup (by decide +kernel) rfl rfl rfl (fun env => ⟨_, rfl⟩) (fun _ _ _ _ _ _ x v rest kw gv => by rcases gv with ⟨rfl, rfl⟩ | ⟨rfl, rfl⟩ <;> rfl)
  have T_DuplicateName : ErrB P K mg "DuplicateName" (He.ga K "DuplicateName") (He.ma K (He.ga K "DuplicateName") "__init__") "name" := errB_ok (q := eposOf (inClass (top 5) 0)) base_ve (errs_at ce 3 rfl) (by rw [hfile]; exact x_e_DuplicateName) (g 32 _ rfl) hsup (by decide +kernel) rfl rfl rfl (fun env => ⟨_, rfl⟩) (fun _ _ _ _ _ _ x v rest kw gv => by rcases gv with ⟨rfl, rfl⟩ | ⟨rfl, rfl⟩ <;> rfl)
  have T_UnknownName : ErrB P K mg "UnknownName" (He.ga K "UnknownName") (He.ma K (He.ga K "UnknownName") "__init__") "name" := errB_ok (q := eposOf (inClass (top 6) 0)) base_ve (errs_at ce 4 rfl) (by rw [hfile]; exact x_e_UnknownName) (g 33 _ rfl) hsup (by decide +kernel) rfl rfl rfl (fun env => ⟨_, rfl⟩) (fun _ _ _ _ _ _ x v rest kw gv => by rcases gv with ⟨rfl, rfl⟩ | ⟨rfl, rfl⟩ <;> rfl)
  have T_InvalidCall : ErrB P K mg "InvalidCall" (He.ga K "InvalidCall") (He.ma K (He.ga K "InvalidCall") "__init__") "place" := errB_ok (q := eposOf (inClass (top 7) 0)) base_ve (errs_at ce 5 rfl) (by rw [hfile]; exact x_e_InvalidCall) (g 34 _ rfl) hsup (by decide +kernel) rfl rfl rfl (fun env => ⟨_, rfl⟩) (fun _ _ _ _ _ _ x v rest kw gv => by rcases gv with ⟨rfl, rfl⟩ | ⟨rfl, rfl⟩ <;> rfl)
  have T_InvalidCarry : ErrB P K mg "InvalidCarry" (He.ga K "InvalidCarry") (He.ma K (He.ga K "InvalidCarry") "__init__") "place" := errB_ok (q := eposOf (inClass (top 8) 0)) base_ve (errs_at ce 6 rfl) (by rw [hfile]; exact x_e_InvalidCarry) (g 35 _ rfl) hsup (by decide +kernel) rfl rfl rfl (fun env => ⟨_, rfl⟩) (fun _ _ _ _ _ _ x v rest kw gv => by rcases gv with ⟨rfl, rfl⟩ | ⟨rfl, rfl⟩ <;> rfl)
  have T_InvalidFormula : ErrB P K mg "InvalidFormula" (He.ga K "InvalidFormula") (He.ma K (He.ga K "InvalidFormula") "__init__") "value" := errB_ok (q := eposOf (inClass (top 9) 0)) base_ve (errs_at ce 7 rfl) (by rw [hfile]; exact x_e_InvalidFormula) (g 36 _ rfl) hsup (by decide +kernel) rfl rfl rfl (fun env => ⟨_, rfl⟩) (fun _ _ _ _ _ _ x v rest kw gv => by rcases gv with ⟨rfl, rfl⟩ | ⟨rfl, rfl⟩ <;> rfl)
  have T_TooLarge : ErrB P K mg "TooLarge" (He.ga K "TooLarge") (He.ma K (He.ga K "TooLarge") "__init__") "word" := errB_ok (q := eposOf (inClass (top 10) 0)) base_ve (errs_at ce 8 rfl) (by rw [hfile]; exact x_e_TooLarge) (g 37 _ rfl) hsup (by decide +kernel) rfl rfl rfl (fun env => ⟨_, rfl⟩) (fun _ _ _ _ _ _ x v rest kw gv => by rcases gv with ⟨rfl, rfl⟩ | ⟨rfl, rfl⟩ <;> rfl)
  have T_TooMany : ErrB P K mg "TooMany" (He.ga K "TooMany") (He.ma K (He.ga K "TooMany") "__init__") "word" := errB_ok (q := eposOf (inClass (top 11) 0)) base_ve (errs_at ce 9 rfl) (by rw [hfile]; exact x_e_TooMany) (g 38 _ rfl) hsup (by decide +kernel) rfl rfl rfl (fun env => ⟨_, rfl⟩) (fun _ _ _ _ _ _ x v rest kw gv => by rcases gv with ⟨rfl, rfl⟩ | ⟨rfl, rfl⟩ <;> rfl)
  have T_InvalidRow : ErrB P K mg "InvalidRow" (He.ga K "InvalidRow") (He.ma K (He.ga K "InvalidRow") "__init__") "value" := errB_ok (q := eposOf (inClass (top 12) 0)) base_ve (errs_at ce 10 rfl) (by rw [hfile]; exact x_e_InvalidRow) (g 39 _ rfl) hsup (by decide +kernel) rfl rfl rfl (fun env => ⟨_, rfl⟩) (fun _ _ _ _ _ _ x v rest kw gv => by rcases gv with ⟨rfl, rfl⟩ | ⟨rfl, rfl⟩ <;> rfl)
  have T_InvalidEntry : ErrB P K mg "InvalidEntry" (He.ga K "InvalidEntry") (He.ma K (He.ga K "InvalidEntry") "__init__") "value" := errB_ok (q := eposOf (inClass (top 13) 0)) base_ve (errs_at ce 11 rfl) (by rw [hfile]; exact x_e_InvalidEntry) (g 40 _ rfl) hsup (by decide +kernel) rfl rfl rfl (fun env => ⟨_, rfl⟩) (fun _ _ _ _ _ _ x v rest kw gv => by rcases gv with ⟨rfl, rfl⟩ | ⟨rfl, rfl⟩ <;> rfl)
  have T_InvalidChoices : ErrB P K mg "InvalidChoices" (He.ga K "InvalidChoices") (He.ma K (He.ga K "InvalidChoices") "__init__") "value" := errB_ok (q := eposOf (inClass (top 14) 0)) base_ve (errs_at ce 12 rfl) (by rw [hfile]; exact x_e_InvalidChoices) (g 41 _ rfl) hsup (by decide +kernel) rfl rfl rfl (fun env => ⟨_, rfl⟩) (fun _ _ _ _ _ _ x v rest kw gv => by rcases gv with ⟨rfl, rfl⟩ | ⟨rfl, rfl⟩ <;> rfl)
  have T_InvalidAction : ErrB P K mg "InvalidAction" (He.ga K "InvalidAction") (He.ma K (He.ga K "InvalidAction") "__init__") "value" := errB_ok (q := eposOf (inClass (top 15) 0)) base_ve (errs_at ce 13 rfl) (by rw [hfile]; exact x_e_InvalidAction) (g 42 _ rfl) hsup (by decide +kernel) rfl rfl rfl (fun env => ⟨_, rfl⟩) (fun _ _ _ _ _ _ x v rest kw gv => by rcases gv with ⟨rfl, rfl⟩ | ⟨rfl, rfl⟩ <;> rfl)
  have T_InvalidWeights : ErrB P K mg "InvalidWeights" (He.ga K "InvalidWeights") (He.ma K (He.ga K "InvalidWeights") "__init__") "value" := errB_ok (q := eposOf (inClass (top 16) 0)) base_ve (errs_at ce 14 rfl) (by rw [hfile]; exact x_e_InvalidWeights) (g 43 _ rfl) hsup (by decide +kernel) rfl rfl rfl (fun env => ⟨_, rfl⟩) (fun _ _ _ _ _ _ x v rest kw gv => by rcases gv with ⟨rfl, rfl⟩ | ⟨rfl, rfl⟩ <;> rfl)
  have T_InvalidFaults : ErrB P K mg "InvalidFaults" (He.ga K "InvalidFaults") (He.ma K (He.ga K "InvalidFaults") "__init__") "value" := errB_ok (q := eposOf (inClass (top 17) 0)) base_ve (errs_at ce 15 rfl) (by rw [hfile]; exact x_e_InvalidFaults) (g 44 _ rfl) hsup (by decide +kernel) rfl rfl rfl (fun env => ⟨_, rfl⟩) (fun _ _ _ _ _ _ x v rest kw gv => by rcases gv with ⟨rfl, rfl⟩ | ⟨rfl, rfl⟩ <;> rfl)
  have T_InvalidEvent : ErrB P K mg "InvalidEvent" (He.ga K "InvalidEvent") (He.ma K (He.ga K "InvalidEvent") "__init__") "value" := errB_ok (q := eposOf (inClass (top 18) 0)) base_ve (errs_at ce 16 rfl) (by rw [hfile]; exact x_e_InvalidEvent) (g 45 _ rfl) hsup (by decide +kernel) rfl rfl rfl (fun env => ⟨_, rfl⟩) (fun _ _ _ _ _ _ x v rest kw gv => by rcases gv with ⟨rfl, rfl⟩ | ⟨rfl, rfl⟩ <;> rfl)
  have T_InvalidQuestion : ErrB P K mg "InvalidQuestion" (He.ga K "InvalidQuestion") (He.ma K (He.ga K "InvalidQuestion") "__init__") "position" := errB_ok (q := eposOf (inClass (top 19) 0)) base_ve (errs_at ce 17 rfl) (by rw [hfile]; exact x_e_InvalidQuestion) (g 46 _ rfl) hsup (by decide +kernel) rfl rfl rfl (fun env => ⟨_, rfl⟩) (fun _ _ _ _ _ _ x v rest kw gv => by rcases gv with ⟨rfl, rfl⟩ | ⟨rfl, rfl⟩ <;> rfl)
  have T_InvalidCommand : ErrB P K mg "InvalidCommand" (He.ga K "InvalidCommand") (He.ma K (He.ga K "InvalidCommand") "__init__") "word" := errB_ok (q := eposOf (inClass (top 20) 0)) base_ve (errs_at ce 18 rfl) (by rw [hfile]; exact x_e_InvalidCommand) (g 47 _ rfl) hsup (by decide +kernel) rfl rfl rfl (fun env => ⟨_, rfl⟩) (fun _ _ _ _ _ _ x v rest kw gv => by rcases gv with ⟨rfl, rfl⟩ | ⟨rfl, rfl⟩ <;> rfl)
  have T_UnknownProcedure : ErrB P K mg "UnknownProcedure" (He.ga K "UnknownProcedure") (He.ma K (He.ga K "UnknownProcedure") "__init__") "name" := errB_ok (q := eposOf (inClass (top 21) 0)) base_ke (errs_at ce 19 rfl) (by rw [hfile]; exact x_e_UnknownProcedure) (g 48 _ rfl) hsup (by decide +kernel) rfl rfl rfl (fun env => ⟨_, rfl⟩) (fun _ _ _ _ _ _ x v rest kw gv => by rcases gv with ⟨rfl, rfl⟩ | ⟨rfl, rfl⟩ <;> rfl)
  have T_LimitExceeded : ErrB P K mg "LimitExceeded" (He.ga K "LimitExceeded") (He.ma K (He.ga K "LimitExceeded") "__init__") "word" := errB_ok (q := eposOf (inClass (top 22) 0)) base_re (errs_at ce 20 rfl) (by rw [hfile]; exact x_e_LimitExceeded) (g 49 _ rfl) hsup (by decide +kernel) rfl rfl rfl (fun env => ⟨_, rfl⟩) (fun _ _ _ _ _ _ x v rest kw gv => by rcases gv with ⟨rfl, rfl⟩ | ⟨rfl, rfl⟩ <;> rfl)
  have S : Cs P K mg (He.ga K) (fun x => He.ma K (He.ga K x) "__init__") := by
    refine ⟨fun q hq => ?_, fun q hq => ?_, fun i j p q hp hq => ?_, fun i p hp => ?_, g 28 _ rfl, m_ValueError, m_KeyError, m_RuntimeError⟩
    · unfold CT at hq
      simp only [List.mem_cons, List.not_mem_nil, or_false] at hq
      rcases hq with rfl | rfl | rfl | rfl | rfl | rfl | rfl | rfl | rfl | rfl | rfl | rfl | rfl | rfl | rfl | rfl | rfl | rfl | rfl | rfl | rfl
      · exact T_InvalidText
      · exact T_InvalidSyntax
      · exact T_InvalidTree
      · exact T_DuplicateName
      · exact T_UnknownName
      · exact T_InvalidCall
      · exact T_InvalidCarry
      · exact T_InvalidFormula
      · exact T_TooLarge
      · exact T_TooMany
      · exact T_InvalidRow
      · exact T_InvalidEntry
      · exact T_InvalidChoices
      · exact T_InvalidAction
      · exact T_InvalidWeights
      · exact T_InvalidEvent
      · exact T_InvalidQuestion
      · exact T_InvalidCommand
      · exact T_InvalidFaults
      · exact T_UnknownProcedure
      · exact T_LimitExceeded
    · obtain ⟨a, b⟩ := excC_ok (List.all_eq_true.mp x_exc q hq)
      exact ⟨a, b, He.eqO_ok (List.all_eq_true.mp x_fld q hq)⟩
    · have li := lt_ct hp
      have lj := lt_ct hq
      have k := of_decide_eq_true (List.all_eq_true.mp (List.all_eq_true.mp x_kit i (List.mem_range.mpr li)) j (List.mem_range.mpr lj))
      rwa [nm_at hp, nm_at hq] at k
    · have k := List.all_eq_true.mp x_bas i (List.mem_range.mpr (lt_ct hp))
      obtain ⟨k1, k⟩ := Bool.and_eq_true_iff.mp k
      obtain ⟨k2, k⟩ := Bool.and_eq_true_iff.mp k
      obtain ⟨k3, k4⟩ := Bool.and_eq_true_iff.mp k
      have k1 := of_decide_eq_true k1
      have k2 := of_decide_eq_true k2
      have k3 := of_decide_eq_true k3
      have k4 := of_decide_eq_true k4
      rw [nm_at hp] at k1 k2 k3 k4
      exact ⟨k1, k2, k3, k4⟩
  obtain ⟨fd, F⟩ := c.def_ 8 (d := dfn "law" s_law) rfl
  have e := hfa.symm.trans (g 8 _ rfl)
  cases e
  have b := FunD.bindsA (ps := ["_law_script"]) F fun _ _ _ _ _ _ us hl => match us, hl with | [_], _ => rfl
  refine ⟨fd, fun s v => b s [v] rfl, fun base _ _ => ?_⟩
  have D_pool := dn__law_pool (P := P) (w := w) (base := base) H__law_pool B
  have D_take := dn__law_take (P := P) (w := w) (base := base) H__law_take B
  have D_made := dn_made (w := w) (base := base) H__law_made S
  have D_named := dn_named (w := w) (base := base) H__law_named S
  have D_fields := dn_fields (w := w) (base := base) H__law_fields S
  have D_kinds := dn_kinds (w := w) (base := base) H__law_kinds B S
  have D_bases := dn_bases (w := w) (base := base) H__law_bases B S
  have D_raised := dn_raised (w := w) (base := base) H__law_raised S m_repr exm_TooMany_FreshError (of_decide_eq_true x_sub) (of_decide_eq_true x_typ)
  exact ok_law F B m_repr S D_pool D_take D_made D_named D_fields D_kinds D_bases D_raised
end Q13
namespace Q13
theorem run (w : PySem.World) : HandSHeadRun.RunEqI Rw (PySem.W.view Rw.prog [32]) hk ob 20000 loose w := by
  unfold HandSHeadRun.RunEqI
  kernel_rfl
end Q13
open PySem PySem.W PySem.Calls PyProof.Rows L2 Z
theorem PySem.Challenge.cw_freshplaces_k13_classes_of_errors_holds : PySem.Challenge.rw_freshplaces_k13_classes_of_errors.Holds := by
  w_on; o_law
  refine HandSHeadRun.head_imp (r := OpenLaw.row PySem.Challenge.rw_freshplaces_k13_classes_of_errors) (q := view (OpenLaw.row PySem.Challenge.rw_freshplaces_k13_classes_of_errors).prog [32]) (H := Q13.hk) (ob := Q13.ob) (M := 20000) (loose := Q13.loose) (d := HandSHeadRun.topDef (OpenLaw.row PySem.Challenge.rw_freshplaces_k13_classes_of_errors).prog 32) (kwd := []) Q13.ob_eq
    Q13.run (by kernel_rfl) (by kernel_rfl) (by kernel_rfl) (by rfl) (by first | assumption | decide +kernel) (by decide +kernel) ⟨rfl, rfl, rfl, rfl, rfl, by decide +kernel⟩ ?hw ?hc
  case hw => w_witness2
  case hc =>
    refine walk_ofG (l := PySem.Challenge.rw_freshplaces_k13_classes_of_errors) (n := 63) (k := 4) (x := "_law_script") rfl (by decide) (by kernel_rfl) ⟨rfl, by decide, by decide⟩ ?F
    intro w mg fa h Y G hmg0
    obtain ⟨K, KX, c, cg, ce⟩ := Y
    have hmg : mg ("law" : PySem.Str) = some (.ref fa) := by
      have e : (HandSHeadRun.topDef (OpenLaw.row PySem.Challenge.rw_freshplaces_k13_classes_of_errors).prog 32).name = ("law" : PySem.Str) := by kernel_rfl
      rw [← e]
      exact hmg0
    obtain ⟨fd, hb, hF⟩ := Q13.facts (P := (PySem.Challenge.rw_freshplaces_k13_classes_of_errors).prog) (w := w) KX G hmg c ce (by kernel_rfl) (by kernel_rfl)
    exact ⟨K, fd, Q13.spLaw K, KX, hb, fun H a ns hl _ hS => ⟨a, ns, rfl, hS, Nat.le_trans hl (by decide), fun _ => rfl⟩, hF⟩
