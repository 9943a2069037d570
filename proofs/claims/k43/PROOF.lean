import PyProof.Rows.All
import Wide.All
import OpenK.AllK
import Wide.FinOn
import HandS.ForMost
import HandS.Evl
import PyProof.ReprReads
import HandS.Walk
import HandS.Zip
import HandS.Gcd
import HandS.IsInst
import HandS.Wide
import KE.GoesMore
import HandS.Iter
import HandS.Defaults
import HandS.HeadHook2
import KE.KMathG
import PyProof.ReprRoads
import HandS.HeadEnd
import HandS.Ends
import PyProof.ReprLen
import PyProof.Rows.RegStrFacts
import HandS.Property
import KE.KOpsOwn
import OpenK.KOps
import HandS.Style
import HandS.NoneIn
import HandS.SetFor
import HandS.Strs
import HandS.Codes
import HandS.TupMul
import PyProof.Rows.Range3
import PyProof.Conv_bool
import HandS.Words
import HandS.WordsExc
import HandS.Head0
import HandS.Head1
import HandS.Head2
import HandS.Head3
import HandS.HeadHook1
import HandS.HeadHook3
import HandS.HeadHook4
import HandS.ForExc
import KE.KExcSuper
import KE.KExcMake
import HandS.ExcValue
import HandS.ExcIs
import HandS.ExcField
import HandS.Lambda
import HandS.Dict
import KE.KStateDown
import PySem.Challenge.RW_freshplaces_k43_errors_of_rows
set_option Elab.async false
set_option linter.all false
set_option maxRecDepth 100000
set_option maxHeartbeats 0
/-! What a reading evaluates to, in data: a known part of the heap (the region) that only grows, beside it at most one list of two numbers that may change (the pool). -/
namespace Z
open PySem PySem.Spec PyProof.Rows L2 Evl
mutual
/-- v stands for the data d: lists are ones of the heap's own -/
inductive Dq (K : PySem.W.Frag) (H : Hp) : V → PyData → Prop
  | non : Dq K H .non .none
  | bl (b : Bool) : Dq K H (.bl b) (.bool b)
  | int (i : Int) : Dq K H (.int i) (.int i)
  | str (x : Str) : Dq K H (.str x) (.str x)
  | lst {a : Addr} {xs : List V} {ds : List PyData} (h : H a = some (.lst xs)) (hs : DqAll K H xs ds) : Dq K H (.ref a) (.list ds)
  | tup {a : Addr} {xs : List V} {ds : List PyData} (h : SqT K H a xs) (hs : DqAll K H xs ds) : Dq K H (.ref a) (.tuple ds)
  | dic {a : Addr} (h : H a = some (.dK [])) : Dq K H (.ref a) (.dict [])
inductive DqAll (K : PySem.W.Frag) (H : Hp) : List V → List PyData → Prop
  | nil : DqAll K H [] []
  | cons {v : V} {vs : List V} {d : PyData} {ds : List PyData} (h : Dq K H v d) (hs : DqAll K H vs ds) : DqAll K H (v :: vs) (d :: ds)
end
theorem dq_ex {K : PySem.W.Frag} {H H' : Hp} (e : Ex H H') : ∀ (d : PyData) (v : V), Dq K H v d → Dq K H' v d
  | .none, _, .non => .non
  | .bool _, _, .bl b => .bl b
  | .int _, _, .int i => .int i
  | .str _, _, .str x => .str x
  | .list ds, _, .lst h hs => .lst (e _ _ h) (all e ds _ hs)
  | .tuple ds, _, .tup h hs => .tup (ex_t e h) (all e ds _ hs)
  | .dict [], _, .dic h => .dic (e _ _ h)
where
  all {K : PySem.W.Frag} {H H' : Hp} (e : Ex H H') : ∀ (ds : List PyData) (vs : List V), DqAll K H vs ds → DqAll K H' vs ds
  | [], _, .nil => .nil
  | d :: ds, _, .cons h hs => .cons (dq_ex e d _ h) (all e ds _ hs)
theorem dq_dp {K : PySem.W.Frag} {H : Hp} : ∀ (d : PyData) (v : V), d.hasDict = false → Dq K H v d → Dp K H v d
  | .none, _, _, .non => .non
  | .bool _, _, _, .bl b => .bl b
  | .int _, _, _, .int i => .int i
  | .str _, _, _, .str x => .str x
  | .list ds, _, n, .lst h hs => .lst (sq_of h) (all ds _ n hs)
  | .tuple ds, _, n, .tup h hs => .tup h (all ds _ n hs)
  | .dict [], _, n, .dic _ => by cases n
where
  all {K : PySem.W.Frag} {H : Hp} : ∀ (ds : List PyData) (vs : List V), PyData.hasDictAll ds = false → DqAll K H vs ds → DpAll K H vs ds
  | [], _, _, .nil => .nil
  | d :: ds, _, n, .cons h hs => by
    have n2 : (d.hasDict || PyData.hasDictAll ds) = false := n
    rw [Bool.or_eq_false_iff] at n2
    exact .cons (dq_dp d _ n2.1 h) (all ds _ n2.2 hs)
theorem noDict_shaped {d : PyData} (h : SeqAt.shaped d = true) : d.hasDict = false := PyData.hasDict_of_canLay d (Bool.and_eq_true_iff.mp h).1
theorem dqall_ex {K : PySem.W.Frag} {H H' : Hp} (e : Ex H H') {ds : List PyData} {vs : List V} (h : DqAll K H vs ds) : DqAll K H' vs ds := dq_ex.all e ds vs h
def Pool (p : Option Addr) (A : Hp) : Prop := ∀ q, p = some q → ∃ a b : Int, A q = some (.lst [.int a, .int b]) ∧ 0 ≤ a ∧ 0 ≤ b ∧ b < 2147483647
/-- what may change: the pool, and objects of one's own with what they hold now -/
structure Me where
  pool : Option Addr
  own : Hp
def Me.non : Me := ⟨none, fun _ => none⟩
/-- H is known in A and stays; apart from it the pool and what is one's own -/
structure Reg (p : Me) (H A : Hp) : Prop where
  ex : Ex H A
  pool : Pool p.pool A
  off : ∀ q, p.pool = some q → H q = none
  own : Ex p.own A
  offO : ∀ q o, p.own q = some o → H q = none ∧ p.pool ≠ some q
/-- from (A, H) on to (A', H') -/
structure Gr (p : Me) (A H A' H' : Hp) : Prop where
  act : ∀ a o, p.pool ≠ some a → A a = some o → A' a = some o
  dom : ∀ a o, A a = some o → ∃ o', A' a = some o'
  pool : Pool p.pool A'
  reg : Ex H H'
  sub : Ex H' A'
  new : ∀ a o o', A a = some o → H' a = some o' → H a = some o'
section
variable {p p' : Me} {A H A' H' A1 H1 A2 H2 : Hp}
theorem Reg.refl (r : Reg p H A) : Gr p A H A H := ⟨fun _ _ _ h => h, fun _ o h => ⟨o, h⟩, r.pool, Ex.refl H, r.ex, fun _ _ _ _ h => h⟩
theorem Gr.as (g : Gr p A H A' H') (e : p.pool = p'.pool) : Gr p' A H A' H' := ⟨fun a o n h => g.act a o (e ▸ n) h, g.dom, e ▸ g.pool, g.reg, g.sub, g.new⟩
theorem Gr.to (r : Reg p H A) (g : Gr p A H A' H') : Reg p H' A' := by
  have key : ∀ q o, A q = some o → H q = none → H' q = none := fun q o h n => by
    cases e : H' q with
    | none => rfl
    | some o' =>
      have := g.new q _ _ h e
      rw [n] at this
      cases this
  refine ⟨g.sub, g.pool, fun q hq => ?_, fun q o h => g.act q o (r.offO q o h).2 (r.own q o h), fun q o h => ⟨key q o (r.own q o h) (r.offO q o h).1, (r.offO q o h).2⟩⟩
  obtain ⟨a, b, h, _⟩ := r.pool q hq
  exact key q _ h (r.off q hq)
theorem Gr.trans (g : Gr p A H A1 H1) (k : Gr p A1 H1 A2 H2) : Gr p A H A2 H2 := ⟨fun a o n h => k.act a o n (g.act a o n h), fun a o h => by
  obtain ⟨o1, h1⟩ := g.dom a o h
  exact k.dom a o1 h1, k.pool, g.reg.trans k.reg, k.sub, fun a o o' h h' => by
  obtain ⟨o1, h1⟩ := g.dom a o h
  exact g.new a o o' h (k.new a o1 o' h1 h')⟩
def un (H2 H1 : Hp) : Hp := fun a => match H2 a with
  | some o => some o
  | none => H1 a
theorem un_l {a : Addr} {o : HO} (h : H2 a = some o) : un H2 H1 a = some o := by unfold un; rw [h]
theorem un_r {a : Addr} (h : H2 a = none) : un H2 H1 a = H1 a := by unfold un; rw [h]
/-- the same growth seen from a larger region -/
theorem Gr.wide (r : Reg p H2 A) (e : Ex H H2) (g : Gr p A H A' H1) : Gr p A H2 A' (un H2 H1) ∧ Ex H1 (un H2 H1) := by
  have sub : Ex (un H2 H1) A' := fun a o h => by
    cases q : H2 a with
    | some o2 =>
      rw [un_l q] at h
      cases h
      have n : p.pool ≠ some a := fun z => by
        rw [r.off a z] at q
        cases q
      exact g.act a _ n (r.ex a _ q)
    | none =>
      rw [un_r q] at h
      exact g.sub a o h
  refine ⟨⟨g.act, g.dom, g.pool, fun a o h => un_l h, sub, fun a o o' h h' => ?_⟩, fun a o h => ?_⟩
  · cases q : H2 a with
    | some o2 =>
      rw [un_l q] at h'
      exact h'
    | none =>
      rw [un_r q] at h'
      have := e a o' (g.new a o o' h h')
      rw [q] at this
      cases this
  · cases q : H2 a with
    | some o2 =>
      have := e a o (g.new a o2 o (r.ex a _ q) h)
      rw [q] at this
      cases this
      exact un_l q
    | none => rw [un_r q]; exact h
/-- without the pool -/
theorem Gr.pure (r : Reg p H A) (g : Gr .non A H A' H') : Gr p A H A' H' := ⟨fun a o _ h => g.act a o (fun z => nomatch z) h, g.dom, fun q hq => by
  obtain ⟨a, b, h, k⟩ := r.pool q hq
  exact ⟨a, b, g.act q _ (fun z => nomatch z) h, k⟩, g.reg, g.sub, g.new⟩
theorem Reg.nil (r : Reg p H A) : Reg .non H A := ⟨r.ex, fun _ h => (nomatch h), fun _ h => (nomatch h), fun _ _ h => (nomatch h), fun _ _ h => (nomatch h)⟩
/-- a smaller part known -/
theorem Reg.less (r : Reg p H2 A) (e : Ex H H2) : Reg p H A := ⟨e.trans r.ex, r.pool, fun q h => fresh_back e (r.off q h), r.own, fun q o h => ⟨fresh_back e (r.offO q o h).1, (r.offO q o h).2⟩⟩
/-- an own object, new or changed -/
theorem Reg.put (r : Reg p H A) {q : Addr} {o : HO} (hp : p.pool ≠ some q) (hq : H q = none) : Reg ⟨p.pool, upd p.own q o⟩ H (upd A q o) := by
  refine ⟨fun a x h => ?_, fun b hb => ?_, r.off, fun a x h => ?_, fun a x h => ?_⟩
  · rw [upd_ne (ne_of_none h hq)]
    exact r.ex a x h
  · obtain ⟨i, j, h, k⟩ := r.pool b hb
    have : b ≠ q := fun z => hp (z ▸ hb)
    exact ⟨i, j, by rw [upd_ne this]; exact h, k⟩
  · have h' : upd p.own q o a = some x := h
    by_cases c : a = q
    · subst c
      rw [upd_same] at h' ⊢
      exact h'
    · rw [upd_ne c] at h' ⊢
      exact r.own a x h'
  · by_cases c : a = q
    · subst c
      exact ⟨hq, hp⟩
    · have h' : upd p.own q o a = some x := h
      rw [upd_ne c] at h'
      exact r.offO a x h'
/-- nothing is one's own any more -/
theorem Reg.forget (r : Reg p H A) : Reg ⟨p.pool, fun _ => none⟩ H A := ⟨r.ex, r.pool, r.off, fun _ _ h => (nomatch h), fun _ _ h => (nomatch h)⟩
theorem Reg.ownAs (r : Reg p H A) {w : Hp} (h : ∀ a o, w a = some o → p.own a = some o) : Reg ⟨p.pool, w⟩ H A := ⟨r.ex, r.pool, r.off, fun a o e => r.own a o (h a o e), fun a o e => r.offO a o (h a o e)⟩
/-- a new object, known from then on -/
theorem Gr.alloc (r : Reg p H A) {q : Addr} {o : HO} (n : A q = none) : Gr p A H (upd A q o) (upd H q o) := by
  have nh : H q = none := fresh_back r.ex n
  refine ⟨fun a x _ h => ?_, fun a x h => ?_, fun b hb => ?_, Ex.new nh, fun a x h => ?_, fun a x x' h h' => ?_⟩
  · rw [upd_ne (ne_of_none h n)]; exact h
  · exact ⟨x, by rw [upd_ne (ne_of_none h n)]; exact h⟩
  · obtain ⟨i, j, h, k⟩ := r.pool b hb
    exact ⟨i, j, by rw [upd_ne (ne_of_none h n)]; exact h, k⟩
  · by_cases c : a = q
    · subst c
      rw [upd_same] at h ⊢
      exact h
    · rw [upd_ne c] at h ⊢
      exact r.ex a x h
  · rw [upd_ne (ne_of_none h n)] at h'
    exact h'
/-- a new object that is not counted to what is known: it may change -/
theorem Gr.allocM (r : Reg p H A) {q : Addr} {o : HO} (n : A q = none) : Gr p A H (upd A q o) H := by
  refine ⟨fun a x _ h => ?_, fun a x h => ?_, fun b hb => ?_, Ex.refl H, fun a x h => ?_, fun a x x' _ h' => h'⟩
  · rw [upd_ne (ne_of_none h n)]; exact h
  · exact ⟨x, by rw [upd_ne (ne_of_none h n)]; exact h⟩
  · obtain ⟨i, j, h, k⟩ := r.pool b hb
    exact ⟨i, j, by rw [upd_ne (ne_of_none h n)]; exact h, k⟩
  · rw [upd_ne (ne_of_none (r.ex a x h) n)]
    exact r.ex a x h
/-- such an object changes: seen from where it was not there yet -/
theorem Gr.mut (g : Gr p A H A' H') {q : Addr} {o : HO} (n : A q = none) (m : H' q = none) (hp : p.pool ≠ some q) : Gr p A H (upd A' q o) H' := by
  refine ⟨fun a x k h => ?_, fun a x h => ?_, fun b hb => ?_, g.reg, fun a x h => ?_, g.new⟩
  · rw [upd_ne (ne_of_none h n)]; exact g.act a x k h
  · obtain ⟨y, h'⟩ := g.dom a x h
    exact ⟨y, by rw [upd_ne (ne_of_none h n)]; exact h'⟩
  · obtain ⟨i, j, h, k⟩ := g.pool b hb
    have : b ≠ q := fun z => hp (z ▸ hb)
    exact ⟨i, j, by rw [upd_ne this]; exact h, k⟩
  · rw [upd_ne (ne_of_none h m)]
    exact g.sub a x h
/-- it is counted to what is known from here on -/
theorem Gr.know (g : Gr p A H A' H') {q : Addr} {o : HO} (n : A q = none) (m : H' q = none) (h : A' q = some o) : Gr p A H A' (upd H' q o) := by
  refine ⟨g.act, g.dom, g.pool, g.reg.trans (Ex.new m), fun a x e => ?_, fun a x x' e e' => ?_⟩
  · by_cases c : a = q
    · subst c
      rw [upd_same] at e
      cases e
      exact h
    · rw [upd_ne c] at e
      exact g.sub a x e
  · have c : a ≠ q := ne_of_none e n
    rw [upd_ne c] at e'
    exact g.new a x x' e e'
end
/-! ### judgements -/
def EvG (p : Me) (te : TE) (σ : L2.St) (H : Hp) (P : V → Hp → Prop) : Prop := ∀ A, Reg p H A → ∀ Q : VK, (∀ v A' H', Gr p A H A' H' → P v H' → Q v A') → te σ A Q
abbrev EvD (K : PySem.W.Frag) (p : Me) (te : TE) (σ : L2.St) (H : Hp) (d : PyData) : Prop := EvG p te σ H (fun v H' => Dq K H' v d)
def EvB (p : Me) (tt : TT) (σ : L2.St) (H : Hp) (b : Bool) : Prop := ∀ A, Reg p H A → ∀ Q : Bool → Hp → Prop, (∀ A' H', Gr p A H A' H' → Q b A') → tt σ A Q
def EvS (K : PySem.W.Frag) (p : Me) (ta : TA) (σ : L2.St) (H : Hp) (ds : List PyData) : Prop := ∀ A, Reg p H A → ∀ Q : List V → Hp → Prop, (∀ vs A' H', Gr p A H A' H' → DqAll K H' vs ds → Q vs A') → ta σ A Q
/-- operations on values -/
def OpG (K : PySem.W.Frag) (p : Me) (r : R2) (dx dy : PyData) (P : V → Hp → Prop) : Prop := ∀ x y H A, Dq K H x dx → Dq K H y dy → Reg p H A → ∀ Q : VK, (∀ v A' H', Gr p A H A' H' → P v H' → Q v A') → r x y A Q
abbrev OpD (K : PySem.W.Frag) (p : Me) (r : R2) (dx dy d : PyData) : Prop := OpG K p r dx dy (fun v H' => Dq K H' v d)
def UnD (K : PySem.W.Frag) (p : Me) (r : V → Hp → VK → Prop) (dx d : PyData) : Prop := ∀ x H A, Dq K H x dx → Reg p H A → ∀ Q : VK, (∀ v A' H', Gr p A H A' H' → Dq K H' v d → Q v A') → r x A Q
def CaG (K : PySem.W.Frag) (p : Me) (r : List V → Hp → VK → Prop) (ds : List PyData) (P : V → Hp → Prop) : Prop := ∀ vs H A, DqAll K H vs ds → Reg p H A → ∀ Q : VK, (∀ v A' H', Gr p A H A' H' → P v H' → Q v A') → r vs A Q
abbrev CaD (K : PySem.W.Frag) (p : Me) (r : List V → Hp → VK → Prop) (ds : List PyData) (d : PyData) : Prop := CaG K p r ds (fun v H' => Dq K H' v d)
section
variable {K : PySem.W.Frag} {p : Me} {σ : L2.St} {H H' A A' : Hp} {te ta tb tc : TE} {tt tu : TT} {d dx dy dz : PyData}
theorem EvD.mono {H2 : Hp} (e : Ex H H2) (h : EvD K p te σ H d) : EvD K p te σ H2 d := fun A r Q q => by
  have r0 : Reg p H A := r.less e
  exact h A r0 Q fun v A' H' g k => by
    obtain ⟨g2, e2⟩ := g.wide r e
    exact q v A' _ g2 (dq_ex e2 d v k)
theorem EvB.mono {H2 : Hp} {b : Bool} (e : Ex H H2) (h : EvB p tt σ H b) : EvB p tt σ H2 b := fun A r Q q => by
  have r0 : Reg p H A := r.less e
  exact h A r0 Q fun A' H' g => by
    obtain ⟨g2, e2⟩ := g.wide r e
    exact q A' _ g2
theorem EvS.mono {H2 : Hp} {ta : TA} {ds : List PyData} (e : Ex H H2) (h : EvS K p ta σ H ds) : EvS K p ta σ H2 ds := fun A r Q q => by
  have r0 : Reg p H A := r.less e
  exact h A r0 Q fun v A' H' g k => by
    obtain ⟨g2, e2⟩ := g.wide r e
    exact q v A' _ g2 (dqall_ex e2 k)
theorem d_var {i : Nat} {v : V} (h : σ[i]? = some (some v)) (k : Dq K H v d) : EvD K p (tVar i) σ H d := fun A r Q q => ⟨v, h, q v A H r.refl k⟩
theorem d_int {i : Int} : EvD K p (tC (.int i)) σ H (.int i) := fun A r Q q => q _ A H r.refl (.int i)
theorem d_bl {i : Bool} : EvD K p (tC (.bl i)) σ H (.bool i) := fun A r Q q => q _ A H r.refl (.bl i)
theorem d_str {i : Str} : EvD K p (tC (.str i)) σ H (.str i) := fun A r Q q => q _ A H r.refl (.str i)
theorem d_non : EvD K p (tC .non) σ H .none := fun A r Q q => q _ A H r.refl .non
theorem g_op {r : R2} {P : V → Hp → Prop} (ha : EvD K p ta σ H dx) (hb : EvD K p tb σ H dy) (hr : OpG K p r dx dy P) : EvG p (tOp r ta tb) σ H P := fun A R Q q =>
  ha A R _ fun x A1 H1 g1 k1 => EvD.mono g1.reg hb A1 (g1.to R) _ fun y A2 H2 g2 k2 => hr x y H2 A2 (dq_ex g2.reg _ _ k1) k2 (g2.to (g1.to R)) Q fun z A3 H3 g3 k3 => q z A3 H3 ((g1.trans g2).trans g3) k3
theorem d_op {r : R2} (ha : EvD K p ta σ H dx) (hb : EvD K p tb σ H dy) (hr : OpD K p r dx dy d) : EvD K p (tOp r ta tb) σ H d := g_op ha hb hr
theorem d_un {r : V → Hp → VK → Prop} (ha : EvD K p ta σ H dx) (hr : UnD K p r dx d) : EvD K p (tUn r ta) σ H d := fun A R Q q =>
  ha A R _ fun x A1 H1 g1 k1 => hr x H1 A1 k1 (g1.to R) Q fun z A3 H3 g3 k3 => q z A3 H3 (g1.trans g3) k3
theorem s_nil : EvS K p tNil σ H [] := fun A R Q q => q [] A H R.refl .nil
theorem s_cons {tr : TA} {ds : List PyData} (ha : EvD K p ta σ H d) (hr : EvS K p tr σ H ds) : EvS K p (tCons ta tr) σ H (d :: ds) := fun A R Q q =>
  ha A R _ fun x A1 H1 g1 k1 => EvS.mono g1.reg hr A1 (g1.to R) _ fun ys A2 H2 g2 k2 => q _ A2 H2 (g1.trans g2) (.cons (dq_ex g2.reg _ _ k1) k2)
theorem g_cb {r : List V → Hp → VK → Prop} {ta : TA} {ds : List PyData} {P : V → Hp → Prop} (h : EvS K p ta σ H ds) (hr : CaG K p r ds P) : EvG p (tCB r ta) σ H P := fun A R Q q =>
  h A R _ fun vs A1 H1 g1 k1 => hr vs H1 A1 k1 (g1.to R) Q fun z A3 H3 g3 k3 => q z A3 H3 (g1.trans g3) k3
theorem d_cb {r : List V → Hp → VK → Prop} {ta : TA} {ds : List PyData} (h : EvS K p ta σ H ds) (hr : CaD K p r ds d) : EvD K p (tCB r ta) σ H d := g_cb h hr
theorem dqall_len {vs : List V} {ds : List PyData} (h : DqAll K H vs ds) : vs.length = ds.length := by
  induction ds generalizing vs with
  | nil => cases h; rfl
  | cons d ds ih => cases h with | cons h1 h2 => rw [List.length_cons, List.length_cons, ih h2]
theorem d_tup {ta : TA} {ds : List PyData} (h : EvS K p ta σ H ds) (hl : ds.length ≤ 100000) : EvD K p (tTup ta) σ H (.tuple ds) := fun A R Q q =>
  h A R _ fun vs A1 H1 g1 k1 => ⟨by rw [dqall_len k1]; exact sz_of hl, fun l hn => by
    have g2 := Gr.alloc (g1.to R) (o := .tup vs) hn
    exact q (.ref l) _ _ (g1.trans g2) (.tup (st_of upd_same) (dqall_ex g2.reg k1))⟩
theorem d_lst {ta : TA} {ds : List PyData} (h : EvS K p ta σ H ds) (hl : ds.length ≤ 100000) : EvD K p (tLst ta) σ H (.list ds) := fun A R Q q =>
  h A R _ fun vs A1 H1 g1 k1 => ⟨by rw [dqall_len k1]; exact sz_of hl, fun l hn => by
    have g2 := Gr.alloc (g1.to R) (o := .lst vs) hn
    exact q (.ref l) _ _ (g1.trans g2) (.lst upd_same (dqall_ex g2.reg k1))⟩
theorem b_test {b : Bool} (h : EvD K p te σ H (.bool b)) : EvB p (tTest te) σ H b := fun A R Q q => h A R _ fun v A' H' g k => by
  cases k
  exact ⟨_, rfl, q A' H' g⟩
theorem b_B {b : Bool} (h : EvD K p te σ H (.bool b)) : EvB p (tB te) σ H b := fun A R Q q => h A R _ fun v A' H' g k => by
  cases k
  exact ⟨_, rfl, q A' H' g⟩
theorem b_not {b : Bool} (h : EvB p tt σ H b) : EvB p (tNot tt) σ H (!b) := fun A R Q q => h A R _ fun A' H' g => q A' H' g
theorem b_and {a b : Bool} (h1 : EvB p tt σ H a) (h2 : a = true → EvB p tu σ H b) : EvB p (tAnd tt tu) σ H (a && b) := fun A R Q q => h1 A R _ fun A1 H1 g1 => by
  cases a with
  | true =>
    show tu σ A1 Q
    exact (h2 rfl).mono g1.reg A1 (g1.to R) Q fun A2 H2 g2 => q A2 H2 (g1.trans g2)
  | false =>
    show Q false A1
    exact q A1 H1 g1
theorem b_or {a b : Bool} (h1 : EvB p tt σ H a) (h2 : a = false → EvB p tu σ H b) : EvB p (tOr tt tu) σ H (a || b) := fun A R Q q => h1 A R _ fun A1 H1 g1 => by
  cases a with
  | false =>
    show tu σ A1 Q
    exact (h2 rfl).mono g1.reg A1 (g1.to R) Q fun A2 H2 g2 => q A2 H2 (g1.trans g2)
  | true =>
    show Q true A1
    exact q A1 H1 g1
theorem b_yes : EvB p tYes σ H true := fun A R Q q => q A H R.refl
theorem d_andV {a b : Bool} (h1 : EvD K p ta σ H (.bool a)) (h2 : a = true → EvD K p tb σ H (.bool b)) : EvD K p (tAndV ta tb) σ H (.bool (a && b)) := fun A R Q q => h1 A R _ fun v A1 H1 g1 k1 => by
  cases k1
  refine ⟨_, rfl, ?_⟩
  cases a with
  | true =>
    show tb σ A1 Q
    exact (h2 rfl).mono g1.reg A1 (g1.to R) Q fun v A2 H2 g2 k2 => q v A2 H2 (g1.trans g2) k2
  | false =>
    show Q (.bl false) A1
    exact q _ A1 H1 g1 (.bl false)
theorem d_orV {a b : Bool} (h1 : EvD K p ta σ H (.bool a)) (h2 : a = false → EvD K p tb σ H (.bool b)) : EvD K p (tOrV ta tb) σ H (.bool (a || b)) := fun A R Q q => h1 A R _ fun v A1 H1 g1 k1 => by
  cases k1
  refine ⟨_, rfl, ?_⟩
  cases a with
  | false =>
    show tb σ A1 Q
    exact (h2 rfl).mono g1.reg A1 (g1.to R) Q fun v A2 H2 g2 k2 => q v A2 H2 (g1.trans g2) k2
  | true =>
    show Q (.bl true) A1
    exact q _ A1 H1 g1 (.bl true)
theorem d_notV {a : Bool} (h1 : EvD K p ta σ H (.bool a)) : EvD K p (tNotV ta) σ H (.bool (!a)) := fun A R Q q => h1 A R _ fun v A1 H1 g1 k1 => by
  cases k1
  exact ⟨_, rfl, q _ A1 H1 g1 (.bl _)⟩
theorem d_if {b : Bool} (h : EvB p tt σ H b) (h1 : b = true → EvD K p ta σ H d) (h2 : b = false → EvD K p tb σ H d) : EvD K p (tIf tt ta tb) σ H d := fun A R Q q => h A R _ fun A1 H1 g1 => by
  cases b with
  | true =>
    show ta σ A1 Q
    exact (h1 rfl).mono g1.reg A1 (g1.to R) Q fun v A2 H2 g2 k2 => q v A2 H2 (g1.trans g2) k2
  | false =>
    show tb σ A1 Q
    exact (h2 rfl).mono g1.reg A1 (g1.to R) Q fun v A2 H2 g2 k2 => q v A2 H2 (g1.trans g2) k2
theorem EvD.is (h : EvD K p te σ H d) (e : d = dx) : EvD K p te σ H dx := e ▸ h
theorem EvB.is {a b : Bool} (h : EvB p tt σ H a) (e : a = b) : EvB p tt σ H b := e ▸ h
/-! operations -/
theorem o_I0 {f : Int → Int → Int} {i j : Int} : OpD K p (rI0 fun i j => .int (f i j)) (.int i) (.int j) (.int (f i j)) := fun x y H A hx hy R Q q => by
  cases hx; cases hy
  exact ⟨_, _, rfl, rfl, q _ A H R.refl (.int _)⟩
theorem o_I {C : Int → Int → Prop} {f : Int → Int → Int} {i j : Int} (h : C i j) : OpD K p (rI C fun i j => .int (f i j)) (.int i) (.int j) (.int (f i j)) := fun x y H A hx hy R Q q => by
  cases hx; cases hy
  exact ⟨_, _, rfl, rfl, h, q _ A H R.refl (.int _)⟩
theorem o_B0 {f : Int → Int → Bool} {i j : Int} : OpD K p (rI0 fun i j => .bl (f i j)) (.int i) (.int j) (.bool (f i j)) := fun x y H A hx hy R Q q => by
  cases hx; cases hy
  exact ⟨_, _, rfl, rfl, q _ A H R.refl (.bl _)⟩
theorem o_eqD (h1 : SeqAt.shaped dx = true) (h2 : SeqAt.shaped dy = true) : OpD K p (rEqD K) dx dy (.bool (PyData.eqv dx dy)) := fun x y H A hx hy R Q q =>
  ⟨dx, dy, dq_dp _ _ (noDict_shaped h1) (dq_ex R.ex _ _ hx), dq_dp _ _ (noDict_shaped h2) (dq_ex R.ex _ _ hy), h1, h2, q _ A H R.refl (.bl _)⟩
theorem o_neD (h1 : SeqAt.shaped dx = true) (h2 : SeqAt.shaped dy = true) : OpD K p (rNeD K) dx dy (.bool (!PyData.eqv dx dy)) := fun x y H A hx hy R Q q =>
  ⟨dx, dy, dq_dp _ _ (noDict_shaped h1) (dq_ex R.ex _ _ hx), dq_dp _ _ (noDict_shaped h2) (dq_ex R.ex _ _ hy), h1, h2, q _ A H R.refl (.bl _)⟩
theorem dq_inv_l {ds : List PyData} {v : V} (h : Dq K H v (.list ds)) : ∃ a xs, v = .ref a ∧ H a = some (.lst xs) ∧ DqAll K H xs ds := by
  cases h with | lst h1 h2 => exact ⟨_, _, rfl, h1, h2⟩
theorem dq_inv_t {ds : List PyData} {v : V} (h : Dq K H v (.tuple ds)) : ∃ a xs, v = .ref a ∧ SqT K H a xs ∧ DqAll K H xs ds := by
  cases h with | tup h1 h2 => exact ⟨_, _, rfl, h1, h2⟩
theorem dqall_get {ds : List PyData} {vs : List V} (h : DqAll K H vs ds) {i : Nat} (e : ds[i]? = some d) : ∃ v, vs[i]? = some v ∧ Dq K H v d := by
  induction ds generalizing vs i with
  | nil => simp at e
  | cons c cs ih =>
    cases h with | cons h1 h2 =>
    cases i with
    | zero =>
      cases e
      exact ⟨_, rfl, h1⟩
    | succ i => exact ih h2 (by simpa using e)
theorem dqall_at {ds : List PyData} {vs : List V} (h : DqAll K H vs ds) {i : Int} (e : atI ds i = some d) : ∃ v, atI vs i = some v ∧ Dq K H v d := by
  unfold atI at e ⊢
  rw [dqall_len h]
  cases q : ixN ds.length i with
  | none => rw [q] at e; cases e
  | some j =>
    rw [q] at e
    exact dqall_get h e
/-- xs[i], of a list, a tuple -/
theorem o_ixL {ds : List PyData} {i : Int} (e : atI ds i = some d) : OpD K p (rIx K) (.list ds) (.int i) d := fun x y H A hx hy R Q q => by
  cases hy
  obtain ⟨a, xs, rfl, h1, h2⟩ := dq_inv_l hx
  obtain ⟨v, e1, k⟩ := dqall_at h2 e
  exact .inl ⟨a, xs, i, v, rfl, rfl, sq_of (R.ex _ _ h1), e1, q v A H R.refl k⟩
theorem o_ixT {ds : List PyData} {i : Int} (e : atI ds i = some d) : OpD K p (rIx K) (.tuple ds) (.int i) d := fun x y H A hx hy R Q q => by
  cases hy
  obtain ⟨a, xs, rfl, h1, h2⟩ := dq_inv_t hx
  obtain ⟨v, e1, k⟩ := dqall_at h2 e
  exact .inr (.inl ⟨a, xs, i, v, rfl, rfl, ex_t R.ex h1, e1, q v A H R.refl k⟩)
end
end Z
namespace Z
open PySem PySem.Spec PyProof.Rows L2 Evl
section
variable {K : PySem.W.Frag} {p : Me} {σ : L2.St} {H H' A A' : Hp} {te ta tb tc tl : TE} {tt : TT} {tu tw tz : TS} {D : Ends} {d dx dy dz : PyData} {ds : List PyData}
/-! ### statements -/
theorem s_asg {P : V → Hp → Prop} {i : Nat} (h : EvG p te σ H P) (R : Reg p H A) (k : ∀ v A' H', Gr p A H A' H' → P v H' → D.nx (σ.set i (some v)) A') : tAsg te (gName i) D σ A := h A R _ k
theorem q_asg {P : V → Hp → Prop} {i : Nat} (h : EvG p te σ H P) (R : Reg p H A) (k : ∀ v A' H', Gr p A H A' H' → P v H' → tz D (σ.set i (some v)) A') : tSeq (tAsg te (gName i)) tz D σ A := s_asg (D := { D with nx := tz D }) h R k
theorem s_ret {P : V → Hp → Prop} (h : EvG p te σ H P) (R : Reg p H A) (k : ∀ v A' H', Gr p A H A' H' → P v H' → D.rt v A') : tRet te D σ A := h A R _ k
theorem s_drop {P : V → Hp → Prop} (h : EvG p te σ H P) (R : Reg p H A) (k : ∀ v A' H', Gr p A H A' H' → P v H' → D.nx σ A') : tDrop te D σ A := h A R _ k
theorem q_drop {P : V → Hp → Prop} (h : EvG p te σ H P) (R : Reg p H A) (k : ∀ v A' H', Gr p A H A' H' → P v H' → tz D σ A') : tSeq (tDrop te) tz D σ A := s_drop (D := { D with nx := tz D }) h R k
theorem s_if {b : Bool} (h : EvB p tt σ H b) (R : Reg p H A) (h1 : b = true → ∀ A' H', Gr p A H A' H' → tu D σ A') (h2 : b = false → ∀ A' H', Gr p A H A' H' → tw D σ A') : tIfS tt tu tw D σ A := h A R _ fun A' H' g => by
  cases b with
  | true => exact h1 rfl A' H' g
  | false => exact h2 rfl A' H' g
theorem q_if {b : Bool} (h : EvB p tt σ H b) (R : Reg p H A) (h1 : b = true → ∀ A' H', Gr p A H A' H' → tu { D with nx := tz D } σ A') (h2 : b = false → ∀ A' H', Gr p A H A' H' → tw { D with nx := tz D } σ A') : tSeq (tIfS tt tu tw) tz D σ A := s_if (D := { D with nx := tz D }) h R h1 h2
theorem q_when {b : Bool} (h : EvB p tt σ H b) (R : Reg p H A) (h1 : b = true → ∀ A' H', Gr p A H A' H' → tu { D with nx := tz D } σ A') (h2 : b = false → ∀ A' H', Gr p A H A' H' → tz D σ A') : tSeq (tIfS tt tu tNext) tz D σ A := s_if (D := { D with nx := tz D }) h R h1 h2
/-! ### loops over data: I tells of the turn, the slots, the heap, what is known and what is one's own -/
abbrev Iv : Type := Nat → L2.St → Hp → Hp → Hp → Prop
/-- what a turn must reach -/
abbrev Nx (p : Me) (I : L2.St → Hp → Hp → Hp → Prop) (H1 : Hp) : L2.St → Hp → Prop := fun σ A => ∃ H w, I σ A H w ∧ Ex H1 H ∧ Reg ⟨p.pool, w⟩ H A
/-- over a walk -/
theorem loop_w {J : It} {n : Nat} {g : TG} {tu : TS} {D : Ends} {σ : L2.St} {A1 H1 : Hp} {G : Hp → Prop} {Y : Nat → Hp → V → Hp → Prop} (w : Walk J n G Y) (I : Iv) (R1 : Reg p H1 A1) (hG : ∀ H' A' w, Ex H1 H' → Reg ⟨p.pool, w⟩ H' A' → G A') (h0 : I 0 σ A1 H1 p.own)
    (hs : ∀ i x σ' A' A2 H' w, i < n → I i σ' A' H' w → Ex H1 H' → Reg ⟨p.pool, w⟩ H' A' → Y i A' x A2 → g x σ' A2 fun σ2 A3 => tu { D with nx := Nx p (I (i + 1)) H1, ct := Nx p (I (i + 1)) H1, bk := D.nx } σ2 A3)
    (hd : ∀ σ' A' H' w, I n σ' A' H' w → Ex H1 H' → Reg ⟨p.pool, w⟩ H' A' → D.nx σ' A') :
    ∃ W : Nat → Nat → L2.St → Hp → Prop, (∃ m, W 0 m σ A1) ∧ ∀ i m σ H, W i m σ H →
      (J.stop i H ∧ D.nx σ H) ∨ (J.go i H ∧ ∃ N : L2.St → Hp → Prop, (∀ σ' H', N σ' H' → ∃ m', m' < m ∧ W (i + 1) m' σ' H') ∧ ∀ x H', J.yld i H x H' → g x σ H' fun σ2 H2 => tu { D with nx := N, ct := N, bk := D.nx } σ2 H2) :=
  for_it w (fun i σ' A' => Nx p (I i) H1 σ' A') ⟨H1, p.own, h0, Ex.refl H1, R1⟩ (fun i σ' A' _ ⟨H', w, _, e, r⟩ => hG H' A' w e r) (fun i x σ' A' A2 hi ⟨H', w, hI, e, r⟩ y => hs i x σ' A' A2 H' w hi hI e r y) fun σ' A' ⟨H', w, hI, e, r⟩ => hd σ' A' H' w hI e r
theorem s_forL {j : Nat} (h : EvD K p tl σ H (.list ds)) (R : Reg p H A) (I : Iv) (h0 : ∀ A1 H1, Gr p A H A1 H1 → I 0 σ A1 H1 p.own)
    (hs : ∀ H1, Ex H H1 → ∀ i d v σ' A' H' w, ds[i]? = some d → I i σ' A' H' w → Ex H1 H' → Reg ⟨p.pool, w⟩ H' A' → Dq K H' v d → tu { D with nx := Nx p (I (i + 1)) H1, ct := Nx p (I (i + 1)) H1, bk := D.nx } (σ'.set j (some v)) A')
    (hd : ∀ σ' A' H' w, I ds.length σ' A' H' w → Ex H H' → Reg ⟨p.pool, w⟩ H' A' → D.nx σ' A') : tFor (iList K tl) (gName j) tu D σ A := h A R _ fun v A1 H1 g1 k1 => by
  obtain ⟨a, xs, rfl, sq, el⟩ := dq_inv_l k1
  have R1 := g1.to R
  have ln := dqall_len el
  refine ⟨a, rfl, ⟨xs, sq_of (R1.ex _ _ sq)⟩, loop_w (walk_list (K := K) (a := a) (xs := xs)) I R1 (fun H' A' w e r => sq_of ((e.trans r.ex) _ _ sq)) (h0 A1 H1 g1) ?_ ?_⟩
  · rintro i x σ' A' A2 H' w hi hI e r ⟨rfl, hx⟩
    have hi' : i < ds.length := by omega
    obtain ⟨v, hv, kv⟩ := dqall_get el (List.getElem?_eq_getElem hi')
    rw [hx] at hv
    cases hv
    exact hs H1 g1.reg i _ x σ' A2 H' w (List.getElem?_eq_getElem hi') hI e r (dq_ex e _ _ kv)
  · intro σ' A' H' w hI e r
    rw [ln] at hI
    exact hd σ' A' H' w hI (g1.reg.trans e) r
theorem s_forT {j : Nat} (h : EvD K p tl σ H (.tuple ds)) (R : Reg p H A) (I : Iv) (h0 : ∀ A1 H1, Gr p A H A1 H1 → I 0 σ A1 H1 p.own)
    (hs : ∀ H1, Ex H H1 → ∀ i d v σ' A' H' w, ds[i]? = some d → I i σ' A' H' w → Ex H1 H' → Reg ⟨p.pool, w⟩ H' A' → Dq K H' v d → tu { D with nx := Nx p (I (i + 1)) H1, ct := Nx p (I (i + 1)) H1, bk := D.nx } (σ'.set j (some v)) A')
    (hd : ∀ σ' A' H' w, I ds.length σ' A' H' w → Ex H H' → Reg ⟨p.pool, w⟩ H' A' → D.nx σ' A') : tFor (iTup K tl) (gName j) tu D σ A := h A R _ fun v A1 H1 g1 k1 => by
  obtain ⟨a, xs, rfl, sq, el⟩ := dq_inv_t k1
  have R1 := g1.to R
  have ln := dqall_len el
  refine ⟨a, rfl, ⟨xs, ex_t R1.ex sq⟩, loop_w (walk_tup (K := K) (a := a) (xs := xs)) I R1 (fun H' A' w e r => ex_t (e.trans r.ex) sq) (h0 A1 H1 g1) ?_ ?_⟩
  · rintro i x σ' A' A2 H' w hi hI e r ⟨rfl, hx⟩
    have hi' : i < ds.length := by omega
    obtain ⟨v, hv, kv⟩ := dqall_get el (List.getElem?_eq_getElem hi')
    rw [hx] at hv
    cases hv
    exact hs H1 g1.reg i _ x σ' A2 H' w (List.getElem?_eq_getElem hi') hI e r (dq_ex e _ _ kv)
  · intro σ' A' H' w hI e r
    rw [ln] at hI
    exact hd σ' A' H' w hI (g1.reg.trans e) r
/-- over range(n) -/
theorem s_forR {ta : TA} {j : Nat} {n : Int} (h : EvS K p ta σ H [.int n]) (hn : -1000000 ≤ n ∧ n ≤ 1000000) (R : Reg p H A) (I : Iv) (h0 : ∀ A1 H1, Gr p A H A1 H1 → I 0 σ A1 H1 p.own)
    (hs : ∀ H1, Ex H H1 → ∀ (i : Nat) σ' A' H' w, (i : Int) < n → I i σ' A' H' w → Ex H1 H' → Reg ⟨p.pool, w⟩ H' A' → tu { D with nx := Nx p (I (i + 1)) H1, ct := Nx p (I (i + 1)) H1, bk := D.nx } (σ'.set j (some (.int (i : Int)))) A')
    (hd : ∀ σ' A' H' w, I n.toNat σ' A' H' w → Ex H H' → Reg ⟨p.pool, w⟩ H' A' → D.nx σ' A') : tFor (iRng1 ta) (gName j) tu D σ A := h A R _ fun vs A1 H1 g1 k1 => by
  cases k1 with | cons c1 c2 =>
  cases c2
  cases c1
  have R1 := g1.to R
  refine ⟨_, rfl, by omega, by omega, loop_w (walk_range (lo := 0) (n := n.toNat)) I R1 (fun H' A' w e r => trivial) (h0 A1 H1 g1) ?_ ?_⟩
  · rintro i x σ' A' A2 H' w hi hI e r ⟨rfl, rfl⟩
    have e0 : (0 : Int) + (i : Int) = (i : Int) := Int.zero_add _
    show tu _ (σ'.set j (some (.int ((0 : Int) + (i : Int))))) A2
    rw [e0]
    exact hs H1 g1.reg i σ' A2 H' w (by omega) hI e r
  · intro σ' A' H' w hI e r
    exact hd σ' A' H' w hI (g1.reg.trans e) r
theorem s_forR2 {ta : TA} {j : Nat} {m n : Int} (h : EvS K p ta σ H [.int m, .int n]) (hn : -1000000 ≤ m ∧ m ≤ 1000000 ∧ -1000000 ≤ n ∧ n ≤ 1000000) (R : Reg p H A) (I : Iv) (h0 : ∀ A1 H1, Gr p A H A1 H1 → I 0 σ A1 H1 p.own)
    (hs : ∀ H1, Ex H H1 → ∀ (i : Nat) σ' A' H' w, m + (i : Int) < n → I i σ' A' H' w → Ex H1 H' → Reg ⟨p.pool, w⟩ H' A' → tu { D with nx := Nx p (I (i + 1)) H1, ct := Nx p (I (i + 1)) H1, bk := D.nx } (σ'.set j (some (.int (m + (i : Int))))) A')
    (hd : ∀ σ' A' H' w, I (n - m).toNat σ' A' H' w → Ex H H' → Reg ⟨p.pool, w⟩ H' A' → D.nx σ' A') : tFor (iRng2 ta) (gName j) tu D σ A := h A R _ fun vs A1 H1 g1 k1 => by
  cases k1 with | cons c1 c2 =>
  cases c2 with | cons c2 c3 =>
  cases c3
  cases c1
  cases c2
  have R1 := g1.to R
  refine ⟨_, _, rfl, by omega, loop_w (walk_range (lo := m) (n := (n - m).toNat)) I R1 (fun H' A' w e r => trivial) (h0 A1 H1 g1) ?_ ?_⟩
  · rintro i x σ' A' A2 H' w hi hI e r ⟨rfl, rfl⟩
    exact hs H1 g1.reg i σ' A2 H' w (by omega) hI e r
  · intro σ' A' H' w hI e r
    exact hd σ' A' H' w hI (g1.reg.trans e) r
/-- a while: b the test's answer, m falls -/
theorem s_while (I : Iv) (m0 : Nat) (h0 : I m0 σ A H p.own) (R : Reg p H A)
    (hs : ∀ m σ' A' H' w, I m σ' A' H' w → Ex H H' → Reg ⟨p.pool, w⟩ H' A' → ∃ b, EvB ⟨p.pool, w⟩ tt σ' H' b ∧ (b = true → ∀ A2 H2, Gr ⟨p.pool, w⟩ A' H' A2 H2 → ∃ N : L2.St → Hp → Prop, (∀ σ3 A3, N σ3 A3 → ∃ m', m' < m ∧ Nx p (I m') H σ3 A3) ∧ tu { D with nx := N, ct := N, bk := D.nx } σ' A2) ∧ (b = false → ∀ A2 H2, Gr ⟨p.pool, w⟩ A' H' A2 H2 → D.nx σ' A2)) : tWhile tt tu D σ A :=
  ⟨fun m σ A => Nx p (I m) H σ A, ⟨m0, H, p.own, h0, Ex.refl H, R⟩, fun m σ' A' ⟨H', w, hI, e, r⟩ => by
    obtain ⟨b, hb, h1, h2⟩ := hs m σ' A' H' w hI e r
    refine hb A' r _ fun A2 H2 g => ?_
    cases b with
    | true => exact h1 rfl A2 H2 g
    | false => exact h2 rfl A2 H2 g⟩
/-! ### comprehensions -/
theorem dqall_snoc {xs : List V} {ys : List PyData} {z : V} {c : PyData} (h : DqAll K H xs ys) (k : Dq K H z c) : DqAll K H (xs ++ [z]) (ys ++ [c]) := by
  induction ys generalizing xs with
  | nil => cases h; exact .cons k .nil
  | cons c cs ih => cases h with | cons a b => exact .cons a (ih b)
theorem lc_w {J : It} {n : Nat} {G : Hp → Prop} {Y : Nat → Hp → V → Hp → Prop} {g : TG} {tt : TT} {te : TE} {vs : List Nat} {σ : L2.St} {A1 H1 : Hp} {Dl : Addr} {Qd : Hp → Prop} (w : Walk J n G Y) (R1 : Reg p H1 A1) (hD : A1 Dl = none) (hn : n ≤ 60000) (f : Nat → Bool) (v : Nat → PyData) (hG : ∀ H' A', Ex H1 H' → Reg p H' A' → G A')
    (hs : ∀ i x A' A2 H', i < n → Ex H1 H' → Reg p H' A' → Y i A' x A2 → g x (wipe σ vs) A2 fun σ2 A3 => wipe σ2 vs = wipe σ vs ∧ ∃ H2, Gr p A' H' A3 H2 ∧ EvB p tt σ2 H2 (f i) ∧ (f i = true → EvD K p te σ2 H2 (v i)))
    (hgm : ∀ x σ A Q Q', (∀ σ A, Q σ A → Q' σ A) → g x σ A Q → g x σ A Q')
    (hd : ∀ A' H' xs, Gr p A1 H1 A' H' → H' Dl = none → A' Dl = some (.lst xs) → DqAll K H' xs (((List.range n).filter f).map v) → Qd A') :
    ∃ W : Nat → Nat → Hp → Prop, (∃ m, W 0 m (upd A1 Dl (.lst []))) ∧ ∀ i m H, W i m H →
      (J.stop i H ∧ Qd H) ∨ (J.go i H ∧ ∃ Nx : Hp → Prop, (∀ H', Nx H' → ∃ m', m' < m ∧ W (i + 1) m' H') ∧ ∀ x H', J.yld i H x H' → g x (wipe σ vs) H' fun σ2 H2 => wipe σ2 vs = wipe σ vs ∧ tt σ2 H2 fun b H3 =>
        if b = true then te σ2 H3 fun y H4 => ∃ acc, H4 Dl = some (.lst acc) ∧ acc.length < sizeLine ∧ Nx (upd H4 Dl (.lst (acc ++ [y]))) else Nx H3) := by
  have nh : H1 Dl = none := fresh_back R1.ex hD
  have np : p.pool ≠ some Dl := fun z => by
    obtain ⟨a, b, h, _⟩ := R1.pool Dl z
    rw [hD] at h
    cases h
  have lenle : ∀ i, (((List.range i).filter f).map v).length ≤ i := fun i => by
    rw [List.length_map]
    have := List.length_filter_le f (List.range i)
    rw [List.length_range] at this
    exact this
  refine lc_it w (fun i A' => ∃ H' xs, Gr p A1 H1 A' H' ∧ H' Dl = none ∧ A' Dl = some (.lst xs) ∧ DqAll K H' xs (((List.range i).filter f).map v)) ⟨H1, [], Gr.allocM R1 hD, nh, upd_same, .nil⟩ (fun i A' _ ⟨H', xs, g, _⟩ => hG H' A' g.reg (g.to R1)) ?_ (fun A' ⟨H', xs, g1, g2, g3, g4⟩ => hd A' H' xs g1 g2 g3 g4)
  rintro i x A' A2 hi ⟨H', xs, g1, m1, e1, k1⟩ y
  refine hgm _ _ _ _ _ ?_ (hs i x A' A2 H' hi g1.reg (g1.to R1) y)
  rintro σ2 A3 ⟨hw, H2, g2, ht, he⟩
  refine ⟨hw, ?_⟩
  have R3 := g2.to (g1.to R1)
  have new2 : ∀ {Ax Hx : Hp}, Gr p A' H' Ax Hx → Hx Dl = none := fun {Ax Hx} gx => by
    cases q : Hx Dl with
    | none => rfl
    | some o =>
      have := gx.new Dl _ o e1 q
      rw [m1] at this
      cases this
  refine ht A3 R3 _ fun A4 H4 g4 => ?_
  have g24 := g2.trans g4
  have e4 : A4 Dl = some (.lst xs) := g24.act Dl _ np e1
  cases hf : f i with
  | true =>
    show te σ2 A4 fun y A5 => _
    refine EvD.mono g4.reg (he hf) A4 (g4.to R3) _ fun z A5 H5 g5 k5 => ?_
    have g25 := g24.trans g5
    refine ⟨xs, g25.act Dl _ np e1, ?_, H5, xs ++ [z], Gr.mut (g1.trans g25) hD (new2 g25) np, new2 g25, upd_same, ?_⟩
    · have := dqall_len k1
      exact sz_lt (by have := lenle i; omega)
    · rw [List.range_succ, List.filter_append, List.map_append, List.filter_cons, if_pos hf]
      show DqAll K H5 (xs ++ [z]) (_ ++ [v i])
      exact dqall_snoc (dqall_ex g25.reg k1) k5
  | false =>
    show ∃ H' xs, _
    refine ⟨H4, xs, g1.trans g24, new2 g24, e4, ?_⟩
    rw [List.range_succ, List.filter_append, List.map_append, List.filter_cons, if_neg (by rw [hf]; decide)]
    show DqAll K H4 xs (_ ++ [])
    rw [List.append_nil]
    exact dqall_ex g24.reg k1

theorem filter_range_map {α β : Type} (f : α → Bool) (g : α → β) : ∀ (ds : List α) (d0 : α), ((List.range ds.length).filter fun i => f (ds.getD i d0)).map (fun i => g (ds.getD i d0)) = (ds.filter f).map g := by
  intro ds d0
  have e : ds = (List.range ds.length).map fun i => ds.getD i d0 := by
    refine List.ext_getElem (by simp) fun i h1 h2 => ?_
    simp [h1]
  have q : (((List.range ds.length).map fun i => ds.getD i d0).filter f).map g = (ds.filter f).map g := by rw [← e]
  rw [← q, List.filter_map, List.map_map]
  rfl
theorem done_lc {A1 H1 A' H' : Hp} {Dl : Addr} {xs : List V} {ds : List PyData} {Q : VK} (R1 : Reg p H1 A1) (hD : A1 Dl = none) (g : Gr p A1 H1 A' H') (n : H' Dl = none) (e : A' Dl = some (.lst xs)) (k : DqAll K H' xs ds)
    (q : ∀ v A' H', Gr p A1 H1 A' H' → Dq K H' v (.list ds) → Q v A') : Q (.ref Dl) A' := by
  have g2 := g.know hD n e
  exact q _ _ _ g2 (.lst upd_same (dqall_ex (Ex.new n) k))
theorem name_mono {j : Nat} : ∀ (x : V) (σ : L2.St) (A : Hp) (Q Q' : L2.St → Hp → Prop), (∀ σ A, Q σ A → Q' σ A) → gName j x σ A Q → gName j x σ A Q' := fun _ _ _ _ _ h q => h _ _ q
/-- [te for x in tl if tt], tl a list; f, v by the item -/
theorem d_lcL {j : Nat} {vs : List Nat} (f : PyData → Bool) (v : PyData → PyData) (h : EvD K p tl σ H (.list ds)) (hz : ds.length ≤ 60000) (hw : ∀ x, wipe ((wipe σ vs).set j (some x)) vs = wipe σ vs)
    (ht : ∀ c ∈ ds, ∀ x H1, Ex H H1 → Dq K H1 x c → EvB p tt ((wipe σ vs).set j (some x)) H1 (f c)) (he : ∀ c ∈ ds, ∀ x H1, Ex H H1 → Dq K H1 x c → f c = true → EvD K p te ((wipe σ vs).set j (some x)) H1 (v c)) :
    EvD K p (tLc (iList K tl) (gName j) tt te vs) σ H (.list ((ds.filter f).map v)) := fun A R Q q => h A R _ fun x A1 H1 g1 k1 => by
  obtain ⟨a, xs, rfl, sq, el⟩ := dq_inv_l k1
  have R1 := g1.to R
  have ln := dqall_len el
  refine ⟨a, rfl, ⟨xs, sq_of (R1.ex _ _ sq)⟩, fun Dl hD => lc_w (K := K) (p := p) (H1 := H1) (walk_list (K := K) (a := a) (xs := xs)) R1 hD (by omega) (fun i => f (ds.getD i .none)) (fun i => v (ds.getD i .none)) (fun H' A' e r => sq_of ((e.trans r.ex) _ _ sq)) ?_ name_mono ?_⟩
  · rintro i x A' A2 H' hi e r ⟨rfl, hx⟩
    have hi' : i < ds.length := by omega
    have hd : ds.getD i .none = ds[i] := by simp [hi']
    obtain ⟨y, hv, kv⟩ := dqall_get el (List.getElem?_eq_getElem hi')
    rw [hx] at hv
    cases hv
    have hm : ds[i] ∈ ds := List.getElem_mem hi'
    refine ⟨hw x, H', r.refl, ?_, ?_⟩
    · rw [hd]; exact ht _ hm x H' (g1.reg.trans e) (dq_ex e _ _ kv)
    · rw [hd]; exact he _ hm x H' (g1.reg.trans e) (dq_ex e _ _ kv)
  · intro A' H' ys g n e k
    rw [ln, filter_range_map] at k
    exact done_lc R1 hD g n e k fun v A2 H2 g2 k2 => q v A2 H2 (g1.trans g2) k2
theorem d_lcT {j : Nat} {vs : List Nat} (f : PyData → Bool) (v : PyData → PyData) (h : EvD K p tl σ H (.tuple ds)) (hz : ds.length ≤ 60000) (hw : ∀ x, wipe ((wipe σ vs).set j (some x)) vs = wipe σ vs)
    (ht : ∀ c ∈ ds, ∀ x H1, Ex H H1 → Dq K H1 x c → EvB p tt ((wipe σ vs).set j (some x)) H1 (f c)) (he : ∀ c ∈ ds, ∀ x H1, Ex H H1 → Dq K H1 x c → f c = true → EvD K p te ((wipe σ vs).set j (some x)) H1 (v c)) :
    EvD K p (tLc (iTup K tl) (gName j) tt te vs) σ H (.list ((ds.filter f).map v)) := fun A R Q q => h A R _ fun x A1 H1 g1 k1 => by
  obtain ⟨a, xs, rfl, sq, el⟩ := dq_inv_t k1
  have R1 := g1.to R
  have ln := dqall_len el
  refine ⟨a, rfl, ⟨xs, ex_t R1.ex sq⟩, fun Dl hD => lc_w (K := K) (p := p) (H1 := H1) (walk_tup (K := K) (a := a) (xs := xs)) R1 hD (by omega) (fun i => f (ds.getD i .none)) (fun i => v (ds.getD i .none)) (fun H' A' e r => ex_t (e.trans r.ex) sq) ?_ name_mono ?_⟩
  · rintro i x A' A2 H' hi e r ⟨rfl, hx⟩
    have hi' : i < ds.length := by omega
    have hd : ds.getD i .none = ds[i] := by simp [hi']
    obtain ⟨y, hv, kv⟩ := dqall_get el (List.getElem?_eq_getElem hi')
    rw [hx] at hv
    cases hv
    have hm : ds[i] ∈ ds := List.getElem_mem hi'
    refine ⟨hw x, H', r.refl, ?_, ?_⟩
    · rw [hd]; exact ht _ hm x H' (g1.reg.trans e) (dq_ex e _ _ kv)
    · rw [hd]; exact he _ hm x H' (g1.reg.trans e) (dq_ex e _ _ kv)
  · intro A' H' ys g n e k
    rw [ln, filter_range_map] at k
    exact done_lc R1 hD g n e k fun v A2 H2 g2 k2 => q v A2 H2 (g1.trans g2) k2
/-- over range(n), by the turn -/
theorem d_lcR {j : Nat} {vs : List Nat} {ta : TA} {n : Int} (f : Nat → Bool) (v : Nat → PyData) (h : EvS K p ta σ H [.int n]) (hz : n ≤ 60000) (hw : ∀ x, wipe ((wipe σ vs).set j (some x)) vs = wipe σ vs)
    (ht : ∀ (i : Nat), (i : Int) < n → ∀ H1, Ex H H1 → EvB p tt ((wipe σ vs).set j (some (.int i))) H1 (f i)) (he : ∀ (i : Nat), (i : Int) < n → ∀ H1, Ex H H1 → f i = true → EvD K p te ((wipe σ vs).set j (some (.int i))) H1 (v i)) (hlo : -1000000 ≤ n := by omega) :
    EvD K p (tLc (iRng1 ta) (gName j) tt te vs) σ H (.list (((List.range n.toNat).filter f).map v)) := fun A R Q q => h A R _ fun us A1 H1 g1 k1 => by
  cases k1 with | cons c1 c2 =>
  cases c2
  cases c1
  have R1 := g1.to R
  refine ⟨_, rfl, by omega, by omega, fun Dl hD => lc_w (K := K) (p := p) (H1 := H1) (walk_range (lo := 0) (n := n.toNat)) R1 hD (by omega) f v (fun H' A' e r => trivial) ?_ name_mono ?_⟩
  · rintro i x A' A2 H' hi e r ⟨rfl, rfl⟩
    have e0 : (0 : Int) + (i : Int) = (i : Int) := Int.zero_add _
    show wipe ((wipe σ vs).set j (some (.int ((0 : Int) + (i : Int))))) vs = wipe σ vs ∧ _
    refine ⟨hw _, H', r.refl, ?_, ?_⟩
    · dsimp only; rw [e0]; exact ht i (by omega) H' (g1.reg.trans e)
    · dsimp only; rw [e0]; exact he i (by omega) H' (g1.reg.trans e)
  · intro A' H' ys g n e k
    exact done_lc R1 hD g n e k fun v A2 H2 g2 k2 => q v A2 H2 (g1.trans g2) k2
theorem d_lcR2 {j : Nat} {vs : List Nat} {ta : TA} {m n : Int} (f : Nat → Bool) (v : Nat → PyData) (h : EvS K p ta σ H [.int m, .int n]) (hz : -10000 ≤ m ∧ m ≤ 60000 ∧ -10000 ≤ n ∧ n - m ≤ 60000) (hw : ∀ x, wipe ((wipe σ vs).set j (some x)) vs = wipe σ vs)
    (ht : ∀ (i : Nat), m + (i : Int) < n → ∀ H1, Ex H H1 → EvB p tt ((wipe σ vs).set j (some (.int (m + i)))) H1 (f i)) (he : ∀ (i : Nat), m + (i : Int) < n → ∀ H1, Ex H H1 → f i = true → EvD K p te ((wipe σ vs).set j (some (.int (m + i)))) H1 (v i)) :
    EvD K p (tLc (iRng2 ta) (gName j) tt te vs) σ H (.list (((List.range (n - m).toNat).filter f).map v)) := fun A R Q q => h A R _ fun us A1 H1 g1 k1 => by
  cases k1 with | cons c1 c2 =>
  cases c2 with | cons c2 c3 =>
  cases c3
  cases c1
  cases c2
  have R1 := g1.to R
  refine ⟨_, _, rfl, by omega, fun Dl hD => lc_w (K := K) (p := p) (H1 := H1) (walk_range (lo := m) (n := (n - m).toNat)) R1 hD (by omega) f v (fun H' A' e r => trivial) ?_ name_mono ?_⟩
  · rintro i x A' A2 H' hi e r ⟨rfl, rfl⟩
    refine ⟨hw _, H', r.refl, ?_, ?_⟩
    · exact ht i (by omega) H' (g1.reg.trans e)
    · exact he i (by omega) H' (g1.reg.trans e)
  · intro A' H' ys g n e k
    exact done_lc R1 hD g n e k fun v A2 H2 g2 k2 => q v A2 H2 (g1.trans g2) k2
end
end Z
namespace Z
open PySem PySem.Spec PyProof.Rows L2 Evl
section
variable {K : PySem.W.Frag} {p : Me} {σ : L2.St} {H H' A A' : Hp} {te ta tb tc tl : TE} {tt : TT} {d dx dy dz : PyData} {ds es : List PyData}
theorem dqall_one {vs : List V} (h : DqAll K H vs [d]) : ∃ v, vs = [v] ∧ Dq K H v d := by
  cases h with | cons h1 h2 => cases h2; exact ⟨_, rfl, h1⟩
theorem dqall_two {vs : List V} (h : DqAll K H vs [dx, dy]) : ∃ v w, vs = [v, w] ∧ Dq K H v dx ∧ Dq K H w dy := by
  cases h with | cons h1 h2 => cases h2 with | cons h2 h3 => cases h3; exact ⟨_, _, rfl, h1, h2⟩
theorem dq_ints {ns : List Int} : ∀ {vs : List V}, DqAll K H vs (ns.map .int) → vs = ns.map V.int := by
  induction ns with
  | nil => intro vs h; cases h; rfl
  | cons n ns ih =>
    intro vs h
    cases h with | cons h1 h2 =>
    cases h1
    rw [ih h2]
    rfl
theorem dq_bls {ns : List Bool} : ∀ {vs : List V}, DqAll K H vs (ns.map .bool) → vs = ns.map V.bl := by
  induction ns with
  | nil => intro vs h; cases h; rfl
  | cons n ns ih =>
    intro vs h
    cases h with | cons h1 h2 =>
    cases h1
    rw [ih h2]
    rfl
theorem ints_dq (ns : List Int) : DqAll K H (ns.map V.int) (ns.map .int) := by
  induction ns with
  | nil => exact .nil
  | cons n ns ih => exact .cons (.int n) ih
/-- a call of one argument that gives a number, a truth value at once -/
theorem c_len {X : Cx} (hK : X.K = K) : CaD K p (fun xs H Q => ∃ q ys, xs = [.ref q] ∧ (SqL X.K H q ys ∨ SqT X.K H q ys) ∧ Q (.int ys.length) H) [.list ds] (.int ds.length) := fun vs H A h R Q q => by
  obtain ⟨v, rfl, k⟩ := dqall_one h
  obtain ⟨a, xs, rfl, h1, h2⟩ := dq_inv_l k
  rw [← dqall_len h2] at q
  exact ⟨a, xs, rfl, .inl (sq_of (R.ex _ _ h1)), q _ A H R.refl (.int _)⟩
theorem c_lenT {X : Cx} (hK : X.K = K) : CaD K p (fun xs H Q => ∃ q ys, xs = [.ref q] ∧ (SqL X.K H q ys ∨ SqT X.K H q ys) ∧ Q (.int ys.length) H) [.tuple ds] (.int ds.length) := fun vs H A h R Q q => by
  obtain ⟨v, rfl, k⟩ := dqall_one h
  obtain ⟨a, xs, rfl, h1, h2⟩ := dq_inv_t k
  rw [← dqall_len h2] at q
  exact ⟨a, xs, rfl, .inr (by rw [hK]; exact ex_t R.ex h1), q _ A H R.refl (.int _)⟩
theorem c_abs {i : Int} : CaD K p (fun xs H Q => ∃ i, xs = [V.int i] ∧ Q (.int (if i < 0 then -i else i)) H) [.int i] (.int (if i < 0 then -i else i)) := fun vs H A h R Q q => by
  obtain ⟨v, rfl, k⟩ := dqall_one h
  cases k
  exact ⟨i, rfl, q _ A H R.refl (.int _)⟩
theorem c_all {bs : List Bool} : CaD K p (rAll K) [.list (bs.map .bool)] (.bool (bs.all id)) := fun vs H A h R Q q => by
  obtain ⟨v, rfl, k⟩ := dqall_one h
  obtain ⟨a, xs, rfl, h1, h2⟩ := dq_inv_l k
  have := dq_bls h2
  subst this
  exact ⟨a, bs, rfl, sq_of (R.ex _ _ h1), q _ A H R.refl (.bl _)⟩
theorem c_any {bs : List Bool} : CaD K p (rAny K) [.list (bs.map .bool)] (.bool (bs.any id)) := fun vs H A h R Q q => by
  obtain ⟨v, rfl, k⟩ := dqall_one h
  obtain ⟨a, xs, rfl, h1, h2⟩ := dq_inv_l k
  have := dq_bls h2
  subst this
  exact ⟨a, bs, rfl, sq_of (R.ex _ _ h1), q _ A H R.refl (.bl _)⟩
theorem c_sum {ns : List Int} : CaD K p (rSum K) [.list (ns.map .int)] (.int ns.sum) := fun vs H A h R Q q => by
  obtain ⟨v, rfl, k⟩ := dqall_one h
  obtain ⟨a, xs, rfl, h1, h2⟩ := dq_inv_l k
  have := dq_ints h2
  subst this
  exact ⟨a, ns, rfl, sq_of (R.ex _ _ h1), q _ A H R.refl (.int _)⟩
theorem c_gcd {i j : Int} : CaD K p rGcd [.int i, .int j] (.int ((Nat.gcd i.natAbs j.natAbs : Nat) : Int)) := fun vs H A h R Q q => by
  obtain ⟨v, w, rfl, k1, k2⟩ := dqall_two h
  cases k1; cases k2
  exact ⟨i, j, rfl, q _ A H R.refl (.int _)⟩
/-- tuple(xs) of a list; list(t) of a tuple, a list -/
theorem c_tuple {X : Cx} (hK : X.K = K) : CaD K p (fun xs H Q => ∃ q ys, xs = [.ref q] ∧ ((SqL X.K H q ys ∧ ∀ l, H l = none → Q (.ref l) (upd H l (.tup ys))) ∨ (SqT X.K H q ys ∧ Q (.ref q) H))) [.list ds] (.tuple ds) := fun vs H A h R Q q => by
  obtain ⟨v, rfl, k⟩ := dqall_one h
  obtain ⟨a, xs, rfl, h1, h2⟩ := dq_inv_l k
  exact ⟨a, xs, rfl, .inl ⟨sq_of (R.ex _ _ h1), fun l hl => by
    have g := Gr.alloc R (o := .tup xs) hl
    exact q _ _ _ g (.tup (st_of upd_same) (dqall_ex g.reg h2))⟩⟩
theorem c_listT {X : Cx} (hK : X.K = K) : CaD K p (fun xs H Q => ∃ q ys, xs = [.ref q] ∧ (SqL X.K H q ys ∨ SqT X.K H q ys) ∧ ∀ l, H l = none → Q (.ref l) (upd H l (.lst ys))) [.tuple ds] (.list ds) := fun vs H A h R Q q => by
  obtain ⟨v, rfl, k⟩ := dqall_one h
  obtain ⟨a, xs, rfl, h1, h2⟩ := dq_inv_t k
  exact ⟨a, xs, rfl, .inr (by rw [hK]; exact ex_t R.ex h1), fun l hl => by
    have g := Gr.alloc R (o := .lst xs) hl
    exact q _ _ _ g (.lst upd_same (dqall_ex g.reg h2))⟩
/-- isinstance(x, T) of data -/
def tyD : PyData → String
  | .none => "NoneType"
  | .bool _ => "bool"
  | .int _ => "int"
  | .str _ => "str"
  | .list _ => "list"
  | .tuple _ => "tuple"
  | .dict _ => "dict"
end
end Z
/-! enumerate(t), any(t), t a tuple -/
namespace PySem
open Sem (wp)
open Builtin
/-- the two objects that enumerate of a tuple lays -/
theorem zmk_enumT (u : Addr) (its : Array Value) (n : Nat) (dct : Option Addr) (sl : Array (Option Value)) :
    Meets (Builtin.«enumerate.__new__» ⟨[.type "enumerate", .ref u], []⟩) (fun _ R s => s.heap.get? u = some { cls := .type "tuple", dict := dct, data := .seq its n, slots := sl } ∧
      R (.ok (.ret (.ref (s.heap.push { cls := .type "tuple_iterator", data := .fields #[.ref u, .int 0 0] }).objs.size)))
        { s with heap := (s.heap.push { cls := .type "tuple_iterator", data := .fields #[.ref u, .int 0 0] }).push { cls := .type "enumerate", data := .fields #[.none, .bool false, .ref s.heap.objs.size, rawInt 0, .none, .none] } }) :=
  .of_wp fun prog w A R s h => by
    obtain ⟨hp, g, d, tk, os⟩ := s
    obtain ⟨hl, h⟩ := h
    have hsub := sub_enumerate
    have hT : Heap.IsTuple (Shared.heap ⟨hp, g, d, tk, os⟩) u its := ⟨_, hl, rfl, n, rfl⟩
    wp_walk using wpAny_loadPart' hl
    refine wpAny_stack_any fun st => wpAny_pure ?_
    split
    · rename_i c _ _ _ _ _
      cases (c == Value.type "enumerate")
      all_goals
        wp_walk using wpAny_loadPart' hl, wpAny_pyIter_tuple hT
        exact ⟨_, rfl, h⟩
    · wp_walk using wpAny_loadPart' hl, wpAny_pyIter_tuple hT
      exact ⟨_, rfl, h⟩
section
variable {prog : Program} {w : World} {A : Around} {E : Value → Shared → Prop} {s : Shared}
theorem zcall_enumT {u : Addr} {its : Array Value} {Q : Value → Shared → Prop} (hT : s.heap.IsTuple u its)
    (h : ∀ h', IsEnum h' (s.heap.objs.size + 1) s.heap.objs.size 0 .none → h'.IsTupleIter s.heap.objs.size u 0 → (∀ b o, s.heap.get? b = some o → h'.get? b = some o) → Q (.ref (s.heap.objs.size + 1)) { s with heap := h' }) :
    wpAny (model prog w) A (call (.type "enumerate") [.ref u]) Q E s := by
  obtain ⟨⟨c, dct, dt, sl⟩, hl, hc, n, hd⟩ := hT
  replace hc : c = .type "tuple" := hc
  replace hd : dt = .seq its n := hd
  subst hc hd
  refine callType_new F.called_enumerate (by decide) (F.typeCall_enumerate_1 _) (F.newCall_enumerate_1 _) (fun obj => F.args_object_init_2 obj _) F.entry_enumerate_new (zmk_enumT u its n dct sl) ⟨hl, ?_⟩
  let h1 := s.heap.push { cls := .type "tuple_iterator", data := .fields #[.ref u, .int 0 0] }
  have hz : h1.objs.size = s.heap.objs.size + 1 := Heap.size_push ..
  show _ ∧ _
  have he : IsEnum (h1.push { cls := .type "enumerate", data := .fields #[.none, .bool false, .ref s.heap.objs.size, rawInt 0, .none, .none] }) (s.heap.objs.size + 1) s.heap.objs.size 0 .none := by
    have q := Heap.get?_push_size h1 (o := { cls := .type "enumerate", data := .fields #[.none, .bool false, .ref s.heap.objs.size, rawInt 0, .none, .none] }) rfl
    rw [hz] at q
    exact q
  have hz' : (s.heap.push { cls := .type "tuple_iterator", data := .fields #[.ref u, .int 0 0] }).objs.size = s.heap.objs.size + 1 := hz
  rw [hz']
  exact ⟨⟨_, he, rfl⟩, h _ he ⟨_, Heap.get?_push_of_some _ (Heap.get?_push_size _ rfl), rfl, rfl⟩ fun b o x => Heap.get?_push_of_some _ (Heap.get?_push_of_some _ x)⟩
end
end PySem
namespace Z
open PySem PySem.Spec PyProof.Rows L2 Evl
/-- the tuple at a as it stands at each turn, each item in a new pair -/
def IteT (K : PySem.W.Frag) (a : Addr) : It :=
  ⟨fun i H => ∃ (xs : List V) (x : V), SqT K H a xs ∧ xs[i]? = some x, fun i H v H' => ∃ T x, v = .ref T ∧ H T = none ∧ H' = upd H T (.tup [.int (i : Nat), x]) ∧ ∀ xs, SqT K H a xs → xs[i]? = some x, fun i H => ∃ xs : List V, SqT K H a xs ∧ xs.length = i⟩
theorem turn_enumT {P : Program} {w : World} {K : PySem.W.Frag} {elts : List Expr} {kk : Nat} {tpos : Pos} (a e it : Addr) :
    Turn P w K (.Tuple elts kk tpos) (IteT K a) [e, it] e (fun i h => (∃ old, IsEnum h e it ((i : Nat) : Int) old) ∧ h.IsTupleIter it a i ∧ e ≠ it ∧ a ≠ it ∧ a ≠ e) where
  mem := List.mem_cons_self
  obj := fun i h st b hb => by
    obtain ⟨⟨old, he⟩, ⟨o, ho, hc, hd⟩, _⟩ := st
    rcases List.mem_cons.mp hb with z | z
    · subst z
      exact ⟨_, he, fun v q => nomatch q⟩
    · have z : b = it := by simpa using z
      subst z
      exact ⟨o, ho, fun v q => by rw [hd] at q; cases q⟩
  keep := fun i h h' st k => by
    obtain ⟨⟨old, he⟩, hi, hne⟩ := st
    exact ⟨⟨old, k e List.mem_cons_self _ he⟩, hi.at fun o q => k it (by simp) o q, hne⟩
  item := by
    intro X hP hw hK hc i pins s σ H E I hf st hg
    subst hP hw hK
    obtain ⟨⟨old, he⟩, hit, hne, hai, hae⟩ := st
    obtain ⟨xs, x, hq, hx⟩ := hg
    obtain ⟨its, rv, p, hz⟩ := I.tuple hq
    obtain ⟨u, hu, ru⟩ := rv.get hx
    have hel : e < s.heap.objs.size := Heap.lt_size he
    have hil : it < s.heap.objs.size := by obtain ⟨_, q, _⟩ := hit; exact Heap.lt_size q
    have hui : i < its.length := (List.getElem?_eq_some_iff.mp hu).1
    have hef : e ∉ [it, a] := by
      intro z
      rcases List.mem_cons.mp z with z | z
      · exact hne z
      · exact hae (by simpa using z : e = a).symm
    refine wpAny_pyNext_enum_itemD (Draws.tuple (A := X.A.in1) (I.ok.hd hc) it a hai its.toArray) he ⟨hit, p⟩ (by simpa using hui) hne hef fun y h' tk hy ho st' hT hsz hk => ?_
    have ey : y = u := by
      have q : its[i]? = some y := by simpa using hy
      rw [hu] at q
      exact (Option.some.inj q).symm
    subst ey
    refine ⟨_, rfl, wpAny_letOwnedTupleGo_enum (s := { s with heap := h', toks := tk + 1 }) ho fun h'' he' sb => ?_⟩
    have nT : s.heap.objs.size ≠ e := Nat.ne_of_gt hel
    have hT2 : h''.get? s.heap.objs.size = some { cls := .type "tuple", data := .seq #[.int i tk, y] } := (sb.2 _ nT).trans hT
    have new : ObjOk X.prog X.w (upd H s.heap.objs.size (.tup [.int (i : Nat), x])) h'' s.heap.objs.size (.tup [.int (i : Nat), x]) :=
      ⟨by show 2 ≤ sizeLine; decide, [.int i tk, y], .cons ⟨_, rfl⟩ (.cons ru .nil), ⟨_, hT2, rfl, _, rfl⟩⟩
    have I1 : Inv X pins σ (upd H s.heap.objs.size (.tup [.int (i : Nat), x])) { s with heap := h'', toks := tk + 1 } :=
      I.turnedNew (ch := [e, it]) (fun b ob hb q => (sb.2 b (fun z => hb (by simp [z]))).trans (hk b ob (fun z => hb (by simp [z])) (fun z => hb (by simp [z])) q)) hf (Nat.le_refl _) new
    refine ⟨.ref s.heap.objs.size, _, I1, rfl, ⟨_, x, rfl, I.hok.fresh (Nat.le_refl _), rfl, fun ys hy => by rw [I.tuple_inj hy hq]; exact hx⟩, ⟨⟨y, ?_⟩, st'.1.at fun o q => (sb.2 it (Ne.symm hne)).trans q, hne, hai, hae⟩, fun b hb => ?_⟩
    · have e1 : ((i + 1 : Nat) : Int) = (i : Int) + 1 := by omega
      rw [e1]; exact he'
    · have hb' : b < s.heap.objs.size := by
        rcases List.mem_cons.mp hb with z | z
        · rw [z]; exact hel
        · rw [show b = it by simpa using z]; exact hil
      rw [upd_ne (Nat.ne_of_lt hb')]
      exact (hf b hb).1
  done := by
    intro X hP hw hK hc i pins s σ H E I hf st hg
    subst hP hw hK
    obtain ⟨⟨old, he⟩, hit, hne, hai, hae⟩ := st
    obtain ⟨xs, hq, hx⟩ := hg
    obtain ⟨its, rv, p, hz⟩ := I.tuple hq
    obtain ⟨f0, f1, f2, f3, f4, f5⟩ := hf it (by simp)
    have hl := rv.length
    have hn : i = its.toArray.size := by
      rw [List.size_toArray, ← hl]
      exact hx.symm
    subst hn
    exact wpAny_pyNext_enum_endD (Draws.tuple (A := X.A.in1) (I.ok.hd hc) it a hai its.toArray) he ⟨hit, p⟩ fun h' eb => ⟨rfl, I.turned (t' := s.toks) (fun b o hb q => eb b o hb q) f0 f1 f3 f4 f5⟩
  self := fun A i s Q E st h => by
    obtain ⟨⟨_, he⟩, _⟩ := st
    exact wpAny_pyIter_enum he h

def iEnumT (K : PySem.W.Frag) (ta : TA) : TI := fun σ H R => ta σ H fun vs H1 => ∃ a xs, vs = [.ref a] ∧ SqT K H1 a xs ∧ R (IteT K a) H1
theorem pi_enumT {X : Cx} {e : Expr} {ta : TA} {p pos tpos : Pos} {elts : List Expr} {kk : Nat} (hg : Gl X "enumerate") (hm : X.mg "enumerate" = none) (ha : PA X [e] ta) (hs : starEach [e] X.env = [(false, eval e X.env)] := by rfl) :
    PI X (.Tuple elts kk tpos) (.Call (.Name "enumerate" p) [e] [] pos) (iEnumT X.K ta) := by
  refine ⟨fun pins s σ H R I h => ?_⟩
  refine Call_ (ld_blt I hg hm boot_enumerate (PyProof.Rows.callWith_type1 (thn (ha.run pos pins s σ H _ I h) fun us s1 ⟨vs, H1, I1, r1, q1⟩ => ?_) hs rfl))
  obtain ⟨a, xs, ex, hq, q⟩ := q1
  subst ex
  cases r1 with
  | cons r rr =>
    cases rr
    cases r
    obtain ⟨its, rv, p', hz⟩ := I1.tuple hq
    have hal : a < s1.heap.objs.size := by obtain ⟨_, e, _⟩ := id p'; exact Heap.lt_size e
    refine zcall_enumT p' fun h' he hit hk => wpAny_pyIter_enum he ?_
    have I2 : Inv X pins σ H1 { s1 with heap := h' } := I1.kept (t' := s1.toks) hk
    refine ⟨s1.heap.objs.size + 1, [s1.heap.objs.size + 1, s1.heap.objs.size], _, _, H1, rfl, I2, turn_enumT a (s1.heap.objs.size + 1) s1.heap.objs.size, ⟨⟨.none, he⟩, hit, Nat.succ_ne_self _, Nat.ne_of_lt hal, Nat.ne_of_lt (Nat.lt_succ_of_lt hal)⟩, fun b hb => ?_, q⟩
    have hle : s1.heap.objs.size ≤ b := by
      rcases List.mem_cons.mp hb with z | z
      · rw [z]; exact Nat.le_succ _
      · have : b = s1.heap.objs.size := by simpa using z
        rw [this]; exact Nat.le_refl _
    exact I1.fpOk hle (I1.hok.fresh hle)
theorem walk_enumT {K : PySem.W.Frag} {a : Addr} {xs : List V} : Walk (IteT K a) xs.length (fun H => SqT K H a xs) (YPair (fun i => some (.int (i : Nat))) (fun i => xs[i]?)) := by
  refine ⟨fun i _ hi q => ⟨xs, xs[i], q, by simp [hi]⟩, fun _ q => ⟨xs, q, rfl⟩, fun i H v H' _ q y => ?_⟩
  obtain ⟨T, x, h1, h2, h3, h4⟩ := y
  exact ⟨T, .int (i : Nat), x, h1, h2, h3, rfl, h4 xs q⟩
theorem walk_zipT {K : PySem.W.Frag} {a b : Addr} {xs ys : List V} {n : Nat} (hn : n = min xs.length ys.length) : Walk (RZ.ItzT K a b) n (fun H => SqT K H a xs ∧ SqT K H b ys) (YPair (fun i => xs[i]?) (fun i => ys[i]?)) := by
  subst hn
  refine ⟨fun i _ hi q => ?_, fun _ q => ⟨xs, ys, q.1, q.2, by omega⟩, fun i H v H' _ q y => ?_⟩
  · have h1 : i < xs.length := by omega
    have h2 : i < ys.length := by omega
    exact ⟨xs, ys, xs[i], ys[i], q.1, q.2, by simp [h1], by simp [h2]⟩
  · obtain ⟨T, x, z, h1, h2, h3, h4, h5⟩ := y
    exact ⟨T, x, z, h1, h2, h3, h4 xs q.1, h5 ys q.2⟩
/-! any(t) of a tuple of numbers -/
theorem iter_anyT {prog : Program} {w : World} {A : Around} {E : Value → Shared → Prop} {s : Shared} {l : Addr} {items : Array Value} {Q : Value → Shared → Prop} (hl : s.heap.IsTuple l items)
    (h : ∀ s₂ : Shared, s₂ = { s with heap := s.heap.push { cls := .type "tuple_iterator", data := .fields #[.ref l, .int 0 0] } } →
      (s₂.heap.IsTupleIter s.heap.objs.size l 0 ∧ s₂.heap.IsTuple l items) → l ≠ s.heap.objs.size → Q (.ref s.heap.objs.size) s₂) : wpAny (model prog w) A (pyIter (.ref l)) Q E s := by
  have hlt : l < s.heap.objs.size := by obtain ⟨_, e, _⟩ := id hl; exact Heap.lt_size e
  exact wpAny_pyIter_tuple hl (h _ rfl ⟨⟨_, Heap.get?_push_size _ rfl, rfl, rfl⟩, hl.push _⟩ (Nat.ne_of_lt hlt))
theorem truth_ints {prog : Program} {w : World} {A : Around} {ns : List Int} {its : List Value} (r : Vals (ns.map V.int) its) :
    TruthOf prog w A (fun i v => its.toArray[i]? = some v) (fun i => ns.getD i 0 != 0) := fun i v s Q E hv hq => by
  have hv' : its[i]? = some v := by simpa using hv
  have hi : i < ns.length := by
    have q := r.length
    have q2 := (List.getElem?_eq_some_iff.mp hv').1
    rw [List.length_map] at q
    omega
  obtain ⟨u, hu, ru⟩ := r.get (show (ns.map V.int)[i]? = some (V.int ns[i]) by rw [List.getElem?_map, List.getElem?_eq_getElem hi]; rfl)
  rw [hv'] at hu
  cases hu
  obtain ⟨t, rfl⟩ := ru
  have e : ns.getD i 0 = ns[i] := by simp [hi]
  have hq' : Q (ns.getD i 0 != 0) s := hq
  rw [e] at hq'
  exact PyProof.Rows.truthy_int hq'
def rAnyT (K : PySem.W.Frag) : List V → Hp → VK → Prop := fun vs H Q => ∃ (a : Addr) (ns : List Int), vs = [V.ref a] ∧ SqT K H a (ns.map V.int) ∧ Q (.bl (ns.any fun n => n != 0)) H
theorem any_rangeI : ∀ ns : List Int, (List.range ns.length).any (fun i => ns.getD i 0 != 0) = ns.any fun n => n != 0
  | [] => rfl
  | b :: bs => by
    rw [List.length_cons, List.range_succ_eq_map, List.any_cons, List.any_map, List.any_cons, ← any_rangeI bs]
    rfl
theorem cr_anyT {X : Cx} (hc : X.calm = true) : CallR X (.builtin "any") (rAnyT X.K) := by
  intro pins s σ H vs us Q I r h
  obtain ⟨a, ns, rfl, hs, q⟩ := h
  obtain ⟨its, rv, hl, _⟩ := I.tuple hs
  rw [Vals.ref1 r]
  refine call_any_walk (iter_anyT hl fun s₂ e2 st hne => ?_)
  subst e2
  refine ⟨_, _, _, _, _, _, _, rfl, Walks.tuple (A := X.A.in1) (I.ok.hd hc) _ a hne its.toArray, st, truth_ints rv, fun h' tk hk => ?_⟩
  refine ⟨.bl _, H, I.kept fun b o eo => hk b o (fun hmem => ?_) (Heap.get?_push_of_some _ eo), ?_, q⟩
  · rcases List.mem_cons.mp hmem with e1 | hmem
    · exact absurd (e1 ▸ Heap.lt_size eo) (Nat.lt_irrefl _)
    · cases hmem
  · show Value.bool _ = Value.bool _
    have q := rv.length
    rw [List.length_map] at q
    rw [← any_rangeI, List.size_toArray, ← q]
end Z
namespace Z
open PySem PySem.Spec PyProof.Rows L2 Evl
/-! ### defs: where they stand, what they promise of data -/
def Dn (P : Program) (w : World) (K : PySem.W.Frag) (mg : Str → Option Value) (base : Heap) (CX : CXT) (k : Nat) (x : Str) (ps : List Str) (sp : Sp) : Prop :=
  ∃ f fd, FnOk P w K mg base CX k f fd ps sp ∧ mg x = some (.ref f) ∧ PySem.W.keepIn K (.ref f) = true ∧ Binds K fd ps []
theorem pe_cd {X : Cx} {x : Str} {ps : List Str} {sp : Sp} {k k' : Nat} {e : Expr} {es : List Expr} {t : TA} {p pos : Pos} (D : Dn X.prog X.w X.K X.mg X.base CX0 k x ps sp) (hr : Room k' X.A) (hk : k ≤ k') (hg : Gl X x) (ha : PA X (e :: es) t)
    (hdb : (x == ("__debug__" : Str)) = false := by decide) (he : starEach (e :: es) X.env = (false, eval e X.env) :: starEach es X.env := by rfl) (hpl : (backTo pos (starEach es X.env)).any (·.1) = false := by rfl) :
    PE X (.Call (.Name x p) (e :: es) [] pos) (tCall sp [] E0 t) := by
  obtain ⟨f, fd, F, m, kp, b⟩ := D
  exact pe_call F (hr.mono hk) hg m kp b .nil pass0 ha hdb he hpl
/-- a def of data: F of the arguments' data and of the result's; nothing that stood is changed -/
def SpD (K : PySem.W.Frag) (F : List PyData → PyData → Prop) : Sp := fun vs A Q _ => ∃ H ds d, Reg .non H A ∧ DqAll K H vs ds ∧ F ds d ∧ ∀ v A' H', Gr .non A H A' H' → Dq K H' v d → Q v A'
section
variable {K : PySem.W.Frag} {p : Me} {σ : L2.St} {H H' A A' : Hp} {te ta tb tc tl ti : TE} {tt : TT} {tu tz : TS} {D : Ends} {d dx dy dz : PyData} {ds es : List PyData}
theorem d_call {F : List PyData → PyData → Prop} {E : XK} {ta : TA} (h : EvS K p ta σ H ds) (hF : F ds d) : EvD K p (tCall (SpD K F) [] E ta) σ H d := fun A R Q q => h A R _ fun vs A1 H1 g1 k1 => by
  have R1 := g1.to R
  rw [List.append_nil]
  exact ⟨H1, ds, d, R1.nil, k1, hF, fun v A2 H2 g2 k2 => q v A2 H2 (g1.trans (g2.pure R1)) k2⟩
theorem spD_len {F : List PyData → PyData → Prop} {n : Nat} {vs : List V} {A : Hp} {Q : VK} {E : XK} (h : SpD K F vs A Q E) (hl : ∀ ds d, F ds d → ds.length = n) : vs.length = n := by
  obtain ⟨H, ds, d, _, k, f, _⟩ := h
  rw [dqall_len k, hl ds d f]
/-! ### names of the built-ins, none bound by the module -/
structure Bs (mg : Str → Option Value) : Prop where
  isinstance : mg "isinstance" = none
  len : mg "len" = none
  all : mg "all" = none
  any : mg "any" = none
  tuple : mg "tuple" = none
  list : mg "list" = none
  int : mg "int" = none
  bool : mg "bool" = none
  abs : mg "abs" = none
  range : mg "range" = none
  zip : mg "zip" = none
  enumerate : mg "enumerate" = none
  sum : mg "sum" = none
  max : mg "max" = none
  min : mg "min" = none
theorem pty {X : Cx} {x : Str} {T : String} {p : Pos} (hg : Gl X x) (hm : X.mg x = none) (hv : bootBuiltins x = some (.type T)) (hn : x ≠ "__name__" := by decide) (hd : (x == ("__debug__" : Str)) = false := by decide) : PE X (.Name x p) (tC (.ty T)) :=
  pe_bltn hg hm hv rfl hn hd
/-! ### isinstance of data and a built-in type -/
theorem tyx_of {v : V} (R : Reg p H A) (h : Dq K H v d) : TyX K A v (.type (tyD d)) := by
  cases h with
  | non => exact .base .non
  | bl b => exact .base (.bl b)
  | int i => exact .base (.int i)
  | str x => exact .base (.str x)
  | lst h _ => exact .base (.lst (R.ex _ _ h))
  | tup h _ =>
    rcases h with (h | ⟨o, h⟩) | ⟨o, its, n, h, c, _⟩
    · exact .base (.tup (R.ex _ _ h))
    · exact .fTuple (R.ex _ _ h)
    · exact .kTuple h c
  | dic h => exact .base (.dK (R.ex _ _ h))
theorem d_isi {T : String} {b : Bool} (h : EvD K p te σ H d) (hk : kitB (tyD d) T = some b) : EvD K p (tCB (rIsi K) (tCons te (tCons (tC (.ty T)) tNil))) σ H (.bool b) := fun A R Q q => h A R _ fun v A1 H1 g1 k1 => by
  refine ⟨v, .ty T, .type (tyD d), .type T, b, rfl, .ty T, tyx_of (g1.to R) k1, kit_ty hk, q _ A1 H1 g1 (.bl b)⟩
/-! ### scalars compared -/
theorem o_eqI {i j : Int} : OpD K p rEq (.int i) (.int j) (.bool (decide (i = j))) := fun x y H A hx hy R Q q => by
  cases hx; cases hy
  refine ⟨rfl, ?_⟩
  have e : decide (V.int i = V.int j) = decide (i = j) := by
    by_cases c : i = j
    · subst c; simp
    · simp [c]
  rw [e]
  exact q _ A H R.refl (.bl _)
theorem o_neI {i j : Int} : OpD K p rNe (.int i) (.int j) (.bool (!decide (i = j))) := fun x y H A hx hy R Q q => by
  cases hx; cases hy
  refine ⟨rfl, ?_⟩
  have e : decide (V.int i = V.int j) = decide (i = j) := by
    by_cases c : i = j
    · subst c; simp
    · simp [c]
  rw [e]
  exact q _ A H R.refl (.bl _)
theorem c_int1 {i : Int} : CaD K p (fun xs H Q => (∃ i, xs = [V.int i] ∧ Q (.int i) H) ∨ ∃ k, xs = [V.bl k] ∧ Q (.int (if k then 1 else 0)) H) [.int i] (.int i) := fun vs H A h R Q q => by
  obtain ⟨v, rfl, k⟩ := dqall_one h
  cases k
  exact .inl ⟨i, rfl, q _ A H R.refl (.int i)⟩
theorem c_intB {b : Bool} : CaD K p (fun xs H Q => (∃ i, xs = [V.int i] ∧ Q (.int i) H) ∨ ∃ k, xs = [V.bl k] ∧ Q (.int (if k then 1 else 0)) H) [.bool b] (.int (if b then 1 else 0)) := fun vs H A h R Q q => by
  obtain ⟨v, rfl, k⟩ := dqall_one h
  cases k
  exact .inr ⟨b, rfl, q _ A H R.refl (.int _)⟩
theorem c_anyT {ns : List Int} : CaD K p (rAnyT K) [.tuple (ns.map .int)] (.bool (ns.any fun n => n != 0)) := fun vs H A h R Q q => by
  obtain ⟨v, rfl, k⟩ := dqall_one h
  obtain ⟨a, xs, rfl, h1, h2⟩ := dq_inv_t k
  have := dq_ints h2
  subst this
  exact ⟨a, ns, rfl, ex_t R.ex h1, q _ A H R.refl (.bl _)⟩
theorem u_neg {i : Int} : UnD K p (rU fun i => .int (-i)) (.int i) (.int (-i)) := fun x H A hx R Q q => by
  cases hx
  exact ⟨i, rfl, q _ A H R.refl (.int _)⟩
theorem dqall_append {xs ys : List V} (a1 : DqAll K H xs ds) (a2 : DqAll K H ys es) : DqAll K H (xs ++ ys) (ds ++ es) := by
  induction ds generalizing xs with
  | nil => cases a1; exact a2
  | cons c cs ih => cases a1 with | cons b1 b2 => exact .cons b1 (ih b2)
theorem o_cat (hl : ds.length + es.length ≤ 100000) : OpD K p rCat (.list ds) (.list es) (.list (ds ++ es)) := fun x y H A hx hy R Q q => by
  obtain ⟨a, xs, rfl, h1, h2⟩ := dq_inv_l hx
  obtain ⟨b, ys, rfl, h3, h4⟩ := dq_inv_l hy
  refine ⟨a, b, xs, ys, rfl, rfl, R.ex _ _ h1, R.ex _ _ h3, sz_of (by rw [dqall_len h2, dqall_len h4]; exact hl), fun l hn => ?_⟩
  have g := Gr.alloc R (o := .lst (xs ++ ys)) hn
  refine q _ _ _ g (.lst upd_same ?_)
  exact dqall_append (dqall_ex g.reg h2) (dqall_ex g.reg h4)
theorem dqall_set {xs : List V} {v : V} (h : DqAll K H xs ds) (k : Dq K H v d) (j : Nat) : DqAll K H (xs.set j v) (ds.set j d) := by
  induction ds generalizing xs j with
  | nil => cases h; exact .nil
  | cons c cs ih =>
    cases h with | cons a b =>
    cases j with
    | zero => exact .cons k b
    | succ j => exact .cons a (ih b j)
/-! ### a list of one's own: q holds xs, which stand for ds -/
theorem d_ixOwn {i : Nat} {q : Addr} {xs : List V} {z : Int} (hs : σ[i]? = some (some (.ref q))) (ho : p.own q = some (.lst xs)) (hx : DqAll K H xs ds) (hi : EvD K p ti σ H (.int z)) (e : atI ds z = some d) : EvD K p (tOp (rIx K) (tVar i) ti) σ H d := fun A R Q k =>
  ⟨.ref q, hs, hi A R _ fun y A1 H1 g1 k1 => by
    cases k1
    have R1 := g1.to R
    obtain ⟨v, e1, kv⟩ := dqall_at (dqall_ex g1.reg hx) e
    exact .inl ⟨q, xs, z, v, rfl, rfl, sq_of (R1.own _ _ ho), e1, k v A1 H1 g1 kv⟩⟩
theorem d_lenOwn {X : Cx} {i : Nat} {q : Addr} {xs : List V} (hs : σ[i]? = some (some (.ref q))) (ho : p.own q = some (.lst xs)) (hx : DqAll K H xs ds) :
    EvD K p (tCB (fun xs H Q => ∃ q ys, xs = [.ref q] ∧ (SqL X.K H q ys ∨ SqT X.K H q ys) ∧ Q (.int ys.length) H) (tCons (tVar i) tNil)) σ H (.int ds.length) := fun A R Q k => by
  refine ⟨.ref q, hs, q, xs, rfl, .inl (sq_of (R.own _ _ ho)), ?_⟩
  rw [dqall_len hx]
  exact k _ A H R.refl (.int _)
/-- q[z] = e -/
theorem s_setOwn {i : Nat} {q : Addr} {xs : List V} {z : Int} {j : Nat} (hs : σ[i]? = some (some (.ref q))) (ho : p.own q = some (.lst xs)) (h : EvD K p te σ H d) (hi : ∀ H', Ex H H' → EvD K p ti σ H' (.int z)) (hj : ixN xs.length z = some j) (R : Reg p H A)
    (k : ∀ v A' H', Gr p A H A' H' → Dq K H' v d → Reg ⟨p.pool, upd p.own q (.lst (xs.set j v))⟩ H' (upd A' q (.lst (xs.set j v))) → D.nx σ (upd A' q (.lst (xs.set j v)))) : tAsg te (gSub (tVar i) ti rSetL) D σ A :=
  h A R _ fun v A1 H1 g1 k1 => ⟨.ref q, hs, hi H1 g1.reg A1 (g1.to R) _ fun y A2 H2 g2 k2 => by
    cases k2
    have g := g1.trans g2
    have R2 := g.to R
    exact ⟨q, xs, z, j, rfl, rfl, R2.own _ _ ho, hj, k v A2 H2 g (dq_ex g2.reg _ _ k1) (R2.put (R2.offO q _ ho).2 (R2.offO q _ ho).1)⟩⟩
/-- q.append(e) -/
theorem s_appOwn {i : Nat} {q : Addr} {xs : List V} (hs : σ[i]? = some (some (.ref q))) (ho : p.own q = some (.lst xs)) (h : EvD K p te σ H d) (hz : xs.length < 100000) (R : Reg p H A)
    (k : ∀ v A' H', Gr p A H A' H' → Dq K H' v d → Reg ⟨p.pool, upd p.own q (.lst (xs ++ [v]))⟩ H' (upd A' q (.lst (xs ++ [v]))) → D.nx σ (upd A' q (.lst (xs ++ [v])))) : tDrop (tBM K "list" rAppend (tVar i) (tCons te tNil)) D σ A :=
  ⟨.ref q, hs, .inl ⟨rfl, xs, sq_of (R.own _ _ ho)⟩, h A R _ fun v A1 H1 g1 k1 => by
    have R1 := g1.to R
    exact ⟨q, xs, v, rfl, rfl, R1.own _ _ ho, sz_lt hz, k v A1 H1 g1 k1 (R1.put (R1.offO q _ ho).2 (R1.offO q _ ho).1)⟩⟩
/-- a new list that is one's own -/
theorem q_newOwn {i : Nat} {ta : TA} (h : EvS K p ta σ H ds) (hl : ds.length ≤ 100000) (R : Reg p H A)
    (k : ∀ q xs A' H', Gr p A H A' H' → p.own q = none → A q = none → DqAll K H' xs ds → Reg ⟨p.pool, upd p.own q (.lst xs)⟩ H' A' → A' q = some (.lst xs) → tz D (σ.set i (some (.ref q))) A') : tSeq (tAsg (tLst ta) (gName i)) tz D σ A :=
  h A R _ fun vs A1 H1 g1 k1 => ⟨by rw [dqall_len k1]; exact sz_of hl, fun l hn => by
    have R1 := g1.to R
    have hnp : p.pool ≠ some l := fun z => by
      obtain ⟨a, b, e, _⟩ := R1.pool l z
      rw [hn] at e; cases e
    have hno : p.own l = none := by
      cases e : p.own l with
      | none => rfl
      | some o => have := R1.own _ _ e; rw [hn] at this; cases this
    have hnA : A l = none := by
      cases e : A l with
      | none => rfl
      | some o => obtain ⟨o', e'⟩ := g1.dom l o e; rw [hn] at e'; cases e'
    have hnH : H1 l = none := fresh_back R1.ex hn
    exact k l vs _ H1 (g1.trans (Gr.allocM R1 hn)) hno hnA k1 (R1.put hnp hnH) upd_same⟩
end
end Z
namespace Z
open PySem PySem.Spec PyProof.Rows L2 Evl
/-! ### what may be a list or a tuple, walked -/
def iSeq (K : PySem.W.Frag) (tl : TE) : TI := fun σ H R => tl σ H fun x H1 => ∃ a, x = .ref a ∧ (((∃ xs, SqL K H1 a xs) ∧ R (Itl K a) H1) ∨ ((∃ xs, SqT K H1 a xs) ∧ R (Itt K a) H1))
theorem pi_seq {X : Cx} {tg l : Expr} {tl : TE} (hl : PE X l tl) : PI X tg l (iSeq X.K tl) := by
  constructor
  intro pins s σ H R I h
  refine thn (hl.run pins s σ H _ I h) ?_
  rintro v s1 ⟨x, H1, I1, r1, a, rfl, q1⟩
  cases r1
  have fin : ∀ b ∈ [s1.heap.objs.size], FpOk X pins H1 b := fun b hb => by
    rw [show b = s1.heap.objs.size by simpa using hb]
    exact I1.fpOk (Nat.le_refl _) (I1.hok.fresh (Nat.le_refl _))
  rcases q1 with ⟨⟨xs, hq⟩, q⟩ | ⟨⟨xs, hq⟩, q⟩
  · obtain ⟨its, rv, p, hz⟩ := I1.list hq
    exact wpAny_pyIter_list p.isList ⟨_, [_], _, _, H1, rfl, I1.kept (t' := s1.toks) fun b o e => Heap.get?_push_of_some _ e, turn_list a _, ⟨_, Heap.get?_push_size _ rfl, rfl, rfl⟩, fin, q⟩
  · obtain ⟨its, rv, p, hz⟩ := I1.tuple hq
    exact wpAny_pyIter_tuple (show s1.heap.IsTuple a its.toArray from p) ⟨_, [_], _, _, H1, rfl, I1.kept (t' := s1.toks) fun b o e => Heap.get?_push_of_some _ e, turn_tuple a _, ⟨_, Heap.get?_push_size _ rfl, rfl, rfl⟩, fin, q⟩
section
variable {K : PySem.W.Frag} {p : Me} {σ : L2.St} {H H' A A' : Hp} {te ta tb tc tl ti : TE} {tt : TT} {tu tz : TS} {D : Ends} {d dx dy dz : PyData} {ds es : List PyData}
def IsSeq (d : PyData) (ds : List PyData) : Prop := d = .list ds ∨ d = .tuple ds
theorem s_forQ {j : Nat} (h : EvD K p tl σ H d) (hd0 : IsSeq d ds) (R : Reg p H A) (I : Iv) (h0 : ∀ A1 H1, Gr p A H A1 H1 → I 0 σ A1 H1 p.own)
    (hs : ∀ H1, Ex H H1 → ∀ i d v σ' A' H' w, ds[i]? = some d → I i σ' A' H' w → Ex H1 H' → Reg ⟨p.pool, w⟩ H' A' → Dq K H' v d → tu { D with nx := Nx p (I (i + 1)) H1, ct := Nx p (I (i + 1)) H1, bk := D.nx } (σ'.set j (some v)) A')
    (hd : ∀ σ' A' H' w, I ds.length σ' A' H' w → Ex H H' → Reg ⟨p.pool, w⟩ H' A' → D.nx σ' A') : tFor (iSeq K tl) (gName j) tu D σ A := by
  rcases hd0 with rfl | rfl
  · have q := s_forL (tu := tu) (D := D) (j := j) (K := K) h R I h0 hs hd
    exact h A R _ fun v A1 H1 g1 k1 => by
      obtain ⟨a, xs, rfl, sq, el⟩ := dq_inv_l k1
      have R1 := g1.to R
      have ln := dqall_len el
      refine ⟨a, rfl, .inl ⟨⟨xs, sq_of (R1.ex _ _ sq)⟩, loop_w (walk_list (K := K) (a := a) (xs := xs)) I R1 (fun H' A' w e r => sq_of ((e.trans r.ex) _ _ sq)) (h0 A1 H1 g1) ?_ ?_⟩⟩
      · rintro i x σ' A' A2 H' w hi hI e r ⟨rfl, hx⟩
        have hi' : i < ds.length := by omega
        obtain ⟨v, hv, kv⟩ := dqall_get el (List.getElem?_eq_getElem hi')
        rw [hx] at hv
        cases hv
        exact hs H1 g1.reg i _ x σ' A2 H' w (List.getElem?_eq_getElem hi') hI e r (dq_ex e _ _ kv)
      · intro σ' A' H' w hI e r
        rw [ln] at hI
        exact hd σ' A' H' w hI (g1.reg.trans e) r
  · exact h A R _ fun v A1 H1 g1 k1 => by
      obtain ⟨a, xs, rfl, sq, el⟩ := dq_inv_t k1
      have R1 := g1.to R
      have ln := dqall_len el
      refine ⟨a, rfl, .inr ⟨⟨xs, ex_t R1.ex sq⟩, loop_w (walk_tup (K := K) (a := a) (xs := xs)) I R1 (fun H' A' w e r => ex_t (e.trans r.ex) sq) (h0 A1 H1 g1) ?_ ?_⟩⟩
      · rintro i x σ' A' A2 H' w hi hI e r ⟨rfl, hx⟩
        have hi' : i < ds.length := by omega
        obtain ⟨v, hv, kv⟩ := dqall_get el (List.getElem?_eq_getElem hi')
        rw [hx] at hv
        cases hv
        exact hs H1 g1.reg i _ x σ' A2 H' w (List.getElem?_eq_getElem hi') hI e r (dq_ex e _ _ kv)
      · intro σ' A' H' w hI e r
        rw [ln] at hI
        exact hd σ' A' H' w hI (g1.reg.trans e) r
theorem d_lcQ {j : Nat} {vs : List Nat} (f : PyData → Bool) (v : PyData → PyData) (h : EvD K p tl σ H d) (hd0 : IsSeq d ds) (hz : ds.length ≤ 60000) (hw : ∀ x, wipe ((wipe σ vs).set j (some x)) vs = wipe σ vs)
    (ht : ∀ c ∈ ds, ∀ x H1, Ex H H1 → Dq K H1 x c → EvB p tt ((wipe σ vs).set j (some x)) H1 (f c)) (he : ∀ c ∈ ds, ∀ x H1, Ex H H1 → Dq K H1 x c → f c = true → EvD K p te ((wipe σ vs).set j (some x)) H1 (v c)) :
    EvD K p (tLc (iSeq K tl) (gName j) tt te vs) σ H (.list ((ds.filter f).map v)) := by
  rcases hd0 with rfl | rfl
  · exact fun A R Q q => h A R _ fun x A1 H1 g1 k1 => by
      obtain ⟨a, xs, rfl, sq, el⟩ := dq_inv_l k1
      have h1 : EvD K p (fun _ A Q => Q (.ref a) A) σ H1 (.list ds) := fun A R Q q => q _ A H1 R.refl (.lst sq el)
      have q2 := d_lcL (tl := fun _ A Q => Q (.ref a) A) (K := K) (p := p) (j := j) (vs := vs) (te := te) (tt := tt) f v h1 hz hw (fun c hc x H2 e k => ht c hc x H2 (g1.reg.trans e) k) (fun c hc x H2 e k => he c hc x H2 (g1.reg.trans e) k)
      have q3 := q2 A1 (g1.to R) Q fun v A2 H2 g2 k2 => q v A2 H2 (g1.trans g2) k2
      obtain ⟨a', e, hx, q4⟩ := q3
      exact ⟨a', e, .inl ⟨hx, q4⟩⟩
  · exact fun A R Q q => h A R _ fun x A1 H1 g1 k1 => by
      obtain ⟨a, xs, rfl, sq, el⟩ := dq_inv_t k1
      have h1 : EvD K p (fun _ A Q => Q (.ref a) A) σ H1 (.tuple ds) := fun A R Q q => q _ A H1 R.refl (.tup sq el)
      have q2 := d_lcT (tl := fun _ A Q => Q (.ref a) A) (K := K) (p := p) (j := j) (vs := vs) (te := te) (tt := tt) f v h1 hz hw (fun c hc x H2 e k => ht c hc x H2 (g1.reg.trans e) k) (fun c hc x H2 e k => he c hc x H2 (g1.reg.trans e) k)
      have q3 := q2 A1 (g1.to R) Q fun v A2 H2 g2 k2 => q v A2 H2 (g1.trans g2) k2
      obtain ⟨a', e, hx, q4⟩ := q3
      exact ⟨a', e, .inr ⟨hx, q4⟩⟩
theorem c_tupleQ {X : Cx} (hK : X.K = K) (hd0 : IsSeq d ds) : CaD K p (fun xs H Q => ∃ q ys, xs = [.ref q] ∧ ((SqL X.K H q ys ∧ ∀ l, H l = none → Q (.ref l) (upd H l (.tup ys))) ∨ (SqT X.K H q ys ∧ Q (.ref q) H))) [d] (.tuple ds) := by
  rcases hd0 with rfl | rfl
  · exact c_tuple hK
  · exact fun vs H A h R Q q => by
      obtain ⟨v, rfl, k⟩ := dqall_one h
      obtain ⟨a, xs, rfl, h1, h2⟩ := dq_inv_t k
      exact ⟨a, xs, rfl, .inr ⟨by rw [hK]; exact ex_t R.ex h1, q _ A H R.refl k⟩⟩
/-! ### for i, x in enumerate(t) -/
theorem gtup2 {a b : Nat} {T : Addr} {x y : V} {A : Hp} {Q : L2.St → Hp → Prop} (h : A T = some (.tup [x, y])) (q : Q ((σ.set a (some x)).set b (some y)) A) : gTup K 2 (gCons (gName a) (gCons (gName b) gNil)) (.ref T) σ A Q :=
  ⟨T, [x, y], rfl, st_of h, rfl, x, [y], rfl, y, [], rfl, rfl, q⟩
theorem s_forE {a b : Nat} {ta : TA} (h : EvS K p ta σ H [.tuple ds]) (R : Reg p H A) (I : Iv) (h0 : ∀ A1 H1, Gr p A H A1 H1 → I 0 σ A1 H1 p.own)
    (hs : ∀ H1, Ex H H1 → ∀ (i : Nat) d v σ' A' A2 H' w, ds[i]? = some d → I i σ' A' H' w → Ex H1 H' → Gr ⟨p.pool, w⟩ A' H' A2 H' → Reg ⟨p.pool, w⟩ H' A2 → Dq K H' v d → tu { D with nx := Nx p (I (i + 1)) H1, ct := Nx p (I (i + 1)) H1, bk := D.nx } ((σ'.set a (some (.int i))).set b (some v)) A2)
    (hd : ∀ σ' A' H' w, I ds.length σ' A' H' w → Ex H H' → Reg ⟨p.pool, w⟩ H' A' → D.nx σ' A') : tFor (iEnumT K ta) (gTup K 2 (gCons (gName a) (gCons (gName b) gNil))) tu D σ A := h A R _ fun us A1 H1 g1 k1 => by
  obtain ⟨v0, rfl, k1x⟩ := dqall_one k1
  obtain ⟨t, xs, rfl, sq, el⟩ := dq_inv_t k1x
  have R1 := g1.to R
  have ln := dqall_len el
  refine ⟨t, xs, rfl, ex_t R1.ex sq, loop_w (walk_enumT (K := K) (a := t) (xs := xs)) I R1 (fun H' A' w e r => ex_t (e.trans r.ex) sq) (h0 A1 H1 g1) ?_ ?_⟩
  · rintro i x σ' A' A2 H' w hi hI e r ⟨T, y1, y2, rfl, nT, rfl, e1, e2⟩
    cases e1
    have hi' : i < ds.length := by omega
    obtain ⟨v, hv, kv⟩ := dqall_get el (List.getElem?_eq_getElem hi')
    cases (show xs[i]? = some y2 from e2).symm.trans hv
    have g := Gr.allocM r (o := .tup [.int (i : Int), y2]) nT
    refine gtup2 upd_same ?_
    exact hs H1 g1.reg i _ y2 σ' A' _ H' w (List.getElem?_eq_getElem hi') hI e g (g.to r) (dq_ex e _ _ kv)
  · intro σ' A' H' w hI e r
    rw [ln] at hI
    exact hd σ' A' H' w hI (g1.reg.trans e) r
/-! ### zip -/
/-- [te for x, y in zip(s, t)], s and t tuples -/
theorem d_lcZ {a b : Nat} {vs : List Nat} {ta : TA} {n : Nat} (v : Nat → PyData) (h : EvS K p ta σ H [.tuple ds, .tuple es]) (hn : n = min ds.length es.length) (hz : n ≤ 60000) (hw : ∀ x y, wipe (((wipe σ vs).set a (some x)).set b (some y)) vs = wipe σ vs)
    (he : ∀ i c e, ds[i]? = some c → es[i]? = some e → ∀ x y H1, Ex H H1 → Dq K H1 x c → Dq K H1 y e → EvD K p te (((wipe σ vs).set a (some x)).set b (some y)) H1 (v i)) :
    EvD K p (tLc (RZ.iZipA K ta) (gTup K 2 (gCons (gName a) (gCons (gName b) gNil))) tYes te vs) σ H (.list ((List.range n).map v)) := fun A R Q q => h A R _ fun us A1 H1 g1 k1 => by
  obtain ⟨u1, u2, rfl, k1, k2⟩ := dqall_two k1
  obtain ⟨t, xs, rfl, sq, el⟩ := dq_inv_t k1
  obtain ⟨t2, ys, rfl, sq2, el2⟩ := dq_inv_t k2
  have R1 := g1.to R
  have ln := dqall_len el
  have ln2 := dqall_len el2
  refine ⟨t, t2, xs, ys, rfl, .inr ⟨ex_t R1.ex sq, ex_t R1.ex sq2, fun Dl hD => lc_w (K := K) (p := p) (H1 := H1) (walk_zipT (K := K) (a := t) (b := t2) (xs := xs) (ys := ys) (n := n) (by rw [hn, ln, ln2])) R1 hD hz (fun _ => true) v (fun H' A' e r => ⟨ex_t (e.trans r.ex) sq, ex_t (e.trans r.ex) sq2⟩) ?_ ?_ ?_⟩⟩
  · rintro i x A' A2 H' hi e r ⟨T, y1, y2, rfl, nT, rfl, e1, e2⟩
    have hi1 : i < ds.length := by omega
    have hi2 : i < es.length := by omega
    obtain ⟨w1, hv, kv⟩ := dqall_get el (List.getElem?_eq_getElem hi1)
    cases (show xs[i]? = some y1 from e1).symm.trans hv
    obtain ⟨w2, hv, kv2⟩ := dqall_get el2 (List.getElem?_eq_getElem hi2)
    cases (show ys[i]? = some y2 from e2).symm.trans hv
    have g := Gr.allocM r (o := .tup [y1, y2]) nT
    refine gtup2 upd_same ⟨hw _ _, H', g, b_yes, fun _ => ?_⟩
    exact he i _ _ (List.getElem?_eq_getElem hi1) (List.getElem?_eq_getElem hi2) y1 y2 H' (g1.reg.trans e) (dq_ex e _ _ kv) (dq_ex e _ _ kv2)
  · rintro x σ A Q Q' hq ⟨a, zs, e1, e2, e3, z1, r1, e4, z2, r2, e5, e6, q⟩
    exact ⟨a, zs, e1, e2, e3, z1, r1, e4, z2, r2, e5, e6, hq _ _ q⟩
  · intro A' H' zs g n' e k
    rw [List.filter_eq_self.mpr (fun _ _ => rfl)] at k
    exact done_lc R1 hD g n' e k fun v A2 H2 g2 k2 => q v A2 H2 (g1.trans g2) k2
/-- for x, y in zip(s, t), s and t lists of one length -/
theorem s_forZ {a b : Nat} {ta : TA} (h : EvS K p ta σ H [.list ds, .list es]) (hl : ds.length = es.length) (R : Reg p H A) (I : Iv) (h0 : ∀ A1 H1, Gr p A H A1 H1 → I 0 σ A1 H1 p.own)
    (hs : ∀ H1, Ex H H1 → ∀ (i : Nat) d e v u σ' A' A2 H' w, ds[i]? = some d → es[i]? = some e → I i σ' A' H' w → Ex H1 H' → Gr ⟨p.pool, w⟩ A' H' A2 H' → Reg ⟨p.pool, w⟩ H' A2 → Dq K H' v d → Dq K H' u e → tu { D with nx := Nx p (I (i + 1)) H1, ct := Nx p (I (i + 1)) H1, bk := D.nx } ((σ'.set a (some v)).set b (some u)) A2)
    (hd : ∀ σ' A' H' w, I ds.length σ' A' H' w → Ex H H' → Reg ⟨p.pool, w⟩ H' A' → D.nx σ' A') : tFor (RZ.iZipA K ta) (gTup K 2 (gCons (gName a) (gCons (gName b) gNil))) tu D σ A := h A R _ fun us A1 H1 g1 k1 => by
  obtain ⟨u1, u2, rfl, k1, k2⟩ := dqall_two k1
  obtain ⟨t, xs, rfl, sq, el⟩ := dq_inv_l k1
  obtain ⟨t2, ys, rfl, sq2, el2⟩ := dq_inv_l k2
  have R1 := g1.to R
  have ln := dqall_len el
  have ln2 := dqall_len el2
  refine ⟨t, t2, xs, ys, rfl, .inl ⟨sq_of (R1.ex _ _ sq), sq_of (R1.ex _ _ sq2), loop_w (walk_zip (K := K) (a := t) (b := t2) (xs := xs) (ys := ys) (n := ds.length) (by omega)) I R1 (fun H' A' w e r => ⟨sq_of ((e.trans r.ex) _ _ sq), sq_of ((e.trans r.ex) _ _ sq2)⟩) (h0 A1 H1 g1) ?_ (fun σ' A' H' w hI e r => hd σ' A' H' w hI (g1.reg.trans e) r)⟩⟩
  · rintro i x σ' A' A2 H' w hi hI e r ⟨T, y1, y2, rfl, nT, rfl, e1, e2⟩
    have hi2 : i < es.length := by omega
    obtain ⟨w1, hv, kv⟩ := dqall_get el (List.getElem?_eq_getElem hi)
    cases (show xs[i]? = some y1 from e1).symm.trans hv
    obtain ⟨w2, hv, kv2⟩ := dqall_get el2 (List.getElem?_eq_getElem hi2)
    cases (show ys[i]? = some y2 from e2).symm.trans hv
    have g := Gr.allocM r (o := .tup [y1, y2]) nT
    refine gtup2 upd_same ?_
    exact hs H1 g1.reg i _ _ y1 y2 σ' A' _ H' w (List.getElem?_eq_getElem hi) (List.getElem?_eq_getElem hi2) hI e g (g.to r) (dq_ex e _ _ kv) (dq_ex e _ _ kv2)
/-! ### lcm, [x] * n -/
def rLcm : List V → Hp → VK → Prop := fun vs H Q => ∃ a b : Int, vs = [.int a, .int b] ∧ a.natAbs < 2 ^ 13000 ∧ b.natAbs < 2 ^ 13000 ∧ Q (.int ((Nat.lcm a.natAbs b.natAbs : Nat) : Int)) H
end
end Z
namespace Z
open PySem PySem.Spec PyProof.Rows L2 Evl
theorem log2_30 {n : Nat} (h : n < 2 ^ 13000) : n.log2 / 30 + 1 ≤ 450 := by
  have : n.log2 < 13000 := PySem.Flt.log2_lt_of (by decide) h
  omega
theorem cr_lcm {X : Cx} : CallR X (.builtin "math.lcm") rLcm := by
  intro pins s σ H vs us Q I r h
  obtain ⟨a, b, rfl, ha, hb, q⟩ := h
  obtain ⟨t, u, rfl⟩ := Vals.int2 r
  have h1 : 1 < 2 ^ 13000 := Nat.one_lt_two_pow (by decide)
  have l1 := log2_30 (show max 1 a.natAbs < 2 ^ 13000 from Nat.max_lt.mpr ⟨h1, ha⟩)
  have l2 := log2_30 (show max a.natAbs b.natAbs < 2 ^ 13000 from Nat.max_lt.mpr ⟨ha, hb⟩)
  have e1 : Nat.lcm 1 a.natAbs = a.natAbs := Nat.lcm_one_left _
  have hs : (((Nat.lcm 1 a.natAbs).lcm b.natAbs : Nat) : Int).natAbs.log2 < bitsLine := by
    rw [e1]
    have l : a.natAbs.lcm b.natAbs < 2 ^ 26000 := by
      have l0 : a.natAbs.lcm b.natAbs ≤ a.natAbs * b.natAbs := by
        by_cases z : a.natAbs * b.natAbs = 0
        · rcases Nat.mul_eq_zero.mp z with z | z <;> rw [z] <;> simp
        · exact Nat.le_of_dvd (Nat.pos_of_ne_zero z) (Nat.lcm_dvd_mul _ _)
      refine Nat.lt_of_le_of_lt l0 ?_
      have e : (2 : Nat) ^ 26000 = 2 ^ 13000 * 2 ^ 13000 := by rw [← Nat.pow_add]
      rw [e]
      exact Nat.mul_lt_mul'' ha hb
    have := PySem.Flt.log2_lt_of (by decide) l
    have b0 : (26000 : Nat) ≤ bitsLine := by decide
    show (a.natAbs.lcm b.natAbs).log2 < bitsLine
    omega
  refine call_function_meets PySem.W.MGF.kind_lcm PySem.W.MGF.plain_lcm PySem.W.MGF.entry_lcm (PySem.W.MGF.args_lcm _ _) (PySem.W.mg_run_lcm a t b u (by omega) (by omega) hs).meets ?_
  rw [e1]
  exact ⟨.int _, H, I.tok _, ⟨_, rfl⟩, q⟩
section
variable {K : PySem.W.Frag} {p : Me} {σ : L2.St} {H H' A A' : Hp} {te ta tb tc tl ti : TE} {tt : TT} {tu tz : TS} {D : Ends} {d dx dy dz : PyData} {ds es : List PyData}
theorem c_lcm {i j : Int} (hi : i.natAbs < 2 ^ 13000) (hj : j.natAbs < 2 ^ 13000) : CaD K p rLcm [.int i, .int j] (.int ((Nat.lcm i.natAbs j.natAbs : Nat) : Int)) := fun vs H A h R Q q => by
  obtain ⟨v, w, rfl, k1, k2⟩ := dqall_two h
  cases k1; cases k2
  exact ⟨i, j, rfl, hi, hj, q _ A H R.refl (.int _)⟩
theorem flat_one {v : V} : ∀ n : Nat, (List.replicate n [v]).flatten = List.replicate n v
  | 0 => rfl
  | n + 1 => by rw [List.replicate_succ, List.flatten_cons, flat_one n, List.replicate_succ]; rfl
theorem dq_rep {G : Hp} {v : V} (h : Dq K G v d) : ∀ n : Nat, DqAll K G (List.replicate n v) (List.replicate n d)
  | 0 => .nil
  | n + 1 => .cons h (dq_rep h n)
theorem o_rep1 {n : Nat} (hn : n ≤ 60000) : OpD K p rRep (.list [d]) (.int n) (.list (List.replicate n d)) := fun x y H A hx hy R Q q => by
  cases hy
  obtain ⟨a, xs, rfl, h1, h2⟩ := dq_inv_l hx
  obtain ⟨v, rfl, kv⟩ := dqall_one h2
  refine ⟨a, n, [v], rfl, rfl, R.ex _ _ h1, by omega, by omega, sz_of (by simpa using Nat.le_trans hn (by decide)), fun l hl => ?_⟩
  have e : (List.replicate ((n : Int).toNat) [v]).flatten = List.replicate n v := by
    rw [Int.toNat_natCast]
    exact flat_one n
  rw [e]
  have g := Gr.alloc R (o := .lst (List.replicate n v)) hl
  exact q _ _ _ g (.lst upd_same (dq_rep (dq_ex g.reg _ _ kv) n))
theorem inV_ints {i : Int} : ∀ ns : List Int, inV (.int i) (ns.map V.int) = decide (i ∈ ns)
  | [] => rfl
  | n :: ns => by
    have ih := inV_ints (i := i) ns
    unfold inV at ih ⊢
    rw [List.map_cons, List.any_cons, ih]
    have e : eqV (V.int n) (V.int i) = decide (n = i) := by
      unfold eqV
      by_cases c : n = i
      · subst c; simp
      · simp [c]
    rw [e]
    by_cases c : n = i
    · subst c; simp
    · have c' : ¬ i = n := fun z => c z.symm
      simp [c, c']
theorem flat_ints : ∀ ns : List Int, (ns.map V.int).all flatV = true
  | [] => rfl
  | n :: ns => by rw [List.map_cons, List.all_cons, flat_ints ns]; rfl
theorem o_notIn {i : Int} {ns : List Int} : OpD K p (rIn K true) (.int i) (.list (ns.map .int)) (.bool (!decide (i ∈ ns))) := fun x y H A hx hy R Q q => by
  cases hx
  obtain ⟨a, xs, rfl, h1, h2⟩ := dq_inv_l hy
  have := dq_ints h2
  subst this
  refine ⟨a, _, rfl, .inl (sq_of (R.ex _ _ h1)), rfl, flat_ints ns, ?_⟩
  show Q (.bl (!inV (.int i) (ns.map V.int))) A
  rw [inV_ints]
  exact q _ A H R.refl (.bl _)
end
end Z
namespace Z
open PySem PySem.Spec PyProof.Rows L2 Evl
abbrev FnP (K : PySem.W.Frag) (x : Str) (st : Stmt) (f : Addr) (fd : FuncData) : Prop := FunD K x x (defArgs st) (defBody st) (defScope st) [] [] f fd
/-- the def st stands under the name x -/
def St (K : PySem.W.Frag) (mg : Str → Option Value) (x : Str) (st : Stmt) (ps : List Str) : Prop := ∃ f fd, FnP K x st f fd ∧ mg x = some (.ref f) ∧ Binds K fd ps []
theorem dn_of {P : Program} {w : World} {K : PySem.W.Frag} {mg : Str → Option Value} {base : Heap} {x : Str} {st : Stmt} {N ps : List Str} {sp : Sp} (k : Nat) (Hx : St K mg x st ps) (S : FnScope N ps (defScope st)) (len : ∀ vs H Q E, sp vs H Q E → vs.length = ps.length)
    (hbody : ∀ (f : Addr) (cdv : Value) (A : Around) (outer : List Env) (s : Shared) (H : Hp) (vs : List V) (Q : VK) (E : XK), Room k (A.deeper (envOfC x (defScope st) s.heap.objs.size f cdv)) → sp vs H Q E →
      ∃ t, PSs (cxOf CX0 P w K mg base N x (defScope st) f cdv A outer s H E).nox (defBody st) t ∧ t { nx := fun _ H' => Q .non H', rt := Q } (start N vs) H) : Dn P w K mg base CX0 (k + 1) x ps sp := by
  obtain ⟨f, fd, F, m, b⟩ := Hx
  refine ⟨f, fd, F.ok S len fun cdv A outer s H vs Q E hr h => ?_, m, F.kp, b⟩
  obtain ⟨t, h1, h2⟩ := hbody f cdv A outer s H vs Q E hr h
  exact ⟨t, h1.nox, h2⟩
/-- a def of data: what its body does, told of data -/
def Bd (K : PySem.W.Frag) (N : List Str) (t : TS) (F : List PyData → PyData → Prop) : Prop := ∀ vs H A ds d (Q : VK), Reg .non H A → DqAll K H vs ds → F ds d → (∀ v A' H', Gr .non A H A' H' → Dq K H' v d → Q v A') → t { nx := fun _ H' => Q .non H', rt := Q } (start N vs) A
theorem dn_data {P : Program} {w : World} {K : PySem.W.Frag} {mg : Str → Option Value} {base : Heap} {x : Str} {st : Stmt} {N ps : List Str} {F : List PyData → PyData → Prop} (k : Nat) (Hx : St K mg x st ps) (S : FnScope N ps (defScope st)) (hl : ∀ ds d, F ds d → ds.length = ps.length)
    (ht : ∀ (f : Addr) (cdv : Value) (A : Around) (outer : List Env) (s : Shared) (H : Hp) (E : XK), Room k (A.deeper (envOfC x (defScope st) s.heap.objs.size f cdv)) → ∃ t, PSs (cxOf CX0 P w K mg base N x (defScope st) f cdv A outer s H E).nox (defBody st) t ∧ Bd K N t F) : Dn P w K mg base CX0 (k + 1) x ps (SpD K F) :=
  dn_of k Hx S (fun vs H Q E h => spD_len h hl) fun f cdv A outer s H vs Q E hr h => by
    obtain ⟨H0, ds, d, R, k0, hF, q⟩ := h
    obtain ⟨t, h1, h2⟩ := ht f cdv A outer s H E hr
    exact ⟨t, h1, h2 vs H0 H ds d Q R k0 hF q⟩
end Z
/-! the pool: a list of two numbers that draws change -/
namespace Z
open PySem PySem.Spec PyProof.Rows L2 Evl
theorem ix_K {X : Cx} {K : PySem.W.Frag} (h : X.K = K) : IxR X (rIx K) := h ▸ ix_seq
theorem own_same {f : Hp} {q : Addr} {o : HO} : (Me.mk none (upd f q o)).own q = some o := upd_same
def poolS (K : PySem.W.Frag) : Sp := fun vs A Q _ => ∃ (H : Hp) (a : Addr) (ns : List Int) (k : Nat), Reg .non H A ∧ vs = [.ref a, .int (k : Nat)] ∧ SqL K H a (ns.map V.int) ∧ k < 1000000 ∧
  ∀ (q : Addr) (a b : Int) (A' H' : Hp), Gr .non A H A' H' → A q = none → H' q = none → A' q = some (.lst [.int a, .int b]) → 0 ≤ a → 0 ≤ b → b < 2147483647 → Q (.ref q) A'
def takeS (K : PySem.W.Frag) : Sp := fun vs A Q _ => ∃ (H : Hp) (q : Addr) (own : Hp) (m : Int), vs = [.ref q, .int m] ∧ Reg ⟨some q, own⟩ H A ∧ 0 < m ∧ m < 1073741824 ∧
  ∀ (r : Int) (A' H' : Hp), Gr ⟨some q, own⟩ A H A' H' → 0 ≤ r → r < m → Q (.int r) A'
section
variable {K : PySem.W.Frag} {p : Me} {σ : L2.St} {H H' A A' : Hp} {te ta tb tc tl ti : TE} {tt : TT} {tu tz : TS} {D : Ends} {d dx dy dz : PyData} {ds es : List PyData}
theorem Reg.poolAsOwn {q : Addr} {own : Hp} {a b : Int} (R : Reg ⟨some q, own⟩ H A) (h : A q = some (.lst [.int a, .int b])) : Reg ⟨none, upd (fun _ => none) q (.lst [.int a, .int b])⟩ H A := by
  refine ⟨R.ex, (fun q h => nomatch h), (fun q h => nomatch h), fun x o e => ?_, fun x o e => ?_⟩
  · by_cases c : x = q
    · subst c
      have e' : upd (fun _ => none) x (.lst [.int a, .int b]) x = some o := e
      rw [upd_same] at e'
      rw [h]; exact e'
    · have e' : upd (fun _ => none) q (.lst [.int a, .int b]) x = some o := e
      rw [upd_ne c] at e'
      cases e'
  · by_cases c : x = q
    · subst c
      exact ⟨R.off x rfl, (fun z => nomatch z)⟩
    · have e' : upd (fun _ => none) q (.lst [.int a, .int b]) x = some o := e
      rw [upd_ne c] at e'
      cases e'
theorem Gr.toPool {q : Addr} {w own : Hp} {A1 H1 : Hp} {a b : Int} (g : Gr ⟨none, w⟩ A H A1 H1) (hH : H1 q = none) (hA : ∃ o, A1 q = some o) (h0 : 0 ≤ a) (h1 : 0 ≤ b) (h2 : b < 2147483647) : Gr ⟨some q, own⟩ A H (upd A1 q (.lst [.int a, .int b])) H1 := by
  refine ⟨fun x o n h => ?_, fun x o h => ?_, fun x hx => ?_, g.reg, fun x o h => ?_, g.new⟩
  · have c : x ≠ q := fun z => n (congrArg some z.symm)
    rw [upd_ne c]
    exact g.act x o (fun z => nomatch z) h
  · by_cases c : x = q
    · subst c; exact ⟨_, upd_same⟩
    · rw [upd_ne c]; exact g.dom x o h
  · cases hx
    exact ⟨a, b, upd_same, h0, h1, h2⟩
  · rw [upd_ne (ne_of_none h hH)]
    exact g.sub x o h
theorem o_mod {i j : Int} (h : 0 < j) : OpD K p (rI (fun _ j => 0 < j) fun i j => .int (i % j)) (.int i) (.int j) (.int (i % j)) := o_I (f := fun i j => i % j) h
theorem o_fdiv {i j : Int} (h : 0 < j) (h2 : j < 1073741824) : OpD K p (rI CDiv fun i j => .int (i / j)) (.int i) (.int j) (.int (i / j)) := o_I (C := CDiv) (f := fun i j => i / j) ⟨h, h2⟩
theorem o_mul {i j : Int} (h : CMul i j) : OpD K p (rI CMul fun i j => .int (i * j)) (.int i) (.int j) (.int (i * j)) := o_I (f := fun i j => i * j) h
theorem o_add {i j : Int} : OpD K p (rI0 fun i j => .int (i + j)) (.int i) (.int j) (.int (i + j)) := o_I0 (f := fun i j => i + j)
theorem o_sub {i j : Int} : OpD K p (rI0 fun i j => .int (i - j)) (.int i) (.int j) (.int (i - j)) := o_I0 (f := fun i j => i - j)
theorem o_lt {i j : Int} : OpD K p (rI0 fun i j => .bl (decide (i < j))) (.int i) (.int j) (.bool (decide (i < j))) := o_B0 (f := fun i j => decide (i < j))
theorem o_gt {i j : Int} : OpD K p (rI0 fun i j => .bl (decide (j < i))) (.int i) (.int j) (.bool (decide (j < i))) := o_B0 (f := fun i j => decide (j < i))
theorem o_ge {i j : Int} : OpD K p (rI0 fun i j => .bl (decide (j ≤ i))) (.int i) (.int j) (.bool (decide (j ≤ i))) := o_B0 (f := fun i j => decide (j ≤ i))
end
section
variable {K : PySem.W.Frag} {p : Me} {σ : L2.St} {H H' A A' : Hp} {te : TE}
theorem d_mods {x m : Int} (h : EvD K p te σ H (.int (x % m))) (hm : 0 < m) : EvG p te σ H fun v _ => ∃ b : Int, v = .int b ∧ 0 ≤ b ∧ b < m := fun A R Q q => h A R Q fun v A' H' g k => by
  cases k
  exact q _ A' H' g ⟨_, rfl, Int.emod_nonneg _ (by omega), Int.emod_lt_of_pos _ hm⟩
end
theorem ite01 {P : Prop} [Decidable P] : (0 : Int) ≤ (if P then 1 else 0) := by split <;> decide
theorem ite01m {i : Int} {P : Prop} [Decidable P] : CMul i (if P then 1 else 0) := .inr (by split <;> decide)
theorem s_par {K : PySem.W.Frag} {p : Me} {σ : L2.St} {H A : Hp} {ta : TA} {d e : PyData} {D : Ends} {i j : Nat} (h : EvS K p ta σ H [d, e]) (R : Reg p H A) (k : ∀ x y A' H', Gr p A H A' H' → Dq K H' x d → Dq K H' y e → D.nx ((σ.set i (some x)).set j (some y)) A') : tPar i j ta D σ A :=
  h A R _ fun vs A1 H1 g1 k1 => by
    obtain ⟨x, y, rfl, kx, ky⟩ := dqall_two k1
    exact ⟨x, y, rfl, k x y A1 H1 g1 kx ky⟩
theorem q_par {K : PySem.W.Frag} {p : Me} {σ : L2.St} {H A : Hp} {ta : TA} {tz : TS} {d e : PyData} {D : Ends} {i j : Nat} (h : EvS K p ta σ H [d, e]) (R : Reg p H A) (k : ∀ x y A' H', Gr p A H A' H' → Dq K H' x d → Dq K H' y e → tz D ((σ.set i (some x)).set j (some y)) A') : tSeq (tPar i j ta) tz D σ A := s_par (D := { D with nx := tz D }) h R k
theorem s_retNew {K : PySem.W.Frag} {p : Me} {σ : L2.St} {H A : Hp} {ta : TA} {ds : List PyData} {D : Ends} (h : EvS K p ta σ H ds) (hl : ds.length ≤ 100000) (R : Reg p H A) (k : ∀ l vs A' H', Gr p A H A' H' → DqAll K H' vs ds → A' l = none → H' l = none → A l = none → D.rt (.ref l) (upd A' l (.lst vs))) : tRet (tLst ta) D σ A :=
  h A R _ fun vs A1 H1 g1 k1 => ⟨by rw [dqall_len k1]; exact sz_of hl, fun l hn => by
    have R1 := g1.to R
    refine k l vs A1 H1 g1 k1 hn (fresh_back R1.ex hn) ?_
    cases e : A l with
    | none => rfl
    | some o => obtain ⟨o', e'⟩ := g1.dom l o e; rw [hn] at e'; cases e'⟩
abbrev N_take : List Str := ["_law_pool_here", "_law_wide", "_law_result"]
section
variable {P : Program} {w : World} {K : PySem.W.Frag} {mg : Str → Option Value} {base : Heap}
abbrev tPool0 (K : PySem.W.Frag) (i : Int) : TE := tOp (rIx K) (tVar 0) (tC (.int i))
/-- what _law_take's body does -/
theorem take_run {q : Addr} {own : Hp} {m : Int} {H A : Hp} {Q : VK} (R : Reg ⟨some q, own⟩ H A) (hm : 0 < m) (hm2 : m < 1073741824) (k : ∀ (r : Int) (A' H' : Hp), Gr ⟨some q, own⟩ A H A' H' → 0 ≤ r → r < m → Q (.int r) A') :
    (tSeq (tIfS (tTest (tOp (rI0 fun i j => .bl (decide (j < i))) (tPool0 K 0) (tC (.int 0))))
      (tSeq (tAsg (tOp (rI (fun _ j => 0 < j) fun i j => .int (i % j)) (tCB (fun xs H Q => (∃ i, xs = [V.int i] ∧ Q (.int i) H) ∨ ∃ k, xs = [V.bl k] ∧ Q (.int (if k then 1 else 0)) H) (tCons (tPool0 K 0) tNil)) (tVar 1)) (gName 2))
        (tSeq (tAsg (tOp (rI CDiv fun i j => .int (i / j)) (tPool0 K 0) (tVar 1)) (gSub (tVar 0) (tC (.int 0)) rSetL)) (tRet (tVar 2)))) tNext)
      (tSeq (tAsg (tOp (rI (fun _ j => 0 < j) fun i j => .int (i % j)) (tCB (fun xs H Q => (∃ i, xs = [V.int i] ∧ Q (.int i) H) ∨ ∃ k, xs = [V.bl k] ∧ Q (.int (if k then 1 else 0)) H) (tCons (tOp (rI0 fun i j => .int (i + j)) (tOp (rI CMul fun i j => .int (i * j)) (tPool0 K 1) (tC (.int 48271))) (tC (.int 12345))) tNil)) (tC (.int 2147483647))) (gSub (tVar 0) (tC (.int 1)) rSetL))
        (tRet (tOp (rI (fun _ j => 0 < j) fun i j => .int (i % j)) (tOp (rI CDiv fun i j => .int (i / j)) (tOp (rI (fun _ j => 0 < j) fun i j => .int (i % j)) (tCB (fun xs H Q => (∃ i, xs = [V.int i] ∧ Q (.int i) H) ∨ ∃ k, xs = [V.bl k] ∧ Q (.int (if k then 1 else 0)) H) (tCons (tOp (rI CMul fun i j => .int (i * j)) (tPool0 K 1) (tPool0 K 1)) tNil)) (tC (.int 2147483629))) (tC (.int 64))) (tVar 1)))))
      { nx := fun _ H' => Q .non H', rt := Q } (start N_take [.ref q, .int m]) A := by
  obtain ⟨a, b, hq, ha, hb, hb2⟩ := R.pool q rfl
  have R0 := R.poolAsOwn hq
  have hx : DqAll K H [V.int a, V.int b] [PyData.int a, PyData.int b] := .cons (.int a) (.cons (.int b) .nil)
  have ix0 : ∀ {σ : L2.St} {H2 : Hp}, σ[0]? = some (some (.ref q)) → Evl.Ex H H2 → EvD K ⟨none, upd (fun _ => none) q (.lst [.int a, .int b])⟩ (tPool0 K 0) σ H2 (.int a) := fun h e => d_ixOwn h own_same (dqall_ex e hx) d_int rfl
  have ix1 : ∀ {σ : L2.St} {H2 : Hp}, σ[0]? = some (some (.ref q)) → Evl.Ex H H2 → EvD K ⟨none, upd (fun _ => none) q (.lst [.int a, .int b])⟩ (tPool0 K 1) σ H2 (.int b) := fun h e => d_ixOwn h own_same (dqall_ex e hx) d_int rfl
  refine q_when (b_test (d_op (K := K) (ix0 rfl (Evl.Ex.refl H)) d_int o_gt)) R0 (fun hc A1 H1 g1 => ?_) fun hc A1 H1 g1 => ?_
  · refine q_asg (d_op (K := K) (d_cb (s_cons (ix0 rfl g1.reg) s_nil) c_int1) (d_var rfl (.int m)) (o_mod hm)) (g1.to R0) fun v2 A2 H2 g2 k2 => ?_
    cases k2
    have g12 := g1.trans g2
    refine s_setOwn (K := K) (xs := [.int a, .int b]) (z := 0) (j := 0) (d := .int (a / m)) rfl own_same (d_op (ix0 rfl g12.reg) (d_var rfl (.int m)) (o_fdiv hm hm2)) (fun H' e => d_int) rfl (g12.to R0) fun v5 A4 H4 g4 k5 R4 => ?_
    cases k5
    have gp : Gr ⟨some q, own⟩ A H (upd A4 q (.lst [.int (a / m), .int b])) H4 := Gr.toPool (g12.trans g4) (R4.offO q _ upd_same).1 ⟨_, (g12.trans g4).act q _ (fun z => nomatch z) hq⟩ (Int.ediv_nonneg ha (by omega)) hb hb2
    exact ⟨.int (a % m), rfl, k _ _ _ gp (Int.emod_nonneg _ (by omega)) (Int.emod_lt_of_pos _ hm)⟩
  · refine s_setOwn (K := K) (xs := [.int a, .int b]) (z := 1) (j := 1) (d := .int ((b * 48271 + 12345) % 2147483647)) rfl own_same (d_op (d_cb (s_cons (d_op (d_op (ix1 rfl g1.reg) d_int (o_mul (.inr (by decide)))) d_int o_add) s_nil) c_int1) d_int (o_mod (by decide))) (fun H' e => d_int) rfl (g1.to R0) fun v5 A4 H4 g4 k5 R4 => ?_
    cases k5
    have c0 : 0 ≤ (b * 48271 + 12345) % 2147483647 := Int.emod_nonneg _ (by decide)
    have c1 : (b * 48271 + 12345) % 2147483647 < 2147483647 := Int.emod_lt_of_pos _ (by decide)
    generalize hc' : (b * 48271 + 12345) % 2147483647 = c at *
    have hy : DqAll K H4 [V.int a, V.int c] [PyData.int a, PyData.int c] := .cons (.int a) (.cons (.int c) .nil)
    have ix1' : ∀ {σ : L2.St} {H2 : Hp}, σ[0]? = some (some (.ref q)) → Evl.Ex H4 H2 → EvD K ⟨none, upd (upd (fun _ => none) q (.lst [.int a, .int b])) q (.lst [.int a, .int c])⟩ (tPool0 K 1) σ H2 (.int c) := fun h e => d_ixOwn h own_same (dqall_ex e hy) d_int rfl
    refine Z.s_ret (d_op (K := K) (d_op (d_op (d_cb (s_cons (d_op (ix1' rfl (Evl.Ex.refl _)) (ix1' rfl (Evl.Ex.refl _)) (o_mul (.inl ⟨by omega, by omega⟩))) s_nil) c_int1) d_int (o_mod (by decide))) d_int (o_fdiv (by decide) (by decide))) (d_var rfl (.int m)) (o_mod hm)) R4 fun v6 A6 H6 g6 k6 => ?_
    cases k6
    have gp : Gr ⟨some q, own⟩ A H (upd A4 q (.lst [.int a, .int c])) H4 := Gr.toPool (g1.trans g4) (R4.offO q _ upd_same).1 ⟨_, (g1.trans g4).act q _ (fun z => nomatch z) hq⟩ ha c0 c1
    have g6' : Gr ⟨some q, own⟩ (upd A4 q (.lst [.int a, .int c])) H4 A6 H6 := by
      have pl := gp.pool
      refine ⟨fun x o n h => g6.act x o (fun z => nomatch z) h, g6.dom, fun x hx => ?_, g6.reg, g6.sub, g6.new⟩
      obtain ⟨i, j, e, r⟩ := pl x hx
      exact ⟨i, j, g6.act x _ (fun z => nomatch z) e, r⟩
    exact k _ _ _ (gp.trans g6') (Int.emod_nonneg _ (by omega)) (Int.emod_lt_of_pos _ hm)
end
end Z
namespace Q43
open PySem PySem.Spec PyProof.Rows L2 Z
def top (i : Nat) : Stmt := PySem.Challenge.pw_freshplaces_k43_errors_of_rows.main.body.getD i (.Pass ⟨0, 0, 0, 0⟩)
section
variable {P : Program} {w : World} {K : PySem.W.Frag} {mg : Str → Option Value} {base : Heap}
/-! rows as data -/
abbrev R (r : List Int) : PyData := .tuple (r.map .int)
abbrev L (r : List Int) : PyData := .list (r.map .int)
abbrev LR (rs : List (List Int)) : PyData := .list (rs.map R)
/-! is_whole -/
abbrev s_is_whole : Stmt := top 6
abbrev N_is_whole : List Str := ["value"]
theorem sc_is_whole : FnScope N_is_whole ["value"] (defScope s_is_whole) := ⟨rfl, rfl, rfl, by decide +kernel, rfl, by decide +kernel, by decide +kernel⟩
def isI : PyData → Bool
  | .int _ => true
  | _ => false
def F_is_whole : List PyData → PyData → Prop := fun ds d => ∃ x : PyData, ds = [x] ∧ d = .bool (isI x)
theorem dn_is_whole (Hx : St K mg "is_whole" s_is_whole ["value"]) (B : Bs mg) : Dn P w K mg base CX0 1 "is_whole" ["value"] (SpD K F_is_whole) := by
  refine dn_data 0 Hx sc_is_whole (fun ds d h => by obtain ⟨n, rfl, _⟩ := h; rfl) fun f cdv A outer s H E hr => ⟨_, pss_one (ps_ret (pe_and (pe_callB call_isi (by rfl) B.isinstance (by decide +kernel) (pa_cons (pv 0) (pa_cons (pty (by rfl) B.int (by rfl)) pa_nil))) (pe_one (pe_not (pe_callB call_isi (by rfl) B.isinstance (by decide +kernel) (pa_cons (pv 0) (pa_cons (pty (by rfl) B.bool (by rfl)) pa_nil))))))), ?_⟩
  intro vs H A ds d Q R hk hF q
  obtain ⟨x, rfl, rfl⟩ := hF
  obtain ⟨v, rfl, k⟩ := dqall_one hk
  have key : ∀ b1 b2 : Bool, kitB (tyD x) "int" = some b1 → kitB (tyD x) "bool" = some b2 → (b1 && !b2) = isI x → EvD K .non (tAndV (tCB (rIsi K) (tCons (tVar 0) (tCons (tC (.ty "int")) tNil))) (tNotV (tCB (rIsi K) (tCons (tVar 0) (tCons (tC (.ty "bool")) tNil))))) (start N_is_whole [v]) H (.bool (isI x)) := fun b1 b2 h1 h2 e => by
    rw [← e]
    exact d_andV (K := K) (d_isi (d_var rfl k) h1) fun _ => d_notV (d_isi (d_var rfl k) h2)
  refine Z.s_ret ?_ R q
  cases k with
  | non => exact key false false rfl rfl rfl
  | bl b => exact key true true rfl rfl rfl
  | int i => exact key true false rfl rfl rfl
  | str x => exact key false false rfl rfl rfl
  | lst h hs => exact key false false rfl rfl rfl
  | tup h hs => exact key false false rfl rfl rfl
  | dic h => exact key false false rfl rfl rfl
/-! is_row -/
abbrev s_is_row : Stmt := top 8
abbrev N_is_row : List Str := ["value", "width", "number"]
theorem sc_is_row : FnScope N_is_row ["value", "width"] (defScope s_is_row) := ⟨rfl, rfl, rfl, by decide +kernel, rfl, by decide +kernel, by decide +kernel⟩
def isRw : PyData → Nat → Bool
  | .tuple es, n => decide (es.length = n) && es.all isI
  | _, _ => false
theorem isRw_R {r : List Int} {n : Nat} (h : r.length = n) : isRw (R r) n = true := by
  show (decide ((r.map PyData.int).length = n) && (r.map PyData.int).all isI) = true
  rw [List.length_map, decide_eq_true h, List.all_map]
  induction r with
  | nil => rfl
  | cons a r ih => simp [isI]
def F_is_row : List PyData → PyData → Prop := fun ds d => ∃ (x : PyData) (n : Nat), ds = [x, .int (n : Nat)] ∧ (∀ es, x = .tuple es → es.length ≤ 60000) ∧ d = .bool (isRw x n)
theorem all_true : ∀ r : List Int, ((List.filter (fun _ => true) (r.map PyData.int)).map fun _ => PyData.bool true) = (r.map fun _ => true).map PyData.bool
  | [] => rfl
  | _ :: r => by rw [List.map_cons, List.filter_cons, if_pos rfl, List.map_cons, all_true r]; rfl
theorem all_id : ∀ r : List Int, ((r.map fun _ => true).all id) = true
  | [] => rfl
  | _ :: r => by rw [List.map_cons, List.all_cons, all_id r]; rfl
theorem mem_ints {c : PyData} {r : List Int} (h : c ∈ r.map PyData.int) : ∃ n : Int, n ∈ r ∧ c = .int n := by
  obtain ⟨n, h1, rfl⟩ := List.mem_map.mp h
  exact ⟨n, h1, rfl⟩
theorem is_bools (es : List PyData) : ((es.filter fun _ => true).map fun c => PyData.bool (isI c)) = (es.map isI).map PyData.bool := by
  rw [List.filter_eq_self.mpr fun _ _ => rfl, List.map_map]; rfl
theorem dn_is_row (Hx : St K mg "is_row" s_is_row ["value", "width"]) (B : Bs mg) (D1 : Dn P w K mg base CX0 1 "is_whole" ["value"] (SpD K F_is_whole)) : Dn P w K mg base CX0 2 "is_row" ["value", "width"] (SpD K F_is_row) := by
  refine dn_data 1 Hx sc_is_row (fun ds d h => by obtain ⟨_, _, rfl, _⟩ := h; rfl) fun f cdv A outer s H E hr => ⟨_, (pss_one (ps_ret (pe_and (pe_callB call_isi (by rfl) B.isinstance (by decide +kernel) (pa_cons (pv 0) (pa_cons (pty (by rfl) B.tuple (by rfl)) pa_nil))) (pe_and (pe_cmpR op_eq (pe_callB call_len_seq (by rfl) B.len (by decide +kernel) (pa_cons (pv 0) pa_nil)) (pv 1) (nomark _)) (pe_one (pe_callB (cr_all rfl) (by rfl) B.all (by decide +kernel) (pa_cons (pe_lc (own := [("number", 2)]) (g := gName 2) (tt := tYes) rfl sc_is_row.nd (pi_tup (pv 0)) (blkOk_by (N := N_is_row) (sc := defScope s_is_row) (by decide +kernel)) (fun _ _ _ _ _ => (pg_name (i := 2) sc_is_row.nd rfl (Or.inl rfl))) (fun _ _ _ _ _ => pts_nil) (fun _ _ _ _ _ => (pe_cd D1 hr (by decide) rfl (pa_cons (pv 2) pa_nil)))) pa_nil))))))), ?_⟩
  intro vs H A ds d Q R hk hF q
  obtain ⟨x, n, rfl, hl, rfl⟩ := hF
  obtain ⟨v, u, rfl, k1, k2⟩ := dqall_two hk
  refine Z.s_ret ?_ R q
  have no : ∀ {te : TE}, kitB (tyD x) "tuple" = some false → isRw x n = false → EvD K .non (tAndV (tCB (rIsi K) (tCons (tVar 0) (tCons (tC (.ty "tuple")) tNil))) te) (start N_is_row [v, u]) H (.bool (isRw x n)) := fun h1 h2 => by
    rw [h2]
    exact d_andV (K := K) (a := false) (b := false) (d_isi (d_var rfl k1) h1) fun h => nomatch h
  have k0 := k1
  cases k1 with
  | non => exact no rfl rfl
  | bl b => exact no rfl rfl
  | int i => exact no rfl rfl
  | str x => exact no rfl rfl
  | lst h hs => exact no rfl rfl
  | dic h => exact no rfl rfl
  | @tup a xs es h hs =>
    have le := hl es rfl
    have e2 := o_eqI (K := K) (p := .non) (i := es.length) (j := (n : Nat))
    have e3 : decide ((es.length : Int) = (n : Nat)) = decide (es.length = n) := by
      by_cases c : es.length = n
      · rw [decide_eq_true c]; exact decide_eq_true (by omega)
      · rw [decide_eq_false c]; exact decide_eq_false (by omega)
    rw [e3] at e2
    have e := c_all (K := K) (p := .non) (bs := es.map isI)
    have e4 : (es.map isI).all id = es.all isI := by rw [List.all_map]; rfl
    rw [e4] at e
    have g := d_lcT (K := K) (p := .non) (σ := start N_is_row [.ref a, u]) (H := H) (j := 2) (vs := [2]) (tt := tYes) (te := tCall (SpD K F_is_whole) [] E0 (tCons (tVar 2) tNil)) (tl := tVar 0) (ds := es) (fun _ => true) (fun c => .bool (isI c)) (d_var rfl k0) le (fun x => rfl) (fun c hc x H1 e k => b_yes) (fun c hc x H1 e k _ => d_call (s_cons (d_var rfl k) s_nil) ⟨c, rfl, rfl⟩)
    rw [is_bools] at g
    exact (d_andV (K := K) (a := true) (d_isi (d_var rfl k0) rfl) fun _ => d_andV (d_op (d_cb (s_cons (d_var rfl k0) s_nil) (c_lenT rfl)) (d_var rfl k2) e2) fun _ => d_cb (s_cons g s_nil) e).is rfl
/-! check_rows -/
abbrev s_check_rows : Stmt := top 9
abbrev N_check_rows : List Str := ["rows", "width", "row"]
theorem sc_check_rows : FnScope N_check_rows ["rows", "width"] (defScope s_check_rows) := ⟨rfl, rfl, rfl, by decide +kernel, rfl, by decide +kernel, by decide +kernel⟩
def F_check_rows : List PyData → PyData → Prop := fun ds d => ∃ (rs : List (List Int)) (n : Nat), n ≤ 60000 ∧ (∀ r ∈ rs, r.length = n) ∧ ds = [LR rs, .int n] ∧ d = .none
theorem at_rows {rs : List (List Int)} {i : Nat} {d : PyData} (h : (rs.map R)[i]? = some d) : ∃ r, rs[i]? = some r ∧ r ∈ rs ∧ d = R r := by
  rw [List.getElem?_map] at h
  cases e : rs[i]? with
  | none => rw [e] at h; cases h
  | some r =>
    rw [e] at h
    cases h
    exact ⟨r, rfl, List.mem_of_getElem? e, rfl⟩
theorem dn_check_rows (Hx : St K mg "check_rows" s_check_rows ["rows", "width"]) (B : Bs mg) (D1 : Dn P w K mg base CX0 2 "is_row" ["value", "width"] (SpD K F_is_row)) : Dn P w K mg base CX0 3 "check_rows" ["rows", "width"] (SpD K F_check_rows) := by
  refine dn_data 2 Hx sc_check_rows (fun ds d h => by obtain ⟨r, n, _, _, rfl, _⟩ := h; rfl) fun f cdv A outer s H E hr => ⟨_, (pss_one (ps_for PassesOwn.never rfl (pi_list (pv 0)) (pg_name (i := 2) sc_check_rows.nd rfl (Or.inl rfl)) (pss_one (ps_if (pt_not (pt_val (pe_cd D1 hr (by decide) rfl (pa_cons (pv 2) (pa_cons (pv 1) pa_nil))))) (pss_one ps_never) pss_nil)))), ?_⟩
  intro vs H A ds d Q R hk hF q
  obtain ⟨rs, n, hn, hl, rfl, rfl⟩ := hF
  obtain ⟨v, u, rfl, k1, k2⟩ := dqall_two hk
  refine s_forL (K := K) (ds := rs.map Q43.R) (d_var rfl k1) R (fun _ σ' A' H' w => (∃ y, σ' = [some v, some u, y]) ∧ w = Me.non.own ∧ Gr .non A H A' H') (fun _ _ g => ⟨⟨_, rfl⟩, rfl, g⟩) ?_ ?_
  · rintro H1 e1 i d x σ' A' H' w hi ⟨⟨y, rfl⟩, rfl, g0⟩ e r kx
    obtain ⟨ro, h1, h2, rfl⟩ := at_rows hi
    have hro := hl ro h2
    exact Z.s_if (b := false) (b_not (b := true) (b_test (d_call (s_cons (d_var rfl kx) (s_cons (d_var rfl (dq_ex (e1.trans e) _ _ k2)) s_nil)) ⟨_, n, rfl, fun es h => by cases h; rw [List.length_map]; omega, congrArg PyData.bool (isRw_R hro).symm⟩))) r (fun h => nomatch h) fun _ A2 H2 g => ⟨H2, _, ⟨⟨_, rfl⟩, rfl, g0.trans g⟩, e.trans g.reg, g.to r⟩
  · rintro σ' A' H' w ⟨⟨y, rfl⟩, rfl, g⟩ e r
    exact q _ _ _ g .non
/-! _first_place -/
def lead : List Int → Nat
  | [] => 0
  | n :: r => if n = 0 then lead r + 1 else 0
theorem lead_at : ∀ {r : List Int} {i : Nat} {n : Int}, (∀ j, j < i → r[j]? = some 0) → r[i]? = some n → n ≠ 0 → lead r = i
  | [], i, n, _, h, _ => by simp at h
  | m :: r, 0, n, _, h, hn => by
    cases h
    exact if_neg hn
  | m :: r, i + 1, n, h0, h, hn => by
    have e : m = 0 := by simpa using h0 0 (Nat.succ_pos _)
    have ih := lead_at (r := r) (i := i) (n := n) (fun j hj => by simpa using h0 (j + 1) (Nat.succ_lt_succ hj)) (by simpa using h) hn
    show (if m = 0 then lead r + 1 else 0) = i + 1
    rw [if_pos e, ih]
theorem lead_all : ∀ {r : List Int}, (∀ j, j < r.length → r[j]? = some 0) → lead r = r.length
  | [], _ => rfl
  | m :: r, h0 => by
    have e : m = 0 := by simpa using h0 0 (Nat.succ_pos _)
    have ih := lead_all (r := r) fun j hj => by simpa using h0 (j + 1) (by simpa using hj)
    show (if m = 0 then lead r + 1 else 0) = r.length + 1
    rw [if_pos e, ih]
theorem lead_zero : ∀ {r : List Int} {j : Nat}, j < lead r → r[j]? = some 0
  | [], j, h => by simp [lead] at h
  | m :: r, j, h => by
    by_cases e : m = 0
    · have h' : j < lead r + 1 := by simpa [lead, e] using h
      cases j with
      | zero => simp [e]
      | succ j => simpa using lead_zero (r := r) (Nat.lt_of_succ_lt_succ h')
    · simp [lead, e] at h
theorem lead_le : ∀ r : List Int, lead r ≤ r.length
  | [] => Nat.le_refl _
  | m :: r => by
    have := lead_le r
    by_cases e : m = 0 <;> simp [lead, e]
    exact this
theorem at_ints {r : List Int} {i : Nat} {d : PyData} (h : (r.map PyData.int)[i]? = some d) : ∃ n, r[i]? = some n ∧ d = .int n := by
  rw [List.getElem?_map] at h
  cases e : r[i]? with
  | none => rw [e] at h; cases h
  | some n =>
    rw [e] at h
    cases h
    exact ⟨n, rfl, rfl⟩
abbrev s__first_place : Stmt := top 14
abbrev N__first_place : List Str := ["row", "place", "number"]
theorem sc__first_place : FnScope N__first_place ["row"] (defScope s__first_place) := ⟨rfl, rfl, rfl, by decide +kernel, rfl, by decide +kernel, by decide +kernel⟩
def F__first_place : List PyData → PyData → Prop := fun ds d => ∃ r : List Int, ds = [R r] ∧ d = .int (lead r : Nat)
theorem dn__first_place (Hx : St K mg "_first_place" s__first_place ["row"]) (B : Bs mg) : Dn P w K mg base CX0 1 "_first_place" ["row"] (SpD K F__first_place) := by
  refine dn_data 0 Hx sc__first_place (fun ds d h => by obtain ⟨r, rfl, _⟩ := h; rfl) fun f cdv A outer s H E hr => ⟨_, (pss_cons (ps_for PassesOwn.never rfl (pi_enumT (by rfl) B.enumerate (pa_cons (pv 0) pa_nil)) (pg_tup rfl (pgs_cons (pg_name (i := 1) sc__first_place.nd rfl (Or.inl rfl)) (pgs_cons (pg_name (i := 2) sc__first_place.nd rfl (Or.inl rfl)) pgs_nil))) (pss_one (ps_if (pt_cmpR op_ne (pv 2) pe_int (nomark _)) (pss_one (ps_ret (pv 1))) pss_nil)))
    (pss_one (ps_ret (pe_callB call_len_seq (by rfl) B.len (by decide +kernel) (pa_cons (pv 0) pa_nil))))), ?_⟩
  intro vs H A ds d Q R hk hF q
  obtain ⟨r, rfl, rfl⟩ := hF
  obtain ⟨v, rfl, k1⟩ := dqall_one hk
  refine s_forE (K := K) (ds := r.map .int) (s_cons (d_var rfl k1) s_nil) R (fun i σ' A' H' w => (∃ y z, σ' = [some v, y, z]) ∧ w = Me.non.own ∧ Gr .non A H A' H' ∧ ∀ j, j < i → r[j]? = some 0) (fun _ _ g => ⟨⟨_, _, rfl⟩, rfl, g, fun j h => absurd h (Nat.not_lt_zero _)⟩) ?_ ?_
  · rintro H1 e1 i d x σ' A' A2 H' w hi ⟨⟨y, z, rfl⟩, rfl, g0, h0⟩ e g ra kx
    obtain ⟨n, h1, rfl⟩ := at_ints hi
    have ht : EvB .non (tTest (tOp rNe (tVar 2) (tC (.int 0)))) [some v, some (.int (i : Int)), some x] H' (!decide (n = 0)) := b_test (d_op (K := K) (d_var rfl kx) d_int o_neI)
    refine Z.s_if ht ra (fun hb A3 H3 g3 => ?_) fun hb A3 H3 g3 => ⟨H3, _, ⟨⟨_, _, rfl⟩, rfl, (g0.trans g).trans g3, fun j hj => ?_⟩, e.trans g3.reg, g3.to ra⟩
    · have hn : n ≠ 0 := by simpa using hb
      refine Z.s_ret (d_var (K := K) rfl (.int _)) (g3.to ra) fun v4 A4 H4 g4 k4 => q _ _ _ (((g0.trans g).trans g3).trans g4) ?_
      rw [lead_at h0 h1 hn]
      exact k4
    · have hn : n = 0 := by simpa using hb
      subst hn
      rcases Nat.lt_or_eq_of_le (Nat.le_of_lt_succ hj) with c | c
      · exact h0 j c
      · subst c; exact h1
  · rintro σ' A' H' w ⟨⟨y, z, rfl⟩, rfl, g, h0⟩ e ra
    refine Z.s_ret (d_cb (K := K) (s_cons (d_var rfl (dq_ex e _ _ k1)) s_nil) (c_lenT rfl)) ra fun v4 A4 H4 g4 k4 => q _ _ _ (g.trans g4) ?_
    rw [List.length_map] at h0
    rw [lead_all h0]
    rw [List.length_map] at k4
    exact k4
end
end Q43
namespace Q43
open PySem PySem.Spec PyProof.Rows L2 Z
/-! ### the common factor -/
def content (r : List Int) : Nat := r.foldl (fun g n => Nat.gcd g n.natAbs) 0
def thin (r : List Int) : List Int := if (content r : Int) < 2 then r else r.map fun n => n / (content r : Int)
theorem take_more {α : Type} : ∀ {l : List α} {i : Nat} {x : α}, l[i]? = some x → l.take (i + 1) = l.take i ++ [x]
  | [], i, x, h => by simp at h
  | a :: l, 0, x, h => by cases h; rfl
  | a :: l, i + 1, x, h => by
    have ih := take_more (l := l) (i := i) (x := x) (by simpa using h)
    rw [List.take_succ_cons, ih, List.take_succ_cons]
    rfl
theorem content_more {r : List Int} {i : Nat} {n : Int} (h : r[i]? = some n) : content (r.take (i + 1)) = Nat.gcd (content (r.take i)) n.natAbs := by
  unfold content
  rw [take_more h, List.foldl_append]
  rfl
theorem content_go : ∀ (r : List Int) (g : Nat), (r.foldl (fun g n => Nat.gcd g n.natAbs) g ∣ g) ∧ ∀ n ∈ r, r.foldl (fun g n => Nat.gcd g n.natAbs) g ∣ n.natAbs
  | [], g => ⟨Nat.dvd_refl _, fun n h => by cases h⟩
  | m :: r, g => by
    obtain ⟨h1, h2⟩ := content_go r (Nat.gcd g m.natAbs)
    refine ⟨Nat.dvd_trans h1 (Nat.gcd_dvd_left _ _), fun n hn => ?_⟩
    rcases List.mem_cons.mp hn with e | hn
    · rw [e]; exact Nat.dvd_trans h1 (Nat.gcd_dvd_right _ _)
    · exact h2 n hn
theorem content_dvd {r : List Int} {n : Int} (h : n ∈ r) : content r ∣ n.natAbs := (content_go r 0).2 n h
theorem content_dvdI {r : List Int} {n : Int} (h : n ∈ r) : (content r : Int) ∣ n := Int.natAbs_dvd_natAbs.mp (by rw [Int.natAbs_natCast]; exact content_dvd h)
theorem content_zero : ∀ {r : List Int}, (∀ n ∈ r, n = 0) → content r = 0
  | [], _ => rfl
  | m :: r, h => by
    have e : m = 0 := h m (List.mem_cons_self ..)
    have ih := content_zero (r := r) fun n hn => h n (List.mem_cons_of_mem _ hn)
    unfold content at ih ⊢
    rw [List.foldl_cons, e]
    exact ih
/-- all numbers have at most b bits -/
def Sm (b : Nat) (r : List Int) : Prop := ∀ n ∈ r, n.natAbs < 2 ^ b
theorem Sm.mono {a b : Nat} {r : List Int} (h : Sm a r) (l : a ≤ b) : Sm b r := fun n hn => Nat.lt_of_lt_of_le (h n hn) (Nat.pow_le_pow_right (by decide) l)
theorem content_lt {b : Nat} {r : List Int} (h : Sm b r) : content r < 2 ^ b := by
  by_cases c : ∀ n ∈ r, n = 0
  · rw [content_zero c]; exact Nat.two_pow_pos b
  · obtain ⟨n, hn, h0⟩ : ∃ n, n ∈ r ∧ n ≠ 0 := Classical.byContradiction fun z => c fun n hn => Classical.byContradiction fun z2 => z ⟨n, hn, z2⟩
    exact Nat.lt_of_le_of_lt (Nat.le_of_dvd (Int.natAbs_pos.mpr h0) (content_dvd hn)) (h n hn)
theorem div_le (n : Int) (g : Nat) : (n / (g : Int)).natAbs ≤ n.natAbs := Int.natAbs_ediv_le_natAbs n g
theorem sm_thin {b : Nat} {r : List Int} (h : Sm b r) : Sm b (thin r) := by
  unfold thin
  split
  · exact h
  · intro n hn
    obtain ⟨m, hm, rfl⟩ := List.mem_map.mp hn
    exact Nat.lt_of_le_of_lt (div_le _ _) (h m hm)
theorem thin_len (r : List Int) : (thin r).length = r.length := by
  unfold thin
  split
  · rfl
  · rw [List.length_map]
def onI (f : Int → PyData) : PyData → PyData
  | .int n => f n
  | d => d
theorem map_onI (f : Int → PyData) : ∀ r : List Int, (List.filter (fun _ => true) (r.map PyData.int)).map (onI f) = r.map f
  | [] => rfl
  | _ :: r => by
    have ih := map_onI f r
    rw [List.map_cons, List.filter_cons, if_pos rfl, List.map_cons, ih]
    rfl
section
variable {P : Program} {w : World} {K : PySem.W.Frag} {mg : Str → Option Value} {base : Heap}
abbrev s_without_factor : Stmt := top 16
abbrev N_without_factor : List Str := ["numbers", "common", "number"]
theorem sc_without_factor : FnScope N_without_factor ["numbers"] (defScope s_without_factor) := ⟨rfl, rfl, rfl, by decide +kernel, rfl, by decide +kernel, by decide +kernel⟩
def F_without_factor : List PyData → PyData → Prop := fun ds d => ∃ (x : PyData) (r : List Int), ds = [x] ∧ IsSeq x (r.map .int) ∧ r.length ≤ 60000 ∧ Sm 9000 r ∧ d = R (thin r)
theorem dn_without_factor (Hx : St K mg "without_factor" s_without_factor ["numbers"]) (B : Bs mg) (m_gcd : mg "gcd" = some (.builtin "math.gcd")) : Dn P w K mg base CX0 1 "without_factor" ["numbers"] (SpD K F_without_factor) := by
  refine dn_data 0 Hx sc_without_factor (fun ds d h => by obtain ⟨x, r, rfl, _⟩ := h; rfl) fun f cdv A outer s H E hr => ⟨_, (pss_cons (ps_set (i := 1) sc_without_factor.nd rfl (Or.inr rfl) pe_int)
    (pss_cons (ps_for PassesOwn.never rfl (pi_seq (pv 0)) (pg_name (i := 2) sc_without_factor.nd rfl (Or.inl rfl)) (pss_one (ps_set (i := 1) sc_without_factor.nd rfl (Or.inr rfl) (pe_callBfun cr_gcd rfl m_gcd (pa_cons (pv 1) (pa_cons (pv 2) pa_nil))))))
    (pss_cons (ps_if (pt_cmpR op_lt (pv 1) pe_int (nomark _)) (pss_one (ps_ret (pe_callTy call_tuple_of (by rfl) B.tuple (by decide +kernel) (pa_cons (pv 0) pa_nil)))) pss_nil)
    (pss_one (ps_ret (pe_callTy call_tuple_of (by rfl) B.tuple (by decide +kernel) (pa_cons (pe_lc (own := [("number", 2)]) (g := gName 2) (tt := tYes) rfl sc_without_factor.nd (pi_seq (pv 0)) (blkOk_by (N := N_without_factor) (sc := defScope s_without_factor) (by decide +kernel)) (fun _ _ _ _ _ => (pg_name (i := 2) sc_without_factor.nd rfl (Or.inl rfl))) (fun _ _ _ _ _ => pts_nil) (fun _ _ _ _ _ => (pe_op op_fdivW (pv 2) (pv 1)))) pa_nil))))))), ?_⟩
  intro vs H A ds d Q R hk hF q
  obtain ⟨x, r, rfl, hx, hlr, hs, rfl⟩ := hF
  obtain ⟨v, rfl, k1⟩ := dqall_one hk
  refine q_asg (P := fun v H' => Dq K H' v (.int 0)) (d_int (K := K)) R fun u A1 H1 g1 ku => ?_
  cases ku
  have kx1 := dq_ex g1.reg _ _ k1
  refine s_forQ (K := K) (ds := r.map .int) (d_var rfl kx1) hx (g1.to R) (fun i σ' A' H' w => (∃ y, σ' = [some v, some (.int (content (r.take i) : Nat)), y]) ∧ w = Me.non.own ∧ Gr .non A H A' H') (fun _ _ g => ⟨⟨_, rfl⟩, rfl, g1.trans g⟩) ?_ ?_
  · rintro H2 e1 i d x' σ' A' H' w hi ⟨⟨y, rfl⟩, rfl, g0⟩ e ra kx
    obtain ⟨n, h1, rfl⟩ := at_ints hi
    refine Z.s_asg (d_cb (K := K) (s_cons (d_var rfl (.int _)) (s_cons (d_var rfl kx) s_nil)) c_gcd) ra fun v4 A4 H4 g4 k4 => ⟨H4, _, ⟨⟨some x', ?_⟩, rfl, g0.trans g4⟩, e.trans g4.reg, g4.to ra⟩
    cases k4
    rw [content_more h1]
    rfl
  · rintro σ' A' H' w ⟨⟨y, rfl⟩, rfl, g⟩ e ra
    rw [List.length_map, List.take_length]
    have kx' := dq_ex e _ _ kx1
    have ht : EvB .non (tTest (tOp (rI0 fun i j => .bl (decide (i < j))) (tVar 1) (tC (.int 2)))) [some v, some (.int (content r : Nat)), y] H' (decide ((content r : Int) < 2)) := b_test (d_op (K := K) (d_var rfl (.int _)) d_int (o_B0 (f := fun i j => decide (i < j))))
    refine q_when ht ra (fun hb A3 H3 g3 => ?_) fun hb A3 H3 g3 => ?_
    · have hc : (content r : Int) < 2 := by simpa using hb
      refine Z.s_ret (d_cb (K := K) (s_cons (d_var rfl (dq_ex g3.reg _ _ kx')) s_nil) (c_tupleQ rfl hx)) (g3.to ra) fun v4 A4 H4 g4 k4 => q _ _ _ ((g.trans g3).trans g4) ?_
      unfold thin
      rw [if_pos hc]
      exact k4
    · have hc : ¬ (content r : Int) < 2 := by simpa using hb
      have hq := d_lcQ (K := K) (p := .non) (σ := [some v, some (.int (content r : Nat)), y]) (H := H3) (j := 2) (vs := [2]) (tl := tVar 0) (tt := tYes) (te := tOp (rI CDivW fun i j => .int (i / j)) (tVar 2) (tVar 1)) (ds := r.map .int) (fun _ => true) (onI fun n => .int (n / (content r : Int))) (d_var rfl (dq_ex g3.reg _ _ kx')) hx (by simpa using hlr) (fun x => rfl) (fun c hc x H1 e k => b_yes) (fun c hc' x H1 e k _ => by
        obtain ⟨n, hn, rfl⟩ := mem_ints hc'
        exact d_op (d_var rfl k) (d_var rfl (.int _)) (o_I (f := fun i j => i / j) (wide_div (b := 9000) (by omega) (by rw [Int.natAbs_natCast]; exact content_lt hs) (by decide) (by decide))))
      rw [map_onI] at hq
      refine Z.s_ret (d_cb (K := K) (s_cons hq s_nil) (c_tupleQ rfl (.inl rfl))) (g3.to ra) fun v4 A4 H4 g4 k4 => q _ _ _ ((g.trans g3).trans g4) ?_
      unfold thin
      rw [if_neg hc]
      show Dq K H4 v4 (.tuple ((r.map fun n => n / (content r : Int)).map .int))
      rw [List.map_map]
      exact k4
end
end Q43
namespace Q43
open PySem PySem.Spec PyProof.Rows L2 Z
theorem ixN_nat {n p : Nat} (h : p < n) : ixN n (p : Int) = some p := by
  unfold ixN
  simp [h]
theorem atI_nat {α : Type} {xs : List α} {p : Nat} {x : α} (h : xs[p]? = some x) : atI xs (p : Int) = some x := by
  have hp : p < xs.length := (List.getElem?_eq_some_iff.mp h).1
  unfold atI
  rw [ixN_nat hp]
  exact h
theorem getD_at {r : List Int} {p : Nat} (h : p < r.length) : r[p]? = some (r.getD p 0) := by
  simp [h]
theorem atI_ints {r : List Int} {p : Nat} (h : p < r.length) : atI (r.map PyData.int) (p : Int) = some (.int (r.getD p 0)) := atI_nat (by rw [List.getElem?_map, getD_at h]; rfl)
theorem sm_getD {b : Nat} {r : List Int} (h : Sm b r) (p : Nat) : (r.getD p 0).natAbs < 2 ^ b := by
  by_cases c : p < r.length
  · exact h _ (List.mem_of_getElem? (getD_at c))
  · simp [c]
    exact Nat.two_pow_pos b
theorem dqall_three {K : PySem.W.Frag} {H : Hp} {vs : List V} {a b c : PyData} (h : DqAll K H vs [a, b, c]) : ∃ x y z, vs = [x, y, z] ∧ Dq K H x a ∧ Dq K H y b ∧ Dq K H z c := by
  cases h with | cons h1 h =>
  obtain ⟨y, z, rfl, h2, h3⟩ := dqall_two h
  exact ⟨_, y, z, rfl, h1, h2, h3⟩
theorem dqall_four {K : PySem.W.Frag} {H : Hp} {vs : List V} {a b c d : PyData} (h : DqAll K H vs [a, b, c, d]) : ∃ x y z u, vs = [x, y, z, u] ∧ Dq K H x a ∧ Dq K H y b ∧ Dq K H z c ∧ Dq K H u d := by
  cases h with | cons h1 h =>
  obtain ⟨y, z, u, rfl, h2, h3, h4⟩ := dqall_three h
  exact ⟨_, y, z, u, rfl, h1, h2, h3, h4⟩
/-! _leading_above_zero -/
def above (r : List Int) (p : Nat) : List Int := if r.getD p 0 > 0 then r else r.map fun n => -n
theorem above_len (r : List Int) (p : Nat) : (above r p).length = r.length := by
  unfold above
  split
  · rfl
  · rw [List.length_map]
theorem sm_above {b : Nat} {r : List Int} {p : Nat} (h : Sm b r) : Sm b (above r p) := by
  unfold above
  split
  · exact h
  · intro n hn
    obtain ⟨m, hm, rfl⟩ := List.mem_map.mp hn
    rw [Int.natAbs_neg]
    exact h m hm
section
variable {P : Program} {w : World} {K : PySem.W.Frag} {mg : Str → Option Value} {base : Heap}
abbrev s__leading_above_zero : Stmt := top 17
abbrev N__leading_above_zero : List Str := ["row", "place", "number"]
theorem sc__leading_above_zero : FnScope N__leading_above_zero ["row", "place"] (defScope s__leading_above_zero) := ⟨rfl, rfl, rfl, by decide +kernel, rfl, by decide +kernel, by decide +kernel⟩
def F__leading_above_zero : List PyData → PyData → Prop := fun ds d => ∃ (r : List Int) (p : Nat), ds = [R r, .int (p : Nat)] ∧ p < r.length ∧ r.length ≤ 60000 ∧ d = R (above r p)
theorem dn__leading_above_zero (Hx : St K mg "_leading_above_zero" s__leading_above_zero ["row", "place"]) (B : Bs mg) : Dn P w K mg base CX0 1 "_leading_above_zero" ["row", "place"] (SpD K F__leading_above_zero) := by
  refine dn_data 0 Hx sc__leading_above_zero (fun ds d h => by obtain ⟨x, r, rfl, _⟩ := h; rfl) fun f cdv A outer s H E hr => ⟨_, (pss_cons (ps_if (pt_cmpR op_gt (pe_ix ix_seq (pv 0) (pv 1) (fun _ _ => rfl)) pe_int (nomark _)) (pss_one (ps_ret (pv 0))) pss_nil)
    (pss_one (ps_ret (pe_callTy call_tuple_of (by rfl) B.tuple (by decide +kernel) (pa_cons (pe_lc (own := [("number", 2)]) (g := gName 2) (tt := tYes) rfl sc__leading_above_zero.nd (pi_tup (pv 0)) (blkOk_by (N := N__leading_above_zero) (sc := defScope s__leading_above_zero) (by decide +kernel)) (fun _ _ _ _ _ => (pg_name (i := 2) sc__leading_above_zero.nd rfl (Or.inl rfl))) (fun _ _ _ _ _ => pts_nil) (fun _ _ _ _ _ => (pe_un un_neg (pv 2)))) pa_nil))))), ?_⟩
  intro vs H A ds d Q R hk hF q
  obtain ⟨r, p, rfl, hp, hlr, rfl⟩ := hF
  obtain ⟨v, u, rfl, k1, k2⟩ := dqall_two hk
  refine q_when (b_test (d_op (K := K) (d_op (d_var rfl k1) (d_var rfl k2) (o_ixT (atI_ints hp))) d_int (o_B0 (f := fun i j => decide (j < i))))) R (fun hb A3 H3 g3 => ?_) fun hb A3 H3 g3 => ?_
  · have hc : r.getD p 0 > 0 := by simpa using hb
    refine Z.s_ret (d_var (K := K) rfl (dq_ex g3.reg _ _ k1)) (g3.to R) fun v4 A4 H4 g4 k4 => q _ _ _ (g3.trans g4) ?_
    unfold above
    rw [if_pos hc]
    exact k4
  · have hc : ¬ r.getD p 0 > 0 := by simpa using hb
    have hq := d_lcT (K := K) (p := .non) (σ := start N__leading_above_zero [v, u]) (H := H3) (j := 2) (vs := [2]) (tl := tVar 0) (tt := tYes) (te := tUn (rU fun i => .int (-i)) (tVar 2)) (ds := r.map .int) (fun _ => true) (onI fun n => .int (-n)) (d_var rfl (dq_ex g3.reg _ _ k1)) (by simpa using hlr) (fun x => rfl) (fun c hc x H1 e k => b_yes) (fun c hc' x H1 e k _ => by
      obtain ⟨n, hn, rfl⟩ := mem_ints hc'
      exact d_un (d_var rfl k) u_neg)
    rw [map_onI] at hq
    refine Z.s_ret (d_cb (K := K) (s_cons hq s_nil) (c_tupleQ rfl (.inl rfl))) (g3.to R) fun v4 A4 H4 g4 k4 => q _ _ _ (g3.trans g4) ?_
    unfold above
    rw [if_neg hc]
    show Dq K H4 v4 (.tuple ((r.map fun n => -n).map .int))
    rw [List.map_map]
    exact k4
/-! _cleared -/
def comb (r o : List Int) (f c : Int) : List Int := (List.range r.length).map fun i => r.getD i 0 * f - c * o.getD i 0
def clear (r o : List Int) (p : Nat) : List Int := if r.getD p 0 = 0 then r else thin (comb r o (o.getD p 0) (r.getD p 0))
theorem comb_len (r o : List Int) (f c : Int) : (comb r o f c).length = r.length := by
  unfold comb
  rw [List.length_map, List.length_range]
theorem clear_len (r o : List Int) (p : Nat) : (clear r o p).length = r.length := by
  unfold clear
  split
  · rfl
  · rw [thin_len, comb_len]
theorem sm_comb {a b : Nat} {r o : List Int} {p : Nat} (ha : Sm a r) (hb : Sm b o) : Sm (a + b + 1) (comb r o (o.getD p 0) (r.getD p 0)) := by
  intro n hn
  obtain ⟨i, _, rfl⟩ := List.mem_map.mp hn
  have h1 := Nat.mul_lt_mul'' (sm_getD ha i) (sm_getD hb p)
  have h2 := Nat.mul_lt_mul'' (sm_getD ha p) (sm_getD hb i)
  have e : (2 : Nat) ^ (a + b + 1) = 2 ^ a * 2 ^ b + 2 ^ a * 2 ^ b := by rw [Nat.pow_succ, Nat.pow_add]; omega
  have h3 := Int.natAbs_sub_le (r.getD i 0 * o.getD p 0) (r.getD p 0 * o.getD i 0)
  rw [Int.natAbs_mul, Int.natAbs_mul] at h3
  rw [e]
  omega
theorem sm_clear {a b : Nat} {r o : List Int} {p : Nat} (ha : Sm a r) (hb : Sm b o) : Sm (a + b + 1) (clear r o p) := by
  unfold clear
  split
  · exact ha.mono (by omega)
  · exact sm_thin (sm_comb ha hb)
abbrev s__cleared : Stmt := top 15
abbrev N__cleared : List Str := ["row", "one", "place", "factor", "number", "other"]
theorem sc__cleared : FnScope N__cleared ["row", "one", "place"] (defScope s__cleared) := ⟨rfl, rfl, rfl, by decide +kernel, rfl, by decide +kernel, by decide +kernel⟩
def F__cleared : List PyData → PyData → Prop := fun ds d => ∃ (r o : List Int) (p a b : Nat), ds = [R r, R o, .int (p : Nat)] ∧ o.length = r.length ∧ p < r.length ∧ r.length ≤ 60000 ∧ Sm a r ∧ Sm b o ∧ a + b + 1 ≤ 9000 ∧ d = R (clear r o p)
theorem wide_mulS {i j : Int} {a b : Nat} (ha : i.natAbs < 2 ^ a) (hb : j.natAbs < 2 ^ b) (h : a + b + 1 ≤ 9000) : CMulW i j :=
  wide_mul (a := a + 1) (b := b + 1) (Nat.lt_of_lt_of_le ha (Nat.pow_le_pow_right (by decide) (by omega))) (Nat.lt_of_lt_of_le hb (Nat.pow_le_pow_right (by decide) (by omega))) (by omega) (by omega) (by omega)
theorem dn__cleared (Hx : St K mg "_cleared" s__cleared ["row", "one", "place"]) (B : Bs mg) (D1 : Dn P w K mg base CX0 1 "without_factor" ["numbers"] (SpD K F_without_factor)) : Dn P w K mg base CX0 2 "_cleared" ["row", "one", "place"] (SpD K F__cleared) := by
  refine dn_data 1 Hx sc__cleared (fun ds d h => by obtain ⟨x, r, _, _, _, rfl, _⟩ := h; rfl) fun f cdv A outer s H E hr => ⟨_, (pss_cons (ps_if (pt_cmpR op_eq (pe_ix ix_seq (pv 0) (pv 2) (fun _ _ => rfl)) pe_int (nomark _)) (pss_one (ps_ret (pv 0))) pss_nil)
    (pss_cons (ps_set (i := 3) sc__cleared.nd rfl (Or.inr rfl) (pe_ix ix_seq (pv 1) (pv 2) (fun _ _ => rfl)))
    (pss_one (ps_ret (pe_cd D1 hr (by decide) rfl (pa_cons (pe_lc (own := [("number", 4), ("other", 5)]) (g := gTup K 2 (gCons (gName 4) (gCons (gName 5) gNil))) (tt := tYes) rfl sc__cleared.nd (RZ.pi_zipA (by rfl) B.zip (pa_cons (pv 0) (pa_cons (pv 1) pa_nil))) (blkOk_by (N := N__cleared) (sc := defScope s__cleared) (by decide +kernel)) (fun _ _ _ _ _ => (pg_tup rfl (pgs_cons (pg_name (i := 4) sc__cleared.nd rfl (Or.inl rfl)) (pgs_cons (pg_name (i := 5) sc__cleared.nd rfl (Or.inl rfl)) pgs_nil)))) (fun _ _ _ _ _ => pts_nil) (fun _ _ _ _ _ => (pe_op op_sub (pe_op op_mulW (pv 4) (pv 3)) (pe_op op_mulW (pe_ix (ix_K (K := K) rfl) (pv 0) (pv 2) (fun _ _ => rfl)) (pv 5))))) pa_nil)))))), ?_⟩
  intro vs H A ds d Q R hk hF q
  obtain ⟨r, o, p, a, b, rfl, hro, hp, hlr, ha, hb, hab, rfl⟩ := hF
  obtain ⟨v, v2, v3, rfl, k1, k2, k3⟩ := dqall_three hk
  refine q_when (b_test (d_op (K := K) (d_op (d_var rfl k1) (d_var rfl k3) (o_ixT (atI_ints hp))) d_int o_eqI)) R (fun hb A3 H3 g3 => ?_) fun hb' A3 H3 g3 => ?_
  · have hc : r.getD p 0 = 0 := by simpa using hb
    refine Z.s_ret (d_var (K := K) rfl (dq_ex g3.reg _ _ k1)) (g3.to R) fun v4 A4 H4 g4 k4 => q _ _ _ (g3.trans g4) ?_
    unfold clear
    rw [if_pos hc]
    exact k4
  · have hc : ¬ r.getD p 0 = 0 := by simpa using hb'
    have e3 := g3.reg
    refine q_asg (d_op (K := K) (d_var rfl (dq_ex e3 _ _ k2)) (d_var rfl (dq_ex e3 _ _ k3)) (o_ixT (atI_ints (by omega)))) (g3.to R) fun v4 A4 H4 g4 k4 => ?_
    cases k4
    have e4 := e3.trans g4.reg
    have k1' := dq_ex e4 _ _ k1
    have k2' := dq_ex e4 _ _ k2
    have hq := d_lcZ (K := K) (p := .non) (σ := [some v, some v2, some v3, some (.int (o.getD p 0)), none, none]) (H := H4) (a := 4) (b := 5) (vs := [4, 5]) (ta := tCons (tVar 0) (tCons (tVar 1) tNil)) (n := r.length) (ds := r.map .int) (es := o.map .int)
      (te := tOp (rI0 fun i j => .int (i - j)) (tOp (rI CMulW fun i j => .int (i * j)) (tVar 4) (tVar 3)) (tOp (rI CMulW fun i j => .int (i * j)) (tOp (rIx K) (tVar 0) (tVar 2)) (tVar 5)))
      (fun i => .int (r.getD i 0 * o.getD p 0 - r.getD p 0 * o.getD i 0)) (s_cons (d_var rfl k1') (s_cons (d_var rfl k2') s_nil)) (by simp [hro]) hlr (fun x y => rfl) (fun i c e' hc he x y H1 e kx ky => by
        obtain ⟨n, hn, rfl⟩ := at_ints hc
        obtain ⟨m, hm, rfl⟩ := at_ints he
        have en : r.getD i 0 = n := by simp [List.getD, hn]
        have em : o.getD i 0 = m := by simp [List.getD, hm]
        rw [en, em]
        exact d_op (d_op (d_var rfl kx) (d_var rfl (.int _)) (o_I (f := fun i j => i * j) (wide_mulS (ha n (List.mem_of_getElem? hn)) (sm_getD hb p) hab)))
          (d_op (d_op (d_var rfl (dq_ex e _ _ k1')) (d_var rfl (dq_ex (e4.trans e) _ _ k3)) (o_ixT (atI_ints hp))) (d_var rfl ky) (o_I (f := fun i j => i * j) (wide_mulS (sm_getD ha p) (hb m (List.mem_of_getElem? hm)) hab))) (o_I0 (f := fun i j => i - j)))
    refine Z.s_ret (d_call (K := K) (s_cons hq s_nil) ⟨_, comb r o (o.getD p 0) (r.getD p 0), rfl, .inl ?_, ?_, (sm_comb ha hb).mono hab, rfl⟩) (g4.to (g3.to R)) fun v5 A5 H5 g5 k5 => q _ _ _ ((g3.trans g4).trans g5) ?_
    · unfold comb
      rw [List.map_map]
      rfl
    · rw [comb_len]; exact hlr
    · unfold clear
      rw [if_neg hc]
      exact k5
end
end Q43
namespace Q43
open PySem PySem.Spec PyProof.Rows L2 Z
/-! product -/
def dot (r o : List Int) : Int := ((List.range r.length).map fun i => r.getD i 0 * o.getD i 0).sum
def rest (r : List Int) (fs : List (List Int)) : List Int := fs.foldl (fun r o => clear r o (lead o)) r
theorem rest_len : ∀ (fs : List (List Int)) (r : List Int), (rest r fs).length = r.length
  | [], r => rfl
  | o :: fs, r => by
    show (rest (clear r o (lead o)) fs).length = _
    rw [rest_len fs, clear_len]
theorem rest_more {r : List Int} {fs : List (List Int)} {i : Nat} {o : List Int} (h : fs[i]? = some o) : rest r (fs.take (i + 1)) = clear (rest r (fs.take i)) o (lead o) := by
  unfold rest
  rw [take_more h, List.foldl_append]
  rfl
theorem sm_rest {b : Nat} : ∀ (fs : List (List Int)) (r : List Int) (a : Nat), Sm a r → (∀ o ∈ fs, Sm b o) → Sm (a + fs.length * (b + 1)) (rest r fs)
  | [], r, a, h, _ => h.mono (by omega)
  | o :: fs, r, a, h, hf => by
    have ih := sm_rest fs (clear r o (lead o)) (a + b + 1) (sm_clear h (hf o (List.mem_cons_self ..))) fun x hx => hf x (List.mem_cons_of_mem _ hx)
    have e : a + (o :: fs).length * (b + 1) = a + b + 1 + fs.length * (b + 1) := by
      rw [List.length_cons, Nat.succ_mul]; omega
    rw [e]
    exact ih
section
variable {P : Program} {w : World} {K : PySem.W.Frag} {mg : Str → Option Value} {base : Heap}
/-! remainder -/
abbrev s_remainder : Stmt := top 12
abbrev N_remainder : List Str := ["row", "found", "rest", "one"]
theorem sc_remainder : FnScope N_remainder ["row", "found"] (defScope s_remainder) := ⟨rfl, rfl, rfl, by decide +kernel, rfl, by decide +kernel, by decide +kernel⟩
/-- found rows: as long as the row, not zero, at most b bits -/
def Fd (n b : Nat) (fs : List (List Int)) : Prop := ∀ o ∈ fs, o.length = n ∧ lead o < n ∧ Sm b o
def F_remainder : List PyData → PyData → Prop := fun ds d => ∃ (r : List Int) (fs : List (List Int)) (a b : Nat), ds = [R r, LR fs] ∧ r.length ≤ 60000 ∧ Sm a r ∧ Fd r.length b fs ∧ a + fs.length * (b + 1) ≤ 9000 ∧ d = R (rest r fs)
theorem dn_remainder (Hx : St K mg "remainder" s_remainder ["row", "found"]) (B : Bs mg) (D1 : Dn P w K mg base CX0 1 "_first_place" ["row"] (SpD K F__first_place)) (D2 : Dn P w K mg base CX0 2 "_cleared" ["row", "one", "place"] (SpD K F__cleared)) : Dn P w K mg base CX0 3 "remainder" ["row", "found"] (SpD K F_remainder) := by
  refine dn_data 2 Hx sc_remainder (fun ds d h => by obtain ⟨x, r, _, _, rfl, _⟩ := h; rfl) fun f cdv A outer s H E hr => ⟨_, (pss_cons (ps_set (i := 2) sc_remainder.nd rfl (Or.inl rfl) (pv 0))
    (pss_cons (ps_for PassesOwn.never rfl (pi_list (pv 1)) (pg_name (i := 3) sc_remainder.nd rfl (Or.inl rfl)) (pss_one (ps_set (i := 2) sc_remainder.nd rfl (Or.inl rfl) (pe_cd D2 hr (by decide) rfl (pa_cons (pv 2) (pa_cons (pv 3) (pa_cons (pe_cd D1 hr (by decide) rfl (pa_cons (pv 3) pa_nil)) pa_nil)))))))
    (pss_one (ps_ret (pv 2))))), ?_⟩
  intro vs H A ds d Q R hk hF q
  obtain ⟨r, fs, a, b, rfl, hlr, ha, hf, hab, rfl⟩ := hF
  obtain ⟨v, v2, rfl, k1, k2⟩ := dqall_two hk
  refine q_asg (d_var (K := K) rfl k1) R fun u A1 H1 g1 ku => ?_
  have kf := dq_ex g1.reg _ _ k2
  refine s_forL (K := K) (ds := fs.map Q43.R) (d_var rfl kf) (g1.to R) (fun i σ' A' H' w => (∃ z y, σ' = [some v, some v2, some z, y] ∧ Dq K H' z (Q43.R (rest r (fs.take i)))) ∧ w = Me.non.own ∧ Gr .non A H A' H') (fun _ _ g => ⟨⟨_, _, rfl, dq_ex g.reg _ _ ku⟩, rfl, g1.trans g⟩) ?_ ?_
  · rintro H2 e1 i d x σ' A' H' w hi ⟨⟨z, y, rfl, kz⟩, rfl, g0⟩ e ra kx
    obtain ⟨o, h1, h2, rfl⟩ := at_rows hi
    obtain ⟨f1, f2, f3⟩ := hf o h2
    have hi' : i < fs.length := (List.getElem?_eq_some_iff.mp h1).1
    have sr := sm_rest (b := b) (fs.take i) r a ha fun x hx => (hf x (List.mem_of_mem_take hx)).2.2
    rw [List.length_take, Nat.min_eq_left (Nat.le_of_lt hi')] at sr
    have hm : a + i * (b + 1) + b + 1 ≤ 9000 := by
      have := Nat.mul_le_mul_right (b + 1) (Nat.succ_le_of_lt hi')
      rw [Nat.succ_mul] at this
      omega
    refine Z.s_asg (d_call (K := K) (s_cons (d_var rfl kz) (s_cons (d_var rfl kx) (s_cons (d_call (s_cons (d_var rfl kx) s_nil) ⟨o, rfl, rfl⟩) s_nil))) ⟨rest r (fs.take i), o, lead o, a + i * (b + 1), b, rfl, ?_, ?_, ?_, sr, f3, hm, rfl⟩) ra fun v4 A4 H4 g4 k4 => ⟨H4, _, ⟨⟨v4, some x, rfl, ?_⟩, rfl, g0.trans g4⟩, e.trans g4.reg, g4.to ra⟩
    · rw [rest_len]; exact f1
    · rw [rest_len]; exact f2
    · rw [rest_len]; exact hlr
    · rw [rest_more h1]; exact k4
  · rintro σ' A' H' w ⟨⟨z, y, rfl, kz⟩, rfl, g⟩ e ra
    rw [List.length_map, List.take_length] at kz
    exact Z.s_ret (d_var (K := K) rfl kz) ra fun v4 A4 H4 g4 k4 => q _ _ _ (g.trans g4) k4
end
end Q43
namespace Z
open PySem PySem.Spec PyProof.Rows L2 Evl
section
variable {K : PySem.W.Frag} {p : Me} {σ : L2.St} {H H' A A' : Hp} {te ta tb tc tl ti : TE} {tt : TT} {tu tz : TS} {D : Ends} {d dx dy dz : PyData} {ds es : List PyData}
theorem upd_id {q : Addr} {o : HO} (h : A q = some o) : upd A q o = A := by
  funext a
  by_cases c : a = q
  · subst c; rw [upd_same, h]
  · rw [upd_ne c]
/-- a comprehension over a list whose result is one's own -/
theorem lcL_own {j : Nat} {vs : List Nat} (f : PyData → Bool) (v : PyData → PyData) (h : EvD K p tl σ H (.list ds)) (hz : ds.length ≤ 60000) (hw : ∀ x, wipe ((wipe σ vs).set j (some x)) vs = wipe σ vs)
    (ht : ∀ c ∈ ds, ∀ x H1, Ex H H1 → Dq K H1 x c → EvB p tt ((wipe σ vs).set j (some x)) H1 (f c)) (he : ∀ c ∈ ds, ∀ x H1, Ex H H1 → Dq K H1 x c → f c = true → EvD K p te ((wipe σ vs).set j (some x)) H1 (v c)) (R : Reg p H A) {Q : VK}
    (q : ∀ (l : Addr) xs A' H', Gr p A H A' H' → A l = none → Reg ⟨p.pool, upd p.own l (.lst xs)⟩ H' A' → DqAll K H' xs ((ds.filter f).map v) → Q (.ref l) A') : tLc (iList K tl) (gName j) tt te vs σ A Q := h A R _ fun x A1 H1 g1 k1 => by
  obtain ⟨a, xs, rfl, sq, el⟩ := dq_inv_l k1
  have R1 := g1.to R
  have ln := dqall_len el
  refine ⟨a, rfl, ⟨xs, sq_of (R1.ex _ _ sq)⟩, fun Dl hD => lc_w (K := K) (p := p) (H1 := H1) (walk_list (K := K) (a := a) (xs := xs)) R1 hD (by omega) (fun i => f (ds.getD i .none)) (fun i => v (ds.getD i .none)) (fun H' A' e r => sq_of ((e.trans r.ex) _ _ sq)) ?_ name_mono ?_⟩
  · rintro i x A' A2 H' hi e r ⟨rfl, hx⟩
    have hi' : i < ds.length := by omega
    have hd : ds.getD i .none = ds[i] := by simp [hi']
    obtain ⟨y, hv, kv⟩ := dqall_get el (List.getElem?_eq_getElem hi')
    rw [hx] at hv
    cases hv
    have hm : ds[i] ∈ ds := List.getElem_mem hi'
    refine ⟨hw x, H', r.refl, ?_, ?_⟩
    · rw [hd]; exact ht _ hm x H' (g1.reg.trans e) (dq_ex e _ _ kv)
    · rw [hd]; exact he _ hm x H' (g1.reg.trans e) (dq_ex e _ _ kv)
  · intro A' H' ys g n e k
    rw [ln, filter_range_map] at k
    have np : p.pool ≠ some Dl := fun z => by
      obtain ⟨a, b, h, _⟩ := R1.pool Dl z
      rw [hD] at h
      cases h
    have nA : A Dl = none := by
      cases q : A Dl with
      | none => rfl
      | some o => obtain ⟨o', e'⟩ := g1.dom Dl o q; rw [hD] at e'; cases e'
    have r := (g.to R1).put (o := .lst ys) np n
    rw [upd_id e] at r
    exact q Dl ys A' H' (g1.trans g) nA r k
/-- q[z1], q[z2] = e1, e2 -/
theorem s_swapOwn {i : Nat} {q : Addr} {xs : List V} {z1 z2 : Int} {j1 j2 : Nat} {d1 d2 : PyData} {e1 e2 t1 t2 : TE} (hp0 : p.pool = none) (hs : σ[i]? = some (some (.ref q))) (ho : p.own q = some (.lst xs)) (h1 : EvD K p e1 σ H d1) (h2 : EvD K p e2 σ H d2)
    (hi1 : ∀ p' H', Ex H H' → EvD K p' t1 σ H' (.int z1)) (hi2 : ∀ p' H', Ex H H' → EvD K p' t2 σ H' (.int z2)) (hj1 : ixN xs.length z1 = some j1) (hj2 : ixN xs.length z2 = some j2) (R : Reg p H A)
    (k : ∀ x y A' H', Dq K H' x d1 → Dq K H' y d2 → Ex H H' → Reg ⟨none, upd (upd p.own q (.lst (xs.set j1 x))) q (.lst ((xs.set j1 x).set j2 y))⟩ H' A' → (∀ A0 H0, A0 q = none → Gr .non A0 H0 A H → Gr .non A0 H0 A' H') → D.nx σ A') :
    tAsg (tTup (tCons e1 (tCons e2 tNil))) (gTup K 2 (gCons (gSub (tVar i) t1 rSetL) (gCons (gSub (tVar i) t2 rSetL) gNil))) D σ A := by
  have hev := s_cons h1 (s_cons h2 s_nil)
  generalize tCons e1 (tCons e2 tNil) = ta at hev ⊢
  refine hev A R _ fun vs A1 H1 g1 k1 => ?_
  obtain ⟨x, y, rfl, kx, ky⟩ := dqall_two k1
  refine ⟨sz_of (by show 2 ≤ 100000; decide), fun l hn => ?_⟩
  have R1 := g1.to R
  have gT := Gr.allocM R1 (o := .tup [x, y]) hn
  have g1T := g1.trans gT
  have RT := gT.to R1
  refine ⟨l, [x, y], rfl, st_of upd_same, rfl, x, [y], rfl, .ref q, hs, hi1 p H1 g1.reg _ RT _ fun z A2 H2 g2 k2 => ?_⟩
  cases k2
  have R2 := g2.to RT
  refine ⟨q, xs, z1, j1, rfl, rfl, R2.own _ _ ho, hj1, y, [], rfl, .ref q, hs, ?_⟩
  have R3 := R2.put (o := .lst (xs.set j1 x)) (R2.offO q _ ho).2 (R2.offO q _ ho).1
  refine hi2 _ H2 (g1.reg.trans g2.reg) _ R3 _ fun z' A4 H4 g4 k4 => ?_
  cases k4
  have R4 := g4.to R3
  refine ⟨q, xs.set j1 x, z2, j2, rfl, rfl, R4.own _ _ upd_same, by rw [List.length_set]; exact hj2, rfl, ?_⟩
  have e24 := g2.reg.trans g4.reg
  have R5 := R4.put (o := .lst ((xs.set j1 x).set j2 y)) (R4.offO q _ upd_same).2 (R4.offO q _ upd_same).1
  refine k x y _ H4 (dq_ex e24 _ _ kx) (dq_ex e24 _ _ ky) (g1.reg.trans e24) ?_ fun A0 H0 n0 g0 => ?_
  · have e : (Me.mk p.pool (upd (upd p.own q (.lst (xs.set j1 x))) q (.lst ((xs.set j1 x).set j2 y)))) = ⟨none, upd (upd p.own q (.lst (xs.set j1 x))) q (.lst ((xs.set j1 x).set j2 y))⟩ := by rw [hp0]
    rw [← e]
    exact R5
  · have ga : Gr .non A0 H0 A2 H2 := (g0.trans (g1T.as hp0)).trans (g2.as hp0)
    have gb : Gr .non A0 H0 (upd A2 q (.lst (xs.set j1 x))) H2 := Gr.mut ga n0 (R2.offO q _ ho).1 (fun z => nomatch z)
    exact Gr.mut (gb.trans (g4.as hp0)) n0 (R4.offO q _ upd_same).1 (fun z => nomatch z)
end
end Z
namespace Z
open PySem PySem.Spec PyProof.Rows L2 Evl
section
variable {K : PySem.W.Frag} {p : Me} {σ : L2.St} {H H' A A' : Hp} {te ta tb tc tl ti : TE} {tt : TT} {tu tz : TS} {D : Ends} {d dx dy dz : PyData} {ds es : List PyData}
theorem q_tup2 {a b : Nat} {e1 e2 : TE} {d1 d2 : PyData} (h1 : EvD K p e1 σ H d1) (h2 : EvD K p e2 σ H d2) (R : Reg p H A) (k : ∀ x y A' H', Gr p A H A' H' → Dq K H' x d1 → Dq K H' y d2 → tz D ((σ.set a (some x)).set b (some y)) A') :
    tSeq (tAsg (tTup (tCons e1 (tCons e2 tNil))) (gTup K 2 (gCons (gName a) (gCons (gName b) gNil)))) tz D σ A := by
  have hev := s_cons h1 (s_cons h2 s_nil)
  generalize tCons e1 (tCons e2 tNil) = ta at hev ⊢
  refine hev A R _ fun vs A1 H1 g1 k1 => ?_
  obtain ⟨x, y, rfl, kx, ky⟩ := dqall_two k1
  refine ⟨sz_of (by show 2 ≤ 100000; decide), fun l hn => ?_⟩
  exact gtup2 upd_same (k x y _ H1 (g1.trans (Gr.allocM (g1.to R) hn)) kx ky)
theorem lay_ints : ∀ r : List Int, PyData.canLayAll0 (r.map PyData.int) = true ∧ PyData.depthAll (r.map PyData.int) = 0
  | [] => ⟨rfl, rfl⟩
  | n :: r => by
    obtain ⟨h1, h2⟩ := lay_ints r
    refine ⟨h1, ?_⟩
    show max (PyData.depth (.int n)) (PyData.depthAll (r.map PyData.int)) = 0
    rw [h2]; rfl
theorem shaped_ints (r : List Int) : SeqAt.shaped (.list (r.map PyData.int)) = true := by
  obtain ⟨h1, h2⟩ := lay_ints r
  show (PyData.canLayAll0 (r.map PyData.int) && decide (PyData.depthAll (r.map PyData.int) + 1 ≤ 64)) = true
  rw [h1, h2]; rfl
theorem lay_rows : ∀ rs : List (List Int), PyData.canLayAll0 (rs.map fun r => .tuple (r.map PyData.int)) = true ∧ PyData.depthAll (rs.map fun r => .tuple (r.map PyData.int)) ≤ 1
  | [] => ⟨rfl, Nat.zero_le _⟩
  | r :: rs => by
    obtain ⟨h1, h2⟩ := lay_rows rs
    obtain ⟨h3, h4⟩ := lay_ints r
    refine ⟨?_, ?_⟩
    · show (PyData.canLayAll0 (r.map PyData.int) && PyData.canLayAll0 (rs.map fun r => .tuple (r.map PyData.int))) = true
      rw [h1, h3]; rfl
    · show max (PyData.depthAll (r.map PyData.int) + 1) (PyData.depthAll (rs.map fun r => .tuple (r.map PyData.int))) ≤ 1
      rw [h4]; omega
theorem shaped_rows (rs : List (List Int)) : SeqAt.shaped (.list (rs.map fun r => .tuple (r.map PyData.int))) = true := by
  obtain ⟨h1, h2⟩ := lay_rows rs
  show (PyData.canLayAll0 (rs.map fun r => .tuple (r.map PyData.int)) && decide (PyData.depthAll (rs.map fun r => .tuple (r.map PyData.int)) + 1 ≤ 64)) = true
  rw [h1]
  show decide _ = true
  exact decide_eq_true (by omega)
theorem shaped_nil : SeqAt.shaped (.list []) = true := rfl
theorem eqv_nil : ∀ ds : List PyData, PyData.eqv (.list ds) (.list []) = ds.isEmpty
  | [] => by simp [PyData.eqv, PyData.eqvAll]
  | d :: ds => by simp [PyData.eqv, PyData.eqvAll]
theorem q_asgQ {i : Nat} (h : te σ A fun x A' => tz D (σ.set i (some x)) A') : tSeq (tAsg te (gName i)) tz D σ A := h
theorem c_lenTK : CaD K p (fun xs H Q => ∃ q ys, xs = [.ref q] ∧ (SqL K H q ys ∨ SqT K H q ys) ∧ Q (.int ys.length) H) [.tuple ds] (.int ds.length) := fun vs H A h R Q q => by
  obtain ⟨v, rfl, k⟩ := dqall_one h
  obtain ⟨a, xs, rfl, h1, h2⟩ := dq_inv_t k
  rw [← dqall_len h2] at q
  exact ⟨a, xs, rfl, .inr (ex_t R.ex h1), q _ A H R.refl (.int _)⟩
theorem c_lenLK : CaD K p (fun xs H Q => ∃ q ys, xs = [.ref q] ∧ (SqL K H q ys ∨ SqT K H q ys) ∧ Q (.int ys.length) H) [.list ds] (.int ds.length) := fun vs H A h R Q q => by
  obtain ⟨v, rfl, k⟩ := dqall_one h
  obtain ⟨a, xs, rfl, h1, h2⟩ := dq_inv_l k
  rw [← dqall_len h2] at q
  exact ⟨a, xs, rfl, .inl (sq_of (R.ex _ _ h1)), q _ A H R.refl (.int _)⟩
theorem d_lenOwnK {i : Nat} {q : Addr} {xs : List V} (hs : σ[i]? = some (some (.ref q))) (ho : p.own q = some (.lst xs)) (hx : DqAll K H xs ds) :
    EvD K p (tCB (fun xs H Q => ∃ q ys, xs = [.ref q] ∧ (SqL K H q ys ∨ SqT K H q ys) ∧ Q (.int ys.length) H) (tCons (tVar i) tNil)) σ H (.int ds.length) := fun A R Q k => by
  refine ⟨.ref q, hs, q, xs, rfl, .inl (sq_of (R.own _ _ ho)), ?_⟩
  rw [dqall_len hx]
  exact k _ A H R.refl (.int _)
theorem call_list_ofK {X : Cx} {K : PySem.W.Frag} (h : X.K = K) : CallR X (.type "list") (fun xs H Q => ∃ q ys, xs = [.ref q] ∧ (SqL K H q ys ∨ SqT K H q ys) ∧ ∀ l, H l = none → Q (.ref l) (upd H l (.lst ys))) := h ▸ call_list_of
theorem call_tuple_ofK {X : Cx} {K : PySem.W.Frag} (h : X.K = K) : CallR X (.type "tuple") (fun xs H Q => ∃ q ys, xs = [.ref q] ∧ ((SqL K H q ys ∧ ∀ l, H l = none → Q (.ref l) (upd H l (.tup ys))) ∨ (SqT K H q ys ∧ Q (.ref q) H))) := h ▸ call_tuple_of
theorem c_listTK : CaD K p (fun xs H Q => ∃ q ys, xs = [.ref q] ∧ (SqL K H q ys ∨ SqT K H q ys) ∧ ∀ l, H l = none → Q (.ref l) (upd H l (.lst ys))) [.tuple ds] (.list ds) := fun vs H A h R Q q => by
  obtain ⟨v, rfl, k⟩ := dqall_one h
  obtain ⟨a, xs, rfl, h1, h2⟩ := dq_inv_t k
  exact ⟨a, xs, rfl, .inr (ex_t R.ex h1), fun l hl => by
    have g := Gr.alloc R (o := .lst xs) hl
    exact q _ _ _ g (.lst upd_same (dqall_ex g.reg h2))⟩
theorem sql_ex {a : Addr} {xs : List V} (e : Ex H H') (h : SqL K H a xs) : SqL K H' a xs := by
  rcases h with (h | ⟨o, h⟩) | h
  · exact .inl (.inl (e _ _ h))
  · exact .inl (.inr ⟨o, e _ _ h⟩)
  · exact .inr h
theorem d_lenS {i : Nat} {a : Addr} {ns : List Int} (hs : σ[i]? = some (some (.ref a))) (hq : SqL K H a (ns.map V.int)) : EvD K p (tCB (fun xs H Q => ∃ q ys, xs = [.ref q] ∧ (SqL K H q ys ∨ SqT K H q ys) ∧ Q (.int ys.length) H) (tCons (tVar i) tNil)) σ H (.int ns.length) := fun A R Q k => by
  refine ⟨.ref a, hs, a, ns.map V.int, rfl, .inl (sql_ex R.ex hq), ?_⟩
  rw [List.length_map]
  exact k _ A H R.refl (.int _)
theorem d_ixS {i : Nat} {a : Addr} {ns : List Int} {z n : Int} (hs : σ[i]? = some (some (.ref a))) (hq : SqL K H a (ns.map V.int)) (hi : EvD K p ti σ H (.int z)) (e : atI (ns.map V.int) z = some (.int n)) : EvD K p (tOp (rIx K) (tVar i) ti) σ H (.int n) := fun A R Q k =>
  ⟨.ref a, hs, hi A R _ fun y A1 H1 g1 k1 => by
    cases k1
    have R1 := g1.to R
    exact .inl ⟨a, ns.map V.int, z, .int n, rfl, rfl, sql_ex (g1.reg.trans R1.ex) hq, e, k _ A1 H1 g1 (.int n)⟩⟩
end
end Z
/-! repr of data, where no guard stands around (A.guards = some []); a def's promise under that premise -/
namespace Z
open PySem PySem.Spec PyProof.Rows L2 Evl
def rRepr (K : PySem.W.Frag) : List V → Hp → VK → Prop := fun vs H Q => ∃ (a : Addr) (d : PyData), vs = [.ref a] ∧ Dp K H (.ref a) d ∧ d.showable = true ∧ d.hasDict = false ∧ d.depth ≤ 60 ∧ d.shown.length ≤ sizeLine ∧ Q (.str d.shown) H
theorem cr_repr {X : Cx} (hg : X.A.guards = some []) (hu : X.A.units + 64 < cLine) : CallR X (.builtin "repr") (rRepr X.K) := by
  intro pins s σ H vs us Q I r h
  obtain ⟨a, d, rfl, hd, h1, h2, h3, h4, q⟩ := h
  rw [Vals.ref1 r]
  obtain ⟨as, rd⟩ := Dp.reads I d (.ref a) (.ref a) hd rfl
  exact repr_of_reads' rd h1 (fun z => by rw [h2] at z; cases z) hg (by omega) (fun b o e => e) (fun h' u tk hk => ⟨.str _, H, I.kept hk, ⟨u, rfl⟩, q⟩) h4
section
variable {K : PySem.W.Frag} {p : Me} {σ : L2.St} {H A : Hp} {d : PyData}
def seqD : PyData → Bool
  | .list _ => true
  | .tuple _ => true
  | _ => false
theorem c_repr (hs : seqD d = true) (h1 : d.showable = true) (h2 : d.hasDict = false) (h3 : d.depth ≤ 60) (h4 : d.shown.length ≤ sizeLine) : CaD K p (rRepr K) [d] (.str d.shown) := fun vs H A h R Q q => by
  obtain ⟨v, rfl, k⟩ := dqall_one h
  have key : ∃ a, v = .ref a := by
    cases k with
    | lst _ _ => exact ⟨_, rfl⟩
    | tup _ _ => exact ⟨_, rfl⟩
    | _ => cases hs
  obtain ⟨a, rfl⟩ := key
  exact ⟨a, d, rfl, dq_dp _ _ h2 (dq_ex R.ex _ _ k), h1, h2, h3, h4, q _ A H R.refl (.str _)⟩
end
/-- as FnOk, called where no guard stands around -/
structure FnG (P : Program) (w : World) (K : PySem.W.Frag) (mg : Str → Option Value) (base : Heap) (k : Nat) (f : Addr) (fd : FuncData) (ps : List Str) (sp : Sp) : Prop where
  len : ∀ vs H Q E, sp vs H Q E → vs.length = ps.length
  run : ∀ (A : Around) (outer : List Env) (s : Shared) (H : Hp) (args : Args) (us : List Value) (vs : List V) (Q : VK) (E : XK), A.guards = some [] → Room k A → Env0 P w K mg base A outer s H → BindsTo s fd args (ps.zip us) →
    Vals vs us → sp vs H Q E → codeAny (model P w) A (.call (.ref f) args) (CR CX0 outer P w H s Q E) s
end Z
namespace Z
open PySem PySem.Spec PyProof.Rows L2 Evl
theorem fnG_of {P : Program} {w : World} {K : PySem.W.Frag} {mg : Str → Option Value} {base : Heap} {x qual : Str} {params : Arguments} {body : List Stmt} {scope : Scope} {dvs : List V} {kws : List (Str × V)} {f : Addr} {fd : FuncData} {N ps : List Str} {k : Nat} {sp : Sp} (F : FunD K x qual params body scope dvs kws f fd) (S : FnScope N ps scope)
    (ln : ∀ vs H Q E, sp vs H Q E → vs.length = ps.length)
    (hB : ∀ (cdv : Value) (A : Around) (outer : List Env) (s : Shared) (H : Hp) (vs : List V) (Q : VK) (E : XK), A.guards = some [] → Room k (A.deeper (envOfC qual scope s.heap.objs.size f cdv)) → sp vs H Q E →
      ∃ t, PSs (cxOf CX0 P w K mg base N qual scope f cdv A outer s H E) body t ∧ t { nx := fun _ G => Q .non G, rt := Q } (start N vs) H) : FnG P w K mg base (k + 1) f fd ps sp := by
  obtain ⟨oc, od, dV, kV, doc, pm, an, cdv, ct, osl, rfl, lk, cd, _, _⟩ := F.ex
  constructor
  · exact ln
  intro A outer s H args us vs Q E gd room env bnd rv promise
  have lenV := ln _ _ _ _ promise
  have inK : K.In s.heap := env.mod.kin.keeps (fun b o z => (env.bs b o z).1)
  have noL : s.heap.NoLimit := env.mod.nolimit.keeps (fun b o z => (env.bs b o z).1)
  have kinds : ∀ y ∈ ps.zip us, scope.names.lookup y.1 = some .local ∨ (scope.names.lookup y.1 = some .cell ∧ ((cellsFrom (s.heap.objs.size + 1) scope.names []).lookup y.1).isSome = true) := by
    rintro ⟨n, v⟩ hy
    cases S.par n (List.of_mem_zip hy).1 with
    | inl z => exact .inl z
    | inr z => exact .inr ⟨z, PySem.W.cellsFrom_some _ _ _ (.inl z)⟩
  refine codeAny_call_function room.depth (inK _ _ lk) rfl S.co S.gen rfl (PySem.W.codeRec_of inK cd) (bnd _ _ _ _ (wpAny_newFunctionEnv_cells S.kind kinds ?_))
  intro e he s1 z
  cases he
  refine ⟨noL.keeps z.toInCall.keep, codeAny_func ?_⟩
  obtain ⟨t, ht, hq⟩ := hB cdv A outer s H vs Q E gd (room.deeper _) promise
  have J0 := inv_start (N := N) S room.hd env lenV rv z (E := E) (CX := CX0)
  refine wpAny_mono (ht.run [] s1 (start N vs) H _ J0 hq) (fun fl s' hs => ?_) (fun _ _ hs => hs)
  cases fl with
  | ret u =>
    obtain ⟨v, σ', H', J, r, q⟩ := hs
    exact ⟨v, H', J.os, J.bare, J.base, J.hok, r, q⟩
  | next =>
    obtain ⟨σ', H', J, q⟩ := hs
    exact ⟨.non, H', J.os, J.bare, J.base, J.hok, rfl, q⟩
  | brk => exact hs.elim fun _ h => h.elim fun _ h => False.elim h.2
  | cont => exact hs.elim fun _ h => h.elim fun _ h => False.elim h.2
end Z
/-! a law's end where its def's promise asks that no guard stands around -/
namespace Z
open PySem PySem.Spec PyProof.Rows L2 Evl
section
variable {P : Program} {w : World} {K : PySem.W.Frag} {mg mb : Str → Option Value} {k : Nat} {fa a : Addr} {fd : FuncData} {x : Str} {sp : Sp} {s1 : Shared} {vs : List Value} {ns : List Int}
/-- from what is tracked: nothing but the script, if that -/
theorem callG_core (KX : K.In s1.heap) (hns : s1.heap.Ns mainGlobals mg) (hb : s1.heap.Ns builtinsNs mb) (hbb : ∀ x : Str, x ≠ "__name__" → mb x = bootBuiltins x) (nl : s1.heap.NoLimit) (gn : s1.gens = #[]) (ha : s1.heap.get? a = some { cls := .type "list", data := .seq vs.toArray }) (room : Room k callerA)
    (F : ∀ base : Heap, K.In base → base.Ns mainGlobals mg → FnG P w K mg base k fa fd [x] sp) (bnd : ∀ (s : Shared) (u : Value), BindsTo s fd ⟨[u], []⟩ [(x, u)])
    (H : Hp) (only : Only H) (promise : sp [.ref a] H (fun v _ => v = .bl true) fun _ _ _ => False) (ok : HOk P w H s1.heap) (isA : ∀ b, H b ≠ none → b = a) (notK : H a ≠ none → K.lookup a = none) :
    codeAny (model P w) callerA (.call (.ref fa) ⟨[.ref a], []⟩) (fun r s' => r = .ok (.ret (.bool true)) ∧ OldK s1.heap s'.heap ∧ s'.os = s1.os ∧ AllBare s'.gens) s1 := by
  let B := hidT s1.heap H
  have some_ne : ∀ {b : Addr} {u : HO}, H b = some u → b = a := fun {b u} e => isA b (by rw [e]; exact fun z => nomatch z)
  have toB : ∀ {b : Addr} {o : Obj}, s1.heap.get? b = some o → H b = none → B.get? b = some o := hidT_get
  have nsB : ∀ {b : Addr} {m : Str → Option Value}, s1.heap.Ns b m → B.Ns b m := by
    rintro b m ⟨o, es, ep, e, d, r⟩
    refine ⟨o, es, ep, toB e ?_, d, r⟩
    cases q : H b with
    | none => rfl
    | some u =>
      cases some_ne q
      rw [ha] at e
      cases e
      exact nomatch d
  have inB : K.In B := fun b o e => toB (KX b o e) (by
    cases q : H b with
    | none => rfl
    | some u =>
      cases some_ne q
      have z := notK (by rw [q]; exact fun z => nomatch z)
      rw [z] at e
      cases e)
  obtain ⟨mc, nl1, nl2⟩ := nl
  have md : Mod K mg B := ⟨inB, nsB hns, ⟨mb, nsB hb, hbb⟩, mc, nsB nl1, nl2⟩
  have env : Env0 P w K mg B callerA [] s1 H := ⟨rfl, md, fun b o e => of_hidT e, Nat.le_of_eq (hidT_size _ _), trivial, (fun b z => nomatch z), ok, .of_eq gn⟩
  have go := (F B inB (nsB hns)).run callerA [] s1 H ⟨[.ref a], []⟩ [.ref a] [.ref a] _ _ rfl room env (bnd s1 (.ref a)) (.cons rfl .nil) promise
  refine codeAny_mono go fun r s' h => ?_
  match r, h with
  | .error e, h => exact h.elim
  | .ok .next, h => exact False.elim h
  | .ok .brk, h => exact False.elim h
  | .ok .cont, h => exact False.elim h
  | .ok (.ret u), ⟨v, H', os, bare, un, ok', rv, q⟩ =>
    cases (show v = .bl true from q)
    cases (show u = Value.bool true from rv)
    refine ⟨rfl, OldK.of_keep fun b o e => ?_, os, bare⟩
    cases q : H b with
    | none => exact un.keep b o e q (fun z => nomatch z) (fun z => nomatch z)
    | some u =>
      rcases only b with z | ⟨ob, xs, z⟩
      · rw [q] at z
        cases z
      · have e1 := (ok b _ z).1
        have e2 := (ok' b _ (un.frzs b ob _ z)).1
        rw [e] at e1
        cases e1
        exact e2
end
end Z
namespace Z
open PySem PySem.Spec PyProof.Rows L2 Evl
section
variable {P : Program} {w : World} {K : PySem.W.Frag} {mg mb : Str → Option Value} {k : Nat} {fa a : Addr} {fd : FuncData} {x : Str} {sp : Sp} {s1 : Shared} {vs : List Value} {ns : List Int}
theorem callG_all (KX : K.In s1.heap) (hns : s1.heap.Ns mainGlobals mg) (hb : s1.heap.Ns builtinsNs mb) (hbb : ∀ x : Str, x ≠ "__name__" → mb x = bootBuiltins x) (nl : s1.heap.NoLimit) (gn : s1.gens = #[]) (ha : s1.heap.get? a = some { cls := .type "list", data := .seq vs.toArray }) (wholes : IntsAre vs ns) (sz : ns.length ≤ sizeLine) (room : Room k callerA)
    (F : ∀ base : Heap, K.In base → base.Ns mainGlobals mg → FnG P w K mg base k fa fd [x] sp) (bnd : ∀ (s : Shared) (u : Value), BindsTo s fd ⟨[u], []⟩ [(x, u)])
    (promise : ∀ H : Hp, Only H → SqL K H a (ns.map V.int) → sp [.ref a] H (fun v _ => v = .bl true) fun _ _ _ => False) :
    codeAny (model P w) callerA (.call (.ref fa) ⟨[.ref a], []⟩) (fun r s' => r = .ok (.ret (.bool true)) ∧ OldK s1.heap s'.heap ∧ s'.os = s1.os ∧ AllBare s'.gens) s1 := by
  have rv := vals_ints wholes
  cases lk : K.lookup a with
  | some o =>
    have e := KX a o lk
    rw [ha] at e
    cases e
    have on : Only fun _ => none := fun _ => .inl rfl
    have sq : SqL K (fun _ => none) a (ns.map V.int) := .inr ⟨_, vs.toArray, _, lk, rfl, rfl, rfl, by rw [List.size_toArray, wholes.length]; exact sz, by simpa using rv⟩
    exact callG_core KX hns hb hbb nl gn ha room F bnd _ on (promise _ on sq) (fun b u z => nomatch z) (fun b z => absurd rfl z) (fun z => absurd rfl z)
  | none =>
    let G : Hp := fun b => if b = a then some (.frz { cls := .type "list", data := .seq vs.toArray } (.lst (ns.map V.int))) else none
    have ga : G a = some (.frz { cls := .type "list", data := .seq vs.toArray } (.lst (ns.map V.int))) := if_pos rfl
    have gn' : ∀ b, b ≠ a → G b = none := fun b z => if_neg z
    have on : Only G := fun b => by
      by_cases c : b = a
      · subst c; exact .inr ⟨_, _, ga⟩
      · exact .inl (gn' b c)
    refine callG_core KX hns hb hbb nl gn ha room F bnd G on (promise G on (.inl (.inr ⟨_, ga⟩))) (fun b u z => ?_) (fun b z => ?_) (fun _ => lk)
    · by_cases c : b = a
      · subst c
        rw [ga] at z
        cases z
        exact ⟨ha, by rw [List.length_map]; exact sz, vs, _, rv, ha⟩
      · rw [gn' b c] at z
        cases z
    · exact Classical.byContradiction fun c => z (gn' b c)
end
/-- as walk_ofE -/
theorem walk_ofG {l : PySem.W.OpenLaw} {n k : Nat} {q : Program} {loose : List Str} {XP : (Str → Option Value) → Heap → Prop} {YP : World → Heap → Prop} {d : DefRec} {x : Str} (most : l.most = some n) (few : n ≤ sizeLine) (nodef : d.params.defaults = []) (room : Room k callerA)
    (F : ∀ (w : World) (mg : Str → Option Value) (fa : Addr) (h : Heap), YP w h → h.Ns mainGlobals mg → mg d.name = some (.ref fa) →
      ∃ (K : PySem.W.Frag) (fd : FuncData) (sp : Sp), K.In h ∧ (∀ (s : Shared) (u : Value), BindsTo s fd ⟨[u], []⟩ [(x, u)]) ∧ (∀ (H : Hp) (a : Addr) (ns : List Int), ns.length ≤ n → Only H → SqL K H a (ns.map V.int) → sp [.ref a] H (fun v _ => v = .bl true) fun _ _ _ => False) ∧
        ∀ base : Heap, K.In base → base.Ns mainGlobals mg → FnG l.prog w K mg base k fa fd [x] sp) :
    PySem.W.WalkO q loose XP YP l.row.toRowW d [] (fun f vs => PySem.call f vs) := by
  refine Att.attach_call most nodef ?_
  intro w s0 s1 mg mb fa o pm cd doc a vs ns G Y ho hd hcd hmg hobj wholes len gens
  obtain ⟨K, fd, sp, inK, bnd, promise, ok⟩ := F w mg fa _ Y G.T.g hmg
  exact callG_all inK G.T.g G.T.b G.T.builtins G.T.nolimit gens hobj wholes (Nat.le_trans len few) room ok bnd fun H on sq => promise H a ns len on sq
end Z
namespace Z
open PySem PySem.Spec PyProof.Rows L2 Evl
/-- such a def called from such a body -/
theorem run_fnG {X : Cx} {k : Nat} {f : Addr} {fd : FuncData} {ps : List Str} {sp : Sp} {pins : List (Addr × Obj)} {σ : L2.St} {H : Hp} {s : Shared} {Q : VK} {us : List Value} {vs : List V} (F : FnG X.prog X.w X.K X.mg X.base k f fd ps sp) (room : Room k X.A) (gd : X.A.guards = some []) (bnd : Binds X.K fd ps [])
    (I : Inv X pins σ H s) (rv : Vals vs us) (promise : sp vs H Q E0) : wpAny (model X.prog X.w) X.A (call (.ref f) us) (EP X pins σ Q) X.xe s := by
  have ln : (us ++ []).length = ps.length := by
    rw [List.append_nil, ← rv.length]
    exact F.len _ _ _ _ promise
  have b := bnd s us I.kIn ln
  rw [List.append_nil] at b
  have go := F.run X.A X.stack s H ⟨us, []⟩ us vs Q E0 gd room I.env0 b rv promise
  refine wpAny_call (codeAny_mono go ?_)
  rintro (e | fl) s' hq
  · exact False.elim hq
  · cases fl with
    | ret u => exact I.after hq
    | next => exact hq.elim
    | brk => exact hq.elim
    | cont => exact hq.elim
/-- under a name of the module -/
def DnG (P : Program) (w : World) (K : PySem.W.Frag) (mg : Str → Option Value) (base : Heap) (k : Nat) (x : Str) (ps : List Str) (sp : Sp) : Prop :=
  ∃ f fd, FnG P w K mg base k f fd ps sp ∧ mg x = some (.ref f) ∧ PySem.W.keepIn K (.ref f) = true ∧ Binds K fd ps []
theorem pe_cdG {X : Cx} {x : Str} {ps : List Str} {sp : Sp} {k k' : Nat} {e : Expr} {es : List Expr} {t : TA} {p pos : Pos} (D : DnG X.prog X.w X.K X.mg X.base k x ps sp) (room : Room k' X.A) (gd : X.A.guards = some []) (hk : k ≤ k') (hg : Gl X x) (ha : PA X (e :: es) t)
    (hdb : (x == ("__debug__" : Str)) = false := by decide) (he : starEach (e :: es) X.env = (false, eval e X.env) :: starEach es X.env := by rfl) (hpl : (backTo pos (starEach es X.env)).any (·.1) = false := by rfl) :
    PE X (.Call (.Name x p) (e :: es) [] pos) (tCall sp [] E0 t) := by
  obtain ⟨f, fd, F, m, kp, b⟩ := D
  refine ⟨fun pins s σ H Q I h => ?_⟩
  refine wpAny_Call_Name_kw (ld_glob I hg m ?_ hdb)
  refine PySem.W.callWith_K (first := []) (h₀ := X.base) I.ok.mod.kin kp (thn (ha.run pos pins s σ H _ I h) ?_) he hpl
  rintro us s1 ⟨vs, H1, I1, rv, q⟩
  rw [List.append_nil] at q
  exact ⟨I1.kIn, run_fnG F (room.mono hk) gd b I1 rv q⟩
end Z
/-! what repr writes of rows of numbers: its size -/
namespace Z
open PySem PySem.Spec PyProof.Rows L2 Evl
theorem show_ints : ∀ r : List Int, (∀ c ∈ r, c.natAbs.log2 < 1920) → PyData.showableAll (r.map .int) = true ∧ PyData.hasDictAll (r.map .int) = false ∧ ((PyData.shownAll (r.map .int)).map (·.length)).sum ≤ r.length * 1921 ∧ (PyData.shownAll (r.map .int)).length = r.length
  | [], _ => ⟨rfl, rfl, Nat.zero_le _, rfl⟩
  | c :: r, h => by
    obtain ⟨h1, h2, h3, h4⟩ := show_ints r fun c hc => h c (List.mem_cons_of_mem _ hc)
    have hc := h c (List.mem_cons_self ..)
    refine ⟨?_, ?_, ?_, ?_⟩
    · show (PyData.showable (.int c) && PyData.showableAll (r.map .int)) = true
      rw [h1]
      show (decide (c.natAbs.log2 < 1920) && true) = true
      rw [decide_eq_true hc]; rfl
    · show (PyData.hasDict (.int c) || PyData.hasDictAll (r.map .int)) = false
      rw [h2]; rfl
    · have e : PyData.shownAll ((c :: r).map .int) = (Str.ofString (toString c)) :: PyData.shownAll (r.map .int) := rfl
      rw [e, List.map_cons, List.sum_cons, List.length_cons, Nat.succ_mul]
      have := int_text_len_1921 hc
      omega
    · show (PyData.shownAll (r.map .int)).length + 1 = r.length + 1
      rw [h4]
theorem show_rows : ∀ rs : List (List Int), (∀ r ∈ rs, r.length ≤ 9 ∧ ∀ c ∈ r, c.natAbs.log2 < 1920) → PyData.showableAll (rs.map fun r => .tuple (r.map .int)) = true ∧ PyData.hasDictAll (rs.map fun r => .tuple (r.map .int)) = false ∧ ((PyData.shownAll (rs.map fun r => .tuple (r.map .int))).map (·.length)).sum ≤ rs.length * 20000 ∧ (PyData.shownAll (rs.map fun r => .tuple (r.map .int))).length = rs.length
  | [], _ => ⟨rfl, rfl, Nat.zero_le _, rfl⟩
  | r :: rs, h => by
    obtain ⟨h1, h2, h3, h4⟩ := show_rows rs fun c hc => h c (List.mem_cons_of_mem _ hc)
    obtain ⟨hl, hc⟩ := h r (List.mem_cons_self ..)
    obtain ⟨k1, k2, k3, k4⟩ := show_ints r hc
    refine ⟨?_, ?_, ?_, ?_⟩
    · show (PyData.showableAll (r.map .int) && PyData.showableAll (rs.map fun r => .tuple (r.map .int))) = true
      rw [h1, k1]; rfl
    · show (PyData.hasDictAll (r.map .int) || PyData.hasDictAll (rs.map fun r => .tuple (r.map .int))) = false
      rw [h2, k2]; rfl
    · have e : PyData.shownAll ((r :: rs).map fun r => .tuple (r.map .int)) = tupleText (PyData.shownAll (r.map .int)) :: PyData.shownAll (rs.map fun r => .tuple (r.map .int)) := rfl
      rw [e, List.map_cons, List.sum_cons, List.length_cons, Nat.succ_mul]
      have := tupleText_len_le (PyData.shownAll (r.map .int))
      omega
    · show (PyData.shownAll (rs.map fun r => .tuple (r.map .int))).length + 1 = rs.length + 1
      rw [h4]
section
variable {K : PySem.W.Frag} {p : Me}
theorem cr_reprK {X : Cx} {K : PySem.W.Frag} (hK : X.K = K) (hg : X.A.guards = some []) (hu : X.A.units + 64 < cLine) : CallR X (.builtin "repr") (rRepr K) := hK ▸ cr_repr hg hu
theorem c_reprRows {rs : List (List Int)} (h : ∀ r ∈ rs, r.length ≤ 9 ∧ ∀ c ∈ r, c.natAbs.log2 < 1920) (hl : rs.length ≤ 100) : CaD K p (rRepr K) [.list (rs.map fun r => .tuple (r.map .int))] (.str (PyData.shown (.list (rs.map fun r => .tuple (r.map .int))))) := by
  obtain ⟨h1, h2, h3, h4⟩ := show_rows rs h
  refine c_repr rfl h1 h2 ?_ ?_
  · have := (lay_rows rs).2
    show PyData.depthAll (rs.map fun r => .tuple (r.map .int)) + 1 ≤ 60
    omega
  · have := listText_len_le (PyData.shownAll (rs.map fun r => .tuple (r.map .int)))
    show (listText (PyData.shownAll (rs.map fun r => .tuple (r.map .int)))).length ≤ sizeLine
    rw [sizeLine_eq]
    omega
theorem c_tupleK {ds : List PyData} : CaD K p (fun xs H Q => ∃ q ys, xs = [.ref q] ∧ ((SqL K H q ys ∧ ∀ l, H l = none → Q (.ref l) (upd H l (.tup ys))) ∨ (SqT K H q ys ∧ Q (.ref q) H))) [.list ds] (.tuple ds) := fun vs H A h R Q q => by
  obtain ⟨v, rfl, k⟩ := dqall_one h
  obtain ⟨a, xs, rfl, h1, h2⟩ := dq_inv_l k
  exact ⟨a, xs, rfl, .inl ⟨sq_of (R.ex _ _ h1), fun l hl => by
    have g := Gr.alloc R (o := .tup xs) hl
    exact q _ _ _ g (.tup (st_of upd_same) (dqall_ex g.reg h2))⟩⟩
theorem o_neS {a b : Str} : OpD K p rNe (.str a) (.str b) (.bool (!decide (a = b))) := fun x y H A hx hy R Q q => by
  cases hx; cases hy
  refine ⟨rfl, ?_⟩
  have e : decide (V.str a = V.str b) = decide (a = b) := by
    by_cases c : a = b
    · subst c; simp
    · simp [c]
  rw [e]
  exact q _ A H R.refl (.bl _)
theorem o_eqS {a b : Str} : OpD K p rEq (.str a) (.str b) (.bool (decide (a = b))) := fun x y H A hx hy R Q q => by
  cases hx; cases hy
  refine ⟨rfl, ?_⟩
  have e : decide (V.str a = V.str b) = decide (a = b) := by
    by_cases c : a = b
    · subst c; simp
    · simp [c]
  rw [e]
  exact q _ A H R.refl (.bl _)
theorem op_eqDK {X : Cx} {K : PySem.W.Frag} (hK : X.K = K) (hu : X.A.units + 64 < cLine) : OpR X (compareOp .Eq) (rEqD K) := hK ▸ op_eqD hu
theorem op_neDK {X : Cx} {K : PySem.W.Frag} (hK : X.K = K) (hu : X.A.units + 64 < cLine) : OpR X (compareOp .NotEq) (rNeD K) := hK ▸ op_neD hu
theorem op_inK {X : Cx} {K : PySem.W.Frag} (hK : X.K = K) : OpR X (compareOp .In) (rIn K false) := hK ▸ op_in_seq
theorem op_notInK {X : Cx} {K : PySem.W.Frag} (hK : X.K = K) : OpR X (compareOp .NotIn) (rIn K true) := hK ▸ op_notIn_seq
theorem pi_tupK {X : Cx} {K : PySem.W.Frag} {tg e : Expr} {te : TE} (hK : X.K = K) (he : PE X e te) : PI X tg e (iTup K te) := hK ▸ pi_tup he
theorem pi_listK {X : Cx} {K : PySem.W.Frag} {tg e : Expr} {te : TE} (hK : X.K = K) (he : PE X e te) : PI X tg e (iList K te) := hK ▸ pi_list he
theorem sl_listK {X : Cx} {K : PySem.W.Frag} (hK : X.K = K) : SlR X (rSlL K) := hK ▸ sl_list
end
end Z
/-! operators of one's own classes: in, |, ==, !=, len, truth -/
namespace Z
open PySem PySem.Spec PyProof.Rows L2 Evl
section
variable {prog : Program} {w : World} {A : Around} {E : Value → Shared → Prop} {s : Shared} {K : PySem.W.Frag} {c C f : Addr} {ox : Obj} {od : Option Obj}
theorem contains_own {x : Value} {Q : Bool → Shared → Prop} (X : K.In s.heap) (I : PySem.W.InstAt s.heap c ox C od) (at_ : PySem.W.findIn K (.ref C) "__contains__" = some (some (.ref f))) (fn : PySem.W.isFn K (.ref f) = true)
    (h : wpAny (model prog w) A (call (.ref f) [.ref c, x]) (PySem.W.BoolBack Q) E s) : wpAny (model prog w) A (contains (.ref c) x) Q E s := by
  have hf := beq_iff_eq.mp fn
  unfold contains
  refine wpAny_holding ?_
  show wpAny _ A (specialOf (.ref c) "__contains__" >>= _) _ _ _
  refine wpAny_bind (wpAny_bind (I.type.here ((PySem.W.looks_findIn X at_).here ?_)))
  rw [if_neg (by simp)]
  refine wpAny_bind (m := callSpecialUnlessNone? (.ref c) "__contains__" [x] _) ?_
  unfold callSpecialUnlessNone?
  refine wpAny_bind (wpAny_bind (I.type.here ((PySem.W.looks_findIn X at_).here ?_)))
  refine wpAny_holding (wpAny_bind ((PySem.W.bind_fn X _ hf).here ?_))
  show wpAny _ A (if (Value.ref f == Value.none) = true then _ else _) _ _ _
  rw [if_neg (by simp)]
  refine wpAny_bind (wpAny_mono h (fun v s' hv => ?_) fun _ _ e => e)
  cases v <;> first | exact hv.elim | skip
  exact wpAny_pure (wpAny_truthy_bool hv)
theorem len_body {Q : Value → Shared → Prop} (X : K.In s.heap) (I : PySem.W.InstAt s.heap c ox C od) (at_ : PySem.W.findIn K (.ref C) "__len__" = some (some (.ref f))) (fn : PySem.W.isFn K (.ref f) = true)
    (h : wpAny (model prog w) A (call (.ref f) [.ref c]) (PySem.W.LenBack Q) E s) : wpAny (model prog w) A (Builtin.«len» ⟨[.ref c], []⟩) (fun fin s' => ∃ r, fin = .done (.ret r) ∧ Q r s') E s := by
  unfold Builtin.«len»
  refine wpAny_bind (m := oneArg "len" _) (wpAny_pure ?_)
  refine wpAny_bind (m := callSpecial? (.ref c) (Str.ofString "__len__")) (PySem.W.special_fn X I at_ (beq_iff_eq.mp fn) (wpAny_mono h (fun v t hv => ?_) fun _ _ e => e))
  cases v <;> first | exact hv.elim | skip
  obtain ⟨⟨n0, n1⟩, q⟩ := hv
  refine wpAny_bind (wpAny_holding (wpAny_pure ?_)); refine wpAny_bind (wpAny_letGo ?_)
  rename_i n u
  show wpAny _ _ (if n < 0 then _ else _) _ _ _; rw [if_neg (by omega)]
  show wpAny _ _ (if n ≥ 2 ^ 63 then _ else _) _ _ _; rw [if_neg (by omega)]
  exact wpAny_bind (wpAny_mkInt (wpAny_pure ⟨_, rfl, q⟩))
theorem call_lenI {Q : Value → Shared → Prop} (X : K.In s.heap) (I : PySem.W.InstAt s.heap c ox C od) (at_ : PySem.W.findIn K (.ref C) "__len__" = some (some (.ref f))) (fn : PySem.W.isFn K (.ref f) = true)
    (h : wpAny (model prog w) A.in1 (call (.ref f) [.ref c]) (PySem.W.LenBack Q) E s) : wpAny (model prog w) A (call (.builtin "len") [.ref c]) Q E s := by
  refine Calls.call_function_entry kind_len plain_len entry_len (args_len1 _) (wpAny_mono (len_body X I at_ fn h) (fun r t z => ?_) fun _ _ e => e)
  obtain ⟨v, rfl, q⟩ := z
  first | exact ⟨_, rfl, q⟩ | exact q
theorem truthy_len {Q : Bool → Shared → Prop} (X : K.In s.heap) (I : PySem.W.InstAt s.heap c ox C od) (no : PySem.W.findIn K (.ref C) "__bool__" = some none) (at_ : PySem.W.findIn K (.ref C) "__len__" = some (some (.ref f))) (fn : PySem.W.isFn K (.ref f) = true)
    (h : wpAny (model prog w) A.in1 (call (.ref f) [.ref c]) (PySem.W.LenBack fun v t => ∃ n u, v = .int n u ∧ Q (n != 0) t) E s) : wpAny (model prog w) A (truthy (.ref c)) Q E s := by
  have key : wpAny (model prog w) A (runValue (.builtin "len" ⟨[.ref c], []⟩)) (fun v t => ∃ n u, v = .int n u ∧ Q (n != 0) t) E s := by
    refine wpAny_runValue (codeAny_builtin entry_len ?_)
    rw [Around.under_plainId plain_len _]
    exact wpAny_mono (len_body X I at_ fn h) (fun r t z => by obtain ⟨v, rfl, q⟩ := z; exact q) fun _ _ e => e
  unfold truthy
  refine wpAny_bind (m := callSpecial? (.ref c) (Str.ofString "__bool__")) (wpAny_bind (wpAny_bind (I.type.here ((PySem.W.looks_findIn X no).here (wpAny_pure ?_)))))
  refine wpAny_bind (wpAny_bind (I.type.here ((PySem.W.looks_findIn X at_).here ?_)))
  refine wpAny_bind (wpAny_mono key (fun v t z => ?_) fun _ _ e => e)
  obtain ⟨n, u, rfl, q⟩ := z
  exact wpAny_pure q
/-- x != y by object.__ne__, which asks x.__eq__(y) -/
theorem ne_body {y : Value} {Q : Fin → Shared → Prop} (hu : A.units < cLine) (X : K.In s.heap) (I : PySem.W.InstAt s.heap c ox C od) (at_ : PySem.W.findIn K (.ref C) "__eq__" = some (some (.ref f))) (fn : PySem.W.isFn K (.ref f) = true)
    (h : wpAny (model prog w) A (call (.ref f) [.ref c, y]) (PySem.W.BoolBack fun b t => Q (.done (.ret (.bool (!b)))) t) E s) : wpAny (model prog w) A (Builtin.«object.__ne__» ⟨[.ref c, y], []⟩) Q E s := by
  unfold Builtin.«object.__ne__»
  repeat (first
    | with_reducible refine wpAny_cRoomFor hu ?_
    | (refine wpAny_bind (m := callSpecialIfBound? (.ref c) (Str.ofString "__eq__") [y]) (PySem.W.ifBound_K X I at_ fn (wpAny_mono h (fun v t z => by
        cases v <;> first | exact z.elim | skip
        repeat (first | exact z | exact wpAny_pure z | exact wpAny_truthy_bool z | (refine wpAny_bind (m := truthy (.bool _)) (wpAny_truthy_bool ?_)) | wp_step)) fun _ _ e => e)))
    | wp_step)
theorem call_ne {y : Value} {Q : Value → Shared → Prop} (hu : A.units + 1 < cLine) (X : K.In s.heap) (I : PySem.W.InstAt s.heap c ox C od) (hm : PySem.W.mroIn K C (.type "object") = some true) (at_ : PySem.W.findIn K (.ref C) "__eq__" = some (some (.ref f))) (fn : PySem.W.isFn K (.ref f) = true)
    (h : wpAny (model prog w) A.in1 (call (.ref f) [.ref c, y]) (PySem.W.BoolBack fun b t => Q (.bool (!b)) t) E s) : wpAny (model prog w) A (call (.builtin "object.__ne__") [.ref c, y]) Q E s :=
  wpAny_call (codeAny_call_builtin F.cmp_object.ne.plain F.cmpEntry_ne (PySem.W.check_slot F.cmpKind_ne F.cmpSplit_ne (I.type.andThen (PySem.W.looks_mroIn X hm)) (F.cmpArgs_ne _ _) (ne_body (A := A.in1) hu X I at_ fn h)))
theorem ifBound_ne {y : Value} {Q : Option Value → Shared → Prop} (X : K.In s.heap) (I : PySem.W.InstAt s.heap c ox C od) (ne : PySem.W.findIn K (.ref C) "__ne__" = some (some (.builtin "object.__ne__")))
    (h : wpAny (model prog w) A (call (.builtin "object.__ne__") [.ref c, y]) (fun v => Q (some v)) E s) : wpAny (model prog w) A (callSpecialIfBound? (.ref c) "__ne__" [y]) Q E s := by
  simp only [callSpecialIfBound?, bindSpecialIfBound?]
  refine wpAny_holding (wpAny_bind (wpAny_bind (wpAny_bind (I.type.here ((PySem.W.looks_findIn X ne).here ?_)))))
  refine wpAny_bind (wpAny_askSetting (wpAny_ite ?_))
  have last : wpAny (model prog w) A (call (.builtin "object.__ne__") ([.ref c] ++ [y]) >>= fun v => pure (some v)) Q E s := wpAny_bind (wpAny_mono h (fun v t z => wpAny_pure z) fun _ _ z => z)
  split
  · exact wpAny_bind (wpAny_of_eq (F.cmp_object.ne.bind _) (wpAny_pure (by exact last)))
  · exact wpAny_tryCatch (wpAny_bind (wpAny_of_eq (F.cmp_object.ne.bind _) (wpAny_pure (by exact last))))
theorem compare_ne {y : Value} {ty : Value} {Q : Value → Shared → Prop} (hu : A.units + 1 < cLine) (X : K.In s.heap) (I : PySem.W.InstAt s.heap c ox C od) (hb : PySem.W.Looks (model prog w) s.heap (typeOf y) ty) (nf : PySem.W.notFirst K C ty = true) (hm : PySem.W.mroIn K C (.type "object") = some true)
    (ne : PySem.W.findIn K (.ref C) "__ne__" = some (some (.builtin "object.__ne__"))) (at_ : PySem.W.findIn K (.ref C) "__eq__" = some (some (.ref f))) (fn : PySem.W.isFn K (.ref f) = true)
    (h : wpAny (model prog w) A.in1 (call (.ref f) [.ref c, y]) (PySem.W.BoolBack fun b t => Q (.bool (!b)) t) E s) : wpAny (model prog w) A (compareOp .NotEq (.ref c) y) Q E s := by
  refine PySem.W.cmp_ofNotEq ?_
  have one : wpAny (model prog w) A (tryCompare (.ref c) "__ne__" y) (fun r t => ∃ v, r = some v ∧ Q v t) E s := by
    unfold tryCompare
    refine wpAny_bind (ifBound_ne X I ne (call_ne hu X I hm at_ fn (wpAny_mono h (fun v t z => ?_) fun _ _ e => e)))
    cases v <;> first | exact z.elim | skip
    exact wpAny_pure ⟨_, rfl, z⟩
  unfold richCompare
  simp only [oneThing_ref, cmpInfo_NotEq]
  refine wpAny_holding (wpAny_bind (wpAny_cRoomFor (Nat.lt_of_succ_lt hu) ?_))
  refine wpAny_bind (I.type.here (wpAny_bind (hb.here ?_)))
  split
  · rename_i q
    have e : PySem.W.subIn K ty (.ref C) = some false := by
      rcases Bool.or_eq_true_iff.mp nf with e | e
      · rw [beq_iff_eq.mp e] at q; simp at q
      · exact beq_iff_eq.mp e
    refine wpAny_bind ((PySem.W.looks_subIn X e).here ?_)
    simp only [Bool.false_eq_true, if_false]
    refine wpAny_bind (wpAny_mono one (fun r t z => ?_) fun _ _ e => e)
    obtain ⟨v, rfl, hq⟩ := z
    exact wpAny_pure hq
  · refine wpAny_bind (wpAny_pure ?_)
    simp only [Bool.false_eq_true, if_false]
    refine wpAny_bind (wpAny_mono one (fun r t z => ?_) fun _ _ e => e)
    obtain ⟨v, rfl, hq⟩ := z
    exact wpAny_pure hq
end
end Z
/-! the same over the layer: an operator of a class asks the promise of its def -/
namespace Z
open PySem PySem.Spec PyProof.Rows L2 Evl
section
variable {X : Cx} {k : Nat} {C f : Addr} {fd : FuncData} {ps : List Str} {sp : Sp}
theorem run_in1 {pins : List (Addr × Obj)} {σ : L2.St} {H : Hp} {s : Shared} {Q : VK} {us : List Value} {vs : List V} (F : FnOk X.prog X.w X.K X.mg X.base CX0 k f fd ps sp) (hr : Room (k + 1) X.A) (hb : Binds X.K fd ps []) (I : Inv X pins σ H s) (r : Vals vs us) (h : sp vs H Q E0) :
    wpAny (model X.prog X.w) X.A.in1 (call (.ref f) us) (EP X pins σ Q) X.xe s := by
  have hl : (us ++ []).length = ps.length := by
    rw [List.append_nil, ← r.length]
    exact F.len _ _ _ _ h
  have b := hb s us I.kIn hl
  rw [List.append_nil] at b
  refine wpAny_call (codeAny_mono (F.run X.A.in1 X.stack s H ⟨us, []⟩ us vs Q E0 hr.in1 I.env0.in1 b r h) fun r s' hq => ?_)
  cases r with
  | error e => exact hq.elim
  | ok fl =>
    cases fl with
    | ret u => exact I.after hq
    | next => exact hq.elim
    | brk => exact hq.elim
    | cont => exact hq.elim
theorem run_at {pins : List (Addr × Obj)} {σ : L2.St} {H : Hp} {s : Shared} {Q : VK} {us : List Value} {vs : List V} (F : FnOk X.prog X.w X.K X.mg X.base CX0 k f fd ps sp) (hr : Room k X.A) (hb : Binds X.K fd ps []) (I : Inv X pins σ H s) (r : Vals vs us) (h : sp vs H Q E0) :
    wpAny (model X.prog X.w) X.A (call (.ref f) us) (EP X pins σ Q) X.xe s := run_fn F hr hb .nil pass0 I r (by rw [List.append_nil]; exact h)
theorem ins_look {pins : List (Addr × Obj)} {σ : L2.St} {H : Hp} {s : Shared} {a dx : Addr} {fs : List (Str × V)} (I : Inv X pins σ H s) (e : H a = some (.ins C dx fs)) : ∃ od, PySem.W.InstAt s.heap a (PySem.W.instObj C dx) C (some od) := by
  obtain ⟨mA, O, _⟩ := ins_get I.hok e
  obtain ⟨od, J, _⟩ := O.look
  exact ⟨od, J⟩
theorem relv_ne {v : V} {u : Value} (r : RelV v u) : u ≠ .notImplemented := fun z => by
  subst z
  cases v <;> first | (obtain ⟨t, q⟩ := r; cases q) | cases r
/-- len(o) -/
def rLenO (C : Addr) (sp : Sp) : List V → Hp → VK → Prop := fun vs H Q => ∃ a dx fs, vs = [.ref a] ∧ H a = some (.ins C dx fs) ∧ sp [.ref a] H (fun v H' => ∃ n : Nat, v = .int (n : Nat) ∧ n < 2 ^ 62 ∧ Q (.int (n : Nat)) H') E0
theorem cr_lenO (hm : Meth X.K C "__len__" f) (F : FnOk X.prog X.w X.K X.mg X.base CX0 k f fd ps sp) (hr : Room (k + 1) X.A) (hb : Binds X.K fd ps []) : CallR X (.builtin "len") (rLenO C sp) := by
  intro pins s σ H vs us Q I r h
  obtain ⟨a, dx, fs, rfl, ha, q⟩ := h
  rw [Vals.ref1 r]
  obtain ⟨od, J⟩ := ins_look I ha
  refine call_lenI I.kIn J hm.at_ hm.fn (wpAny_mono (run_in1 (vs := [.ref a]) F hr hb I (.cons rfl .nil) q) (fun u s1 z => ?_) fun _ _ e => e)
  obtain ⟨v, H1, I1, rv, n, rfl, hn, q1⟩ := z
  obtain ⟨t, rfl⟩ := (show ∃ t, u = Value.int (n : Nat) t from rv)
  exact ⟨⟨by omega, by omega⟩, .int (n : Nat), H1, I1.tok _, ⟨_, rfl⟩, q1⟩
/-- the truth of o, by its len -/
def rTruO (C : Addr) (sp : Sp) : V → Hp → (Bool → Hp → Prop) → Prop := fun x H Q => ∃ a dx fs, x = .ref a ∧ H a = some (.ins C dx fs) ∧ sp [.ref a] H (fun v H' => ∃ n : Nat, v = .int (n : Nat) ∧ n < 2 ^ 62 ∧ Q (n != 0) H') E0
theorem truthyO {pins : List (Addr × Obj)} {σ : L2.St} {H : Hp} {s : Shared} {x : V} {u : Value} {Q : Bool → Hp → Prop} (no : NoAttr X.K C "__bool__") (hm : Meth X.K C "__len__" f) (F : FnOk X.prog X.w X.K X.mg X.base CX0 k f fd ps sp) (hr : Room (k + 1) X.A) (hb : Binds X.K fd ps [])
    (I : Inv X pins σ H s) (rx : RelV x u) (h : rTruO C sp x H Q) : wpAny (model X.prog X.w) X.A (truthy u) (TP X pins σ Q) X.xe s := by
  obtain ⟨a, dx, fs, rfl, ha, q⟩ := h
  cases rx
  obtain ⟨od, J⟩ := ins_look I ha
  refine truthy_len I.kIn J no hm.at_ hm.fn (wpAny_mono (run_in1 (vs := [.ref a]) F hr hb I (.cons rfl .nil) q) (fun u s1 z => ?_) fun _ _ e => e)
  obtain ⟨v, H1, I1, rv, n, rfl, hn, q1⟩ := z
  obtain ⟨t, rfl⟩ := (show ∃ t, u = Value.int (n : Nat) t from rv)
  refine ⟨⟨by omega, by omega⟩, _, _, rfl, H1, I1.tok _, ?_⟩
  have e : ((n : Int) != 0) = (n != 0) := by
    by_cases c : n = 0
    · subst c; rfl
    · have c' : (n : Int) ≠ 0 := by omega
      rw [bne_iff_ne.mpr c', bne_iff_ne.mpr c]
  rw [e]
  exact q1
/-- x in o -/
def rInO (C : Addr) (sp : Sp) (neg : Bool) : R2 := fun x y H Q => ∃ a dx fs, y = .ref a ∧ H a = some (.ins C dx fs) ∧ sp [.ref a, x] H (fun v H' => ∃ b, v = .bl b ∧ Q (.bl (if neg then !b else b)) H') E0
theorem op_inO (hm : Meth X.K C "__contains__" f) (F : FnOk X.prog X.w X.K X.mg X.base CX0 k f fd ps sp) (hr : Room k X.A) (hb : Binds X.K fd ps []) : OpR X (compareOp .In) (rInO C sp false) := by
  intro pins s σ H x y v u Q I rx ry h
  obtain ⟨a, dx, fs, rfl, ha, q⟩ := h
  cases ry
  obtain ⟨od, J⟩ := ins_look I ha
  show wpAny _ _ (contains (.ref a) v >>= fun b => pure (Value.bool b)) _ _ _
  refine wpAny_bind (contains_own I.kIn J hm.at_ hm.fn (wpAny_mono (run_at (vs := [.ref a, x]) F hr hb I (.cons rfl (.cons rx .nil)) q) (fun u s1 z => ?_) fun _ _ e => e))
  obtain ⟨v, H1, I1, rv, b, rfl, q1⟩ := z
  cases (show u = Value.bool b from rv)
  exact wpAny_pure ⟨.bl b, H1, I1, rfl, q1⟩
/-- o | p -/
def rBinO (C : Addr) (sp : Sp) : R2 := fun x y H Q => ∃ a dx fs b dy gs, x = .ref a ∧ y = .ref b ∧ H a = some (.ins C dx fs) ∧ H b = some (.ins C dy gs) ∧ sp [.ref a, .ref b] H Q E0
theorem op_binO {op : Operator} (sf : PySem.W.selfFirst X.K C = true) (hm : Meth X.K C (PySem.dunder op.info.2) f) (F : FnOk X.prog X.w X.K X.mg X.base CX0 k f fd ps sp) (hr : Room k X.A) (hb : Binds X.K fd ps []) : OpR X (binaryOp op) (rBinO C sp) := by
  intro pins s σ H x y v u Q I rx ry h
  obtain ⟨a, dx, fs, b, dy, gs, rfl, rfl, ha, hb2, q⟩ := h
  cases rx; cases ry
  obtain ⟨od, J⟩ := ins_look I ha
  obtain ⟨oe, J2⟩ := ins_look I hb2
  obtain ⟨m, fr⟩ := I.fr
  refine PySem.W.binop_K fr I.ok.mod.kin J J2.type sf hm.at_ hm.fn (wpAny_mono (run_at (vs := [.ref a, .ref b]) F hr hb I (.cons rfl (.cons rfl .nil)) q) (fun u s1 z => ?_) fun _ _ e => e)
  obtain ⟨v, H1, I1, rv, q1⟩ := z
  have hn := relv_ne rv
  cases u <;> first | exact ⟨v, H1, I1, rv, q1⟩ | exact (hn rfl).elim
/-- the type of data -/
theorem looks_data {pins : List (Addr × Obj)} {σ : L2.St} {H : Hp} {s : Shared} {v : V} {u : Value} {d : PyData} {M : Model} (I : Inv X pins σ H s) (h : Dq X.K H v d) (r : RelV v u) : PySem.W.Looks M s.heap (typeOf u) (.type (tyD d)) := by
  cases h with
  | non => cases (show u = Value.none from r); exact .of_pure rfl
  | bl b => cases (show u = Value.bool b from r); exact .of_pure rfl
  | int i => obtain ⟨t, rfl⟩ := (show ∃ t, u = Value.int i t from r); exact .of_pure rfl
  | str x => obtain ⟨t, rfl⟩ := (show ∃ t, u = Value.str x t from r); exact .of_pure rfl
  | lst h hs =>
    cases (show u = Value.ref _ from r)
    obtain ⟨its, rv, pl, hz⟩ := I.list (sq_of (K := X.K) h)
    obtain ⟨o, ho, hc, _⟩ := pl.isList
    exact fun A Q E s' k q => wpAny_typeOf (T := "list") ⟨o, k _ _ ho, hc⟩ q
  | tup h hs =>
    cases (show u = Value.ref _ from r)
    obtain ⟨its, rv, pt, hz⟩ := I.tuple h
    obtain ⟨o, ho, hc, _⟩ := pt
    exact fun A Q E s' k q => wpAny_typeOf (T := "tuple") ⟨o, k _ _ ho, hc⟩ q
  | @dic a h =>
    cases (show u = Value.ref _ from r)
    obtain ⟨_, _, vs, _, o, es, ep, h1, h2, _⟩ := (show ObjOk X.prog X.w H s.heap a (.dK []) from I.hok _ _ h)
    exact fun A Q E s' k q => wpAny_typeOf (T := "dict") ⟨o, k _ _ h1, h2.1⟩ q
def tysD : List String := ["NoneType", "bool", "int", "str", "list", "tuple", "dict"]
theorem tyD_mem {K : PySem.W.Frag} {H : Hp} {v : V} {d : PyData} (h : Dq K H v d) : tyD d ∈ tysD := by
  cases h <;> simp [tysD, tyD]
theorem notFirst_data {K : PySem.W.Frag} {T : String} (h : T ∈ tysD) : PySem.W.notFirst K C (.type T) = true := by
  have e : ∀ T ∈ tysD, ∃ l, PySem.fastBuiltinMro T = some l ∧ l.all (fun v => match v with | .type _ => true | _ => false) = true := by
    unfold tysD
    intro T hT
    simp only [List.mem_cons, List.not_mem_nil, or_false] at hT
    rcases hT with rfl | rfl | rfl | rfl | rfl | rfl | rfl
    · exact ⟨[.type "NoneType", .type "object"], by decide +kernel, rfl⟩
    · exact ⟨[.type "bool", .type "int", .type "object"], by decide +kernel, rfl⟩
    · exact ⟨[.type "int", .type "object"], by decide +kernel, rfl⟩
    · exact ⟨[.type "str", .type "object"], by decide +kernel, rfl⟩
    · exact ⟨[.type "list", .type "object"], by decide +kernel, rfl⟩
    · exact ⟨[.type "tuple", .type "object"], by decide +kernel, rfl⟩
    · exact ⟨[.type "dict", .type "object"], by decide +kernel, rfl⟩
  obtain ⟨l, e1, e2⟩ := e T h
  have e3 : PySem.W.subIn K (.type T) (.ref C) = some false := by
    show (PySem.fastBuiltinMro T).map (·.contains (.ref C)) = some false
    rw [e1]
    show some (l.contains (.ref C)) = some false
    congr 1
    rw [← Bool.not_eq_true, List.contains_iff_mem]
    intro z
    have := List.all_eq_true.mp e2 _ z
    cases this
  unfold PySem.W.notFirst
  rw [e3]
  simp
/-- o == y, o != y -/
def rEqO (C : Addr) (K : PySem.W.Frag) (sp : Sp) (neg : Bool) : R2 := fun x y H Q => ∃ a dx fs, x = .ref a ∧ H a = some (.ins C dx fs) ∧ ((∃ b dy gs, y = .ref b ∧ H b = some (.ins C dy gs)) ∨ ∃ d, Dq K H y d) ∧ sp [.ref a, y] H (fun v H' => ∃ b, v = .bl b ∧ Q (.bl (if neg then !b else b)) H') E0
theorem other_ok {pins : List (Addr × Obj)} {σ : L2.St} {H : Hp} {s : Shared} {y : V} {u : Value} {M : Model} (I : Inv X pins σ H s) (ry : RelV y u) (h : (∃ b dy gs, y = .ref b ∧ H b = some (.ins C dy gs)) ∨ ∃ d, Dq X.K H y d) : ∃ ty, PySem.W.Looks M s.heap (typeOf u) ty ∧ PySem.W.notFirst X.K C ty = true := by
  rcases h with ⟨b, dy, gs, rfl, hb⟩ | ⟨d, hd⟩
  · cases ry
    obtain ⟨oe, J⟩ := ins_look I hb
    exact ⟨.ref C, J.type, by unfold PySem.W.notFirst; simp⟩
  · exact ⟨_, looks_data I hd ry, notFirst_data (tyD_mem hd)⟩
theorem op_eqO (hm : Meth X.K C "__eq__" f) (F : FnOk X.prog X.w X.K X.mg X.base CX0 k f fd ps sp) (hr : Room k X.A) (hb : Binds X.K fd ps []) : OpR X (compareOp .Eq) (rEqO C X.K sp false) := by
  intro pins s σ H x y v u Q I rx ry h
  obtain ⟨a, dx, fs, rfl, ha, hy, q⟩ := h
  cases rx
  obtain ⟨od, J⟩ := ins_look I ha
  obtain ⟨ty, lk, nf⟩ := other_ok (M := model X.prog X.w) I ry hy
  obtain ⟨m, fr⟩ := I.fr
  refine PySem.W.cmp_ofEq (PySem.W.cmp_K (Nat.lt_of_le_of_lt (Nat.le_add_right _ _) hr.units) fr I.ok.mod.kin J lk nf hm.at_ hm.fn (wpAny_mono (run_at (vs := [.ref a, y]) F hr hb I (.cons rfl (.cons ry .nil)) q) (fun u s1 z => ?_) fun _ _ e => e))
  obtain ⟨v, H1, I1, rv, b, rfl, q1⟩ := z
  cases (show u = Value.bool b from rv)
  exact ⟨.bl b, H1, I1, rfl, q1⟩
theorem op_neO (hm : Meth X.K C "__eq__" f) (ne : PySem.W.findIn X.K (.ref C) "__ne__" = some (some (.builtin "object.__ne__"))) (ob : PySem.W.mroIn X.K C (.type "object") = some true) (F : FnOk X.prog X.w X.K X.mg X.base CX0 k f fd ps sp) (hr : Room (k + 1) X.A) (hb : Binds X.K fd ps []) : OpR X (compareOp .NotEq) (rEqO C X.K sp true) := by
  intro pins s σ H x y v u Q I rx ry h
  obtain ⟨a, dx, fs, rfl, ha, hy, q⟩ := h
  cases rx
  obtain ⟨od, J⟩ := ins_look I ha
  obtain ⟨ty, lk, nf⟩ := other_ok (M := model X.prog X.w) I ry hy
  refine compare_ne (Nat.lt_of_le_of_lt (Nat.add_le_add_left (by decide : 1 ≤ 64) _) hr.units) I.kIn J lk nf ob ne hm.at_ hm.fn (wpAny_mono (run_in1 (vs := [.ref a, y]) F hr hb I (.cons rfl (.cons ry .nil)) q) (fun u s1 z => ?_) fun _ _ e => e)
  obtain ⟨v, H1, I1, rv, b, rfl, q1⟩ := z
  cases (show u = Value.bool b from rv)
  exact ⟨.bl (!b), H1, I1, rfl, q1⟩
end
end Z
/-! what laws do: draws from the pool, rows put together -/
namespace Z
open PySem PySem.Spec PyProof.Rows L2 Evl
section
variable {K : PySem.W.Frag} {p : Me} {σ : L2.St} {H H' A A' : Hp} {te ta tb tc tl ti : TE} {tt : TT} {tu tz : TS} {D : Ends} {d dx dy dz : PyData} {ds es : List PyData}
theorem take_ev {i : Nat} {q : Addr} {own : Hp} {m : Int} (hs : σ[i]? = some (some (.ref q))) (hm : 0 < m) (hm2 : m < 1073741824) :
    EvG ⟨some q, own⟩ (tCall (takeS K) [] E0 (tCons (tVar i) (tCons (tC (.int m)) tNil))) σ H fun v _ => ∃ r : Int, v = .int r ∧ 0 ≤ r ∧ r < m := fun A R Q k =>
  ⟨.ref q, hs, H, q, own, m, rfl, R, hm, hm2, fun r A' H' g h0 h1 => k _ A' H' g ⟨r, rfl, h0, h1⟩⟩
/-- x, q = e, [] -/
theorem q_tupNew {a b : Nat} {e1 : TE} {P : V → Prop} (h1 : EvG p e1 σ H fun v _ => P v) (R : Reg p H A)
    (k : ∀ v q A' H', P v → Gr p A H A' H' → H' q = none → Reg ⟨p.pool, upd p.own q (.lst [])⟩ H' A' → tz D ((σ.set a (some v)).set b (some (.ref q))) A') :
    tSeq (tAsg (tTup (tCons e1 (tCons (tLst tNil) tNil))) (gTup K 2 (gCons (gName a) (gCons (gName b) gNil)))) tz D σ A :=
  h1 A R _ fun v A1 H1 g1 k1 => ⟨sz_of (by show 0 ≤ 100000; decide), fun l hn => ⟨sz_of (by show 2 ≤ 100000; decide), fun T hT => by
    have R1 := g1.to R
    have g2 := Gr.allocM R1 (o := .lst []) hn
    have R2 := g2.to R1
    have hnp : p.pool ≠ some l := fun z => by
      obtain ⟨a, b, e, _⟩ := R1.pool l z
      rw [hn] at e; cases e
    have hnH : H1 l = none := fresh_back R1.ex hn
    have g3 := Gr.allocM R2 (o := .tup [v, .ref l]) hT
    have r3 := (g3.to R2).put (o := .lst []) hnp hnH
    have hl3 : upd (upd A1 l (.lst [])) T (.tup [v, .ref l]) l = some (.lst []) := by
      have c : l ≠ T := fun z => by rw [← z, upd_same] at hT; cases hT
      rw [upd_ne c, upd_same]
    rw [upd_id hl3] at r3
    exact gtup2 upd_same (k v l _ H1 k1 ((g1.trans g2).trans g3) hnH r3)⟩⟩
/-- what was one's own is known from here on; nothing changes any more -/
theorem Reg.settle {q : Addr} {o : HO} (R : Reg p H A) (h : p.own q = some o) : Reg .non (upd H q o) A := by
  have e := R.own q o h
  refine ⟨fun x y hx => ?_, (fun q h => nomatch h), (fun q h => nomatch h), (fun q o h => nomatch h), (fun q o h => nomatch h)⟩
  by_cases c : x = q
  · subst c
    rw [upd_same] at hx
    rw [e]; exact hx
  · rw [upd_ne c] at hx
    exact R.ex x y hx
theorem dqall_ints {G : Hp} : ∀ r : List Int, DqAll K G (r.map V.int) (r.map .int)
  | [] => .nil
  | c :: r => .cons (.int c) (dqall_ints r)
/-- [te for j in range(n)], te some int of which Pc holds -/
theorem lcR_any {j : Nat} {vs : List Nat} {ta : TA} {n : Int} {Pc : Int → Prop} (h : EvS K p ta σ H [.int n]) (h0 : 0 ≤ n) (hz : n ≤ 60000) (hw : ∀ x, wipe ((wipe σ vs).set j (some x)) vs = wipe σ vs)
    (he : ∀ (i : Nat) H1, Ex H H1 → EvG p te ((wipe σ vs).set j (some (.int i))) H1 fun v _ => ∃ c : Int, v = .int c ∧ Pc c) :
    EvG p (tLc (iRng1 ta) (gName j) tYes te vs) σ H fun v H' => ∃ r : List Int, (r.length : Int) = n ∧ (∀ c ∈ r, Pc c) ∧ Dq K H' v (.list (r.map .int)) := fun A R Q q => h A R _ fun us A1 H1 g1 k1 => by
  cases k1 with | cons c1 c2 =>
  cases c2
  cases c1
  have R1 := g1.to R
  refine ⟨_, rfl, by omega, by omega, fun Dl hD => ?_⟩
  have nh : H1 Dl = none := fresh_back R1.ex hD
  have np : p.pool ≠ some Dl := fun z => by
    obtain ⟨a, b, h, _⟩ := R1.pool Dl z
    rw [hD] at h
    cases h
  refine lc_it (walk_range (lo := 0) (n := n.toNat)) (fun i A' => ∃ (H' : Hp) (r : List Int), Gr p A1 H1 A' H' ∧ H' Dl = none ∧ A' Dl = some (.lst (r.map V.int)) ∧ r.length = i ∧ ∀ c ∈ r, Pc c) ⟨H1, [], Gr.allocM R1 hD, nh, upd_same, rfl, (fun c h => nomatch h)⟩ (fun i A' _ _ => trivial) ?_ ?_
  · rintro i x A' A2 hi ⟨H', r, g2, m2, e2, l2, p2⟩ ⟨rfl, rfl⟩
    have e0 : (0 : Int) + (i : Int) = (i : Int) := Int.zero_add _
    refine ⟨hw _, ?_⟩
    dsimp only
    rw [e0]
    have R2 := g2.to R1
    show te _ A2 fun y A5 => _
    refine he i H' (g1.reg.trans g2.reg) A2 R2 _ fun z A5 H5 g5 ⟨c, hc, pc⟩ => ?_
    subst hc
    have new5 : H5 Dl = none := by
      cases q : H5 Dl with
      | none => rfl
      | some o =>
        have := g5.new Dl _ o e2 q
        rw [m2] at this
        cases this
    refine ⟨r.map V.int, g5.act Dl _ np e2, sz_lt (by rw [List.length_map]; omega), H5, r ++ [c], ?_, new5, ?_, by rw [List.length_append, l2]; rfl, fun b hb => ?_⟩
    · exact Gr.mut (g2.trans g5) hD new5 np
    · rw [upd_same, List.map_append]; rfl
    · rcases List.mem_append.mp hb with hb | hb
      · exact p2 b hb
      · have : b = c := by simpa using hb
        rw [this]; exact pc
  · rintro A' ⟨H', r, g2, m2, e2, l2, p2⟩
    have g3 := g2.know hD m2 e2
    exact q _ _ _ (g1.trans g3) ⟨r, by omega, p2, Dq.lst upd_same (dqall_ints r)⟩
theorem c_max2 {i j : Int} : CaD K p (fun xs H Q => ∃ i j, xs = [.int i, .int j] ∧ Q (.int (if j > i then j else i)) H) [.int i, .int j] (.int (if j > i then j else i)) := fun vs H A h R Q q => by
  obtain ⟨v, w, rfl, k1, k2⟩ := dqall_two h
  cases k1; cases k2
  exact ⟨i, j, rfl, q _ A H R.refl (.int _)⟩
theorem c_min2 {i j : Int} : CaD K p (fun xs H Q => ∃ i j, xs = [.int i, .int j] ∧ Q (.int (if j < i then j else i)) H) [.int i, .int j] (.int (if j < i then j else i)) := fun vs H A h R Q q => by
  obtain ⟨v, w, rfl, k1, k2⟩ := dqall_two h
  cases k1; cases k2
  exact ⟨i, j, rfl, q _ A H R.refl (.int _)⟩
theorem s_appOwnG {i : Nat} {q : Addr} {xs : List V} {P : V → Hp → Prop} (hs : σ[i]? = some (some (.ref q))) (ho : p.own q = some (.lst xs)) (h : EvG p te σ H P) (hz : xs.length < 100000) (R : Reg p H A)
    (k : ∀ v A' H', Gr p A H A' H' → P v H' → Reg ⟨p.pool, upd p.own q (.lst (xs ++ [v]))⟩ H' (upd A' q (.lst (xs ++ [v]))) → D.nx σ (upd A' q (.lst (xs ++ [v])))) : tDrop (tBM K "list" rAppend (tVar i) (tCons te tNil)) D σ A :=
  ⟨.ref q, hs, .inl ⟨rfl, xs, sq_of (R.own _ _ ho)⟩, h A R _ fun v A1 H1 g1 k1 => by
    have R1 := g1.to R
    exact ⟨q, xs, v, rfl, rfl, R1.own _ _ ho, sz_lt hz, k v A1 H1 g1 k1 (R1.put (R1.offO q _ ho).2 (R1.offO q _ ho).1)⟩⟩
theorem tup_any {P : List Int → Prop} (h : EvG p te σ H fun v H' => ∃ r : List Int, P r ∧ Dq K H' v (.list (r.map .int))) :
    EvG p (tCB (fun xs H Q => ∃ q ys, xs = [.ref q] ∧ ((SqL K H q ys ∧ ∀ l, H l = none → Q (.ref l) (upd H l (.tup ys))) ∨ (SqT K H q ys ∧ Q (.ref q) H))) (tCons te tNil)) σ H fun v H' => ∃ r : List Int, P r ∧ Dq K H' v (.tuple (r.map .int)) := fun A R Q k => h A R _ fun v A1 H1 g1 ⟨r, hr, kr⟩ => by
  obtain ⟨a, xs, rfl, h1, h2⟩ := dq_inv_l kr
  have R1 := g1.to R
  exact ⟨a, xs, rfl, .inl ⟨sq_of (R1.ex _ _ h1), fun l hl => by
    have g := Gr.alloc R1 (o := .tup xs) hl
    exact k _ _ _ (g1.trans g) ⟨r, hr, .tup (st_of upd_same) (dqall_ex g.reg h2)⟩⟩⟩
/-- [e, ..][_law_take(pool, m)] -/
theorem pick_any {i : Nat} {q : Addr} {own : Hp} {m : Int} {ta : TA} {Pc : Int → Prop} (hs : σ[i]? = some (some (.ref q))) (hm : 0 < m) (hm2 : m < 1073741824) (h : EvS K ⟨some q, own⟩ ta σ H ds) (hl : ds.length ≤ 100000) (ha : ∀ r : Int, 0 ≤ r → r < m → ∃ c : Int, atI ds r = some (.int c) ∧ Pc c) :
    EvG ⟨some q, own⟩ (tOp (rIx K) (tLst ta) (tCall (takeS K) [] E0 (tCons (tVar i) (tCons (tC (.int m)) tNil)))) σ H fun v _ => ∃ c : Int, v = .int c ∧ Pc c := fun A R Q k =>
  d_lst h hl A R _ fun lv A1 H1 g1 k1 => take_ev (K := K) (H := H1) hs hm hm2 A1 (g1.to R) _ fun v A2 H2 g2 ⟨r, hr, h0, h1⟩ => by
    subst hr
    obtain ⟨c, e, pc⟩ := ha r h0 h1
    exact o_ixL e lv (.int r) H2 A2 (dq_ex g2.reg _ _ k1) (.int r) (g2.to (g1.to R)) Q fun v A' H' g k4 => k v A' H' ((g1.trans g2).trans g) ⟨c, by cases k4; rfl, pc⟩
end
end Z
/-! comprehensions over enumerate(t), loops over enumerate(l), reversed and cut lists, lists unpacked -/
namespace Z
open PySem PySem.Spec PyProof.Rows L2 Evl
section
variable {K : PySem.W.Frag} {p : Me} {σ : L2.St} {H H' A A' : Hp} {te ta tb tc tl ti : TE} {tt : TT} {tu tz : TS} {D : Ends} {d dx dy dz : PyData} {ds es : List PyData}
/-- [te for i, x in enumerate(t) if tt] -/
theorem d_lcE {a b : Nat} {vs : List Nat} {ta : TA} (f : Nat → Bool) (v : Nat → PyData) (h : EvS K p ta σ H [.tuple ds]) (hz : ds.length ≤ 60000) (hw : ∀ x y, wipe (((wipe σ vs).set a (some x)).set b (some y)) vs = wipe σ vs)
    (ht : ∀ (i : Nat) c, ds[i]? = some c → ∀ x H1, Ex H H1 → Dq K H1 x c → EvB p tt (((wipe σ vs).set a (some (.int (i : Int)))).set b (some x)) H1 (f i))
    (he : ∀ (i : Nat) c, ds[i]? = some c → ∀ x H1, Ex H H1 → Dq K H1 x c → f i = true → EvD K p te (((wipe σ vs).set a (some (.int (i : Int)))).set b (some x)) H1 (v i)) :
    EvD K p (tLc (iEnumT K ta) (gTup K 2 (gCons (gName a) (gCons (gName b) gNil))) tt te vs) σ H (.list (((List.range ds.length).filter f).map v)) := fun A R Q q => h A R _ fun us A1 H1 g1 k1 => by
  obtain ⟨u0, rfl, k1x⟩ := dqall_one k1
  obtain ⟨t, xs, rfl, sq, el⟩ := dq_inv_t k1x
  have R1 := g1.to R
  have ln := dqall_len el
  refine ⟨t, xs, rfl, ex_t R1.ex sq, fun Dl hD => lc_w (K := K) (p := p) (H1 := H1) (walk_enumT (K := K) (a := t) (xs := xs)) R1 hD (by omega) f v (fun H' A' e r => ex_t (e.trans r.ex) sq) ?_ ?_ ?_⟩
  · rintro i x A' A2 H' hi e r ⟨T, y1, y2, rfl, nT, rfl, e1, e2⟩
    cases e1
    have hi' : i < ds.length := by omega
    obtain ⟨w1, hv, kv⟩ := dqall_get el (List.getElem?_eq_getElem hi')
    cases (show xs[i]? = some y2 from e2).symm.trans hv
    have g := Gr.allocM r (o := .tup [.int (i : Int), y2]) nT
    exact gtup2 upd_same ⟨hw _ _, H', g, ht i _ (List.getElem?_eq_getElem hi') y2 H' (g1.reg.trans e) (dq_ex e _ _ kv), he i _ (List.getElem?_eq_getElem hi') y2 H' (g1.reg.trans e) (dq_ex e _ _ kv)⟩
  · rintro x σ A Q Q' hq ⟨a, zs, e1, e2, e3, z1, r1, e4, z2, r2, e5, e6, q⟩
    exact ⟨a, zs, e1, e2, e3, z1, r1, e4, z2, r2, e5, e6, hq _ _ q⟩
  · intro A' H' zs g n' e k
    rw [ln] at k
    exact done_lc R1 hD g n' e k fun v A2 H2 g2 k2 => q v A2 H2 (g1.trans g2) k2
/-- for i, x in enumerate(l) -/
theorem s_forEL {a b : Nat} {ta : TA} (h : EvS K p ta σ H [.list ds]) (R : Reg p H A) (I : Iv) (h0 : ∀ A1 H1, Gr p A H A1 H1 → I 0 σ A1 H1 p.own)
    (hs : ∀ H1, Ex H H1 → ∀ (i : Nat) d v σ' A' A2 H' w, ds[i]? = some d → I i σ' A' H' w → Ex H1 H' → Gr ⟨p.pool, w⟩ A' H' A2 H' → Reg ⟨p.pool, w⟩ H' A2 → Dq K H' v d → tu { D with nx := Nx p (I (i + 1)) H1, ct := Nx p (I (i + 1)) H1, bk := D.nx } ((σ'.set a (some (.int i))).set b (some v)) A2)
    (hd : ∀ σ' A' H' w, I ds.length σ' A' H' w → Ex H H' → Reg ⟨p.pool, w⟩ H' A' → D.nx σ' A') : tFor (iEnum K ta) (gTup K 2 (gCons (gName a) (gCons (gName b) gNil))) tu D σ A := h A R _ fun us A1 H1 g1 k1 => by
  obtain ⟨v0, rfl, k1x⟩ := dqall_one k1
  obtain ⟨t, xs, rfl, sq, el⟩ := dq_inv_l k1x
  have R1 := g1.to R
  have ln := dqall_len el
  refine ⟨t, xs, rfl, sq_of (R1.ex _ _ sq), loop_w (walk_enum (K := K) (a := t) (xs := xs)) I R1 (fun H' A' w e r => sq_of ((e.trans r.ex) _ _ sq)) (h0 A1 H1 g1) ?_ ?_⟩
  · rintro i x σ' A' A2 H' w hi hI e r ⟨T, y1, y2, rfl, nT, rfl, e1, e2⟩
    cases e1
    have hi' : i < ds.length := by omega
    obtain ⟨v, hv, kv⟩ := dqall_get el (List.getElem?_eq_getElem hi')
    cases (show xs[i]? = some y2 from e2).symm.trans hv
    have g := Gr.allocM r (o := .tup [.int (i : Int), y2]) nT
    refine gtup2 upd_same ?_
    exact hs H1 g1.reg i _ y2 σ' A' _ H' w (List.getElem?_eq_getElem hi') hI e g (g.to r) (dq_ex e _ _ kv)
  · intro σ' A' H' w hI e r
    rw [ln] at hI
    exact hd σ' A' H' w hI (g1.reg.trans e) r
theorem dqall_rev {xs : List V} : ∀ {ds : List PyData}, DqAll K H xs ds → DqAll K H xs.reverse ds.reverse := by
  intro ds h
  induction ds generalizing xs with
  | nil => cases h; exact .nil
  | cons c cs ih =>
    cases h with | cons a b =>
    rw [List.reverse_cons, List.reverse_cons]
    exact dqall_append (ih b) (.cons a .nil)
/-- l[::-1] -/
theorem d_rev (h : EvD K p te σ H (.list ds)) : EvD K p (tRevL K te) σ H (.list ds.reverse) := fun A R Q q => h A R _ fun v A1 H1 g1 k1 => by
  obtain ⟨a, xs, rfl, h1, h2⟩ := dq_inv_l k1
  have R1 := g1.to R
  refine ⟨a, xs, rfl, sq_of (R1.ex _ _ h1), fun l hl => ?_⟩
  have g := Gr.alloc R1 (o := .lst xs.reverse) hl
  exact q _ _ _ (g1.trans g) (.lst upd_same (dqall_ex g.reg (dqall_rev h2)))
theorem dqall_take {xs : List V} (n : Nat) : ∀ {ds : List PyData}, DqAll K H xs ds → DqAll K H (xs.take n) (ds.take n) := by
  intro ds h
  induction ds generalizing xs n with
  | nil => cases h; simp only [List.take_nil]; exact .nil
  | cons c cs ih =>
    cases h with | cons a b =>
    cases n with
    | zero => exact .nil
    | succ n => exact .cons a (ih n b)
theorem dqall_drop {xs : List V} (n : Nat) : ∀ {ds : List PyData}, DqAll K H xs ds → DqAll K H (xs.drop n) (ds.drop n) := by
  intro ds h
  induction ds generalizing xs n with
  | nil => cases h; simp only [List.drop_nil]; exact .nil
  | cons c cs ih =>
    cases h with | cons a b =>
    cases n with
    | zero => exact .cons a b
    | succ n => exact ih n b
def cutD (xs : List PyData) (lo hi : Option Int) : List PyData := (xs.drop (HT.sIx xs.length 0 lo)).take (HT.sIx xs.length xs.length hi - HT.sIx xs.length 0 lo)
theorem dqall_cut {xs : List V} {lo hi : Option Int} (h : DqAll K H xs ds) : DqAll K H (cutV xs lo hi) (cutD ds lo hi) := by
  unfold cutV cutD
  rw [dqall_len h]
  exact dqall_take _ (dqall_drop _ h)
/-- l[:n] -/
theorem d_cutHi {n : Int} (h : EvD K p te σ H (.list ds)) (hn : EvD K p ti σ H (.int n)) : EvD K p (tSl (rSlL K) te tNoPart (tPart ti)) σ H (.list (cutD ds none (some n))) := fun A R Q q => h A R _ fun v A1 H1 g1 k1 => by
  refine EvD.mono g1.reg hn A1 (g1.to R) _ fun u A2 H2 g2 k2 => ?_
  cases k2
  obtain ⟨a, xs, rfl, h1, h2⟩ := dq_inv_l k1
  have R2 := g2.to (g1.to R)
  refine ⟨n, rfl, a, xs, rfl, sq_of (R2.ex _ _ (g2.reg _ _ h1)), fun l hl => ?_⟩
  have g := Gr.alloc R2 (o := .lst (cutV xs none (some n))) hl
  exact q _ _ _ ((g1.trans g2).trans g) (.lst upd_same (dqall_ex (g2.reg.trans g.reg) (dqall_cut h2)))
/-- x, y = l -/
theorem q_unl2 {a b : Nat} {d1 d2 : PyData} (h : EvD K p te σ H (.list [d1, d2])) (R : Reg p H A) (k : ∀ x y A' H', Gr p A H A' H' → Dq K H' x d1 → Dq K H' y d2 → tz D ((σ.set a (some x)).set b (some y)) A') :
    tSeq (tAsg te (gUnl K 2 (gCons (gName a) (gCons (gName b) gNil)))) tz D σ A := h A R _ fun v A1 H1 g1 k1 => by
  obtain ⟨l, xs, rfl, h1, h2⟩ := dq_inv_l k1
  obtain ⟨x, y, rfl, kx, ky⟩ := dqall_two h2
  exact ⟨l, [x, y], rfl, sq_of ((g1.to R).ex _ _ h1), rfl, x, [y], rfl, y, [], rfl, rfl, k x y A1 H1 g1 kx ky⟩
/-- i in l -/
theorem o_in {i : Int} {ns : List Int} : OpD K p (rIn K false) (.int i) (.list (ns.map .int)) (.bool (decide (i ∈ ns))) := fun x y H A hx hy R Q q => by
  cases hx
  obtain ⟨a, xs, rfl, h1, h2⟩ := dq_inv_l hy
  have := dq_ints h2
  subst this
  refine ⟨a, _, rfl, .inl (sq_of (R.ex _ _ h1)), rfl, flat_ints ns, ?_⟩
  show Q (.bl (inV (.int i) (ns.map V.int))) A
  rw [inV_ints]
  exact q _ A H R.refl (.bl _)
end
end Z
/-! set(xs) and sorted(set(xs)), xs a list of numbers -/
namespace Z
open PySem PySem.Spec PyProof.Rows L2 Evl
/-- a set as it is made -/
abbrev newSet (w : World) : Obj := { cls := .type "set", dict := none, data := .set #[] 0 (.fresh 0 0 (!w.params.followText "set-order")) }
section
variable {P : Program} {w : World} {A : Around} {E : Value → Shared → Prop} {s : Shared}
theorem call_setL {l : Addr} {xs : Array Value} (ns : List Int) {Q : Value → Shared → Prop} (calm : A.handled = none) (hl : s.heap.IsList l xs) (hi : IntsAre xs.toList ns) (few : ns.length + 1 < scanBound)
    (k : ∀ (g : Heap) (tk c : Nat), SetR w g s.heap.objs.size (fun j => decide (j ∈ ns)) c → c ≤ ns.length → (∀ b o, s.heap.get? b = some o → g.get? b = some o) → Q (.ref s.heap.objs.size) { s with heap := g, toks := tk }) :
    wpAny (model P w) A (call (.type "set") [.ref l]) Q E s := by
  have size : xs.size = ns.length := by have := hi.length; rwa [Array.length_toList] at this
  obtain ⟨mc, mt, hmro⟩ := F.called_set.mro
  have f1 := F.called_set.made; have f2 := F.called_set.sub
  refine wpAny_call (codeAny_of_tree ?_); show wpAny _ _ (callAny (.type "set") _) _ _ _
  refine wpAny_pure ⟨Code.quiet_builtin _ (by decide +kernel), codeAny_builtin F.entry_type_call ?_⟩; rw [Around.under_plain (weight_type_call_type "set" [.ref l] []) rfl]
  have f3 := F.called_set.notType; have f4 := F.called_set.canCreate; have f5 := F.typeCall_set_1 (.ref l)
  repeat (any_goals (first | wp_step | assumption))
  refine codeAny_mono (code_set_led1 (.ref l) (E := E) (Q₁ := fun o t => o = .ref s.heap.objs.size ∧ t = { s with heap := s.heap.push (newSet w) }) ⟨rfl, rfl⟩) fun r t hr => ?_
  cases r with
  | error e => exact hr
  | ok fin =>
  cases fin with
  | ret o =>
    obtain ⟨rfl, rfl⟩ := hr
    have at0 : (s.heap.push (newSet w)).get? s.heap.objs.size = some (newSet w) := Heap.get?_push_size _ rfl
    have ty0 : Shared.TypeIs { s with heap := s.heap.push (newSet w) } (.ref s.heap.objs.size) "set" := ⟨_, at0, rfl⟩
    have f6 := F.called_set.init.lookup; have f7 := F.called_set.init.bind (.ref s.heap.objs.size)
    repeat (any_goals (first | wp_step | assumption))
    refine codeAny_mono (codeAny_call_builtin (R := wants (fun r t => r = .none ∧ ∃ g tk c, t = { s with heap := g, toks := tk } ∧ SetR w g s.heap.objs.size (fun j => decide (j ∈ ns)) c ∧ c ≤ ns.length ∧ (∀ b o, s.heap.get? b = some o → g.get? b = some o)) E) F.called_set.init.plain F.entry_set_init (check_set_init_1 ty0 ?_)) fun r2 t2 hr2 => ?_
    · obtain ⟨⟨oc, od, odt, osl⟩, hol, hcl, nl, hdl⟩ := hl
      simp only at hcl hdl
      subst hcl; subst hdl
      have g1 := F.sub_list_set; have g2 := F.sub_list_frozenset
      have g3 : (Value.type "list" == Value.type "dict") = false := by decide
      have list1 : (s.heap.push (newSet w)).IsList l xs := ⟨_, Heap.get?_push_of_some _ hol, rfl, nl, rfl⟩
      have ol1 : (s.heap.push (newSet w)).get? l = some { cls := .type "list", dict := od, data := .seq xs nl, slots := osl } := Heap.get?_push_of_some _ hol
      unfold Builtin.«set.__init__» noKeywords Builtin.Frozenset.updateFrom; generalize hPI : pyIter = PI
      wp_walk
      subst hPI; refine wpAny_pyIter_list list1 ?_
      refine wpAny_bind (wpAny_runValue ?_)
      have lt : l < s.heap.objs.size := Heap.lt_size hol
      have calm3 : A.in1.in1.in1.handled = none := by simp [calm]
      have psz : (s.heap.push (newSet w)).objs.size = s.heap.objs.size + 1 := Heap.size_push ..
      have ne1 : l ≠ (s.heap.push (newSet w)).objs.size := by rw [psz]; exact Nat.ne_of_lt (Nat.lt_succ_of_lt lt)
      have ne2 : s.heap.objs.size ∉ [(s.heap.push (newSet w)).objs.size, l] := by
        rw [psz]
        intro z
        rcases List.mem_cons.mp z with z | z
        · exact Nat.ne_of_lt (Nat.lt_succ_self _) z
        · exact Nat.ne_of_gt lt (List.mem_singleton.mp z)
      have vals : ∀ (i : Nat) (v : Value), xs[i]? = some v → ∃ z t, ns[i]? = some z ∧ v = .int z t := fun i v hv => by
        have il : i < ns.length := by rw [← size]; exact (Array.getElem?_eq_some_iff.mp hv).1
        obtain ⟨t, e⟩ := PyProof.Rows.IntsAre.int_at hi i v (by rw [Array.getElem?_toList]; exact hv)
        exact ⟨ns[i], t, List.getElem?_eq_getElem il, by rw [e, List.getD_eq_getElem?_getD, List.getElem?_eq_getElem il] <;> rfl⟩
      refine set_update_ints ((Walks.list calm3 _ l ne1 xs).toS) s.heap.objs.size ne2 ns size few vals (xs.size - 0) 0 _ (by omega) (Nat.zero_le _) ⟨⟨_, Heap.get?_push_size _ rfl, rfl, rfl⟩, (list1.push _)⟩ ?first ?last
      case first => exact ⟨0, Nat.le_refl 0, setR_new_at (Heap.get?_push_of_some _ at0)⟩
      case last =>
        rintro ⟨g, gs, dr, tk, os⟩ c mv cn R
        have z1 : gs = s.gens := mv.gens
        have z2 : dr = s.drawn := mv.drawn
        have z3 : os = s.os := mv.os
        subst z1; subst z2; subst z3
        rw [size] at cn
        show wpAny _ _ _ _ _ _
        refine wpAny_pure ?_
        show wpAny _ _ (ret Value.none) _ _ _
        refine wpAny_pure ⟨rfl, g, tk, c, rfl, R, cn, fun b o e => ?_⟩
        have b0 : b < s.heap.objs.size := Heap.lt_size e
        refine mv.heap b o (fun z => ?_) (Heap.get?_push_of_some _ (Heap.get?_push_of_some _ e))
        rcases List.mem_cons.mp z with z | z
        · exact Nat.ne_of_lt b0 z
        · exact Nat.ne_of_lt (Nat.lt_succ_of_lt b0) ((List.mem_singleton.mp z).trans psz)
    · cases r2 with
      | error e => exact hr2
      | ok fin =>
      cases fin with
      | ret r =>
        obtain ⟨rfl, g, tk, c, rfl, R, cn, kp⟩ := hr2
        repeat (any_goals (first | wp_step | assumption))
        exact k _ _ _ R cn kp
      | _ => exact hr2.elim
  | _ => exact hr.elim
end
/-- set(xs): a set with just these -/
def rSetL (K : PySem.W.Frag) (w : World) : List V → Hp → VK → Prop := fun vs H Q => ∃ (a : Addr) (ns : List Int), vs = [.ref a] ∧ SqL K H a (ns.map V.int) ∧ ns.length ≤ 50 ∧ ∀ p c, H p = none → c ≤ ns.length → Q (.ref p) (upd H p (SetO w p (fun j => decide (j ∈ ns)) c))
theorem cr_setL {X : Cx} {K : PySem.W.Frag} (hK : X.K = K) (hc : X.calm = true) : CallR X (.type "set") (rSetL K X.w) := by
  subst hK
  intro pins s σ H vs us Q I r h
  obtain ⟨a, ns, rfl, hq, few, q⟩ := h
  rw [Vals.ref1 r]
  obtain ⟨its, rv, pl, hz⟩ := I.list hq
  refine call_setL ns (I.ok.hd hc) pl.isList (by simpa using ints_of_vals rv) (by unfold scanBound; omega) fun g tk c R cn kp => ?_
  have hn : H s.heap.objs.size = none := I.hok.fresh (Nat.le_refl _)
  exact ⟨.ref _, upd H s.heap.objs.size (SetO X.w s.heap.objs.size (fun j => decide (j ∈ ns)) c), I.laid (fun b u e => kp b u e) (Nat.le_refl _) (setO_new R), rfl, q _ c hn cn⟩
/-- the only rising list -/
theorem rising_eq : ∀ {l m : List Int}, l.Pairwise (· < ·) → m.Pairwise (· < ·) → (∀ j, j ∈ l ↔ j ∈ m) → l = m
  | [], [], _, _, _ => rfl
  | [], b :: m, _, _, h => absurd ((h b).mpr (List.mem_cons_self ..)) List.not_mem_nil
  | a :: l, [], _, _, h => absurd ((h a).mp (List.mem_cons_self ..)) List.not_mem_nil
  | a :: l, b :: m, hl, hm, h => by
    obtain ⟨l1, l2⟩ := List.pairwise_cons.mp hl
    obtain ⟨m1, m2⟩ := List.pairwise_cons.mp hm
    have hab : a = b := by
      rcases List.mem_cons.mp ((h a).mp (List.mem_cons_self ..)) with e | q
      · exact e
      · rcases List.mem_cons.mp ((h b).mpr (List.mem_cons_self ..)) with e | q2
        · exact e.symm
        · have := m1 a q
          have := l1 b q2
          omega
    subst hab
    rw [rising_eq l2 m2 fun j => ⟨fun q => ?_, fun q => ?_⟩]
    · rcases List.mem_cons.mp ((h j).mp (List.mem_cons_of_mem _ q)) with e | q2
      · have := l1 j q; omega
      · exact q2
    · rcases List.mem_cons.mp ((h j).mpr (List.mem_cons_of_mem _ q)) with e | q2
      · have := m1 j q; omega
      · exact q2
section
variable {K : PySem.W.Frag} {p : Me} {σ : L2.St} {H A : Hp} {te : TE}
/-- sorted(set(xs)), xs rising: the same again -/
theorem d_sortedSet {w : World} {ns : List Int} (h : EvD K p te σ H (.list (ns.map .int))) (few : ns.length ≤ 50) (hr : ns.Pairwise (· < ·)) : EvD K p (tCB (rSortedSet w) (tCons (tCB (rSetL K w) (tCons te tNil)) tNil)) σ H (.list (ns.map .int)) := fun A R Q q => h A R _ fun v A1 H1 g1 k1 => by
  obtain ⟨a, xs, rfl, h1, h2⟩ := dq_inv_l k1
  have := dq_ints h2
  subst this
  have R1 := g1.to R
  refine ⟨a, ns, rfl, sq_of (R1.ex _ _ h1), few, fun s c hs cn => ?_⟩
  have g2 := Gr.allocM R1 (o := SetO w s (fun j => decide (j ∈ ns)) c) hs
  have R2 := g2.to R1
  refine ⟨s, _, c, rfl, upd_same, by omega, fun ms b rm mem _ hb => ?_⟩
  have e : ms = ns := rising_eq rm hr fun j => by rw [mem j, decide_eq_true_eq]
  subst e
  have g3 := Gr.alloc R2 (o := .lst (ms.map V.int)) hb
  exact q _ _ _ ((g1.trans g2).trans g3) (.lst upd_same (dqall_ex (g2.reg.trans g3.reg) h2))
end
end Z
/-! objects that stand in what is known; promises that speak of more than data -/
namespace Z
open PySem PySem.Spec PyProof.Rows L2 Evl
/-- as EvS, of any values -/
def EvA (p : Me) (ta : TA) (σ : L2.St) (H : Hp) (P : List V → Hp → Prop) : Prop := ∀ A, Reg p H A → ∀ Q : List V → Hp → Prop, (∀ vs A' H', Gr p A H A' H' → P vs H' → Q vs A') → ta σ A Q
/-- nothing that stood is changed; F tells of the arguments and of the result -/
def SpG (F : List V → Hp → (V → Hp → Prop) → Prop) : Sp := fun vs A Q _ => ∃ H P, Reg .non H A ∧ F vs H P ∧ ∀ v A' H', Gr .non A H A' H' → P v H' → Q v A'
def Mono (P : V → Hp → Prop) : Prop := ∀ v H H', Ex H H' → P v H → P v H'
section
variable {K : PySem.W.Frag} {p : Me} {σ : L2.St} {H H' A A' : Hp} {te ta tb tc tl ti : TE} {tt : TT} {tu tz : TS} {D : Ends} {d dx dy dz : PyData} {ds es : List PyData} {P Px Py Pz : V → Hp → Prop}
theorem EvG.monoP {H2 : Hp} (hP : Mono P) (e : Ex H H2) (h : EvG p te σ H P) : EvG p te σ H2 P := fun A r Q q => by
  have r0 : Reg p H A := r.less e
  exact h A r0 Q fun v A' H' g k => by
    obtain ⟨g2, e2⟩ := g.wide r e
    exact q v A' _ g2 (hP v _ _ e2 k)
theorem EvG.imp (h : EvG p te σ H Px) (f : ∀ v H', Px v H' → Py v H') : EvG p te σ H Py := fun A R Q q => h A R Q fun v A' H' g k => q v A' H' g (f v H' k)
theorem mono_data : Mono fun v H => Dq K H v d := fun v H H' e k => dq_ex e d v k
theorem mono_is {x : V} : Mono fun v _ => v = x := fun v H H' e k => k
theorem g_var {i : Nat} {v : V} (h : σ[i]? = some (some v)) : EvG p (tVar i) σ H fun x _ => x = v := fun A R Q q => ⟨v, h, q v A H R.refl rfl⟩
theorem a_nil : EvA p tNil σ H fun vs _ => vs = [] := fun A R Q q => q [] A H R.refl rfl
theorem a_one (ha : EvG p ta σ H Px) : EvA p (tCons ta tNil) σ H fun vs H' => ∃ x, vs = [x] ∧ Px x H' := fun A R Q q => ha A R _ fun x A1 H1 g1 k1 => q [x] A1 H1 g1 ⟨x, rfl, k1⟩
theorem a_two (mx : Mono Px) (ha : EvG p ta σ H Px) (hb : ∀ H1, Ex H H1 → EvG p tb σ H1 Py) : EvA p (tCons ta (tCons tb tNil)) σ H fun vs H' => ∃ x y, vs = [x, y] ∧ Px x H' ∧ Py y H' := fun A R Q q => ha A R _ fun x A1 H1 g1 k1 =>
  hb H1 g1.reg A1 (g1.to R) _ fun y A2 H2 g2 k2 => q [x, y] A2 H2 (g1.trans g2) ⟨x, y, rfl, mx x _ _ g2.reg k1, k2⟩
/-- a call of such a def -/
theorem g_call {F : List V → Hp → (V → Hp → Prop) → Prop} {E : XK} {t : TA} {Pa : List V → Hp → Prop} (h : EvA p t σ H Pa) (hF : ∀ vs H', Ex H H' → Pa vs H' → F vs H' P) : EvG p (tCall (SpG F) [] E t) σ H P := fun A R Q q => h A R _ fun vs A1 H1 g1 k1 => by
  have R1 := g1.to R
  rw [List.append_nil]
  exact ⟨H1, P, R1.nil, hF vs H1 g1.reg k1, fun v A2 H2 g2 k2 => q v A2 H2 (g1.trans (g2.pure R1)) k2⟩
theorem g_opV {r : R2} (mx : Mono Px) (ha : EvG p ta σ H Px) (hb : ∀ H1, Ex H H1 → EvG p tb σ H1 Py) (hr : ∀ x y H2 A, Ex H H2 → Px x H2 → Py y H2 → Reg p H2 A → ∀ Q : VK, (∀ v A' H', Gr p A H2 A' H' → P v H' → Q v A') → r x y A Q) : EvG p (tOp r ta tb) σ H P := fun A R Q q =>
  ha A R _ fun x A1 H1 g1 k1 => hb H1 g1.reg A1 (g1.to R) _ fun y A2 H2 g2 k2 => hr x y H2 A2 (g1.reg.trans g2.reg) (mx x _ _ g2.reg k1) k2 (g2.to (g1.to R)) Q fun v A3 H3 g3 k3 => q v A3 H3 ((g1.trans g2).trans g3) k3
/-- o.f -/
theorem d_fld {i : Nat} {a dx C : Addr} {fs : List (Str × V)} {f : Str} {u : V} (hs : σ[i]? = some (some (.ref a))) (ho : H a = some (.ins C dx fs)) (c : Cls K C) (nf : NoAttr K C f) (hl : fs.lookup f = some u) (hd : Dq K H u d) : EvD K p (tFld K (tVar i) f) σ H d := fun A R Q q =>
  ⟨.ref a, hs, a, C, dx, fs, u, rfl, R.ex _ _ ho, c, nf, hl, q u A H R.refl hd⟩
/-- o.f = e, o one's own -/
theorem q_fldOwn {i : Nat} {a dx C : Addr} {fs : List (Str × V)} {f : Str} (h : EvD K p te σ H d) (hs : σ[i]? = some (some (.ref a))) (ho : p.own a = some (.ins C dx fs)) (c : Cls K C) (nf : NoAttr K C f) (hn : fs.length < 1000) (R : Reg p H A)
    (k : ∀ v A' H', Gr p A H A' H' → Dq K H' v d → Reg ⟨p.pool, upd p.own a (.ins C dx (putF f v fs))⟩ H' (upd A' a (.ins C dx (putF f v fs))) → D.nx σ (upd A' a (.ins C dx (putF f v fs)))) : sFld K (tVar i) te f D σ A :=
  h A R _ fun v A1 H1 g1 k1 => by
    have R1 := g1.to R
    exact ⟨.ref a, hs, a, C, dx, fs, rfl, R1.own _ _ ho, c, nf, hn, k v A1 H1 g1 k1 (R1.put (R1.offO a _ ho).2 (R1.offO a _ ho).1)⟩
/-- C(..): a new object; what its __init__ promises -/
def SpI (C : Addr) (F : List V → Hp → (List (Str × V) → Hp → Prop) → Prop) : Sp := fun vs A Q _ => ∃ (H : Hp) (x dx : Addr) (us : List V) (P : List (Str × V) → Hp → Prop), vs = .ref x :: us ∧ Reg ⟨none, upd (fun _ => none) x (.ins C dx [])⟩ H A ∧ F us H P ∧
  ∀ fs A' H', Reg ⟨none, upd (fun _ => none) x (.ins C dx fs)⟩ H' A' → Ex H H' → P fs H' → (∀ A0 H0, A0 x = none → Gr .non A0 H0 A H → Gr .non A0 H0 A' H') → Q .non A'
theorem Reg.one (r : Reg p H A) {q : Addr} {o : HO} (hq : A q = none) : Reg ⟨none, upd (fun _ => none) q o⟩ H (upd A q o) := by
  have nh : H q = none := fresh_back r.ex hq
  exact Reg.put (p := ⟨none, fun _ => none⟩) r.nil (fun z => nomatch z) nh
theorem g_make {C : Addr} {F : List V → Hp → (List (Str × V) → Hp → Prop) → Prop} {E : XK} {t : TA} {Pa : List V → Hp → Prop} {Pf : List (Str × V) → Hp → Prop} (mf : ∀ fs H H', Ex H H' → Pf fs H → Pf fs H') (h : EvA p t σ H Pa) (hF : ∀ vs H', Ex H H' → Pa vs H' → F vs H' Pf) (ma : ∀ vs H1 H2, Ex H1 H2 → Pa vs H1 → Pa vs H2) :
    EvG p (tMake C (SpI C F) [] E t) σ H fun v H' => ∃ a dx fs, v = .ref a ∧ H' a = some (.ins C dx fs) ∧ Pf fs H' := fun A R Q q => h A R _ fun vs A1 H1 g1 k1 x dx hx hdx ne => by
  have R1 := g1.to R
  have gd := Gr.alloc R1.nil (o := .own x) hdx
  have Rd := gd.to R1.nil
  have hx2 : upd A1 dx (.own x) x = none := by rw [upd_ne (fun z => ne z.symm)]; exact hx
  have gx := Gr.allocM Rd (o := .ins C dx []) hx2
  rw [List.append_nil]
  refine ⟨upd H1 dx (.own x), x, dx, vs, Pf, rfl, Reg.one Rd hx2, hF vs _ (g1.reg.trans gd.reg) (ma _ _ _ gd.reg k1), fun fs A' H' r e pf last => ⟨rfl, ?_⟩⟩
  have g2 := last A1 H1 hx (gd.trans gx)
  have hs : (Me.mk none (upd (fun _ => none) x (.ins C dx fs))).own x = some (.ins C dx fs) := own_same
  have ho := r.own x _ hs
  have nh : H' x = none := (r.offO x _ hs).1
  have g3 := g2.know hx nh ho
  exact q (.ref x) A' _ (g1.trans (g3.pure R1)) ⟨x, dx, fs, rfl, upd_same, mf _ _ _ (Ex.new nh) pf⟩
end
end Z
/-! defs of data whose result is new, or one of the arguments -/
namespace Z
open PySem PySem.Spec PyProof.Rows L2 Evl
def SpW (K : PySem.W.Frag) (F : List PyData → PyData → Prop) : Sp := fun vs A Q _ => ∃ H ds d, Reg .non H A ∧ DqAll K H vs ds ∧ F ds d ∧ ∀ v A' H', Gr .non A H A' H' → Dq K H' v d → (vs.head? = some v ∨ ∃ l, v = .ref l ∧ H l = none) → Q v A'
def SpN (K : PySem.W.Frag) (F : List PyData → PyData → Prop) : Sp := fun vs A Q _ => ∃ H ds d, Reg .non H A ∧ DqAll K H vs ds ∧ F ds d ∧ ∀ v A' H', Gr .non A H A' H' → Dq K H' v d → (∃ l, v = .ref l ∧ H l = none) → Q v A'
section
variable {K : PySem.W.Frag} {p : Me} {σ : L2.St} {H H' A A' : Hp} {te ta tb tc tl ti : TE} {tt : TT} {tu tz : TS} {D : Ends} {d dx dy dz : PyData} {ds es : List PyData}
theorem a_vars2 {i j : Nat} {x y : V} (hi : σ[i]? = some (some x)) (kx : Dq K H x dx) (hj : σ[j]? = some (some y)) (ky : Dq K H y dy) : EvA p (tCons (tVar i) (tCons (tVar j) tNil)) σ H fun vs H' => DqAll K H' vs [dx, dy] ∧ vs = [x, y] := fun A R Q q =>
  ⟨x, hi, y, hj, q [x, y] A H R.refl ⟨.cons kx (.cons ky .nil), rfl⟩⟩
theorem g_callW {F : List PyData → PyData → Prop} {E : XK} {t : TA} (hF : F ds d) {Pv : List V → Prop} (hv : EvA p t σ H fun vs H' => DqAll K H' vs ds ∧ Pv vs) :
    EvG p (tCall (SpW K F) [] E t) σ H fun v H' => Dq K H' v d ∧ ((∃ vs, Pv vs ∧ vs.head? = some v) ∨ ∃ l, v = .ref l ∧ H l = none) := fun A R Q q => hv A R _ fun vs A1 H1 g1 k1 => by
  have R1 := g1.to R
  rw [List.append_nil]
  refine ⟨H1, ds, d, R1.nil, k1.1, hF, fun v A2 H2 g2 k2 n2 => q v A2 H2 (g1.trans (g2.pure R1)) ⟨k2, ?_⟩⟩
  rcases n2 with n2 | ⟨l, e, n2⟩
  · exact .inl ⟨vs, k1.2, n2⟩
  · exact .inr ⟨l, e, fresh_back g1.reg n2⟩
theorem g_callN {F : List PyData → PyData → Prop} {E : XK} {t : TA} (h : EvS K p t σ H ds) (hF : F ds d) : EvG p (tCall (SpN K F) [] E t) σ H fun v H' => Dq K H' v d ∧ ∃ l, v = .ref l ∧ H l = none := fun A R Q q => h A R _ fun vs A1 H1 g1 k1 => by
  have R1 := g1.to R
  rw [List.append_nil]
  exact ⟨H1, ds, d, R1.nil, k1, hF, fun v A2 H2 g2 k2 ⟨l, e, n2⟩ => q v A2 H2 (g1.trans (g2.pure R1)) ⟨k2, l, e, fresh_back g1.reg n2⟩⟩
theorem d_callN {F : List PyData → PyData → Prop} {E : XK} {t : TA} (h : EvS K p t σ H ds) (hF : F ds d) : EvD K p (tCall (SpN K F) [] E t) σ H d := (g_callN h hF).imp fun _ _ k => k.1
theorem g_catN (ha : EvD K p ta σ H (.list ds)) (hb : EvD K p tb σ H (.list es)) (hl : ds.length + es.length ≤ 100000) : EvG p (tOp rCat ta tb) σ H fun v H' => Dq K H' v (.list (ds ++ es)) ∧ ∃ l, v = .ref l ∧ H l = none := fun A R Q q =>
  ha A R _ fun x A1 H1 g1 k1 => EvD.mono g1.reg hb A1 (g1.to R) _ fun y A2 H2 g2 k2 => by
    have R2 := g2.to (g1.to R)
    obtain ⟨a, xs, rfl, h1, h2⟩ := dq_inv_l (dq_ex g2.reg _ _ k1)
    obtain ⟨b, ys, rfl, h3, h4⟩ := dq_inv_l k2
    refine ⟨a, b, xs, ys, rfl, rfl, R2.ex _ _ h1, R2.ex _ _ h3, sz_of (by rw [dqall_len h2, dqall_len h4]; exact hl), fun l hn => ?_⟩
    have g := Gr.alloc R2 (o := .lst (xs ++ ys)) hn
    exact q _ _ _ ((g1.trans g2).trans g) ⟨.lst upd_same (dqall_append (dqall_ex g.reg h2) (dqall_ex g.reg h4)), l, rfl, fresh_back (g1.reg.trans g2.reg) (fresh_back R2.ex hn)⟩
theorem g_lstN {t : TA} (h : EvS K p t σ H ds) (hl : ds.length ≤ 100000) : EvG p (tLst t) σ H fun v H' => Dq K H' v (.list ds) ∧ ∃ l, v = .ref l ∧ H l = none := fun A R Q q =>
  h A R _ fun vs A1 H1 g1 k1 => ⟨by rw [dqall_len k1]; exact sz_of hl, fun l hn => by
    have R1 := g1.to R
    have g2 := Gr.alloc R1 (o := .lst vs) hn
    exact q (.ref l) _ _ (g1.trans g2) ⟨.lst upd_same (dqall_ex g2.reg k1), l, rfl, fresh_back g1.reg (fresh_back R1.ex hn)⟩⟩
end
/-- as dn_data -/
theorem dn_dataW {P : Program} {w : World} {K : PySem.W.Frag} {mg : Str → Option Value} {base : Heap} {x : Str} {st : Stmt} {N ps : List Str} {F : List PyData → PyData → Prop} (k : Nat) (Hx : St K mg x st ps) (S : FnScope N ps (defScope st)) (hl : ∀ ds d, F ds d → ds.length = ps.length)
    (ht : ∀ (f : Addr) (cdv : Value) (A : Around) (outer : List Env) (s : Shared) (H : Hp) (E : XK), Room k (A.deeper (envOfC x (defScope st) s.heap.objs.size f cdv)) → ∃ t, PSs (cxOf CX0 P w K mg base N x (defScope st) f cdv A outer s H E).nox (defBody st) t ∧
      ∀ vs H A ds d (Q : VK), Reg .non H A → DqAll K H vs ds → F ds d → (∀ v A' H', Gr .non A H A' H' → Dq K H' v d → (vs.head? = some v ∨ ∃ l, v = .ref l ∧ H l = none) → Q v A') → t { nx := fun _ H' => Q .non H', rt := Q } (start N vs) A) : Dn P w K mg base CX0 (k + 1) x ps (SpW K F) :=
  dn_of k Hx S (fun vs H Q E h => by obtain ⟨H, ds, d, _, k, f, _⟩ := h; rw [dqall_len k, hl ds d f]) fun f cdv A outer s H vs Q E hr h => by
    obtain ⟨H0, ds, d, R, k0, hF, q⟩ := h
    obtain ⟨t, h1, h2⟩ := ht f cdv A outer s H E hr
    exact ⟨t, h1, h2 vs H0 H ds d Q R k0 hF q⟩
theorem dn_dataN {P : Program} {w : World} {K : PySem.W.Frag} {mg : Str → Option Value} {base : Heap} {x : Str} {st : Stmt} {N ps : List Str} {F : List PyData → PyData → Prop} (k : Nat) (Hx : St K mg x st ps) (S : FnScope N ps (defScope st)) (hl : ∀ ds d, F ds d → ds.length = ps.length)
    (ht : ∀ (f : Addr) (cdv : Value) (A : Around) (outer : List Env) (s : Shared) (H : Hp) (E : XK), Room k (A.deeper (envOfC x (defScope st) s.heap.objs.size f cdv)) → ∃ t, PSs (cxOf CX0 P w K mg base N x (defScope st) f cdv A outer s H E).nox (defBody st) t ∧
      ∀ vs H A ds d (Q : VK), Reg .non H A → DqAll K H vs ds → F ds d → (∀ v A' H', Gr .non A H A' H' → Dq K H' v d → (∃ l, v = .ref l ∧ H l = none) → Q v A') → t { nx := fun _ H' => Q .non H', rt := Q } (start N vs) A) : Dn P w K mg base CX0 (k + 1) x ps (SpN K F) :=
  dn_of k Hx S (fun vs H Q E h => by obtain ⟨H, ds, d, _, k, f, _⟩ := h; rw [dqall_len k, hl ds d f]) fun f cdv A outer s H vs Q E hr h => by
    obtain ⟨H0, ds, d, R, k0, hF, q⟩ := h
    obtain ⟨t, h1, h2⟩ := ht f cdv A outer s H E hr
    exact ⟨t, h1, h2 vs H0 H ds d Q R k0 hF q⟩
end Z
namespace Q43
open PySem PySem.Spec PyProof.Rows L2 Z
def ofI : PyData → Int
  | .int n => n
  | _ => 0
def unR : PyData → List Int
  | .tuple ds => ds.map ofI
  | _ => []
theorem unR_R (r : List Int) : unR (R r) = r := by
  show (r.map PyData.int).map ofI = r
  rw [List.map_map]
  exact List.map_id r
theorem rows_lc (f : List Int → Bool) (g : List Int → PyData) : ∀ fs : List (List Int), ((fs.map R).filter fun c => f (unR c)).map (fun c => g (unR c)) = (fs.filter f).map g
  | [] => rfl
  | x :: fs => by
    have ih := rows_lc f g fs
    rw [List.map_cons, List.filter_cons, List.filter_cons, unR_R]
    cases e : f x
    · exact ih
    · rw [if_pos rfl, if_pos rfl, List.map_cons, List.map_cons, unR_R, ih]
theorem rows_lc1 (g : List Int → PyData) (fs : List (List Int)) : ((fs.map R).filter fun _ => true).map (fun c => g (unR c)) = fs.map g := by
  have h := rows_lc (fun _ => true) g fs
  rw [List.filter_eq_self.mpr (fun _ _ => rfl)] at h ⊢
  rw [List.filter_eq_self.mpr (fun _ _ => rfl)] at h
  exact h
theorem mem_rows {c : PyData} {fs : List (List Int)} (h : c ∈ fs.map R) : ∃ r, r ∈ fs ∧ c = R r := by
  obtain ⟨n, h1, rfl⟩ := List.mem_map.mp h
  exact ⟨n, h1, rfl⟩
theorem lead_lt : ∀ {r : List Int}, (r.any fun n => n != 0) = true → lead r < r.length
  | [], h => by simp at h
  | m :: r, h => by
    by_cases e : m = 0
    · rw [List.any_cons, e] at h
      have ih := lead_lt (r := r) (by simpa using h)
      simp [lead, e]
      exact ih
    · simp [lead, e]
/-! _with_row -/
def withRow (fs : List (List Int)) (r : List Int) : List (List Int) :=
  if ((rest r fs).any fun n => n != 0) = true then
    (((fs.map fun x => clear x (above (thin (rest r fs)) (lead (rest r fs))) (lead (rest r fs))).filter fun x => decide (lead x < lead (rest r fs))) ++ [above (thin (rest r fs)) (lead (rest r fs))])
      ++ ((fs.map fun x => clear x (above (thin (rest r fs)) (lead (rest r fs))) (lead (rest r fs))).filter fun x => decide (lead (rest r fs) < lead x))
  else fs
section
variable {P : Program} {w : World} {K : PySem.W.Frag} {mg : Str → Option Value} {base : Heap}
abbrev s__with_row : Stmt := top 13
abbrev N__with_row : List Str := ["found", "row", "rest", "place", "one", "others", "ahead", "behind", "other"]
theorem sc__with_row : FnScope N__with_row ["found", "row"] (defScope s__with_row) := ⟨rfl, rfl, rfl, by decide +kernel, rfl, by decide +kernel, by decide +kernel⟩
def F__with_row : List PyData → PyData → Prop := fun ds d => ∃ (r : List Int) (fs : List (List Int)) (a b : Nat), ds = [LR fs, R r] ∧ r.length ≤ 60000 ∧ fs.length ≤ 1000 ∧ Sm a r ∧ Fd r.length b fs ∧ a + fs.length * (b + 1) + b + 1 ≤ 9000 ∧ d = LR (withRow fs r)
theorem dn__with_row (Hx : St K mg "_with_row" s__with_row ["found", "row"]) (B : Bs mg) (D1 : Dn P w K mg base CX0 1 "_first_place" ["row"] (SpD K F__first_place)) (D2 : Dn P w K mg base CX0 2 "_cleared" ["row", "one", "place"] (SpD K F__cleared))
    (D3 : Dn P w K mg base CX0 3 "remainder" ["row", "found"] (SpD K F_remainder)) (D4 : Dn P w K mg base CX0 1 "without_factor" ["numbers"] (SpD K F_without_factor)) (D5 : Dn P w K mg base CX0 1 "_leading_above_zero" ["row", "place"] (SpD K F__leading_above_zero)) :
    Dn P w K mg base CX0 4 "_with_row" ["found", "row"] (SpW K F__with_row) := by
  refine dn_dataW 3 Hx sc__with_row (fun ds d h => by obtain ⟨x, r, _, _, rfl, _⟩ := h; rfl) fun f cdv A outer s H E hr => ⟨_, (pss_cons (ps_set (i := 2) sc__with_row.nd rfl (Or.inl rfl) (pe_cd D3 hr (by decide) rfl (pa_cons (pv 1) (pa_cons (pv 0) pa_nil))))
    (pss_cons (ps_if (pt_not (pt_val (pe_callB (cr_anyT rfl) (by rfl) B.any (by decide +kernel) (pa_cons (pv 2) pa_nil)))) (pss_one (ps_ret (pv 0))) pss_nil)
    (pss_cons (ps_set (i := 3) sc__with_row.nd rfl (Or.inr rfl) (pe_cd D1 hr (by decide) rfl (pa_cons (pv 2) pa_nil)))
    (pss_cons (ps_set (i := 4) sc__with_row.nd rfl (Or.inr rfl) (pe_cd D5 hr (by decide) rfl (pa_cons (pe_cd D4 hr (by decide) rfl (pa_cons (pv 2) pa_nil)) (pa_cons (pv 3) pa_nil))))
    (pss_cons (ps_setLc (i := 5) (own := [("other", 8)]) (g := gName 8) (tt := tYes) rfl sc__with_row.nd rfl rfl (sw_true rfl rfl rfl (by decide +kernel)) (pi_list (pv 0)) (blkOk_by (N := N__with_row) (sc := defScope s__with_row) (by decide +kernel)) (fun _ _ _ _ _ => (pg_name (i := 8) sc__with_row.nd rfl (Or.inl rfl))) (fun _ _ _ _ _ => pts_nil) (fun _ _ _ _ _ => (pe_cd D2 hr (by decide) rfl (pa_cons (pv 8) (pa_cons (pv 4) (pa_cons (pv 3) pa_nil))))))
    (pss_cons (ps_setLc (i := 6) (own := [("other", 8)]) (g := gName 8) rfl sc__with_row.nd rfl rfl (sw_true rfl rfl rfl (by decide +kernel)) (pi_list (pv 5)) (blkOk_by (N := N__with_row) (sc := defScope s__with_row) (by decide +kernel)) (fun _ _ _ _ _ => (pg_name (i := 8) sc__with_row.nd rfl (Or.inl rfl))) (fun _ _ _ _ _ => (pts_one (pt_cmpR op_lt (pe_cd D1 hr (by decide) rfl (pa_cons (pv 8) pa_nil)) (pv 3) (nomark _)))) (fun _ _ _ _ _ => (pv 8)))
    (pss_cons (ps_setLc (i := 7) (own := [("other", 8)]) (g := gName 8) rfl sc__with_row.nd rfl rfl (sw_true rfl rfl rfl (by decide +kernel)) (pi_list (pv 5)) (blkOk_by (N := N__with_row) (sc := defScope s__with_row) (by decide +kernel)) (fun _ _ _ _ _ => (pg_name (i := 8) sc__with_row.nd rfl (Or.inl rfl))) (fun _ _ _ _ _ => (pts_one (pt_cmpR op_gt (pe_cd D1 hr (by decide) rfl (pa_cons (pv 8) pa_nil)) (pv 3) (nomark _)))) (fun _ _ _ _ _ => (pv 8)))
    (pss_one (ps_ret (pe_op op_cat (pe_op op_cat (pv 6) (pe_lst (pa_cons (pv 4) pa_nil))) (pv 7))))))))))), ?_⟩
  intro vs H A ds d Q R hk hF q
  obtain ⟨r, fs, a, b, rfl, hlr, hlf, ha, hf, hab, rfl⟩ := hF
  obtain ⟨v, v2, rfl, k1, k2⟩ := dqall_two hk
  have hfb : ∀ o ∈ fs, Sm b o := fun o h => (hf o h).2.2
  have st := sm_rest fs r a ha hfb
  have hlt := rest_len fs r
  -- rest = remainder(row, found)
  refine q_asg (d_call (K := K) (s_cons (d_var rfl k2) (s_cons (d_var rfl k1) s_nil)) ⟨r, fs, a, b, rfl, hlr, ha, hf, by omega, rfl⟩) R fun z A1 H1 g1 kz => ?_
  have R1 := g1.to R
  have kf1 := dq_ex g1.reg _ _ k1
  refine q_when (b_not (b_test (d_cb (K := K) (s_cons (d_var rfl kz) s_nil) c_anyT))) R1 (fun hb A2 H2 g2 => ?_) fun hb A2 H2 g2 => ?_
  · have hc : ¬ ((rest r fs).any fun n => n != 0) = true := by
      rw [Bool.not_eq_true]
      simpa using hb
    refine Z.s_ret (g_var (v := v) rfl) (g2.to R1) fun v4 A4 H4 g4 k4 => ?_
    subst k4
    refine q _ _ _ ((g1.trans g2).trans g4) ?_ (.inl rfl)
    unfold withRow
    rw [if_neg hc]
    exact dq_ex (g2.reg.trans g4.reg) _ _ kf1
  have hc : ((rest r fs).any fun n => n != 0) = true := by
    cases e : (rest r fs).any fun n => n != 0
    · rw [e] at hb; cases hb
    · rfl
  have hp : lead (rest r fs) < r.length := by
    have := lead_lt hc
    omega
  have R2 := g2.to R1
  unfold withRow at q
  rw [if_pos hc] at q
  generalize ht : rest r fs = t at *
  -- place = _first_place(rest)
  refine q_asg (d_call (K := K) (s_cons (d_var rfl (dq_ex g2.reg _ _ kz)) s_nil) ⟨t, rfl, rfl⟩) R2 fun y A3 H3 g3 ky => ?_
  cases ky
  have R3 := g3.to R2
  have e23 := g2.reg.trans g3.reg
  -- one = _leading_above_zero(_without_factor(rest), place)
  have l1 : (thin t).length = r.length := by rw [thin_len, hlt]
  refine q_asg (d_call (K := K) (F := F__leading_above_zero) (s_cons (d_call (F := F_without_factor) (s_cons (d_var rfl (dq_ex e23 _ _ kz)) s_nil) ⟨_, t, rfl, .inr rfl, by omega, st.mono (by omega), rfl⟩) (s_cons (d_var rfl (.int _)) s_nil)) ⟨thin t, lead t, rfl, by omega, by omega, rfl⟩) R3 fun o A4 H4 g4 ko => ?_
  have R4 := g4.to R3
  have lo : (above (thin t) (lead t)).length = r.length := by rw [above_len, l1]
  have so : Sm (a + fs.length * (b + 1)) (above (thin t) (lead t)) := sm_above (sm_thin st)
  generalize ho : above (thin t) (lead t) = one at *
  -- others
  have kf4 := dq_ex (e23.trans g4.reg) _ _ kf1
  have h5 := d_lcL (K := K) (p := .non) (σ := [some v, some v2, some z, some (.int (lead t : Nat)), some o, none, none, none, none]) (H := H4) (j := 8) (vs := [8]) (tl := tVar 0) (tt := tYes) (te := tCall (SpD K F__cleared) [] E0 (tCons (tVar 8) (tCons (tVar 4) (tCons (tVar 3) tNil)))) (ds := fs.map Q43.R) (fun _ => true) (fun c => Q43.R (clear (unR c) one (lead t))) (d_var rfl kf4) (by rw [List.length_map]; omega) (fun x => rfl) (fun c hc x H1 e k => b_yes) (fun c hc' x H1 e k _ => by
      obtain ⟨n, hn, rfl⟩ := mem_rows hc'
      obtain ⟨f1, f2, f3⟩ := hf n hn
      rw [unR_R]
      exact d_call (s_cons (d_var rfl k) (s_cons (d_var rfl (dq_ex e _ _ ko)) (s_cons (d_var rfl (.int _)) s_nil))) ⟨n, one, lead t, b, a + fs.length * (b + 1), rfl, by omega, by omega, by omega, f3, so, by omega, rfl⟩)
  rw [rows_lc1 fun x => Q43.R (clear x one (lead t))] at h5
  refine q_asg h5 R4 fun y5 A5 H5 g5 k5 => ?_
  have R5 := g5.to R4
  have e5 : (fs.map fun x => Q43.R (clear x one (lead t))) = (fs.map fun x => clear x one (lead t)).map Q43.R := by
    rw [List.map_map]; rfl
  rw [e5] at k5
  have los : (fs.map fun x => clear x one (lead t)).length ≤ 1000 := by rw [List.length_map]; exact hlf
  generalize hos : (fs.map fun x => clear x one (lead t)) = os at *
  -- ahead
  have h6 := d_lcL (K := K) (p := .non) (σ := [some v, some v2, some z, some (.int (lead t : Nat)), some o, some y5, none, none, none]) (H := H5) (j := 8) (vs := [8]) (tl := tVar 5) (tt := tTest (tOp (rI0 fun i j => .bl (decide (i < j))) (tCall (SpD K F__first_place) [] E0 (tCons (tVar 8) tNil)) (tVar 3))) (te := tVar 8) (ds := os.map Q43.R) (fun c => decide (lead (unR c) < lead t)) (fun c => Q43.R (unR c)) (d_var rfl k5) (by rw [List.length_map]; omega) (fun x => rfl) (fun c hc x H1 e k => by
      obtain ⟨n, hn, rfl⟩ := mem_rows hc
      rw [unR_R]
      have := b_test (d_op (K := K) (p := .non) (d_call (F := F__first_place) (E := E0) (s_cons (d_var (i := 8) (σ := (wipe [some v, some v2, some z, some (.int (lead t : Nat)), some o, some y5, none, none, none] [8]).set 8 (some x)) rfl k) s_nil) ⟨n, rfl, rfl⟩) (d_var (i := 3) rfl (.int (lead t : Nat))) (o_B0 (f := fun i j => decide (i < j))))
      refine this.is ?_
      simp) (fun c hc' x H1 e k _ => by
      obtain ⟨n, hn, rfl⟩ := mem_rows hc'
      rw [unR_R]
      exact d_var rfl k)
  rw [rows_lc (fun x => decide (lead x < lead t)) Q43.R] at h6
  refine q_asg h6 R5 fun y6 A6 H6 g6 k6 => ?_
  have R6 := g6.to R5
  -- behind
  have h7 := d_lcL (K := K) (p := .non) (σ := [some v, some v2, some z, some (.int (lead t : Nat)), some o, some y5, some y6, none, none]) (H := H6) (j := 8) (vs := [8]) (tl := tVar 5) (tt := tTest (tOp (rI0 fun i j => .bl (decide (j < i))) (tCall (SpD K F__first_place) [] E0 (tCons (tVar 8) tNil)) (tVar 3))) (te := tVar 8) (ds := os.map Q43.R) (fun c => decide (lead t < lead (unR c))) (fun c => Q43.R (unR c)) (d_var rfl (dq_ex g6.reg _ _ k5)) (by rw [List.length_map]; omega) (fun x => rfl) (fun c hc x H1 e k => by
      obtain ⟨n, hn, rfl⟩ := mem_rows hc
      rw [unR_R]
      have := b_test (d_op (K := K) (p := .non) (d_call (F := F__first_place) (E := E0) (s_cons (d_var (i := 8) (σ := (wipe [some v, some v2, some z, some (.int (lead t : Nat)), some o, some y5, some y6, none, none] [8]).set 8 (some x)) rfl k) s_nil) ⟨n, rfl, rfl⟩) (d_var (i := 3) rfl (.int (lead t : Nat))) (o_B0 (f := fun i j => decide (j < i))))
      refine this.is ?_
      simp) (fun c hc' x H1 e k _ => by
      obtain ⟨n, hn, rfl⟩ := mem_rows hc'
      rw [unR_R]
      exact d_var rfl k)
  rw [rows_lc (fun x => decide (lead t < lead x)) Q43.R] at h7
  refine q_asg h7 R6 fun y7 A7 H7 g7 k7 => ?_
  have R7 := g7.to R6
  have n6 := List.length_filter_le (fun x => decide (lead x < lead t)) os
  have n7 := List.length_filter_le (fun x => decide (lead t < lead x)) os
  have e47 := (g5.reg.trans g6.reg).trans g7.reg
  refine Z.s_ret (g_catN (K := K) (d_op (d_var rfl (dq_ex g7.reg _ _ k6)) (d_lst (s_cons (d_var rfl (dq_ex e47 _ _ ko)) s_nil) (Nat.le_add_left 1 99999)) (o_cat (by rw [List.length_map]; show _ + 1 ≤ 100000; omega))) (d_var rfl k7) (by rw [List.length_append, List.length_map, List.length_map]; show _ + 1 + _ ≤ 100000; omega)) R7 fun v8 A8 H8 g8 ⟨k8, l8, el8, nl8⟩ => q _ _ _ ((((((((g1.trans g2).trans g3).trans g4).trans g5).trans g6).trans g7)).trans g8) ?_ (.inr ⟨l8, el8, Evl.fresh_back ((((((((g1.trans g2).trans g3).trans g4).trans g5).trans g6).trans g7)).reg) nl8⟩)
  show Dq K H8 v8 (.list (((_ ++ [one]) ++ _).map Q43.R))
  rw [List.map_append, List.map_append]
  exact k8
/-! ### rows found have their promised form -/
end
end Q43
/-! the mathematics: rows as functions, spans, reduced rows -/
namespace Q43
/-- the number at place i, 0 beyond the end -/
abbrev vec (r : List Int) : Nat → Int := fun i => r.getD i 0
theorem vec_beyond {r : List Int} {i : Nat} (h : r.length ≤ i) : vec r i = 0 := by
  simp [vec, List.getD, List.getElem?_eq_none h]
theorem vec_lead_zero {r : List Int} {j : Nat} (h : j < lead r) : vec r j = 0 := by
  simp [vec, List.getD, lead_zero h]
theorem vec_lead_ne {r : List Int} (h : lead r < r.length) : vec r (lead r) ≠ 0 := by
  intro z
  have h2 : ∀ {r : List Int}, lead r < r.length → ∃ n, r[lead r]? = some n ∧ n ≠ 0 := by
    intro r
    induction r with
    | nil => intro h; simp [lead] at h
    | cons m r ih =>
      intro h
      by_cases e : m = 0
      · have h' : lead r < r.length := by simpa [lead, e] using h
        obtain ⟨n, h1, h2⟩ := ih h'
        exact ⟨n, by simpa [lead, e] using h1, h2⟩
      · exact ⟨m, by simp [lead, e], e⟩
  obtain ⟨n, h3, h4⟩ := h2 h
  simp [vec, List.getD, h3] at z
  exact h4 z
theorem lead_is {r : List Int} {p : Nat} (h0 : ∀ j, j < p → vec r j = 0) (h : vec r p ≠ 0) : lead r = p := by
  have hp : p < r.length := by
    by_cases c : p < r.length
    · exact c
    · exact absurd (vec_beyond (Nat.le_of_not_lt c)) h
  refine lead_at (n := vec r p) (fun j hj => ?_) (getD_at hp) h
  have := getD_at (r := r) (p := j) (Nat.lt_trans hj hp)
  rw [this]
  exact congrArg some (h0 j hj)
theorem vec_map {r : List Int} {f : Int → Int} (h : f 0 = 0) (i : Nat) : vec (r.map f) i = f (vec r i) := by
  by_cases c : i < r.length
  · simp [vec, List.getD, c]
  · rw [vec_beyond (by simpa using c), vec_beyond (by simpa using c), h]
theorem thin_vec (r : List Int) : ∃ g : Int, 0 < g ∧ ∀ i, vec r i = g * vec (thin r) i := by
  unfold thin
  split
  · exact ⟨1, by decide, fun i => (Int.one_mul _).symm⟩
  · rename_i c
    refine ⟨(content r : Int), by omega, fun i => ?_⟩
    rw [vec_map (f := fun n => n / (content r : Int)) (Int.zero_ediv _)]
    by_cases c : i < r.length
    · exact (Int.mul_ediv_cancel' (content_dvdI (List.mem_of_getElem? (getD_at c)))).symm
    · rw [vec_beyond (Nat.le_of_not_lt c)]; simp
theorem comb_vec {r o : List Int} (h : o.length ≤ r.length) (f c : Int) (i : Nat) : vec (comb r o f c) i = vec r i * f - c * vec o i := by
  by_cases hi : i < r.length
  · simp [vec, comb, List.getD, hi]
  · rw [vec_beyond (by rw [comb_len]; omega), vec_beyond (r := r) (by omega), vec_beyond (r := o) (by omega)]; simp
theorem above_vec (r : List Int) {p : Nat} (hp : vec r p ≠ 0) : ∃ e : Int, e ≠ 0 ∧ (∀ i, vec (above r p) i = e * vec r i) ∧ 0 < vec (above r p) p := by
  unfold above
  split
  · rename_i h
    exact ⟨1, by decide, fun i => (Int.one_mul _).symm, h⟩
  · rename_i h
    have e : ∀ i, vec (r.map fun n => -n) i = -vec r i := fun i => vec_map (f := fun n => -n) rfl i
    refine ⟨-1, by decide, fun i => by rw [e]; omega, ?_⟩
    rw [e]
    have : ¬ vec r p > 0 := h
    omega
/-- clearing: o*c - c*o, some positive part taken out -/
theorem clear_vec {r o : List Int} {p : Nat} (h : o.length ≤ r.length) (ho : 0 < vec o p) : ∃ g : Int, 0 < g ∧ ∀ i, vec r i * vec o p - vec r p * vec o i = g * vec (clear r o p) i := by
  unfold clear
  split
  · rename_i z
    refine ⟨vec o p, ho, fun i => ?_⟩
    have z' : vec r p = 0 := z
    rw [z']
    grind
  · obtain ⟨g, g0, hg⟩ := thin_vec (comb r o (o.getD p 0) (r.getD p 0))
    exact ⟨g, g0, fun i => by rw [← hg i, comb_vec h]⟩
/-! ### spans -/
inductive In (S : List (List Int)) : (Nat → Int) → Prop
  | zero : In S fun _ => 0
  | row {r : List Int} (h : r ∈ S) : In S (vec r)
  | add {u v : Nat → Int} (hu : In S u) (hv : In S v) : In S fun i => u i + v i
  | smul (c : Int) {v : Nat → Int} (hv : In S v) : In S fun i => c * v i
  | unscale {c : Int} {v : Nat → Int} (hc : c ≠ 0) (hv : In S fun i => c * v i) : In S v
theorem In.of {S : List (List Int)} {u v : Nat → Int} (h : In S u) (e : ∀ i, u i = v i) : In S v := (funext e : u = v) ▸ h
theorem In.trans {S T : List (List Int)} {v : Nat → Int} (h : In S v) (k : ∀ r ∈ S, In T (vec r)) : In T v := by
  induction h with
  | zero => exact .zero
  | row h => exact k _ h
  | add _ _ a b => exact .add a b
  | smul c _ a => exact .smul c a
  | unscale hc _ a => exact .unscale hc a
theorem In.lin {S : List (List Int)} {u v : Nat → Int} (a b : Int) (hu : In S u) (hv : In S v) : In S fun i => a * u i + b * v i := .add (.smul a hu) (.smul b hv)
theorem In.of_mul {S : List (List Int)} {u v : Nat → Int} {c : Int} (hc : c ≠ 0) (h : In S u) (e : ∀ i, u i = c * v i) : In S v := .unscale hc (h.of e)
theorem In.mono {S T : List (List Int)} {v : Nat → Int} (h : In S v) (k : ∀ r ∈ S, r ∈ T) : In T v := h.trans fun r hr => .row (k r hr)
/-- both clearing ways -/
theorem in_clear {S : List (List Int)} {r o : List Int} {p : Nat} (h : o.length ≤ r.length) (ho : 0 < vec o p) (hr : In S (vec r)) (hq : In S (vec o)) : In S (vec (clear r o p)) := by
  obtain ⟨g, g0, hg⟩ := clear_vec h ho
  exact .of_mul (c := g) (by omega) (In.lin (vec o p) (-vec r p) hr hq) fun i => by rw [← hg i]; grind
theorem in_unclear {S : List (List Int)} {r o : List Int} {p : Nat} (h : o.length ≤ r.length) (ho : 0 < vec o p) (hr : In S (vec (clear r o p))) (hq : In S (vec o)) : In S (vec r) := by
  obtain ⟨g, g0, hg⟩ := clear_vec h ho
  exact .of_mul (c := vec o p) (by omega) (In.lin g (vec r p) hr hq) fun i => by have := hg i; grind
/-! ### reduced rows -/
structure Rr (n : Nat) (fs : List (List Int)) : Prop where
  len : ∀ o ∈ fs, o.length = n
  nz : ∀ o ∈ fs, lead o < n
  pos : ∀ o ∈ fs, 0 < vec o (lead o)
  srt : fs.Pairwise fun x y => lead x < lead y
  zero : ∀ x ∈ fs, ∀ y ∈ fs, lead x ≠ lead y → vec y (lead x) = 0
theorem rest_zero {n : Nat} {fs : List (List Int)} (h : Rr n fs) : ∀ (l dn : List (List Int)) (r : List Int), (∀ o ∈ l, o ∈ fs) → (∀ o ∈ dn, o ∈ fs) → r.length = n → (∀ o ∈ dn, vec r (lead o) = 0) → ∀ o, o ∈ dn ∨ o ∈ l → vec (rest r l) (lead o) = 0
  | [], dn, r, _, _, _, hz, o, ho => hz o (ho.resolve_right fun q => by cases q)
  | x :: l, dn, r, hl, hd, hr, hz, o, ho => by
    show vec (rest (clear r x (lead x)) l) (lead o) = 0
    have hx := hl x (List.mem_cons_self ..)
    obtain ⟨g, g0, hg⟩ := clear_vec (r := r) (o := x) (p := lead x) (by rw [h.len x hx, hr]; exact Nat.le_refl _) (h.pos x hx)
    refine rest_zero h l (x :: dn) (clear r x (lead x)) (fun o q => hl o (List.mem_cons_of_mem _ q)) (fun o q => (List.mem_cons.mp q).elim (fun e => e ▸ hx) (hd o)) (by rw [clear_len, hr]) (fun y hy => ?_) o ?_
    · have gy := hg (lead y)
      have key : vec r (lead y) * vec x (lead x) - vec r (lead x) * vec x (lead y) = 0 := by
        by_cases c : lead y = lead x
        · rw [c]; grind
        · rcases List.mem_cons.mp hy with e | hy
          · exact absurd (congrArg lead e) c
          · rw [hz y hy, h.zero y (hd y hy) x hx c]; simp
      rw [key] at gy
      rcases Int.mul_eq_zero.mp gy.symm with q | q
      · omega
      · exact q
    · rcases ho with q | q
      · exact .inl (List.mem_cons_of_mem _ q)
      · rcases List.mem_cons.mp q with q | q
        · exact .inl (q ▸ List.mem_cons_self ..)
        · exact .inr q
theorem in_rest {n : Nat} {S fs : List (List Int)} (h : Rr n fs) : ∀ (l : List (List Int)) (r : List Int), (∀ o ∈ l, o ∈ fs) → r.length = n → (∀ o ∈ fs, In S (vec o)) → (In S (vec r) ↔ In S (vec (rest r l)))
  | [], r, _, _, _ => Iff.rfl
  | x :: l, r, hl, hr, hS => by
    have hx := hl x (List.mem_cons_self ..)
    have hle : x.length ≤ r.length := by rw [h.len x hx, hr]; exact Nat.le_refl _
    have ih := in_rest h l (clear r x (lead x)) (fun o q => hl o (List.mem_cons_of_mem _ q)) (by rw [clear_len, hr]) hS
    exact Iff.trans ⟨fun q => in_clear hle (h.pos x hx) q (hS x hx), fun q => in_unclear hle (h.pos x hx) q (hS x hx)⟩ ih
theorem filter_two {α : Type} (f : α → Nat) (p : Nat) : ∀ l : List α, (∀ x ∈ l, f x ≠ p) → (l.filter fun x => decide (f x < p)).length + (l.filter fun x => decide (p < f x)).length = l.length
  | [], _ => rfl
  | x :: l, h => by
    have ih := filter_two f p l fun y hy => h y (List.mem_cons_of_mem _ hy)
    have hx := h x (List.mem_cons_self ..)
    by_cases c : f x < p
    · have c2 : ¬ p < f x := by omega
      simp [List.filter_cons, c, c2]
      omega
    · have c2 : p < f x := by omega
      simp [List.filter_cons, c, c2]
      omega
section
variable {n : Nat} {fs : List (List Int)} {r : List Int}
/-- the new row -/
structure New (n : Nat) (fs : List (List Int)) (r one : List Int) (p : Nat) : Prop where
  len : one.length = n
  lead : lead one = p
  lt : p < n
  pos : 0 < vec one p
  off : ∀ o ∈ fs, vec one (Q43.lead o) = 0
  ne : ∀ o ∈ fs, Q43.lead o ≠ p
theorem new_row (h : Rr n fs) (hr : r.length = n) (hc : ((rest r fs).any fun n => n != 0) = true) : New n fs r (above (thin (rest r fs)) (lead (rest r fs))) (lead (rest r fs)) := by
  have z := rest_zero h fs [] r (fun o q => q) (fun o q => by cases q) hr (fun o q => by cases q)
  have ln := rest_len fs r
  have lt := lead_lt hc
  have ne := vec_lead_ne lt
  generalize rest r fs = t at *
  obtain ⟨g, g0, hg⟩ := thin_vec t
  have ne2 : vec (thin t) (lead t) ≠ 0 := fun q => ne (by rw [hg, q]; simp)
  obtain ⟨e, e0, he, hp⟩ := above_vec (thin t) ne2
  have tz : ∀ i, vec t i = 0 → vec (thin t) i = 0 := fun i q => by
    rw [hg] at q
    rcases Int.mul_eq_zero.mp q with q | q
    · omega
    · exact q
  refine ⟨by rw [above_len, thin_len, ln, hr], lead_is (fun j hj => ?_) (by omega), by omega, hp, fun o ho => ?_, fun o ho q => ?_⟩
  · rw [he, tz j (vec_lead_zero hj)]; simp
  · rw [he, tz _ (z o (.inr ho))]; simp
  · exact ne (q ▸ z o (.inr ho))
theorem clear_other (h : Rr n fs) {one x : List Int} {p : Nat} (N : New n fs r one p) (hx : x ∈ fs) :
    lead (clear x one p) = lead x ∧ 0 < vec (clear x one p) (lead x) ∧ vec (clear x one p) p = 0 ∧ ∀ y ∈ fs, lead y ≠ lead x → vec (clear x one p) (lead y) = 0 := by
  obtain ⟨g, g0, hg⟩ := clear_vec (r := x) (o := one) (p := p) (by rw [N.len, h.len x hx]; exact Nat.le_refl _) N.pos
  have zz : ∀ i, vec x i * vec one p - vec x p * vec one i = 0 → vec (clear x one p) i = 0 := fun i q => by
    have := hg i
    rw [q] at this
    rcases Int.mul_eq_zero.mp this.symm with q | q
    · omega
    · exact q
  have hpos : 0 < vec (clear x one p) (lead x) := by
    have := hg (lead x)
    rw [N.off x hx] at this
    have h1 := Int.mul_pos (h.pos x hx) N.pos
    have h2 : 0 < g * vec (clear x one p) (lead x) := by rw [← this]; omega
    exact Int.pos_of_mul_pos_right h2 g0 
  refine ⟨lead_is (fun j hj => zz j ?_) (by omega), hpos, zz p (by grind), fun y hy hne => zz _ ?_⟩
  · rw [vec_lead_zero hj]
    by_cases c : vec x p = 0
    · rw [c]; simp
    · have c2 : lead x ≤ p := Nat.le_of_not_lt fun q => c (vec_lead_zero q)
      have : vec one j = 0 := vec_lead_zero (by rw [N.lead]; omega)
      rw [this]; simp
  · rw [h.zero y hy x hx hne, N.off y hy]; simp
theorem rr_with (h : Rr n fs) (hr : r.length = n) : Rr n (withRow fs r) ∧ (∀ S, (∀ o ∈ fs, In S (vec o)) → In S (vec r) → ∀ o ∈ withRow fs r, In S (vec o)) ∧ (∀ S, (∀ o ∈ withRow fs r, In S (vec o)) → In S (vec r) ∧ ∀ o ∈ fs, In S (vec o)) ∧
    ((withRow fs r).length = fs.length ∧ withRow fs r = fs ∨ (withRow fs r).length = fs.length + 1) := by
  unfold withRow
  split
  · rename_i hc
    have N := new_row h hr hc
    have NE := (above_vec (thin (rest r fs)) (p := lead (rest r fs)) (fun q => by
      obtain ⟨g, g0, hg⟩ := thin_vec (rest r fs)
      exact vec_lead_ne (lead_lt hc) (by rw [hg, q]; simp)))
    have T := thin_vec (rest r fs)
    have IR := fun S => in_rest (S := S) h fs r (fun o q => q) hr
    generalize rest r fs = t at *
    generalize above (thin t) (lead t) = one at *
    generalize lead t = p at *
    have C := fun x (hx : x ∈ fs) => clear_other h N hx
    have mem : ∀ y, y ∈ (((fs.map fun x => clear x one p).filter fun x => decide (lead x < p)) ++ [one]) ++ ((fs.map fun x => clear x one p).filter fun x => decide (p < lead x)) → y = one ∨ ∃ x ∈ fs, y = clear x one p := by
      intro y hy
      rcases List.mem_append.mp hy with hy | hy
      · rcases List.mem_append.mp hy with hy | hy
        · obtain ⟨x, hx, rfl⟩ := List.mem_map.mp ((List.mem_filter.mp hy).1)
          exact .inr ⟨x, hx, rfl⟩
        · exact .inl (by simpa using hy)
      · obtain ⟨x, hx, rfl⟩ := List.mem_map.mp ((List.mem_filter.mp hy).1)
        exact .inr ⟨x, hx, rfl⟩
    have mem1 : ∀ x ∈ fs, clear x one p ∈ (((fs.map fun x => clear x one p).filter fun x => decide (lead x < p)) ++ [one]) ++ ((fs.map fun x => clear x one p).filter fun x => decide (p < lead x)) := by
      intro x hx
      have hm : clear x one p ∈ fs.map fun x => clear x one p := List.mem_map.mpr ⟨x, hx, rfl⟩
      have hne := N.ne x hx
      have hl := (C x hx).1
      by_cases c : lead x < p
      · exact List.mem_append.mpr (.inl (List.mem_append.mpr (.inl (List.mem_filter.mpr ⟨hm, by rw [hl]; simpa using c⟩))))
      · exact List.mem_append.mpr (.inr (List.mem_filter.mpr ⟨hm, by rw [hl]; simp; omega⟩))
    have mem2 : one ∈ (((fs.map fun x => clear x one p).filter fun x => decide (lead x < p)) ++ [one]) ++ ((fs.map fun x => clear x one p).filter fun x => decide (p < lead x)) := by simp
    have os : (fs.map fun x => clear x one p).Pairwise fun x y => lead x < lead y := by
      rw [List.pairwise_map]
      refine List.Pairwise.imp_of_mem (fun {a b} ha hb hab => ?_) h.srt
      rw [(C a ha).1, (C b hb).1]
      exact hab
    have le : ∀ x ∈ fs, one.length ≤ x.length := fun x hx => by rw [N.len, h.len x hx]; exact Nat.le_refl _
    refine ⟨⟨fun y hy => ?_, fun y hy => ?_, fun y hy => ?_, ?_, fun y hy z hz hyz => ?_⟩, fun S hS hSr y hy => ?_, fun S hS => ?_, .inr ?_⟩
    · rcases mem y hy with rfl | ⟨x, hx, rfl⟩
      · exact N.len
      · rw [clear_len, h.len x hx]
    · rcases mem y hy with rfl | ⟨x, hx, rfl⟩
      · rw [N.lead]; exact N.lt
      · rw [(C x hx).1]; exact h.nz x hx
    · rcases mem y hy with rfl | ⟨x, hx, rfl⟩
      · rw [N.lead]; exact N.pos
      · rw [(C x hx).1]; exact (C x hx).2.1
    · rw [List.pairwise_append, List.pairwise_append]
      refine ⟨⟨os.filter _, List.pairwise_singleton _ _, fun a ha b hb => ?_⟩, os.filter _, fun a ha b hb => ?_⟩
      · have e : b = one := by simpa using hb
        rw [e, N.lead]
        simpa using (List.mem_filter.mp ha).2
      · have hb2 : p < lead b := by simpa using (List.mem_filter.mp hb).2
        rcases List.mem_append.mp ha with ha | ha
        · have : lead a < p := by simpa using (List.mem_filter.mp ha).2
          omega
        · have e : a = one := by simpa using ha
          rw [e, N.lead]
          exact hb2
    · rcases mem y hy with rfl | ⟨x, hx, rfl⟩
      · rcases mem z hz with rfl | ⟨x2, hx2, rfl⟩
        · exact absurd rfl hyz
        · rw [N.lead]; exact (C x2 hx2).2.2.1
      · rw [(C x hx).1]
        rcases mem z hz with rfl | ⟨x2, hx2, rfl⟩
        · exact N.off x hx
        · rw [(C x hx).1, (C x2 hx2).1] at hyz
          exact (C x2 hx2).2.2.2 x hx hyz
    · have ht : In S (vec t) := (IR S hS).mp hSr
      obtain ⟨g, g0, hg⟩ := T
      obtain ⟨e, e0, he, _⟩ := NE
      have h1 : In S (vec one) := (In.smul e (In.of_mul (c := g) (by omega) ht hg)).of fun i => (he i).symm
      rcases mem y hy with rfl | ⟨x, hx, rfl⟩
      · exact h1
      · exact in_clear (le x hx) N.pos (hS x hx) h1
    · have h1 := hS one mem2
      have hf : ∀ o ∈ fs, In S (vec o) := fun x hx => in_unclear (le x hx) N.pos (hS _ (mem1 x hx)) h1
      obtain ⟨g, g0, hg⟩ := T
      obtain ⟨e, e0, he, _⟩ := NE
      have h2 : In S (vec (thin t)) := In.of_mul (c := e) e0 h1 he
      have ht : In S (vec t) := (In.smul g h2).of fun i => (hg i).symm
      exact ⟨(IR S hf).mpr ht, hf⟩
    · have fl := filter_two lead p (fs.map fun x => clear x one p) (fun y hy => by
        obtain ⟨x, hx, rfl⟩ := List.mem_map.mp hy
        rw [(C x hx).1]
        exact N.ne x hx)
      rw [List.length_map] at fl
      rw [List.length_append, List.length_append, List.length_singleton]
      omega
  · rename_i hc
    refine ⟨h, fun S hS _ => hS, fun S hS => ⟨?_, hS⟩, .inl ⟨rfl, rfl⟩⟩
    have hz : ∀ i, vec (rest r fs) i = 0 := fun i => by
      by_cases c : i < (rest r fs).length
      · have hm := List.mem_of_getElem? (getD_at c)
        by_cases e : (rest r fs).getD i 0 = 0
        · exact e
        · exact absurd (List.any_eq_true.mpr ⟨_, hm, by simpa using e⟩) hc
      · exact vec_beyond (Nat.le_of_not_lt c)
    exact (in_rest h fs r (fun o q => q) hr hS).mpr (In.zero.of fun i => (hz i).symm)
end
end Q43
namespace Z
open PySem PySem.Spec PyProof.Rows L2
section
variable {K : PySem.W.Frag} {p : Me} {σ : L2.St} {H H' A A' : Hp} {te ta tb tc tl ti : TE} {tt : TT} {tu tz : TS} {D : Ends} {d dx dy dz : PyData} {ds es : List PyData}
/-- [d] * n, one's own -/
theorem q_repOwn {i n : Nat} {tx tn : TE} (hx : EvD K p tx σ H (.list [d])) (hn : EvD K p tn σ H (.int (n : Nat))) (hz : n ≤ 60000) (R : Reg p H A)
    (k : ∀ q xs A' H', Gr p A H A' H' → p.own q = none → A q = none → DqAll K H' xs (List.replicate n d) → Reg ⟨p.pool, upd p.own q (.lst xs)⟩ H' A' → A' q = some (.lst xs) → tz D (σ.set i (some (.ref q))) A') : tSeq (tAsg (tOp rRep tx tn) (gName i)) tz D σ A :=
  hx A R _ fun x A1 H1 g1 k1 => EvD.mono g1.reg hn A1 (g1.to R) _ fun y A2 H2 g2 k2 => by
    cases k2
    have R2 := g2.to (g1.to R)
    obtain ⟨a, xs, rfl, h1, h2⟩ := dq_inv_l (dq_ex g2.reg _ _ k1)
    obtain ⟨v, rfl, kv⟩ := dqall_one h2
    refine ⟨a, n, [v], rfl, rfl, R2.ex _ _ h1, by omega, by omega, Evl.sz_of (by simpa using Nat.le_trans hz (by decide)), fun l hl => ?_⟩
    have e : (List.replicate ((n : Int).toNat) [v]).flatten = List.replicate n v := by
      rw [Int.toNat_natCast]
      exact flat_one n
    rw [e]
    have g12 := g1.trans g2
    have hnp : p.pool ≠ some l := fun z => by
      obtain ⟨a, b, e, _⟩ := R2.pool l z
      rw [hl] at e; cases e
    have hno : p.own l = none := by
      cases e : p.own l with
      | none => rfl
      | some o => have := R2.own _ _ e; rw [hl] at this; cases this
    have hnA : A l = none := by
      cases e : A l with
      | none => rfl
      | some o => obtain ⟨o', e'⟩ := g12.dom l o e; rw [hl] at e'; cases e'
    have hnH : H2 l = none := Evl.fresh_back R2.ex hl
    exact k l _ _ H2 (g12.trans (Gr.allocM R2 hl)) hno hnA (dq_rep kv n) (R2.put hnp hnH) upd_same
end
end Z
namespace Q43
open PySem PySem.Spec PyProof.Rows L2 Z
def redM (rows : List (List Int)) : List (List Int) := rows.foldl withRow []
theorem red_more {rows : List (List Int)} {i : Nat} {r : List Int} (h : rows[i]? = some r) : redM (rows.take (i + 1)) = withRow (redM (rows.take i)) r := by
  unfold redM
  rw [take_more h, List.foldl_append]
  rfl
/-- bits of k found rows -/
def Bb (a : Nat) : Nat → Nat
  | 0 => 0
  | k + 1 => a + k * (Bb a k + 1) + Bb a k + 1
theorem bb_step (a k : Nat) : Bb a k ≤ Bb a (k + 1) := by
  show Bb a k ≤ a + k * (Bb a k + 1) + Bb a k + 1
  omega
theorem bb_mono (a : Nat) {j k : Nat} (h : j ≤ k) : Bb a j ≤ Bb a k := by
  induction h with
  | refl => exact Nat.le_refl _
  | step _ ih => exact Nat.le_trans ih (bb_step a _)
theorem sm_with {a b : Nat} {r : List Int} {fs : List (List Int)} (h : Sm a r) (hf : ∀ o ∈ fs, Sm b o) : ∀ o ∈ withRow fs r, Sm (a + fs.length * (b + 1) + b + 1) o := by
  intro o ho
  have h1 : Sm (a + fs.length * (b + 1)) (above (thin (rest r fs)) (lead (rest r fs))) := sm_above (sm_thin (sm_rest fs r a h hf))
  have h2 : ∀ x ∈ fs, Sm (a + fs.length * (b + 1) + b + 1) (clear x (above (thin (rest r fs)) (lead (rest r fs))) (lead (rest r fs))) := fun x hx => (sm_clear (hf x hx) h1).mono (by omega)
  unfold withRow at ho
  split at ho
  · rcases List.mem_append.mp ho with ho | ho
    · rcases List.mem_append.mp ho with ho | ho
      · obtain ⟨x, hx, rfl⟩ := List.mem_map.mp (List.mem_filter.mp ho).1
        exact h2 x hx
      · have e : o = above (thin (rest r fs)) (lead (rest r fs)) := by simpa using ho
        rw [e]
        exact h1.mono (by omega)
    · obtain ⟨x, hx, rfl⟩ := List.mem_map.mp (List.mem_filter.mp ho).1
      exact h2 x hx
  · exact (hf o ho).mono (by omega)
/-- what the rows found so far keep -/
structure Kp (n a : Nat) (rows fs : List (List Int)) : Prop where
  rr : Rr n fs
  sm : ∀ o ∈ fs, Sm (Bb a fs.length) o
  le : fs.length ≤ rows.length
  into : ∀ S, (∀ o ∈ rows, In S (vec o)) → ∀ o ∈ fs, In S (vec o)
  back : ∀ S, (∀ o ∈ fs, In S (vec o)) → ∀ o ∈ rows, In S (vec o)
theorem kp_nil (n a : Nat) : Kp n a [] [] := ⟨⟨(fun _ h => nomatch h), (fun _ h => nomatch h), (fun _ h => nomatch h), .nil, (fun _ h => nomatch h)⟩, (fun _ h => nomatch h), Nat.le_refl _, (fun _ _ _ h => nomatch h), (fun _ _ _ h => nomatch h)⟩
theorem kp_more {n a : Nat} {rows fs : List (List Int)} {r : List Int} (h : Kp n a rows fs) (hr : r.length = n) (hs : Sm a r) : Kp n a (rows ++ [r]) (withRow fs r) := by
  obtain ⟨w1, w2, w3, w4⟩ := rr_with h.rr hr
  refine ⟨w1, fun o ho => ?_, ?_, fun S hS => ?_, fun S hS o ho => ?_⟩
  · rcases w4 with ⟨_, e⟩ | e
    · rw [e] at ho ⊢
      exact h.sm o ho
    · rw [e]
      exact sm_with hs h.sm o ho
  · rw [List.length_append, List.length_singleton]
    have := h.le
    rcases w4 with ⟨e, _⟩ | e <;> omega
  · exact w2 S (h.into S fun o ho => hS o (List.mem_append.mpr (.inl ho))) (hS r (by simp))
  · obtain ⟨q1, q2⟩ := w3 S hS
    rcases List.mem_append.mp ho with ho | ho
    · exact h.back S q2 o ho
    · have e : o = r := by simpa using ho
      rw [e]
      exact q1
/-- rows of one length and size -/
def Ok (n a : Nat) (rows : List (List Int)) : Prop := ∀ r ∈ rows, r.length = n ∧ Sm a r
theorem kp_all {n a : Nat} {rows : List (List Int)} (h : Ok n a rows) : ∀ i, i ≤ rows.length → Kp n a (rows.take i) (redM (rows.take i))
  | 0, _ => kp_nil n a
  | i + 1, hi => by
    have hi' : i < rows.length := hi
    have e := List.getElem?_eq_getElem hi'
    obtain ⟨h1, h2⟩ := h _ (List.mem_of_getElem? e)
    rw [take_more e, ← take_more e, red_more e, take_more e]
    exact kp_more (kp_all h i (Nat.le_of_lt hi)) h1 h2
end Q43
namespace Q43
open PySem PySem.Spec PyProof.Rows L2 Z
section
variable {P : Program} {w : World} {K : PySem.W.Frag} {mg : Str → Option Value} {base : Heap}
abbrev s__law_take : Stmt := top 24
theorem sc__law_take : FnScope N_take ["_law_pool_here", "_law_wide"] (defScope s__law_take) := ⟨rfl, rfl, rfl, by decide +kernel, rfl, by decide +kernel, by decide +kernel⟩
theorem dn__law_take (Hx : St K mg "_law_take" s__law_take ["_law_pool_here", "_law_wide"]) (B : Bs mg) : Dn P w K mg base CX0 1 "_law_take" ["_law_pool_here", "_law_wide"] (takeS K) := by
  refine dn_of 0 Hx sc__law_take (fun vs H Q E h => by obtain ⟨_, _, _, _, rfl, _⟩ := h; rfl) fun f cdv A outer s H vs Q E hr h => ⟨_, (pss_cons (ps_if (pt_cmpR op_gt (pe_ix (ix_K (K := K) rfl) (pv 0) pe_int (fun _ _ => rfl)) pe_int (nomark _)) (pss_cons (ps_set (i := 2) sc__law_take.nd rfl (Or.inl rfl) (pe_op op_mod (pe_callTy call_int1 (by rfl) B.int (by decide +kernel) (pa_cons (pe_ix (ix_K (K := K) rfl) (pv 0) pe_int (fun _ _ => rfl)) pa_nil)) (pv 1)))
    (pss_cons (ps_asg (pe_op op_fdiv (pe_ix (ix_K (K := K) rfl) (pv 0) pe_int (fun _ _ => rfl)) (pv 1)) (pg_sub (pv 0) pe_int set_list))
    (pss_one (ps_ret (pv 2))))) pss_nil)
    (pss_cons (ps_asg (pe_op op_mod (pe_callTy call_int1 (by rfl) B.int (by decide +kernel) (pa_cons (pe_op op_add (pe_op op_mul (pe_ix (ix_K (K := K) rfl) (pv 0) pe_int (fun _ _ => rfl)) pe_int) pe_int) pa_nil)) pe_int) (pg_sub (pv 0) pe_int set_list))
    (pss_one (ps_ret (pe_op op_mod (pe_op op_fdiv (pe_op op_mod (pe_callTy call_int1 (by rfl) B.int (by decide +kernel) (pa_cons (pe_op op_mul (pe_ix (ix_K (K := K) rfl) (pv 0) pe_int (fun _ _ => rfl)) (pe_ix (ix_K (K := K) rfl) (pv 0) pe_int (fun _ _ => rfl))) pa_nil)) pe_int) pe_int) (pv 1)))))), ?_⟩
  obtain ⟨H0, q, own, m, rfl, R, h1, h2, k⟩ := h
  exact take_run R h1 h2 k
abbrev s__law_pool : Stmt := top 23
abbrev N__law_pool : List Str := ["_law_script", "_law_k", "_law_cell", "_law_heavy", "_law_blend", "_law_seed"]
theorem sc__law_pool : FnScope N__law_pool ["_law_script", "_law_k"] (defScope s__law_pool) := ⟨rfl, rfl, rfl, by decide +kernel, rfl, by decide +kernel, by decide +kernel⟩
theorem dn__law_pool (Hx : St K mg "_law_pool" s__law_pool ["_law_script", "_law_k"]) (B : Bs mg) : Dn P w K mg base CX0 1 "_law_pool" ["_law_script", "_law_k"] (poolS K) := by
  refine dn_of 0 Hx sc__law_pool (fun vs H Q E h => by obtain ⟨_, _, _, _, _, rfl, _⟩ := h; rfl) fun f cdv A outer s H vs Q E hr h => ⟨_, (pss_cons (ps_set (i := 2) sc__law_pool.nd rfl (Or.inl rfl) pe_int)
    (pss_cons (ps_if (pt_cmpR op_lt (pv 1) (pe_callB call_len_seq (by rfl) B.len (by decide +kernel) (pa_cons (pv 0) pa_nil)) (nomark _)) (pss_one (ps_set (i := 2) sc__law_pool.nd rfl (Or.inl rfl) (pe_ix (ix_K (K := K) rfl) (pv 0) (pv 1) (fun _ _ => rfl)))) pss_nil)
    (pss_cons (ps_set (i := 3) sc__law_pool.nd rfl (Or.inl rfl) (pe_callB call_abs (by rfl) B.abs (by decide +kernel) (pa_cons (pv 2) pa_nil)))
    (pss_cons (ps_set (i := 4) sc__law_pool.nd rfl (Or.inl rfl) (pe_op op_mod (pe_op op_mul (pe_callTy call_int1 (by rfl) B.int (by decide +kernel) (pa_cons (pe_op op_add (pe_op op_mod (pe_callTy call_int1 (by rfl) B.int (by decide +kernel) (pa_cons (pv 2) pa_nil)) pe_int) (pe_op op_mul pe_int (pe_op op_add (pv 1) pe_int))) pa_nil)) (pe_op op_add (pv 1) pe_int)) pe_int))
    (pss_cons (ps_set (i := 5) sc__law_pool.nd rfl (Or.inl rfl) (pe_op op_mod (pe_op op_mul (pe_op op_mod (pe_callTy call_int1 (by rfl) B.int (by decide +kernel) (pa_cons (pe_op op_mul (pv 4) (pv 4)) pa_nil)) pe_int) pe_int) pe_int))
    (pss_one (ps_ret (pe_lst (pa_cons (pe_op op_mul (pv 3) (pe_callTy call_int1 (by rfl) B.int (by decide +kernel) (pa_cons (pe_cmpR op_ge (pv 3) (pe_op op_pow pe_int pe_int) (nomark _)) pa_nil))) (pa_cons (pv 5) pa_nil)))))))))), ?_⟩
  obtain ⟨H0, sa, ns, k, R, rfl, k1, hk8, q⟩ := h
  refine q_asg (P := fun v H' => Dq K H' v (.int 0)) (d_int (K := K)) R fun u A1 H1 g1 ku => ?_
  cases ku
  have R1 := g1.to R
  have hl : ∀ {c : Int}, (0 : Int) ≤ (if c < 0 then -c else c) * (if decide ((10 : Int) ^ (18 : Int).toNat ≤ (if c < 0 then -c else c)) then 1 else 0) := fun {c} => by
    refine Int.mul_nonneg (by split <;> omega) ite01
  refine q_when (b_test (d_op (K := K) (d_var rfl (.int _)) (d_lenS rfl (sql_ex g1.reg k1)) o_lt)) R1
    (fun hb A2 H2 g2 => Z.s_asg (d_ixS (K := K) rfl (sql_ex (g1.reg.trans g2.reg) k1) (d_var rfl (.int _)) (n := ns.getD k 0) (atI_nat (by rw [List.getElem?_map, getD_at (by simpa using hb)]; rfl))) (g2.to R1) fun v3 A4 H4 g3 k3 => ?a) (fun hb A4 H4 g2 => ?b)
  case' a => cases k3; have gg := (g1.trans g2).trans g3
  case' b => have gg := g1.trans g2
  all_goals
    have R4 := gg.to R
    refine q_asg (d_cb (K := K) (s_cons (d_var rfl (.int _)) s_nil) c_abs) R4 fun v5 A5 H5 g5 k5 => ?_
    cases k5
    have R5 := g5.to R4
    refine q_asg (d_mods (d_op (K := K) (d_op (d_cb (s_cons (d_op (d_op (d_cb (s_cons (d_var rfl (.int _)) s_nil) c_int1) d_int (o_mod (by decide))) (d_op d_int (d_op (d_var rfl (.int _)) d_int o_add) (o_mul (.inl (by decide)))) o_add) s_nil) c_int1) (d_op (d_var rfl (.int _)) d_int o_add) (o_mul (.inr ⟨by omega, by omega⟩))) d_int (o_mod (by decide))) (by decide)) R5 fun v6 A6 H6 g6 k6 => ?_
    obtain ⟨b, rfl, b0, b1⟩ := k6
    have R6 := g6.to R5
    refine q_asg (d_mods (d_op (K := K) (d_op (d_op (d_cb (s_cons (d_op (d_var rfl (.int b)) (d_var rfl (.int b)) (o_mul (.inl ⟨by omega, by omega⟩))) s_nil) c_int1) d_int (o_mod (by decide))) d_int (o_mul (.inr (by decide)))) d_int (o_mod (by decide))) (by decide)) R6 fun v7 A7 H7 g7 k7 => ?_
    obtain ⟨sd, rfl, s0, s1⟩ := k7
    have R7 := g7.to R6
    refine s_retNew (K := K) (s_cons (d_op (d_var rfl (.int _)) (d_cb (s_cons (d_op (d_var rfl (.int _)) (d_op d_int d_int (o_I (C := CPow) (f := fun i j => i ^ j.toNat) ⟨by decide, by decide, by decide⟩)) o_ge) s_nil) c_intB) (o_mul ite01m)) (s_cons (d_var rfl (.int sd)) s_nil)) (by show 2 ≤ 100000; decide) R7 fun l vs A8 H8 g8 k8 n1 n2 n3 => ?_
    obtain ⟨x, y, rfl, kx, ky⟩ := dqall_two k8
    cases kx
    cases ky
    have g08 := (((gg.trans g5).trans g6).trans g7).trans g8
    refine q l _ _ _ H8 (g08.trans (Gr.allocM (g08.to R) n1)) ?_ n2 upd_same hl s0 s1
    cases e : H l with
    | none => rfl
    | some o => obtain ⟨o', e'⟩ := g08.dom l o e; rw [n1] at e'; cases e'
end
end Q43
/-! methods of one's own classes, by promises -/
namespace Z
open PySem PySem.Spec PyProof.Rows L2 Evl
/-- the method st stands at f -/
def StM (K : PySem.W.Frag) (x qual : Str) (st : Stmt) (f : Addr) (ps : List Str) : Prop := ∃ fd, FunD K x qual (defArgs st) (defBody st) (defScope st) [] [] f fd ∧ Binds K fd ps []
def Mn (P : Program) (w : World) (K : PySem.W.Frag) (mg : Str → Option Value) (base : Heap) (k : Nat) (f : Addr) (ps : List Str) (sp : Sp) : Prop := ∃ fd, FnOk P w K mg base CX0 k f fd ps sp ∧ Binds K fd ps []
theorem mn_of {P : Program} {w : World} {K : PySem.W.Frag} {mg : Str → Option Value} {base : Heap} {x qual : Str} {st : Stmt} {f : Addr} {N ps : List Str} {sp : Sp} (k : Nat) (Hx : StM K x qual st f ps) (S : FnScope N ps (defScope st)) (len : ∀ vs H Q E, sp vs H Q E → vs.length = ps.length)
    (hbody : ∀ (cdv : Value) (A : Around) (outer : List Env) (s : Shared) (H : Hp) (vs : List V) (Q : VK) (E : XK), Room k (A.deeper (envOfC qual (defScope st) s.heap.objs.size f cdv)) → sp vs H Q E →
      ∃ t, PSs (cxOf CX0 P w K mg base N qual (defScope st) f cdv A outer s H E).nox (defBody st) t ∧ t { nx := fun _ H' => Q .non H', rt := Q } (start N vs) H) : Mn P w K mg base (k + 1) f ps sp := by
  obtain ⟨fd, F, b⟩ := Hx
  refine ⟨fd, F.ok S len fun cdv A outer s H vs Q E hr h => ?_, b⟩
  obtain ⟨t, h1, h2⟩ := hbody cdv A outer s H vs Q E hr h
  exact ⟨t, h1.nox, h2⟩
section
variable {X : Cx} {k k' : Nat} {C f g pa : Addr} {ps : List Str} {sp : Sp} {e o : Expr} {es : List Expr} {x m : Str} {t : TA} {ta : TE} {p pos apos : Pos}
theorem pe_mk (M : Mk X.K C f) (D : Mn X.prog X.w X.K X.mg X.base k f ps sp) (hr : Room k' X.A) (hk : k + 1 ≤ k') (hg : Gl X x) (hm : X.mg x = some (.ref C)) (ha : PA X (e :: es) t)
    (hdb : (x == ("__debug__" : Str)) = false := by decide) (he : starEach (e :: es) X.env = (false, eval e X.env) :: starEach es X.env := by rfl) (hpl : (backTo pos (starEach es X.env)).any (·.1) = false := by rfl) : PE X (.Call (.Name x p) (e :: es) [] pos) (tMake C sp [] E0 t) := by
  obtain ⟨fd, F, b⟩ := D
  exact pe_make M F (hr.mono hk) hg hm b .nil pass0 ha hdb he hpl
theorem cr_lenM (hm : Meth X.K C "__len__" f) (D : Mn X.prog X.w X.K X.mg X.base k f ps sp) (hr : Room k' X.A) (hk : k + 1 ≤ k') : CallR X (.builtin "len") (rLenO C sp) := by
  obtain ⟨fd, F, b⟩ := D
  exact cr_lenO hm F (hr.mono hk) b
theorem op_inM (hm : Meth X.K C "__contains__" f) (D : Mn X.prog X.w X.K X.mg X.base k f ps sp) (hr : Room k' X.A) (hk : k ≤ k') : OpR X (compareOp .In) (rInO C sp false) := by
  obtain ⟨fd, F, b⟩ := D
  exact op_inO hm F (hr.mono hk) b
theorem op_eqM (hm : Meth X.K C "__eq__" f) (D : Mn X.prog X.w X.K X.mg X.base k f ps sp) (hr : Room k' X.A) (hk : k ≤ k') : OpR X (compareOp .Eq) (rEqO C X.K sp false) := by
  obtain ⟨fd, F, b⟩ := D
  exact op_eqO hm F (hr.mono hk) b
theorem op_neM (hm : Meth X.K C "__eq__" f) (ne : PySem.W.findIn X.K (.ref C) "__ne__" = some (some (.builtin "object.__ne__"))) (ob : PySem.W.mroIn X.K C (.type "object") = some true) (D : Mn X.prog X.w X.K X.mg X.base k f ps sp) (hr : Room k' X.A) (hk : k + 1 ≤ k') : OpR X (compareOp .NotEq) (rEqO C X.K sp true) := by
  obtain ⟨fd, F, b⟩ := D
  exact op_neO hm ne ob F (hr.mono hk) b
theorem op_binM {op : Operator} (sf : PySem.W.selfFirst X.K C = true) (hm : Meth X.K C (PySem.dunder op.info.2) f) (D : Mn X.prog X.w X.K X.mg X.base k f ps sp) (hr : Room k' X.A) (hk : k ≤ k') : OpR X (binaryOp op) (rBinO C sp) := by
  obtain ⟨fd, F, b⟩ := D
  exact op_binO sf hm F (hr.mono hk) b
theorem pe_propM (he : PE X e ta) (c : Cls X.K C) (hp : PropOf X.K C m pa g) (D : Mn X.prog X.w X.K X.mg X.base k g ps sp) (hr : Room k' X.A) (hk : k + 1 ≤ k') (hab : attributeBase e m X.env (eval e X.env) = eval e X.env := by rfl) : PE X (.Attribute e m pos) (tProp C sp [] E0 ta) := by
  obtain ⟨fd, F, b⟩ := D
  exact pe_prop he c hp F (hr.mono hk) b .nil pass0 hab
theorem pe_methM {pl : Sem Bool} (he : PE X o ta) (c : Cls X.K C) (hm : Meth X.K C m f) (D : Mn X.prog X.w X.K X.mg X.base k f ps sp) (hr : Room k' X.A) (hk : k ≤ k') (ha : PA X (e :: es) t)
    (hst : starEach (e :: es) X.env = (false, eval e X.env) :: starEach es X.env := by rfl) (hpl : (backTo pos (starEach es X.env)).any (·.1) = false := by rfl)
    (ht : eval (.Call (.Attribute o m apos) (e :: es) [] pos) X.env = (do
      let ov ← eval o X.env
      standAt apos.atName
      let (f, first) ← holding [ov] (getMethod ov m pl)
      callWith pos f first (backTo pos (starEach (e :: es) X.env)) (backToKw pos (keywordEach [] X.env))) := by rfl) : PE X (.Call (.Attribute o m apos) (e :: es) [] pos) (tMeth C m sp [] E0 ta t) := by
  obtain ⟨fd, F, b⟩ := D
  exact pe_meth he c hm F (hr.mono hk) b .nil pass0 ha hst hpl ht
end
/-! readings -/
/-- an object of the class C with those fields -/
def OB (C : Addr) (fs : List (Str × V)) : V → Hp → Prop := fun v H => ∃ a dx, v = .ref a ∧ H a = some (.ins C dx fs)
def IsO (C : Addr) : V → Hp → Prop := fun v H => ∃ a dx fs, v = .ref a ∧ H a = some (.ins C dx fs)
section
variable {K : PySem.W.Frag} {p : Me} {σ : L2.St} {H H' A A' : Hp} {te ta tb tc tl ti : TE} {tt : TT} {tu tz : TS} {D : Ends} {d dx dy dz : PyData} {ds es : List PyData} {P Px Py Pz : V → Hp → Prop} {C : Addr} {F : List V → Hp → (V → Hp → Prop) → Prop} {b : Bool} {n : Nat}
theorem mono_ob {fs : List (Str × V)} : Mono (OB C fs) := fun v H H' e ⟨a, dx, h1, h2⟩ => ⟨a, dx, h1, e _ _ h2⟩
theorem g_in {i : Nat} {v : V} (h : σ[i]? = some (some v)) (hp : Mono P) (k : P v H) : EvG p (tVar i) σ H P := fun A R Q q => ⟨v, h, q v A H R.refl k⟩
theorem g_cls : EvG p (tC (.ref C)) σ H fun v _ => v = .ref C := fun A R Q q => q _ A H R.refl rfl
theorem useG {vs : List V} {E : XK} (R : Reg p H A) (h : F vs H P) {Q : VK} (q : ∀ v A' H', Gr p A H A' H' → P v H' → Q v A') : SpG F vs A Q E := ⟨H, P, R.nil, h, fun v A' H' g k => q v A' H' (g.pure R) k⟩
theorem tyd_of {v : V} (R : Reg p H A) (k : Dq K H v d) : TyX K A v (.type (tyD d)) := tyx_of R k
theorem d_isiO (h : EvG p ta σ H Px) (iso : ∀ v H, Px v H → IsO C v H) (c : C8.InsC K C) : EvD K p (tCB (rIsi K) (tCons ta (tCons (tC (.ref C)) tNil))) σ H (.bool true) := fun A R Q q => h A R _ fun v A1 H1 g1 k1 => by
  obtain ⟨a, dx, fs, rfl, ha⟩ := iso v H1 k1
  exact ⟨.ref a, .ref C, .ref C, .ref C, true, rfl, .own C, .base (.ins ((g1.to R).ex _ _ ha) c.cl c.ha c.hn c.htk c.hm), c.me, q _ A1 H1 g1 (.bl true)⟩
theorem d_isiN (h : EvD K p ta σ H d) (c : ∀ T ∈ tysD, PySem.W.kitOne K (.type T) (.ref C) = some false) : EvD K p (tCB (rIsi K) (tCons ta (tCons (tC (.ref C)) tNil))) σ H (.bool false) := fun A R Q q => h A R _ fun v A1 H1 g1 k1 =>
  ⟨v, .ref C, .type (tyD d), .ref C, false, rfl, .own C, tyd_of (g1.to R) k1, c _ (tyD_mem k1), q _ A1 H1 g1 (.bl false)⟩
theorem g_two {r : R2} (mx : Mono Px) (ha : EvG p ta σ H Px) (hb : EvG p tb σ H Py) (my : Mono Py) (hr : ∀ x y H2 A, Ex H H2 → Px x H2 → Py y H2 → Reg p H2 A → ∀ Q : VK, (∀ v A' H', Gr p A H2 A' H' → P v H' → Q v A') → r x y A Q) : EvG p (tOp r ta tb) σ H P :=
  g_opV mx ha (fun H1 e => hb.monoP my e) hr
/-- x in o -/
theorem d_inO {neg : Bool} (hx : EvG p ta σ H Px) (mx : Mono Px) (ho : EvG p tb σ H Py) (my : Mono Py) (iso : ∀ v H, Py v H → IsO C v H) (hF : ∀ x y H', Ex H H' → Px x H' → Py y H' → F [y, x] H' fun v _ => v = .bl b) : EvD K p (tOp (rInO C (SpG F) neg) ta tb) σ H (.bool (if neg then !b else b)) :=
  g_two mx hx ho my fun x y H2 A e kx ky R Q q => by
    obtain ⟨a, dx, fs, rfl, ha⟩ := iso y H2 ky
    exact ⟨a, dx, fs, rfl, R.ex _ _ ha, useG R (hF x _ H2 e kx ky) fun v A3 H3 g3 k3 => ⟨b, k3, q _ A3 H3 g3 (.bl _)⟩⟩
/-- o == y, o != y: y an object of the class, or data -/
theorem d_eqO {neg : Bool} (hx : EvG p ta σ H Px) (mx : Mono Px) (iso : ∀ v H, Px v H → IsO C v H) (ho : EvG p tb σ H Py) (my : Mono Py) (isy : ∀ v H, Py v H → IsO C v H ∨ ∃ d, Dq K H v d) (hF : ∀ x y H', Ex H H' → Px x H' → Py y H' → F [x, y] H' fun v _ => v = .bl b) : EvD K p (tOp (rEqO C K (SpG F) neg) ta tb) σ H (.bool (if neg then !b else b)) :=
  g_two mx hx ho my fun x y H2 A e kx ky R Q q => by
    obtain ⟨a, dx, fs, rfl, ha⟩ := iso x H2 kx
    refine ⟨a, dx, fs, rfl, R.ex _ _ ha, ?_, useG R (hF _ y H2 e kx ky) fun v A3 H3 g3 k3 => ⟨b, k3, q _ A3 H3 g3 (.bl _)⟩⟩
    rcases isy y H2 ky with ⟨b, dy, gs, h1, h2⟩ | ⟨d, h1⟩
    · exact .inl ⟨b, dy, gs, h1, R.ex _ _ h2⟩
    · exact .inr ⟨d, dq_ex R.ex _ _ h1⟩
/-- o | y -/
theorem g_binO (hx : EvG p ta σ H Px) (mx : Mono Px) (iso : ∀ v H, Px v H → IsO C v H) (ho : EvG p tb σ H Py) (my : Mono Py) (isy : ∀ v H, Py v H → IsO C v H) (hF : ∀ x y H', Ex H H' → Px x H' → Py y H' → F [x, y] H' P) : EvG p (tOp (rBinO C (SpG F)) ta tb) σ H P :=
  g_two mx hx ho my fun x y H2 A e kx ky R Q q => by
    obtain ⟨a, dx, fs, rfl, ha⟩ := iso x H2 kx
    obtain ⟨b, dy, gs, rfl, hb⟩ := isy y H2 ky
    exact ⟨a, dx, fs, b, dy, gs, rfl, rfl, R.ex _ _ ha, R.ex _ _ hb, useG R (hF _ _ H2 e kx ky) q⟩
/-- len(o) -/
theorem d_lenO (ho : EvG p ta σ H Px) (iso : ∀ v H, Px v H → IsO C v H) (hn : n < 2 ^ 62) (hF : ∀ x H', Ex H H' → Px x H' → F [x] H' fun v _ => v = .int (n : Nat)) : EvD K p (tCB (rLenO C (SpG F)) (tCons ta tNil)) σ H (.int (n : Nat)) := fun A R Q q => ho A R _ fun v A1 H1 g1 k1 => by
  obtain ⟨a, dx, fs, rfl, ha⟩ := iso v H1 k1
  have R1 := g1.to R
  exact ⟨a, dx, fs, rfl, R1.ex _ _ ha, useG R1 (hF _ H1 g1.reg k1) fun v A3 H3 g3 k3 => ⟨n, k3, hn, q _ A3 H3 (g1.trans g3) (.int _)⟩⟩
/-- o.f, a property -/
theorem g_prop (ho : EvG p ta σ H Px) (iso : ∀ v H, Px v H → IsO C v H) (hF : ∀ x H', Ex H H' → Px x H' → F [x] H' P) : EvG p (tProp C (SpG F) [] E0 ta) σ H P := fun A R Q q => ho A R _ fun v A1 H1 g1 k1 => by
  obtain ⟨a, dx, fs, rfl, ha⟩ := iso v H1 k1
  have R1 := g1.to R
  exact ⟨a, dx, fs, rfl, R1.ex _ _ ha, useG R1 (hF _ H1 g1.reg k1) fun v A3 H3 g3 k3 => q _ A3 H3 (g1.trans g3) k3⟩
/-- o.m(y) -/
theorem g_meth1 {m : Str} (hx : EvG p ta σ H Px) (mx : Mono Px) (iso : ∀ v H, Px v H → ∃ a dx fs, v = .ref a ∧ H a = some (.ins C dx fs) ∧ fs.lookup m = none) (ho : EvG p tb σ H Py) (my : Mono Py) (hF : ∀ x y H', Ex H H' → Px x H' → Py y H' → F [x, y] H' P) : EvG p (tMeth C m (SpG F) [] E0 ta (tCons tb tNil)) σ H P := fun A R Q q =>
  hx A R _ fun v A1 H1 g1 k1 => by
    obtain ⟨a, dx, fs, rfl, ha, hl⟩ := iso v H1 k1
    have R1 := g1.to R
    refine ⟨a, dx, fs, rfl, R1.ex _ _ ha, hl, (ho.monoP my g1.reg) A1 R1 _ fun y A2 H2 g2 k2 => ?_⟩
    exact useG (E := E0) (vs := .ref a :: ([y] ++ [])) (g2.to R1) (hF _ y H2 (g1.reg.trans g2.reg) (mx _ _ _ g2.reg k1) k2) fun v A3 H3 g3 k3 => q v A3 H3 ((g1.trans g2).trans g3) k3
/-- writes to an object that is not known yet are not seen -/
theorem Gr.poke {A0 H0 : Hp} {x : Addr} {o : HO} (g : Gr .non A0 H0 A H) (hx : A0 x = none) (hn : H x = none) : Gr .non A0 H0 (upd A x o) H := by
  have ne : ∀ {a o}, A0 a = some o → a ≠ x := fun h z => by subst z; rw [hx] at h; cases h
  refine ⟨fun a o n h => ?_, fun a o h => ?_, fun q hq => (nomatch hq), g.reg, fun a o h => ?_, g.new⟩
  · rw [upd_ne (ne h)]; exact g.act a o n h
  · rw [upd_ne (ne h)]; exact g.dom a o h
  · have : a ≠ x := fun z => by subst z; rw [hn] at h; cases h
    rw [upd_ne this]; exact g.sub a o h
end
end Z
/-! more rules: list.clear, bool(o), not o, tuple * 1 -/
namespace Z
open PySem PySem.Spec PyProof.Rows L2 Evl
def rLClear : V → List V → Hp → VK → Prop := fun x vs H Q => ∃ l xs, x = .ref l ∧ vs = [] ∧ H l = some (.lst xs) ∧ Q .non (upd H l (.lst []))
theorem mt_clear {X : Cx} : MtR X "list.clear" rLClear := by
  intro pins s σ H x vs v us Q I rx rv h
  obtain ⟨l, xs, rfl, rfl, hH, q⟩ := h
  cases rx
  have hus := rv.zero
  subst hus
  obtain ⟨z, its, n, r, hl, e⟩ := I.lstM hH
  refine call_meets F.slot_list_clear ⟨_, e, rfl⟩ F.entry_list_clear (F.args_list_clear_1 _) (AutoSeq1.list_clear_list_0 l its.toArray n (by rw [List.size_toArray]; omega)) ⟨e, ?_⟩
  exact ⟨.non, _, I.lset (its' := []) hH e (by simp) .nil (Nat.zero_le _), rfl, q⟩
theorem pe_lclear {X : Cx} {o : Expr} {to : TE} {apos cpos : Pos} (ho : PE X o to) (hbase : attributeBase o "clear" X.env (eval o X.env) = eval o X.env := by rfl) (hline : (apos.endLine == cpos.line) = true := by rfl) : PE X (.Call (.Attribute o "clear" apos) [] [] cpos) (tBM0 X.K "list" rLClear to) :=
  pe_bm0 PySem.F.plainAttrs_list PySem.F.slot_list_clear PySem.F.type_list_clear mt_clear ho hbase hline
section
variable {prog : Program} {w : World}
theorem bool_new_own (c : Addr) : MeetsIn prog w (Builtin.«bool.__new__» ⟨[.type "bool", .ref c], []⟩) (fun A R s => wpAny (model prog w) A.in1 (truthy (.ref c)) (fun b t => R (.ok (.ret (.bool b))) t) (fun e t => R (.error e) t) s) :=
  MeetsIn.of_wp fun A R s hs => by
    have f1 := F.conv_sub_bool
    have key : wpAny (model prog w) A.in1 (truthy (.ref c)) (fun b t => ∃ v, Fin.done (.ret (.bool b)) = Fin.done (.ret v) ∧ R (.ok (.ret v)) t) (fun e t => R (.error e) t) s := wpAny_mono hs (fun b t z => ⟨_, rfl, z⟩) fun _ _ z => z
    obtain ⟨hp, g, d, tk, os⟩ := s
    repeat (any_goals (first | assumption | (refine wpAny_bind (wpAny_mono key (fun b t z => wpAny_pure z) fun _ _ z => z)) | wp_step))
end
section
variable {X : Cx} {k k' : Nat} {C f : Addr} {ps : List Str} {sp : Sp} {e : Expr} {ta : TE} {pos : Pos}
def rBoolO (C : Addr) (sp : Sp) : List V → Hp → VK → Prop := fun vs H Q => ∃ a dx fs, vs = [.ref a] ∧ H a = some (.ins C dx fs) ∧ sp [.ref a] H (fun v H' => ∃ n : Nat, v = .int (n : Nat) ∧ n < 2 ^ 62 ∧ Q (.bl (n != 0)) H') E0
theorem cr_boolM (no : NoAttr X.K C "__bool__") (hm : Meth X.K C "__len__" f) (D : Mn X.prog X.w X.K X.mg X.base k f ps sp) (hr : Room k' X.A) (hk : k + 3 ≤ k') : CallR X (.type "bool") (rBoolO C sp) := by
  obtain ⟨fd, F, hb0⟩ := D
  intro pins s σ H vs us Q I r h
  obtain ⟨a, dx, fs, rfl, ha, q⟩ := h
  rw [Vals.ref1 r]
  obtain ⟨od, J⟩ := ins_look I ha
  have hl : ([Value.ref a] ++ []).length = ps.length := by
    rw [List.append_nil]
    exact F.len _ _ _ _ q
  have b := hb0 s [.ref a] I.kIn hl
  rw [List.append_nil] at b
  have hr3 : Room k X.A.in1.in1.in1 := (hr.mono hk).in1.in1.in1
  refine callType_newIn PySem.F.called_bool PySem.F.newNe_bool (PySem.F.typeCall_bool_1 _) (PySem.F.newCall_bool_1 _) (fun obj => PySem.F.args_object_init_2 obj _) PySem.F.entry_bool_new (bool_new_own a) ?_
  refine truthy_len I.kIn J no hm.at_ hm.fn (wpAny_call (codeAny_mono (F.run X.A.in1.in1.in1 X.stack s H ⟨[.ref a], []⟩ [.ref a] [.ref a] _ E0 hr3 I.env0.in1.in1.in1 b (.cons rfl .nil) q) fun r s' hq => ?_))
  cases r with
  | error e => exact hq.elim
  | ok fl =>
    cases fl with
    | ret u =>
      obtain ⟨v, H1, I1, rv, n, rfl, hn, q1⟩ := I.after hq
      obtain ⟨t, rfl⟩ := (show ∃ t, u = Value.int (n : Nat) t from rv)
      have e : ((n : Int) != 0) = (n != 0) := by
        by_cases c : n = 0
        · subst c; rfl
        · have c' : (n : Int) ≠ 0 := by omega
          rw [bne_iff_ne.mpr c', bne_iff_ne.mpr c]
      refine ⟨⟨by omega, by omega⟩, _, _, rfl, rfl, ?_⟩
      rw [e]
      exact ⟨.bl (n != 0), H1, I1.tok _, rfl, q1⟩
    | next => exact hq.elim
    | brk => exact hq.elim
    | cont => exact hq.elim
/-- not o -/
def tNotO (C : Addr) (sp : Sp) (ta : TE) : TE := fun σ H Q => ta σ H fun x H1 => rTruO C sp x H1 fun b H2 => Q (.bl (!b)) H2
theorem pe_notM (he : PE X e ta) (no : NoAttr X.K C "__bool__") (hm : Meth X.K C "__len__" f) (D : Mn X.prog X.w X.K X.mg X.base k f ps sp) (hr : Room k' X.A) (hk : k + 1 ≤ k') : PE X (.UnaryOp .Not e pos) (tNotO C sp ta) := by
  obtain ⟨fd, F, hb⟩ := D
  refine ⟨fun pins s σ H Q I h => ?_⟩
  refine UnaryOp_ (thn (he.run pins s σ H _ I h) fun v s1 ⟨x, H1, I1, r1, q1⟩ => ?_)
  refine not_of (wpAny_mono (truthyO no hm F (hr.mono hk) hb I1 r1 q1) (fun c s2 z => ?_) fun _ _ z => z)
  obtain ⟨H2, I2, q2⟩ := z
  exact ⟨.bl (!c), H2, I2, rfl, q2⟩
end
section
variable {K : PySem.W.Frag} {p : Me} {σ : L2.St} {H H' A A' : Hp} {te ta tb tc tl ti : TE} {P Px Py Pz : V → Hp → Prop} {C : Addr} {F : List V → Hp → (V → Hp → Prop) → Prop} {b : Bool} {n : Nat}
theorem d_boolO (ho : EvG p ta σ H Px) (iso : ∀ v H, Px v H → IsO C v H) (hn : n < 2 ^ 62) (hF : ∀ x H', Ex H H' → Px x H' → F [x] H' fun v _ => v = .int (n : Nat)) : EvD K p (tCB (rBoolO C (SpG F)) (tCons ta tNil)) σ H (.bool (n != 0)) := fun A R Q q => ho A R _ fun v A1 H1 g1 k1 => by
  obtain ⟨a, dx, fs, rfl, ha⟩ := iso v H1 k1
  have R1 := g1.to R
  exact ⟨a, dx, fs, rfl, R1.ex _ _ ha, useG R1 (hF _ H1 g1.reg k1) fun v A3 H3 g3 k3 => ⟨n, k3, hn, q _ A3 H3 (g1.trans g3) (.bl _)⟩⟩
theorem d_notO (ho : EvG p ta σ H Px) (iso : ∀ v H, Px v H → IsO C v H) (hn : n < 2 ^ 62) (hF : ∀ x H', Ex H H' → Px x H' → F [x] H' fun v _ => v = .int (n : Nat)) : EvD K p (tNotO C (SpG F) ta) σ H (.bool (!(n != 0))) := fun A R Q q => ho A R _ fun v A1 H1 g1 k1 => by
  obtain ⟨a, dx, fs, rfl, ha⟩ := iso v H1 k1
  have R1 := g1.to R
  exact ⟨a, dx, fs, rfl, R1.ex _ _ ha, useG R1 (hF _ H1 g1.reg k1) fun v A3 H3 g3 k3 => ⟨n, k3, hn, q _ A3 H3 (g1.trans g3) (.bl _)⟩⟩
end
/-! tuple * 1, tuple * n -/
theorem tuple_mul1 (l : Addr) (items : Array Value) (n : Nat) (dd : Option Addr) (sl : Array (Option Value)) (u : Tok) :
    Meets (Builtin.«tuple.__mul__» ⟨[.ref l, .int 1 u], []⟩) (fun _ R s => s.heap.get? l = some { cls := .type "tuple", dict := dd, data := .seq items n, slots := sl } ∧ R (.ok (.ret (Value.ref l))) s) :=
  .of_wp fun prog w A R s h => by
    obtain ⟨hp, g, d, tk, os⟩ := s
    obtain ⟨hl, h⟩ := h
    have f1 := AutoSeq1.idx_int
    wp_walk using wpAny_loadPart' hl
    repeat (first
      | (refine wpAny_ite_false (by decide) ?_; wp_walk using wpAny_loadPart' hl)
      | (refine wpAny_ite_true (by simp) ?_; wp_walk using wpAny_loadPart' hl))
    all_goals first | exact ⟨_, rfl, h⟩ | skip
def rRepT1 (K : PySem.W.Frag) : R2 := fun x y H Q => ∃ l k xs, x = .ref l ∧ y = .int k ∧ SqT K H l xs ∧ xs ≠ [] ∧ 1 ≤ k ∧ k ≤ 1000 ∧ xs.length ≤ 1000 ∧ ((k = 1 ∧ Q (.ref l) H) ∨ (2 ≤ k ∧ ∀ p, H p = none → Q (.ref p) (upd H p (.tup (List.replicate k.toNat xs).flatten))))
theorem op_repT1 {X : Cx} : OpR X (binaryOp .Mult) (rRepT1 X.K) := by
  intro pins s σ H x y v u Q I rx ry h
  obtain ⟨l, k, xs, rfl, rfl, hT, hne, h1, h2, hz, q⟩ := h
  rcases q with ⟨rfl, q⟩ | ⟨hk, q⟩
  · cases rx
    obtain ⟨t, rfl⟩ := ry
    obtain ⟨its, r, ⟨⟨cls, dd, data, sl⟩, ho, hc, n, hd⟩, hs⟩ := I.tuple hT
    simp only at hc hd
    subst hc hd
    refine wpAny_binaryOp_repeat_ref (T := "tuple") (U := "int") (by decide) ⟨_, ho, rfl⟩ (fun s' => typeIs_int s' 1 t) noFill_tuple_mul PySem.F.fills_int_mul PySem.F.slot_int_rmul repeat_tuple PySem.F.slot_int_index.lookup
      (call_meets PySem.F.slot_int_rmul (typeIs_int s 1 t) PySem.F.entry_int_rmul (PySem.F.args_int_rmul_2 _ _) (int_rmul_tuple 1 t l its.toArray n dd sl)
        ⟨ho, rfl, ⟨_, ho, rfl⟩, call_meets PySem.F.slot_tuple_mul ⟨_, ho, rfl⟩ PySem.F.entry_tuple_mul (PySem.F.args_tuple_mul_2 _ _) (tuple_mul1 l its.toArray n dd sl t) ⟨ho, ?_⟩⟩)
    exact ⟨.ref l, H, I, rfl, q⟩
  · exact op_repT pins s σ H _ _ v u Q I rx ry ⟨l, k, xs, rfl, rfl, hT, hne, hk, h2, hz, q⟩
theorem op_repTK {X : Cx} {K : PySem.W.Frag} (h : X.K = K) : OpR X (binaryOp .Mult) (rRepT1 K) := h ▸ op_repT1
section
variable {K : PySem.W.Frag} {p : Me} {d : PyData}
theorem o_repT {n : Nat} (h1 : 1 ≤ n) (hn : n ≤ 1000) : OpD K p (rRepT1 K) (.tuple [d]) (.int n) (.tuple (List.replicate n d)) := fun x y H A hx hy R Q q => by
  obtain ⟨a, xs, rfl, sq, hz⟩ := dq_inv_t hx
  obtain ⟨v, rfl, kv⟩ := dqall_one hz
  cases hy
  refine ⟨a, n, [v], rfl, rfl, ex_t R.ex sq, by simp, by omega, by omega, by simp, ?_⟩
  by_cases c : n = 1
  · subst c
    exact .inl ⟨rfl, q _ A H R.refl hx⟩
  · refine .inr ⟨by omega, fun l hl => ?_⟩
    have g := Gr.alloc R (o := .tup (List.replicate n v)) hl
    have e : (List.replicate (n : Int).toNat [v]).flatten = List.replicate n v := by rw [Int.toNat_natCast]; exact flat_one n
    rw [e]
    exact q _ _ _ g (.tup (st_of upd_same) (dq_rep (dq_ex g.reg _ _ kv) n))
end
end Z
/-! the head's facts, with properties of one's own classes -/
namespace Z
open PySem PySem.Spec PyProof.Rows L2 He
/-- the getter of the property f of the class x -/
def gA (K : PySem.W.Frag) (x f : Str) : Addr := match PySem.W.recIn K (ma K (ga K x) f) "property" with
  | some (.ref g :: _) => g
  | _ => 0
def recB (K : PySem.W.Frag) (x f : Str) : Bool := match PySem.W.recIn K (ma K (ga K x) f) "property" with
  | some (.ref _ :: _) => true
  | _ => false
theorem rec_ok {K : PySem.W.Frag} {x f : Str} (h : recB K x f = true) : ∃ rest, PySem.W.recIn K (ma K (ga K x) f) "property" = some (.ref (gA K x f) :: rest) := by
  unfold recB at h
  unfold gA
  split at h
  · rename_i g rest e
    rw [e]
    exact ⟨rest, rfl⟩
  · cases h
def propB (K : PySem.W.Frag) (x f : Str) : Bool := eqO (PySem.W.findIn K (.ref (ga K x)) f) (some (some (.ref (ma K (ga K x) f)))) && (eqO (PySem.W.specialIn K (.ref (ma K (ga K x) f)) "__get__") (some (some (.builtin "property.__get__"))) && (decide (PySem.W.takesIn K (.ref (ma K (ga K x) f)) = some true) && recB K x f))
theorem prop_ok {K : PySem.W.Frag} {x f : Str} (h : propB K x f = true) : PropOf K (ga K x) f (ma K (ga K x) f) (gA K x f) := by
  obtain ⟨h1, h⟩ := ba h
  obtain ⟨h2, h⟩ := ba h
  obtain ⟨h3, h4⟩ := ba h
  exact ⟨eqO_ok h1, eqO_ok h2, of_decide_eq_true h3, rec_ok h4⟩
/-- a def at an address -/
def fnA (K : PySem.W.Frag) (a : Addr) : FnW := match K.lookup a with
  | some ⟨_, _, .func fd, _⟩ => some (fd.name, fd.qualname, fd.params, fd.body, fd.scope, fd.globals, fd.closure, fd.builtins)
  | _ => none
def getB (K : PySem.W.Frag) (x f qual : Str) : Bool := PySem.W.keepIn K (.ref (gA K x f)) && (match K.lookup (gA K x f) with
  | some ⟨_, _, .func fd, _⟩ => PySem.W.codeIn K fd.code qual && (dflB K fd.defaults [] && kwdB K fd.kwdefaults [])
  | _ => false)
/-- class, attribute, qualified name, the def -/
abbrev GetD : Type := Str × Str × Str × Stmt
def GetD.val (d : GetD) : FnW := some (d.2.1, d.2.2.1, defArgs d.2.2.2, .stmts (defBody d.2.2.2), defScope d.2.2.2, mainGlobals, [], builtinsNs)
theorem get_ok {K : PySem.W.Frag} {d : GetD} (e : fnA K (gA K d.1 d.2.1) = GetD.val d) (c : getB K d.1 d.2.1 d.2.2.1 = true) : ∃ fd, FunD K d.2.1 d.2.2.1 (defArgs d.2.2.2) (defBody d.2.2.2) (defScope d.2.2.2) [] [] (gA K d.1 d.2.1) fd := by
  obtain ⟨x, f, qual, st⟩ := d
  obtain ⟨kp, c2⟩ := ba c
  unfold fnA at e
  cases q : K.lookup (gA K x f) with
  | none =>
    rw [q] at c2
    cases c2
  | some o =>
    obtain ⟨oc, od, dt, osl⟩ := o
    dsimp only at e c2
    rw [q] at c2 e
    cases dt with
    | func fd =>
      obtain ⟨n1, n2, n3, n4, n5, n6, n7, n8, n9, n10, n11, n12, n13, n14, n15⟩ := fd
      have e2 : (some (n1, n2, n3, n4, n5, n6, n7, n15) : FnW) = some (f, qual, defArgs st, .stmts (defBody st), defScope st, mainGlobals, [], builtinsNs) := e
      simp only [Option.some.injEq, Prod.mk.injEq] at e2
      obtain ⟨h1, h2, h3, h4, h5, h6, h7, h8⟩ := e2
      subst h1 h2 h3 h4 h5 h6 h7 h8
      have c3 : (PySem.W.codeIn K n13 n2 && (dflB K n8 [] && kwdB K n9 [])) = true := c2
      obtain ⟨k1, k2⟩ := ba c3
      obtain ⟨k3, k4⟩ := ba k2
      exact ⟨_, ⟨oc, od, n8, n9, n10, n11, n12, n13, n14, osl, rfl, q, k1, dflB_ok k3, kwdB_ok k4⟩, kp⟩
    | _ => cases c2
/-! what isinstance asks of a class -/
def insB (K : PySem.W.Frag) (x : Str) : Bool := eqO (PySem.W.findIn K (.ref (ga K x)) "__class__") (some (some (.builtin "object.__class__"))) && (eqO (PySem.W.specialIn K (.builtin "object.__class__") "__get__") (some (some (.builtin "getset_descriptor.__get__"))) && (decide (PySem.W.takesIn K (.builtin "object.__class__") = some true) && decide (PySem.W.mroIn K (ga K x) (.type "object") = some true)))
theorem ins_ok {K : PySem.W.Frag} {x : Str} (c : Cls K (ga K x)) (h : insB K x = true) : C8.InsC K (ga K x) := by
  obtain ⟨h1, h⟩ := ba h
  obtain ⟨h2, h⟩ := ba h
  obtain ⟨h3, h4⟩ := ba h
  exact ⟨c, eqO_ok h1, eqO_ok h2, of_decide_eq_true h3, of_decide_eq_true h4, by unfold PySem.W.kitOne; simp⟩
def noInsB (K : PySem.W.Frag) (x : Str) : Bool := tysD.all fun T => decide (PySem.W.kitOne K (.type T) (.ref (ga K x)) = some false)
theorem noIns_ok {K : PySem.W.Frag} {x : Str} (h : noInsB K x = true) : ∀ T ∈ tysD, PySem.W.kitOne K (.type T) (.ref (ga K x)) = some false := fun T hT => of_decide_eq_true (List.all_eq_true.mp h T hT)
/-! the Hook -/
abbrev AlP : Type := AlX × List FnW
def getsA (K : PySem.W.Frag) (gs : List GetD) : List FnW := gs.map fun d => fnA K (gA K d.1 d.2.1)
def obsP (n : Nat) (fa : List Fa) (fn : List DefD) (ex : PySem.W.Frag → Bool) (gs : List GetD) (g : Addr → Option Obj) : AlP := (obsX n fa fn [] [] ex g, getsA (frT g (asD g n)) gs)
def hookP (n : Nat) (fa : List Fa) (fn : List DefD) (ex : PySem.W.Frag → Bool) (gs : List GetD) : PySem.W.Hook where
  α := AlP
  obs := fun s => obsP n fa fn ex gs s.heap.get?
  val := fun w => (valX fn [] w, gs.map GetD.val)
  says := fun w h => ∃ K : PySem.W.Frag, K.In h ∧ SaysX fa fn [] [] ex w h K ∧ getsA K gs = gs.map GetD.val
  of := fun _ _ e => ⟨_, frT_in, saysX_of (congrArg (fun z : AlP => z.1) e), congrArg (fun z : AlP => z.2) e⟩
  keeps := fun _ _ _ ⟨K, hK, c, cg⟩ k => ⟨K, PySem.W.Frag.In.keeps hK k, ⟨c.t, c.more, c.hd, c.out, fun p hp => k _ _ (c.empty p hp)⟩, cg⟩
theorem obsP_eq {n : Nat} {fa : List Fa} {fn : List DefD} {ex : PySem.W.Frag → Bool} {gs : List GetD} {g : Addr → Option Obj} {s : Shared} (h : ∀ a, g a = s.heap.get? a) : obsP n fa fn ex gs g = (hookP n fa fn ex gs).obs s := by
  have e : g = s.heap.get? := funext h
  rw [e] <;> rfl
theorem gets_at {K : PySem.W.Frag} {gs : List GetD} (c : getsA K gs = gs.map GetD.val) (i : Nat) {d : GetD} (h : gs[i]? = some d) : fnA K (gA K d.1 d.2.1) = GetD.val d := by
  have e : (getsA K gs)[i]? = (gs.map GetD.val)[i]? := by rw [c]
  unfold getsA at e
  rw [List.getElem?_map, List.getElem?_map, h] at e
  exact Option.some.inj e
end Z
/-! Errors of one's own over ValueError, through a class between, whose __init__ says super().__init__(text) and keeps one field. -/
namespace PySem
theorem LowSz.one (v : Value) : [v].length ≤ sizeLine := by
  rw [sizeLine_eq]
  show 1 ≤ 16777216
  decide
namespace ZX
open PySem.W PySem.Calls PyProof.Rows
/-- def __init__(self, fld): super().__init__(txt); self.fld = fld -/
def eA (fld : Str) (p1 p2 : Pos) : Arguments := { posonlyargs := [], args := [{ arg := "self", annotation := none, pos := p1 }, { arg := fld, annotation := none, pos := p2 }], vararg := none, kwonlyargs := [], kw_defaults := [], kwarg := none, defaults := [] }
def eB (fld txt : Str) (k1 : Nat) (q : Nat → Pos) : List Stmt :=
  [.Expr (.Call (.Attribute (.Call (.Name "super" (q 0)) [] [] (q 1)) "__init__" (q 2)) [.Constant (.str txt) k1 (q 3)] [] (q 4)) (q 5), .Assign [.Attribute (.Name "self" (q 6)) fld (q 7)] (.Name fld (q 8)) (q 9)]
def eS (fld : Str) : Scope := { kind := .function, names := [("self", .local), (fld, .local), ("__class__", .free), ("super", .globalImplicit)], isGenerator := false, isCoroutine := false }
/-- the call of super().__init__ as the model reads it (where it stands in the text decides) -/
def EvSup (txt : Str) (k1 : Nat) (q : Nat → Pos) : Prop := ∀ env : Env, ∃ pl : Sem Bool, eval (.Call (.Attribute (.Call (.Name "super" (q 0)) [] [] (q 1)) "__init__" (q 2)) [.Constant (.str txt) k1 (q 3)] [] (q 4)) env = (do
      let ov ← attributeBase (.Call (.Name "super" (q 0)) [] [] (q 1)) "__init__" env (eval (.Call (.Name "super" (q 0)) [] [] (q 1)) env)
      standAt (q 2).atName
      let (f, first) ← holding [ov] (getMethod ov "__init__" pl)
      callWith (q 4) f first (backTo (q 4) (starEach [.Constant (.str txt) k1 (q 3)] env)) [])
/-- what the written part says of such a class at C, its __init__ at fI, its field -/
structure ErrTxt (prog : Program) (K : Frag) (C fI : Addr) (fld : Str) : Prop where
  cls : ∃ nm q N bs bm sn sub ab col dd k0 k1 k2 k3 k5, K.lookup C = some (excClassObj nm q C N bs bm true sn sub ab col dd k0 k1 k2 k3 k5 "ValueError.__new__") ∧ HandSPX.refsVE bm = true
  sa : findIn K (.ref C) "__setattr__" = some (some (.builtin "object.__setattr__"))
  noN : findIn K (.ref C) fld = some none
  iC : findIn K (.ref C) "__init__" = some (some (.ref fI))
  tC : typeIn K (.ref fI) = some (.type "function")
  sup : ks_superIn K C C "__init__" = some (some (.builtin "ValueError.__init__"))
  subV : subIn K (.ref C) (.type "ValueError") = some true
  subC : mroIn K C (.ref C) = some true
  any : nsIn K cStatics "thirdparty.any" = some none
  nsup : nsIn K mainGlobals "super" = some none
  file : ∃ (cda : Addr) (ccl : Value) (cdd : Option Addr) (vs : Array Value) (ccs : Array (Option Value)) (fl : Str) (tf : Tok) (cc : Addr) (cl : Value) (cld : Option Addr) (csl : Array (Option Value)) (oc : Value) (od : Option Addr) (doc pm : Value) (an : Option Addr) (ct : Value) (osl : Array (Option Value)) (txt : Str) (n1 : Nat) (p1 p2 : Pos) (q : Nat → Pos) (qual : Str),
    EvSup txt n1 q ∧ K.lookup cda = some ⟨ccl, cdd, .fields vs, ccs⟩ ∧ vs[2]? = some (.str fl tf) ∧ ((prog.main.file : Str) == fl) = true ∧ K.lookup cc = some ⟨cl, cld, .cell (some (.ref C)), csl⟩ ∧
    K.lookup fI = some ⟨oc, od, .func (ksFn "__init__" qual (eA fld p1 p2) (eB fld txt n1 q) (eS fld) .none .none doc pm an (.ref cda) ct cc), osl⟩ ∧ codeIn K (.ref cda) qual = true ∧
    (∀ (x v : Value), bindArgs (ksFn "__init__" qual (eA fld p1 p2) (eB fld txt n1 q) (eS fld) .none .none doc pm an (.ref cda) ct cc) ⟨[x, v], []⟩ = pure [(("self" : Str), x), (fld, v)])
/-- the field's name is none of the others -/
def okF (fld : Str) : Bool := !((fld == ("self" : Str)) || (fld == ("__class__" : Str)) || (fld == ("super" : Str)) || (fld == ("__debug__" : Str)) || (fld == ("__classdict__" : Str)))
theorem look_at {fld : Str} (h : okF fld = true) : (eS fld).names.lookup ("super" : Str) = some .globalImplicit ∧ (eS fld).names.lookup ("__class__" : Str) = some .free ∧ (eS fld).names.lookup ("self" : Str) = some .local ∧ (eS fld).names.lookup fld = some .local ∧ ¬ fld = ("self" : Str) ∧ (fld == ("__debug__" : Str)) = false := by
  unfold okF at h
  simp only [Bool.not_eq_true', Bool.or_eq_false_iff, beq_eq_false_iff_ne, ne_eq] at h
  obtain ⟨⟨⟨⟨f1, f2⟩, f3⟩, f4⟩, f5⟩ := h
  have g2 : ¬ ("__class__" : Str) = fld := fun e => f2 e.symm
  have g3 : ¬ ("super" : Str) = fld := fun e => f3 e.symm
  have a1 : ¬ ("super" : Str) = "self" := by decide +kernel
  have a2 : ¬ ("super" : Str) = "__class__" := by decide +kernel
  have a3 : ¬ ("__class__" : Str) = "self" := by decide +kernel
  have b : ∀ {x y : Str}, ¬ x = y → (x == y) = false := fun h => beq_eq_false_iff_ne.mpr h
  have e : (eS fld).names = [(("self" : Str), NameKind.local), (fld, .local), ("__class__", .free), ("super", .globalImplicit)] := rfl
  rw [e]
  refine ⟨?_, ?_, rfl, ?_, f1, b f4⟩
  · rw [List.lookup_cons, b a1]
    show List.lookup _ [(fld, NameKind.local), (("__class__" : Str), .free), ("super", .globalImplicit)] = _
    rw [List.lookup_cons, b g3]
    show List.lookup _ [(("__class__" : Str), NameKind.free), ("super", .globalImplicit)] = _
    rw [List.lookup_cons, b a2]
    rfl
  · rw [List.lookup_cons, b a3]
    show List.lookup _ [(fld, NameKind.local), (("__class__" : Str), .free), ("super", .globalImplicit)] = _
    rw [List.lookup_cons, b g2]
    rfl
  · rw [List.lookup_cons, b f1]
    show List.lookup _ [(fld, NameKind.local), (("__class__" : Str), .free), ("super", .globalImplicit)] = _
    rw [List.lookup_cons, beq_self_eq_true]
/-- what __init__ leaves of a fresh error at x -/
structure InitDone (h h' : Heap) (x C dx : Addr) (fld : Str) (v : Value) : Prop where
  keep : ∀ b o, b ≠ x → h.get? b = some o → h'.get? b = some o
  obj : ∃ t1, h'.get? x = some { cls := .ref C, dict := some dx, data := .fields #[.ref t1, .none, .none, .none, .bool false, .none] }
  new : h.objs.size ≤ dx
  dne : dx ≠ x
  ns : h'.Ns1 dx (fun y => if y = fld then some v else none)
theorem Own_one {M : Model} {A : Around} {E : Value → Shared → Prop} {s : Shared} {env : Env} {txt : Str} {k : Nat} {p p0 : Pos} {Q : List Value → Shared → Prop} (h : Q [.str txt s.toks] { s with toks := s.toks + 1 }) :
    wpAny M A (spliced (backTo p (starEach [.Constant (.str txt) k p0] env))) Q E s := by
  refine PyProof.Rows.spliced_more (wpAny_Constant_str ?_)
  exact PyProof.Rows.spliced_none h
section
variable {prog : Program} {w : World} {A : Around} {E : Value → Shared → Prop} {R : Result → Shared → Prop} {s : Shared} {K : Frag} {C fI : Addr} {fld : Str} {mg mb : Str → Option Value}
theorem err_init (T : ErrTxt prog K C fI fld) (hf1 : okF fld = true)
    (htop : (prog.main.scope.names.lookup ("super" : Str)).isSome = false) {x t0 : Addr} {v : Value} (X : K.In s.heap) (G : s.heap.Ns mainGlobals mg) (B : s.heap.Ns builtinsNs mb) (hB : mb "super" = some (.type "super"))
    (hlim : s.heap.NoLimit) (hx : s.heap.get? x = some (HandSPX.excO C t0)) (hnx : K.lookup x = none) (hroom : A.depth < recursionLimit)
    (hq : ∀ h' tk dx, InitDone s.heap h' x C dx fld v → R (.ok (.ret .none)) { s with heap := h', toks := tk }) :
    codeAny (model prog w) A (.call (.ref fI) ⟨[.ref x, v], []⟩) R s := by
  obtain ⟨hp, g, d, tk0, os⟩ := s
  dsimp only at X G B hlim hx hq
  obtain ⟨cda, ccl, cdd, vs, ccs, fl, tf, cc, cl, cld, csl, oc, od, doc, pm, an, ct, osl, txt, n1, p1, p2, q, qual, hev, hcode, hvs, hfile, hcell, hfn, hcd, hbd⟩ := T.file
  obtain ⟨nm, q', N, bs, bm, sn, sub, ab, col, dd, k0, k1, k2, k3, k5, hC, hbm⟩ := T.cls
  have hcl : clsIn K C = some { name := nm, bases := bs, mro := .ref C :: bm, ns := N, qualname := q', hasDict := true, slotNames := sn, subclasses := sub, abstract := ab, collection := col, hasDel := false } := by unfold clsIn; rw [hC]
  obtain ⟨l1, l2, l3, l4, f1, f4⟩ := look_at hf1
  refine ks_codeAny_call_defAt (fd := ksFn "__init__" qual (eA fld p1 p2) (eB fld txt n1 q) (eS fld) .none .none doc pm an (.ref cda) ct cc) (body := eB fld txt n1 q) (binds := [("self", .ref x), (fld, v)]) hroom (X _ _ hfn) rfl hlim (codeRec_of X hcd) rfl ?_ ?_ ?_ (fun h₁ hn k => ?_)
  · exact BindsTo.of_eq (hbd _ _)
  · intro y hy
    simp only [eS, List.mem_cons, List.not_mem_nil, or_false] at hy
    rcases hy with rfl | rfl | rfl | rfl <;> simp
  · intro y hy
    have lk := l4
    rcases List.mem_cons.mp hy with e | hy
    · rw [e]; rfl
    · have e : y = (fld, v) := by simpa using hy
      rw [e]; exact lk
  · show _root_.PySem.wpAt (model prog w) (A.deeper (ksEnv qual (eS fld) hp.objs.size fI (.ref cda) cc)) (.func (eB fld txt n1 q) (ksEnv qual (eS fld) hp.objs.size fI (.ref cda) cc)) (execs (eB fld txt n1 q) (ksEnv qual (eS fld) hp.objs.size fI (.ref cda) cc)) _ _ _
    obtain ⟨pl, he⟩ := hev (ksEnv qual (eS fld) hp.objs.size fI (.ref cda) cc)
    have hCo := X _ _ hC
    have X₁ : K.In h₁ := X.keeps k
    have hx₁ := k _ _ hx
    refine ks_wpAt_execs_cons (ks_wpAt_Expr_any (ks_wpAt_MethodCall (pl := pl) ?_ he))
    -- super()
    refine ks_wpAt_super_base (env := ksEnv qual (eS fld) hp.objs.size fI (.ref cda) cc) l1 l2 (by decide +kernel) rfl (X₁ _ _ hfn) rfl rfl rfl (X₁ _ _ hcode) rfl hvs hfile htop ?_
    refine ks_loadName_global rfl l1 (loadGlobal_builtin (env := ksEnv qual (eS fld) hp.objs.size fI (.ref cda) cc) (G.keeps k) (mg_none_of X G T.nsup) (B.keeps k) hB ⟨rfl, ?_⟩)
    refine wpAny_loadName_free rfl l2 rfl ⟨_, X₁ _ _ hcell, rfl⟩ ?_
    refine wpAny_loadName_local rfl l3 hn (v := .ref x) ?_ ?_
    · show List.lookup ("self" : Str) [(fld, v), (("self" : Str), Value.ref x)] = _
      rw [List.lookup_cons, beq_eq_false_iff_ne.mpr (fun e => f1 e.symm)]
      rfl
    refine ks_wpAny_isType_cls (X₁ _ _ hC) rfl ⟨rfl, ?_⟩
    refine ks_wpAny_call_super (X₁ _ _ hC) rfl hx₁ rfl (fun c e => nomatch e) (looks_mroIn X₁ T.subC) (fun h₂ e₂ k₂ => ?_)
    have X₂ : K.In h₂ := X₁.keeps k₂
    have hx₂ := k₂ _ _ hx₁
    -- .__init__, of ValueError
    have I₂ : InstAt h₂ x (HandSPX.excO C t0) C none := ⟨hx₂, rfl, rfl, trivial⟩
    have hI : Looks (model prog w) h₂ (isInstance (.ref x) (.type "ValueError")) true := I₂.type.andThen (looks_subIn X₂ T.subV)
    have hsup : alongIn K "__init__" (((Value.ref C :: bm).dropWhile (· != .ref C)).drop 1) = some (some (.builtin "ValueError.__init__")) := by
      have := T.sup
      unfold ks_superIn at this
      rw [hcl] at this
      exact this
    refine kxs_getMethod kxs_ValueError e₂ (looks_opaque X₂ T.any) (l₀ := .ref C :: bm) ?_ rfl X₂ hsup hI (ks_ne X₂ I₂ hcl) (by decide +kernel) ?_
    · exact fun A Q E s k q => wpAny_bind ((looks_clsIn X₂ hcl) A _ E s k (wpAny_pure q))
    -- (text)
    generalize hu : h₂.objs.size = u
    have hx₃ : (h₂.push (kxs_mw "ValueError.__init__" x)).get? x = some (HandSPX.excO C t0) := Heap.get?_push_of_some _ hx₂
    have hu₃ : (h₂.push (kxs_mw "ValueError.__init__" x)).get? u = some (kxs_mw "ValueError.__init__" x) := by rw [← hu]; exact Heap.get?_push_size _ rfl
    have hC₃ := Heap.get?_push_of_some (kxs_mw "ValueError.__init__" x) (k₂ _ _ (X₁ _ _ hC))
    refine kxs_callWith (i := "ValueError.__init__") (x := x) rfl ?_
    refine Calls.evalArgs_plain (Own_one ?_)
    refine ⟨hu₃, ?_⟩
    have FB := PySem.F.excBase_ValueError
    show wpAny _ _ (call (.ref u) [.str txt _]) _ _ _
    refine PySem.wpAny_call (PySem.codeAny_of_tree (show wpAny _ _ (callAny (.ref u) ⟨[.str txt _], []⟩) _ _ _ from ?_))
    rw [callAny]
    refine (wpAny_bind (wpAny_load hu₃ ?_))
    have w1 : (Value.type "method-wrapper" == Value.type "method" || Value.type "method-wrapper" == Value.type "builtin_function_or_method" || Value.type "method-wrapper" == Value.type "method-wrapper") = true := by decide
    simp only [kxs_mw, w1, if_true]
    refine (KFB.if_so (by decide) (wpAny_bind (check_bound_init FB.toExcCallFacts hC₃ hx₃ rfl ?_)))
    refine (wpAny_bind (wpAny_pure (wpAny_pure ⟨plainId_quiet FB.init.plain _, codeAny_builtin FB.initEntry ?_⟩)))
    refine exc_init_tree (cls := .ref C) (t0 := t0) (dv := none) (c2 := .none) (c3 := .none) (b4 := .bool false) hx₃ (PySem.LowSz.one _) (fun h₄ k₄ e₄ t₄ => ?_)
    -- self.fld = fld
    have hL₁ : hp.objs.size < h₁.objs.size := hn.lt
    have hxL : hp.objs.size ≠ x := Nat.ne_of_gt (Heap.lt_size hx)
    have up₁ : ∀ b o, h₁.get? b = some o → b ≠ x → h₄.get? b = some o := fun b o e n => k₄ b o n (Heap.get?_push_of_some _ (k₂ _ _ e))
    have hn₄ : h₄.Ns hp.objs.size (fun y => [((fld : Str), v), (("self" : Str), Value.ref x)].lookup y) := by
      obtain ⟨oL, es, ep, hL, r⟩ := hn
      exact ⟨oL, es, ep, up₁ _ _ hL hxL, r⟩
    have X₄ : K.In h₄ := fun b o e => up₁ b o (X₁ b o e) (fun z => by rw [z, hnx] at e; cases e)
    refine wpAt_of_wpAny ?_
    refine wpAny_execs_cons (plainObj_wpAny_Assign_Attribute ?_)
    refine wpAny_Name (wpAny_loadName_local rfl l4 hn₄ (v := v) ?_ ?_) f4
    · rw [List.lookup_cons, beq_self_eq_true]
    refine wpAny_Name (wpAny_loadName_local rfl l3 hn₄ (v := .ref x) ?_ ?_) (by decide +kernel)
    · rw [List.lookup_cons, beq_eq_false_iff_ne.mpr (fun e => f1 e.symm)]
      rfl
    refine set_plain X₄ (ox := HandSPX.excO C _) (od := none) ⟨e₄, rfl, rfl, trivial⟩ T.sa ?_
    refine HandSPX.exc_osa X₄ e₄ hcl (show HandSPX.refsVE (.ref C :: bm) = true from hbm) rfl T.noN (fun h₅ tk₅ dx k₅ dn dne hx₅ hn₅ => ?_)
    show wpAny _ _ (execs _ _) _ _ _
    refine wpAny_execs_nil (hq h₅ tk₅ dx ⟨fun b o hb e => k₅ b o hb (up₁ b o (k b o e) hb), ⟨_, hx₅⟩, Nat.le_of_lt (Nat.lt_of_lt_of_le hn₄.lt dn), dne, hn₅⟩)
/-- a made error: its object, its own dict -/
structure ErrMade (h h' : Heap) (e C d : Addr) (fld : Str) (v : Value) : Prop where
  keep : ∀ b o, h.get? b = some o → h'.get? b = some o
  new : h.objs.size ≤ e
  obj : ∃ t1, h'.get? e = some { cls := .ref C, dict := some d, data := .fields #[.ref t1, .none, .none, .none, .bool false, .none] }
  dbig : h.objs.size ≤ d
  dne : d ≠ e
  ns : h'.Ns1 d (fun y => if y = fld then some v else none)
theorem err_made (T : ErrTxt prog K C fI fld) (hf1 : okF fld = true) (htop : (prog.main.scope.names.lookup ("super" : Str)).isSome = false) {v : Value} (X : K.In s.heap) (G : s.heap.Ns mainGlobals mg) (B : s.heap.Ns builtinsNs mb)
    (hB : mb "super" = some (.type "super")) (hlim : s.heap.NoLimit) (hroom : A.depth + 1 < recursionLimit)
    (hq : ∀ h' tk e d, ErrMade s.heap h' e C d fld v → R (.ok (.ret (.ref e))) { s with heap := h', toks := tk }) : codeAny (model prog w) A (.call (.ref C) ⟨[v], []⟩) R s := by
  obtain ⟨nm, q, N, bs, bm, sn, sub, ab, col, dd, k0, k1, k2, k3, k5, hC, hbm⟩ := T.cls
  obtain ⟨hp, g, dr, tk, os⟩ := s
  dsimp only at X G B hlim hq
  let h2 := (hp.push (kdv_tup [v])).push (HandSPX.excO C hp.objs.size)
  have up : ∀ b o, hp.get? b = some o → h2.get? b = some o := fun b o e => Heap.get?_push_of_some _ (Heap.get?_push_of_some _ e)
  have at2 : h2.get? (hp.objs.size + 1) = some (HandSPX.excO C hp.objs.size) := by heap_get
  have sz2 : h2.objs.size = hp.objs.size + 1 + 1 := by
    show ((hp.push _).push _).objs.size = _
    rw [Heap.size_push, Heap.size_push]
  have hnx : K.lookup (hp.objs.size + 1) = none := by
    cases e : K.lookup (hp.objs.size + 1) with
    | none => rfl
    | some o => exact absurd (Nat.lt_of_succ_lt (Heap.lt_size (X _ _ e))) (Nat.lt_irrefl _)
  refine HandSPX.call_own PySem.F.excBase_ValueError (fun Y => HandSPX.refsVE_contains Y bm hbm) (X _ _ hC) (looks_findIn X T.iC) (fun self => bind_fn X self T.tC) (LowSz.one v) ?_
  refine err_init (s := ⟨h2, g, dr, tk, os⟩) T hf1 htop (X.keeps up) (G.keeps up) (B.keeps up) hB (hlim.keeps up) at2 hnx (show A.depth + 1 < recursionLimit from hroom) fun h' tk' dx D => ?_
  obtain ⟨kp, ob, nw, dne, ns⟩ := D
  rw [show (⟨h2, g, dr, tk, os⟩ : Shared).heap.objs.size = hp.objs.size + 1 + 1 from sz2] at nw
  exact ⟨rfl, hq h' tk' (hp.objs.size + 1) dx ⟨fun b o e => kp b o (Nat.ne_of_lt (Nat.lt_succ_of_lt (Heap.lt_size e))) (up b o e), Nat.le_succ _, ob, Nat.le_trans (Nat.le_trans (Nat.le_succ _) (Nat.le_succ _)) nw, dne, ns⟩⟩
end
end ZX
end PySem
/-! The package's errors over the layer: made as values, raised, their field read. -/
namespace L2
open PySem PySem.Spec PyProof.Rows
theorem relO_fld {fld : Str} {v : V} {v' : Value} (r : RelV v v') (f : Str) : RelO (List.lookup f [(fld, v)]) (if f = fld then some v' else none) := by
  by_cases hw : f = fld
  · subst hw
    rw [if_pos rfl, List.lookup_cons, beq_self_eq_true]
    exact r
  · rw [if_neg hw, List.lookup_cons, beq_eq_false_iff_ne.mpr hw]
    trivial
section
variable {X : Cx} {C fI : Addr} {fld x : Str}
/-- what the text says of such a class, its name x -/
structure ErrCls (X : Cx) (x : Str) (C fI : Addr) (fld : Str) : Prop where
  t : PySem.ZX.ErrTxt X.prog X.K C fI fld
  ok : PySem.ZX.okF fld = true
  top : (X.prog.main.scope.names.lookup ("super" : Str)).isSome = false
  g : X.mg x = some (.ref C)
  k : PySem.W.keepIn X.K (.ref C) = true
  exC : PySem.W.subIn X.K (.ref C) (.type "BaseException") = some true
  tyC : PySem.W.typeIn X.K (.ref C) = some (.type "type")
/-- X(e): the reading -/
def tMkE (C : Addr) (fld : Str) (ta : TA) : St → Hp → XK → Prop := fun σ H Q => ta σ H fun vs H1 => ∃ v, vs = [v] ∧ ∀ d, H1 d = none → Q (.ref C) (some d) (upd H1 d (.xd [(fld, v)]))
theorem pmk_err {a : Expr} {ta : TA} {p pos : Pos} {k : Nat} (T : ErrCls X x C fI fld) (hr : Room k X.A) (ha : PA X [a] ta) (hg : Gl X x := by rfl) (hdb : (x == ("__debug__" : Str)) = false := by decide)
    (he : starEach (a :: []) X.env = (false, eval a X.env) :: starEach [] X.env := by rfl) (hpl : (backTo pos (starEach [] X.env)).any (·.1) = false := by rfl) :
    PMk X (.Call (.Name x p) [a] [] pos) (tMkE C fld ta) := by
  intro pins s σ H Q I h
  refine wpAny_Call_Name_kw (ld_glob I hg T.g ?_ hdb)
  refine PySem.W.callWith_K (h₀ := X.base) I.ok.mod.kin T.k (thn (ha.run pos pins s σ H _ I h) fun us s1 hh => ?_) he hpl
  obtain ⟨vs, H1, I1, r1, v, ev, q1⟩ := hh
  subst ev
  refine ⟨I1.kIn, ?_⟩
  cases r1 with
  | cons rv rn =>
    rename_i v' us'
    cases rn
    show wpAny _ _ (call (.ref C) [v']) _ _ _
    have hlim := I1.nolimit
    obtain ⟨mb, b1, b2⟩ := I1.mod.blt
    have G := I1.mod.glob.keeps I1.bk
    have B := b1.keeps I1.bk
    have hB : mb ("super" : Str) = some (.type "super") := (b2 "super" (by decide)).trans (by decide +kernel)
    obtain ⟨hp, g, dr, tk, os⟩ := s1
    refine wpAny_call (PySem.ZX.err_made T.t T.ok T.top I1.kIn G B hB hlim (by have := hr.dp; omega) fun h' tk' e d M => ?_)
    show MkP X pins σ Q (.ref e) ⟨h', g, dr, tk', os⟩
    obtain ⟨t1, hoe⟩ := M.obj
    have hns := M.ns
    obtain ⟨G', g1, g2⟩ := restrict h' fun b => decide (b ≠ e)
    have gk : ∀ b, b ≠ e → G'.get? b = h'.get? b := fun b hb => g1 b (decide_eq_true hb)
    have ge : G'.get? e = none := g2 e (by simp)
    have old : ∀ b o, hp.get? b = some o → G'.get? b = some o := fun b o q => (gk b (Nat.ne_of_lt (Nat.lt_of_lt_of_le (Heap.lt_size q) M.new))).trans (M.keep b o q)
    have ob : ObjOk X.prog X.w (upd H1 d (.xd [(fld, v)])) G' d (.xd [(fld, v)]) := ⟨_, hns.at (fun o q => (gk d M.dne).trans q), fun f => relO_fld rv f⟩
    have J : Inv X pins σ (upd H1 d (.xd [(fld, v)])) ⟨G', g, dr, tk', os⟩ := I1.laid (t' := tk') old M.dbig ob
    refine ⟨e, _, _, ⟨G', g, dr, tk', os⟩, _, .ref C, some d, rfl, J, fun b o q => ?_, ge, hoe, ⟨rfl, rfl⟩, rfl, rfl, ?_, rfl, I1.bare, raises_own T.exC T.tyC, q1 d (I1.hok.fresh M.dbig)⟩
    · by_cases hb : b = e
      · have q' : G'.get? b = some o := q
        rw [hb, ge] at q'; cases q'
      · exact (gk b hb).symm.trans q
    · rw [upd_ne (Ne.symm M.dne)]
      exact I1.hok.fresh M.new
/-- raise X(e) -/
def tRaiseE (C : Addr) (fld : Str) (W : WX) (ta : TA) : TS := fun _ σ H => tMkE C fld ta σ H fun cls d H' => W cls d σ H'
theorem ps_raiseE {a : Expr} {ta : TA} {W : WX} {p pos pos2 : Pos} {k : Nat} (hc : X.calm = true) (T : ErrCls X x C fI fld) (hr : Room k X.A) (tk : Takes X W) (ha : PA X [a] ta) (hg : Gl X x := by rfl) (hdb : (x == ("__debug__" : Str)) = false := by decide)
    (he : starEach (a :: []) X.env = (false, eval a X.env) :: starEach [] X.env := by rfl) (hpl : (backTo pos (starEach [] X.env)).any (·.1) = false := by rfl) :
    PS X (.Raise (some (.Call (.Name x p) [a] [] pos)) none pos2) (tRaiseE C fld W ta) := ps_raise hc tk (pmk_err T hr ha hg hdb he hpl)
end
end L2
/-! defs that raise an error of one's own -/
namespace Z
open PySem PySem.Spec PyProof.Rows L2 Evl
/-- an error class of the text, apart from any place -/
structure ErrC (P : Program) (K : PySem.W.Frag) (mg : Str → Option Value) (x : Str) (C fI : Addr) (fld : Str) : Prop where
  t : PySem.ZX.ErrTxt P K C fI fld
  ok : PySem.ZX.okF fld = true
  top : (P.main.scope.names.lookup ("super" : Str)).isSome = false
  g : mg x = some (.ref C)
  k : PySem.W.keepIn K (.ref C) = true
  exC : PySem.W.subIn K (.ref C) (.type "BaseException") = some true
  tyC : PySem.W.typeIn K (.ref C) = some (.type "type")
theorem ErrC.at {X : Cx} {x : Str} {C fI : Addr} {fld : Str} (T : ErrC X.prog X.K X.mg x C fI fld) : ErrCls X x C fI fld := ⟨T.t, T.ok, T.top, T.g, T.k, T.exC, T.tyC⟩
/-- it raises the error C, its field of P -/
def SpR (C : Addr) (fld : Str) (F : List V → Hp → (V → Hp → Prop) → Prop) : Sp := fun vs A _ E => ∃ H P, Reg .non H A ∧ F vs H P ∧ ∀ v dd A' H', Gr .non A H A' H' → H' dd = some (.xd [(fld, v)]) → P v H' → E (.ref C) (some dd) A'
theorem lenR {C : Addr} {fld : Str} {F : List V → Hp → (V → Hp → Prop) → Prop} {n : Nat} (h : ∀ vs H P, F vs H P → vs.length = n) : ∀ vs H Q E, SpR C fld F vs H Q E → vs.length = n := fun vs H Q E ⟨_, _, _, k, _⟩ => h _ _ _ k
section
variable {P : Program} {w : World} {K : PySem.W.Frag} {mg : Str → Option Value} {base : Heap}
theorem dnx_of {x : Str} {st : Stmt} {N ps : List Str} {sp : Sp} (k : Nat) (Hx : St K mg x st ps) (S : FnScope N ps (defScope st)) (len : ∀ vs H Q E, sp vs H Q E → vs.length = ps.length)
    (hbody : ∀ (f : Addr) (cdv : Value) (A : Around) (outer : List Env) (s : Shared) (H : Hp) (vs : List V) (Q : VK) (E : XK), Room k (A.deeper (envOfC x (defScope st) s.heap.objs.size f cdv)) → sp vs H Q E →
      ∃ t, PSs (cxOf (L2.CX P w) P w K mg base N x (defScope st) f cdv A outer s H E) (defBody st) t ∧ t { nx := fun _ H' => Q .non H', rt := Q } (start N vs) H) : Dn P w K mg base (L2.CX P w) (k + 1) x ps sp := by
  obtain ⟨f, fd, F, m, b⟩ := Hx
  exact ⟨f, fd, F.ok S len fun cdv A outer s H vs Q E hr h => hbody f cdv A outer s H vs Q E hr h, m, F.kp, b⟩
theorem mnx_of {x qual : Str} {st : Stmt} {f : Addr} {N ps : List Str} {sp : Sp} (k : Nat) (Hx : StM K x qual st f ps) (S : FnScope N ps (defScope st)) (len : ∀ vs H Q E, sp vs H Q E → vs.length = ps.length)
    (hbody : ∀ (cdv : Value) (A : Around) (outer : List Env) (s : Shared) (H : Hp) (vs : List V) (Q : VK) (E : XK), Room k (A.deeper (envOfC qual (defScope st) s.heap.objs.size f cdv)) → sp vs H Q E →
      ∃ t, PSs (cxOf (L2.CX P w) P w K mg base N qual (defScope st) f cdv A outer s H E) (defBody st) t ∧ t { nx := fun _ H' => Q .non H', rt := Q } (start N vs) H) : ∃ fd, FnOk P w K mg base (L2.CX P w) (k + 1) f fd ps sp ∧ Binds K fd ps [] := by
  obtain ⟨fd, F, b⟩ := Hx
  exact ⟨fd, F.ok S len fun cdv A outer s H vs Q E hr h => hbody cdv A outer s H vs Q E hr h, b⟩
theorem takes_fn {N : List Str} {qual : Str} {sc : Scope} {f : Addr} {cdv : Value} {A : Around} {outer : List Env} {s : Shared} {H : Hp} {E : XK} : Takes (cxOf (L2.CX P w) P w K mg base N qual sc f cdv A outer s H E) (fun cls d _ H => E cls d H) := takes_of rfl rfl rfl rfl
theorem own_fn {N : List Str} {qual : Str} {sc : Scope} {f : Addr} {cdv : Value} {A : Around} {outer : List Env} {s : Shared} {H : Hp} {E : XK} : PassesOwn (model P w) (cxOf (L2.CX P w) P w K mg base N qual sc f cdv A outer s H E).A (cxOf (L2.CX P w) P w K mg base N qual sc f cdv A outer s H E).env (cxOf (L2.CX P w) P w K mg base N qual sc f cdv A outer s H E).xe := passes_of rfl
/-- f(..), f lets its errors out -/
theorem pe_cdX {X : Cx} {x : Str} {ps : List Str} {sp : Sp} {k k' : Nat} {e : Expr} {es : List Expr} {t : TA} {W : WX} {p pos : Pos} (D : Dn X.prog X.w X.K X.mg X.base (L2.CX X.prog X.w) k x ps sp) (tk : Takes X W) (hr : Room k' X.A) (hk : k ≤ k') (hg : Gl X x) (ha : PA X (e :: es) t)
    (hdb : (x == ("__debug__" : Str)) = false := by decide) (he : starEach (e :: es) X.env = (false, eval e X.env) :: starEach es X.env := by rfl) (hpl : (backTo pos (starEach es X.env)).any (·.1) = false := by rfl) :
    PE X (.Call (.Name x p) (e :: es) [] pos) (tCallS sp (WE W) t) := by
  obtain ⟨f, fd, F, m, kp, b⟩ := D
  exact pe_callS F (hr.mono hk) hg m kp b (fun σ => passAt tk σ) ha hdb he hpl
end
section
variable {K : PySem.W.Frag} {p : Me} {σ : L2.St} {H H' A A' : Hp} {te ta tb : TE} {tt : TT} {tu tz : TS} {D : Ends} {P : V → Hp → Prop} {C : Addr} {fld : Str} {F : List V → Hp → (V → Hp → Prop) → Prop}
/-- raise C(e) -/
theorem s_raise {W : WX} {ta : TE} (h : EvG p ta σ H P) (mp : Mono P) (R : Reg p H A) (k : ∀ v dd A' H', Gr p A H A' H' → H' dd = some (.xd [(fld, v)]) → P v H' → W (.ref C) (some dd) σ A') : tRaiseE C fld W (tCons ta tNil) D σ A :=
  h A R _ fun v A1 H1 g1 k1 => ⟨v, rfl, fun d hd => by
    have R1 := g1.to R
    have ga := Gr.alloc R1 (o := .xd [(fld, v)]) hd
    exact k v d _ _ (g1.trans ga) upd_same (mp _ _ _ ga.reg k1)⟩
/-- a call that raises -/
theorem s_dropR {W : WX} {Pa : List V → Hp → Prop} {t : TA} (h : EvA p t σ H Pa) (R : Reg p H A) (hF : ∀ vs H', Ex H H' → Pa vs H' → F vs H' P) (k : ∀ v dd A' H', Gr p A H A' H' → H' dd = some (.xd [(fld, v)]) → P v H' → W (.ref C) (some dd) σ A') : tDrop (tCallS (SpR C fld F) (WE W) t) D σ A :=
  h A R _ fun vs A1 H1 g1 k1 => by
    have R1 := g1.to R
    exact ⟨H1, P, R1.nil, hF vs H1 g1.reg k1, fun v dd A2 H2 g2 e2 k2 => k v dd A2 H2 (g1.trans (g2.pure R1)) e2 k2⟩
theorem q_dropR {W : WX} {Pa : List V → Hp → Prop} {t : TA} (h : EvA p t σ H Pa) (R : Reg p H A) (hF : ∀ vs H', Ex H H' → Pa vs H' → F vs H' P) (k : ∀ v dd A' H', Gr p A H A' H' → H' dd = some (.xd [(fld, v)]) → P v H' → W (.ref C) (some dd) σ A') : tSeq (tDrop (tCallS (SpR C fld F) (WE W) t)) tz D σ A := s_dropR (D := { D with nx := tz D }) h R hF k
end
end Z
namespace Z
open PySem PySem.Spec PyProof.Rows L2 Evl
/-- an __init__ that raises: the object was one's own -/
def SpRI (C Ce : Addr) (fld : Str) (F : List V → Hp → (V → Hp → Prop) → Prop) : Sp := fun vs A _ E => ∃ (H : Hp) (x dx : Addr) (us : List V) (P : V → Hp → Prop), vs = .ref x :: us ∧ Reg ⟨none, upd (fun _ => none) x (.ins C dx [])⟩ H A ∧ F us H P ∧
  ∀ v dd A' H', Reg .non H' A' → Ex H H' → (∀ A0 H0, A0 x = none → Gr .non A0 H0 A H → Gr .non A0 H0 A' H') → H' dd = some (.xd [(fld, v)]) → P v H' → E (.ref Ce) (some dd) A'
section
variable {K : PySem.W.Frag} {p : Me} {σ : L2.St} {H H' A A' : Hp} {te ta tb : TE} {tt : TT} {tu tz : TS} {D : Ends} {P : V → Hp → Prop} {C Ce : Addr} {fld : Str} {F : List V → Hp → (V → Hp → Prop) → Prop}
/-- o.f = f(..) that raises -/
theorem s_fldR {W : WX} {Pa : List V → Hp → Prop} {t : TA} {f : Str} (h : EvA p t σ H Pa) (R : Reg p H A) (hF : ∀ vs H', Ex H H' → Pa vs H' → F vs H' P) (k : ∀ v dd A' H', Gr p A H A' H' → H' dd = some (.xd [(fld, v)]) → P v H' → W (.ref C) (some dd) σ A') : sFld K ta (tCallS (SpR C fld F) (WE W) t) f D σ A :=
  h A R _ fun vs A1 H1 g1 k1 => by
    have R1 := g1.to R
    exact ⟨H1, P, R1.nil, hF vs H1 g1.reg k1, fun v dd A2 H2 g2 e2 k2 => k v dd A2 H2 (g1.trans (g2.pure R1)) e2 k2⟩
/-- return f(..) that raises -/
theorem s_retR {W : WX} {Pa : List V → Hp → Prop} {t : TA} (h : EvA p t σ H Pa) (R : Reg p H A) (hF : ∀ vs H', Ex H H' → Pa vs H' → F vs H' P) (k : ∀ v dd A' H', Gr p A H A' H' → H' dd = some (.xd [(fld, v)]) → P v H' → W (.ref C) (some dd) σ A') : tRet (tCallS (SpR C fld F) (WE W) t) D σ A :=
  h A R _ fun vs A1 H1 g1 k1 => by
    have R1 := g1.to R
    exact ⟨H1, P, R1.nil, hF vs H1 g1.reg k1, fun v dd A2 H2 g2 e2 k2 => k v dd A2 H2 (g1.trans (g2.pure R1)) e2 k2⟩
/-- C(..) that raises, as what is returned -/
theorem s_retMkR {E : XK} {Pa : List V → Hp → Prop} {t : TA} (mp : Mono P) (h : EvA p t σ H Pa) (ma : ∀ vs H1 H2, Ex H1 H2 → Pa vs H1 → Pa vs H2) (R : Reg p H A) (hF : ∀ vs H', Ex H H' → Pa vs H' → F vs H' P) (k : ∀ v dd A' H', Gr p A H A' H' → H' dd = some (.xd [(fld, v)]) → P v H' → E (.ref Ce) (some dd) A') : tRet (tMake C (SpRI C Ce fld F) [] E t) D σ A :=
  h A R _ fun vs A1 H1 g1 k1 x dx hx hdx ne => by
    have R1 := g1.to R
    have gd := Gr.alloc R1.nil (o := .own x) hdx
    have Rd := gd.to R1.nil
    have hx2 : upd A1 dx (.own x) x = none := by rw [upd_ne (fun z => ne z.symm)]; exact hx
    have gx := Gr.allocM Rd (o := .ins C dx []) hx2
    rw [List.append_nil]
    refine ⟨upd H1 dx (.own x), x, dx, vs, P, rfl, Reg.one Rd hx2, hF vs _ (g1.reg.trans gd.reg) (ma _ _ _ gd.reg k1), fun v dd A' H' r e last hd pv => ?_⟩
    exact k v dd A' H' (g1.trans ((last A1 H1 hx (gd.trans gx)).pure R1)) hd pv
end
end Z
/-! an error that a clause caught, held behind the try -/
namespace Z
open PySem PySem.Spec PyProof.Rows L2 Evl
/-- a caught error of the class cls, its dict d, at a -/
def ExH (cls : Value) (d : Option Addr) (a : Addr) : HO := .ext fun h => ∃ oe vs, h.get? a = some oe ∧ Zc cls d oe ∧ oe.data = .fields vs
section
variable {X : Cx} {pins : List (Addr × Obj)} {σ : L2.St} {H : Hp} {s : Shared} {a : Addr}
/-- what stands and is not known becomes known -/
theorem Inv.knowE {cls : Value} {d : Option Addr} {oe : Obj} {vs : Array Value} (I : Inv X pins σ H s) (he : s.heap.get? a = some oe) (hz : Zc cls d oe) (hd : oe.data = .fields vs) (na : H a = none) (nL : a ≠ X.env.locals) (n0 : X.s_0.heap.get? a = none) (hp : ∀ p ∈ X.pn ++ pins, p.1 ≠ a) :
    Inv X pins σ (upd H a (ExH cls d a)) s := by
  have ne : ∀ {b : Addr}, H b ≠ none → b ≠ a := fun h z => h (by rw [z]; exact na)
  refine ⟨I.ok, I.os, I.bare, ⟨I.base.keep, I.base.slot, fun b o e n x => ?_, I.base.there, fun b xs e => ?_, fun b o u e => ?_, fun b ps e => ?_⟩, I.loc, I.cell, ?_, fun x c e => ?_, fun p hq => ?_, ?_, I.len⟩
  · have : b ≠ a := fun z => by subst z; rw [n0] at e; cases e
    rw [upd_ne this]; exact I.base.free b o e n x
  · have k := I.base.tups b xs e
    rw [upd_ne (ne (by rw [k]; simp))]; exact k
  · have k := I.base.frzs b o u e
    rw [upd_ne (ne (by rw [k]; simp))]; exact k
  · obtain ⟨more, k⟩ := I.base.tbls b ps e
    exact ⟨more, by rw [upd_ne (ne (by rw [k]; simp))]; exact k⟩
  · rw [upd_ne (fun z => nL z.symm)]; exact I.free
  · have : c ≠ a := fun z => by
      subst z
      obtain ⟨v, o, k, kd⟩ := I.cell x c e
      rw [he] at k
      cases k
      simp_all
    rw [upd_ne this]; exact I.freeC x c e
  · obtain ⟨h1, h2, h3⟩ := I.pin p hq
    exact ⟨h1, by rw [upd_ne (hp p hq)]; exact h2, h3⟩
  · exact HOk.laidN I.hok (fun b u k => k) na ⟨⟨oe, vs, he, hz, hd⟩, ⟨oe, he⟩, fun _ _ ⟨o, v, k, r⟩ st => ⟨o, v, st o k, r⟩⟩
end
/-- what 'except x as n' wishes, where the error may be held on: slot i is n's -/
def wHeld (K : PySem.W.Frag) (c : Value) (i : Nat) (ts : Addr → Value → Option Addr → TS) (Wout : WX) (D : Ends) : WX := fun cls d σ H => ∃ b, PySem.W.exmOne K cls c = some b ∧ (b = false → Wout cls d σ H) ∧
  (b = true → ∀ a, H a = none → ts a cls d { nx := fun σ' H' => D.nx (σ'.set i none) (upd H' a (ExH cls d a)), rt := fun v H' => D.rt v (upd H' a (ExH cls d a)), bk := fun σ' H' => D.bk (σ'.set i none) (upd H' a (ExH cls d a)), ct := fun σ' H' => D.ct (σ'.set i none) (upd H' a (ExH cls d a)) } (σ.set i (some (.ref a))) H)
section
variable {X : Cx} {x n : Str} {c : Value} {i : Nat} {body suite : List Stmt} {b₀ : Stmt} {np pos pos' : Pos} {tb : WX → TS} {ts : Addr → Value → Option Addr → TS} {Wout : WX}
theorem ps_try_held (hs : X.stack = X.env :: X.outer) (hf : X.env.frame = some X.env.locals) (hex : X.ex = []) (hN : X.N.Nodup) (hi : X.N[i]? = some n) (hln : X.env.kindOf n = some .local) (hc : Names X x c) (tk : Takes X Wout)
    (hb : ∀ (W : WX) (pn : List (Addr × Obj)) (xe : Value → Shared → Prop), Takes (X.tr pn xe) W → PassesOwn (model X.prog X.w) X.A X.env xe → PSs (X.tr pn xe) body (tb W))
    (hsu : ∀ (a : Addr) (oe : Obj) (cls : Value) (d : Option Addr) (pn : List (Addr × Obj)), Zc cls d oe → (∃ vs, oe.data = .fields vs) → PSs (X.suite a ((a, oe) :: pn)) (b₀ :: suite) (ts a cls d)) :
    PS X (.Try body [.ExceptHandler (some (.Name x np)) (some n) (b₀ :: suite) pos'] [] [] pos) (fun D σ H => tb (wHeld X.K c i ts Wout D) D σ H) := by
  refine ⟨fun pins s σ H D I h => ?_⟩
  have ok := I.ok
  have hfr : X.A.frames = some (X.env :: X.outer) := hs ▸ ok.frames
  refine wpAny_Try_except (wpAny_mono ((hb (wHeld X.K c i ts Wout D) (X.pn ++ pins) _ (fun u s' up => ?_) PassesOwn.looking).run [] s σ H D (I.toTry _) h) (fun f s1 q => ?_) fun _ _ q => q)
  case refine_2 =>
    cases f with
    | next => obtain ⟨σ', H', J, q⟩ := q; exact wpAny_execs_nil ⟨σ', H', J.ofTry ok, q⟩
    | brk => obtain ⟨σ', H', J, q⟩ := q; exact ⟨σ', H', J.ofTry ok, q⟩
    | cont => obtain ⟨σ', H', J, q⟩ := q; exact ⟨σ', H', J.ofTry ok, q⟩
    | ret u => obtain ⟨v, σ', H', J, r, q⟩ := q; exact ⟨v, σ', H', J.ofTry ok, r, q⟩
  obtain ⟨a, B, sI, _, σ1, H1, cls, d, rfl, J0, nb, upI, sky, na, os, ag, b, hm, hno, hyes⟩ := up
  have J : Inv X pins σ1 H1 sI := J0.ofTry ok
  have sky1 : Sky B (X.env :: X.outer) a (Zc cls d) X.env.locals s'.heap := hs ▸ sky
  refine Sky.land (A := X.A) Zc.steady hfr hf sky1 fun h3 fl up3 => ?_
  have land : ∀ {h4 : Heap}, HandSPX.FlyingZ B (X.env :: X.outer) a (Zc cls d) h4 → h3.UpToSlots h4 → Inv X pins σ1 H1 { s' with heap := h4 } := fun f4 u4 => J.landed nb f4.1 ((upI.trans up3).trans u4) os ag
  have out : ∀ {h4 : Heap} {o : Obj} {vs : Array Value}, h4.FunFrames B (X.env :: X.outer) → h4.get? a = some o → o.data = .fields vs → a ∉ frs (X.env :: X.outer) := fun ff e dd m => by
    obtain ⟨_, _, e', nf⟩ := ff.mem m
    rw [e] at e'
    cases e'
    exact nf _ dd
  obtain ⟨oe, vs, he, hz, hd⟩ := fl.there
  have nfr := out fl.2.2.1 he hd
  have nL : a ≠ X.env.locals := fun z => nfr (List.mem_filterMap.mpr ⟨X.env, List.mem_cons_self, by rw [hf, z]⟩)
  have nF : a ∉ X.fs := fun m => by
    obtain ⟨e, me, q⟩ := List.mem_filterMap.mp m
    exact nfr (List.mem_filterMap.mpr ⟨e, List.mem_cons_of_mem _ me, q⟩)
  have nI : sI.heap.get? a = none := by
    cases e : sI.heap.get? a with
    | none => rfl
    | some o =>
      have := nb a o e (by rw [hs]; exact nfr)
      rw [fl.2.1] at this
      cases this
  have n0 : X.s_0.heap.get? a = none := by
    cases e : X.s_0.heap.get? a with
    | none => rfl
    | some o =>
      obtain ⟨o', k⟩ := J.base.there a o e (by rw [hex]; exact List.not_mem_nil)
      rw [nI] at k
      cases k
  have np0 : ∀ p ∈ X.pn ++ pins, p.1 ≠ a := fun p hp z => by
    have k := (J.pin p hp).1
    rw [z, nI] at k
    cases k
  have J3 := land fl (Heap.UpToSlots.refl _)
  have S3 := J3.suite he hd na nL nF
  refine wpAny_handleBy_cons (codeAny_handlers_test ?_) (by intro q; cases q)
  have LT : PySem.W.Looks (model X.prog X.w) h3 (typeOf (.ref a)) cls := fun A Q E s k q => wpAny_typeOf_ref (k _ _ he) (by rw [hz.1]; exact q)
  have LM := PySem.W.exm_one (M := model X.prog X.w) J3.kIn LT hm
  have name : ∀ {Q : Value → Shared → Prop} {E : Value → Shared → Prop}, Q c { s' with heap := h3 } → wpAny (model X.prog X.w) (X.A.mark (some (.ref a))) (eval (.Name x np) X.env) Q E { s' with heap := h3 } := fun q => by
    obtain ⟨hg, hdbg, hm | ⟨hm, hv, hnn⟩⟩ := hc
    · exact ld_glob (X := X.suite a ((a, oe) :: (X.pn ++ pins))) S3 hg hm q hdbg
    · exact ld_blt (X := X.suite a ((a, oe) :: (X.pn ++ pins))) S3 hg hm hv q hnn hdbg
  refine name (LM.here ?_)
  cases b with
  | false =>
    show wpAny _ X.A (handleBy (.ref a) X.env []) _ _ _
    refine wpAny_handleBy_nil ?_
    obtain ⟨_, _, _, oe', vs', T, _, _, he', _, hd', h1, _⟩ := id fl
    unfold PySem.passOn
    refine wpAny_bind (wpAny_field he' hd' h1 ?_)
    rw [if_neg (show ¬ ((Value.ref T == Value.none) = true) from by simp)]
    have fin : wpAny (model X.prog X.w) X.A (setFlight (.ref a) X.env.frame) (fun _ s4 => wpAny (model X.prog X.w) X.A (throw (.ref a) : Sem Flow) (SP X pins D) X.xe s4) X.xe { s' with heap := h3 } := by
      rw [hf]
      exact HandSPX.setFlight_upZ fl fun h4 hh4 up4 => wpAny_throw (tk _ _ ⟨a, B, sI, pins, σ1, H1, cls, d, rfl, J, nb, (upI.trans up3).trans up4, .inr (.inr (by rw [hs]; exact hh4)), na, os, ag, hno rfl⟩)
    first
      | exact wpAny_bind (wpAny_pure (wpAny_bind fin))
      | exact wpAny_bind fin
  | true =>
    refine codeAny_handlers_suite_as (HandSPX.lands_againZ fl fun h4 fl4 up4 => ?_)
    have J4 := land fl4 up4
    obtain ⟨o4, vs4, he4, hz4, hd4⟩ := fl4.there
    have S4 := J4.suite he4 hd4 na nL nF
    refine store_ok (X := X.suite a ((a, o4) :: (X.pn ++ pins))) (v := .ref a) S4 hN hi (.inl hln) rfl (fun s5 S5 => ?_) (.inr hln)
    refine wpAny_mono ((hsu a o4 cls d (X.pn ++ pins) hz4 ⟨_, hd4⟩).run [] s5 _ H1 _ S5 (hyes rfl a na)) (fun f s6 q => ?_) (fun _ _ z => False.elim z)
    have after : ∀ {σ6 : L2.St} {H6 : Hp} {Q : Shared → Prop}, Inv (X.suite a ((a, o4) :: (X.pn ++ pins))) [] σ6 H6 s6 → (∀ s7, Inv X pins (σ6.set i none) (upd H6 a (ExH cls d a)) s7 → Q s7) →
        wpAny (model X.prog X.w) X.A (do bindName X.env n .none; unbindBehindTheSuite X.env n pos') (fun _ s7 => Q s7) X.xe s6 := fun {σ6 H6 Q} S6 hq => by
      have pa := S6.pin (a, o4) (List.mem_append_left _ List.mem_cons_self)
      have U := S6.unsuite ok
      have U2 : Inv X ((a, o4) :: pins) σ6 H6 s6 := U.pins_of fun p hp => by
        rcases List.mem_cons.mp hp with e | hp
        · rw [e]; exact pa
        · exact U.pin p (List.mem_append_right _ hp)
      refine gone_ok U2 hN hi hln fun s7 J7 => hq s7 ?_
      have p7 := J7.pin (a, o4) (List.mem_append_right _ List.mem_cons_self)
      have J8 : Inv X pins (σ6.set i none) H6 s7 := J7.pins_of fun p hp => J7.pin p (List.mem_append_right _ (List.mem_cons_of_mem _ hp))
      exact Z.Inv.knowE J8 p7.1 hz4 hd4 p7.2.1 nL n0 np0
    cases f with
    | next => obtain ⟨σ6, H6, S6, q6⟩ := q; exact after S6 fun s7 J7 => ⟨_, _, J7, q6⟩
    | brk => obtain ⟨σ6, H6, S6, q6⟩ := q; exact after S6 fun s7 J7 => ⟨_, _, J7, q6⟩
    | cont => obtain ⟨σ6, H6, S6, q6⟩ := q; exact after S6 fun s7 J7 => ⟨_, _, J7, q6⟩
    | ret u => obtain ⟨v6, σ6, H6, S6, r6, q6⟩ := q; exact after S6 fun s7 J7 => ⟨_, _, _, J7, r6, q6⟩
end
end Z
/-! isinstance and fields of an error that is held -/
namespace Z
open PySem PySem.Spec PyProof.Rows L2 Evl
section
variable {prog : Program} {w : World} {A : Around} {E : Value → Shared → Prop} {s : Shared} {K : PySem.W.Frag} {x D : Addr} {ox : Obj} {od : Option Obj}
theorem cls_found (C : ExcC K D) : PySem.W.findObj K D od "__class__" = some (.bind (.builtin "getset_descriptor.__get__") (.builtin "object.__class__")) := by
  obtain ⟨cd, hc, _⟩ := PySem.W.any_some C.hd
  unfold PySem.W.findObj
  rw [hc, Option.bind_some, C.ha, Option.bind_some]
  simp [C.hn, C.ht]
theorem cls_asked {Q : Option Value → Shared → Prop} (C : ExcC K D) (X : K.In s.heap) (I : PySem.W.InstAt s.heap x ox D od) (h : Q (some (.ref D)) { s with toks := s.toks + 1 }) : wpAny (model prog w) A (getAttr? (.ref x) "__class__") Q E s := by
  obtain ⟨hp, g, dr, t, os⟩ := s
  have T := I.type (M := model prog w)
  have two : (Value.builtin "BaseException.__getattribute__" == Value.builtin "object.__getattribute__") = false := by decide +kernel
  unfold getAttr? getAttrBy? getAttrBy
  refine wpAny_bind (wpAny_mkText (wpAny_bind (wpAny_attempt (wpAny_holding (wpAny_bind (T.at (wpAny_bind ((PySem.W.looks_findIn (M := model prog w) X C.hg).at ?_))))))))
  show wpAny _ _ (if (onTheHeap (Value.ref D) && Value.builtin "BaseException.__getattribute__" == Value.builtin "object.__getattribute__") = true then _ else _) _ _ _
  rw [two, Bool.and_false, if_neg Bool.false_ne_true]
  unfold getAttrByItsOwn hookBefore
  refine wpAny_bind ?_
  rw [if_pos (show onTheHeap (Value.ref D) = true from rfl)]
  refine (PySem.W.looks_findIn (M := model prog w) X C.hk).at (wpAny_bind (wpAny_attempt (wpAny_holding ?_)))
  unfold callGetattribute
  rw [show (false && onTheHeap (Value.builtin "BaseException.__getattribute__")) = false from rfl, if_neg Bool.false_ne_true]
  unfold boundAndCalled
  rw [PySem.F.excAttr_ValueError.ga.bind (.ref x)]
  refine wpAny_bind (wpAny_pure ?_)
  show wpAny _ _ (call (.builtin "BaseException.__getattribute__") [.ref x, .str "__class__" t]) _ _ _
  refine wpAny_call (codeAny_call_builtin PySem.F.excAttr_ValueError.ga.plain PySem.F.entry_bexc_ga ?_)
  refine @PySem.W.check_slot (model prog w) _ _ ⟨hp, g, dr, t + 1, os⟩ "BaseException.__getattribute__" "BaseException" "__getattribute__" (.ref x) [.str "__class__" t] [] _ (by decide +kernel) (by decide +kernel) (T.andThen (PySem.W.looks_subIn X C.hs)) (PySem.F.args_bexc_ga (.ref x) (.str "__class__" t)) ?_
  unfold Builtin.«object.__getattribute__»
  refine wpAny_bind (wpAny_of_eq (a := ((Value.ref x : Value), [Value.str "__class__" t])) (by first | rfl | (simp only [slotArgs]; rfl)) ?_)
  refine wpAny_bind (wpAny_pure (wpAny_bind (T.at (wpAny_bind ((PySem.W.looks_find (M := model prog w) X I (cls_found C)).at ?_)))))
  show wpAny _ _ (holding [Value.builtin "object.__class__"] (call (.builtin "getset_descriptor.__get__") [.builtin "object.__class__", .ref x, .ref D]) >>= ret) _ _ _
  refine wpAny_bind (wpAny_holding (wpAny_call (PySem.W.class_get (s := ⟨hp, g, dr, t + 1, os⟩) (ox := ox) (od := od) X I C.hm (wpAny_pure ?_))))
  show wpAny _ _ (handedOut (.ref D)) _ _ _
  rw [PySem.W.handedOut_of (v := .ref D) rfl]
  first
    | exact wpAny_pure (wpAny_pure h)
    | exact wpAny_pure h
    | exact wpAny_pure (wpAny_bind (wpAny_pure (wpAny_pure h)))
end
section
variable {X : Cx} {pins : List (Addr × Obj)} {σ : L2.St} {H : Hp} {s : Shared} {a C dd : Addr} {fs : List (Str × V)}
/-- a held error with its dict, in the heap -/
theorem held_at (I : Inv X pins σ H s) (ha : H a = some (ExH (.ref C) (some dd) a)) (hd : H dd = some (.xd fs)) : ∃ oe od mA, PySem.W.InstAt s.heap a oe C (some od) ∧ s.heap.get? dd = some od ∧ s.heap.Ns1 dd mA ∧ ∀ f, RelO (fs.lookup f) (mA f) := by
  obtain ⟨⟨oe, vs, e, z, hv⟩, _, _⟩ := I.hok a _ ha
  obtain ⟨mA, hns, hr⟩ := (show ObjOk X.prog X.w H s.heap dd (.xd fs) from I.hok dd _ hd)
  have hns2 := hns
  obtain ⟨od, es, ep, ho, _⟩ := hns2
  exact ⟨oe, od, mA, ⟨e, z.1, by unfold PySem.W.notCls; rw [hv] <;> rfl, by rw [z.2]; exact ho⟩, ho, hns, hr⟩
theorem kit_held {K : PySem.W.Frag} {x D : Addr} {ox : Obj} {od : Option Obj} (T : ExcC K D) : PySem.W.KitX K (.ref x) (.ref D) (fun h => PySem.W.InstAt h x ox D od) where
  ty := fun _ _ _ I => I.type
  it := fun M h X I => by
    obtain ⟨cd, hc, _⟩ := PySem.W.any_some T.hd
    unfold PySem.W.clsIn at hc
    split at hc
    · rename_i ho
      exact fun A Q E s k q => by unfold isType loadHead; exact wpAny_bind (wpAny_loadPart (k _ _ (X _ _ ho)) (wpAny_pure q))
    · cases hc
  ne := (PySem.W.handS_kitx_exc (x := x) (ox := ox) T.hg T.hk T.hs T.hd T.ha T.hn T.ht T.hm).ne
  ca := fun X I k => cls_asked T X I k
/-- isinstance(e, c), e an error that is held -/
def rIsiH (K : PySem.W.Frag) : List V → Hp → VK → Prop := fun xs H Q => ∃ (a C dd : Addr) (fs : List (Str × V)) (c : V) (u : Value) (b : Bool), xs = [.ref a, c] ∧ ClsV c u ∧ H a = some (ExH (.ref C) (some dd) a) ∧ H dd = some (.xd fs) ∧ ExcC K C ∧ PySem.W.kitOne K (.ref C) u = some b ∧ Q (.bl b) H
theorem call_isiH : CallR X (.builtin "isinstance") (rIsiH X.K) := by
  intro pins s σ H xs us Q I r h
  obtain ⟨a, C, dd, fs, c, u, b, rfl, kc, ha, hd, T, e, q⟩ := h
  obtain ⟨u1, u2, rfl, r1, r2⟩ := vals2 r
  have e2 := kc.eq r2
  subst e2
  cases r1
  obtain ⟨oe, od, mA, J, _⟩ := held_at I ha hd
  exact PySem.W.kia_one (kit_held T) I.kIn J e (fun z => nomatch z) fun tk => ⟨.bl b, H, I.tok tk, rfl, q⟩
/-- e.f, e an error that is held -/
def tHf (K : PySem.W.Frag) (f : Str) (te : TE) : TE := fun σ H Q => te σ H fun x H1 => ∃ (a C dd : Addr) (fs : List (Str × V)) (v : V), x = .ref a ∧ H1 a = some (ExH (.ref C) (some dd) a) ∧ H1 dd = some (.xd fs) ∧ XfC K C ∧ PySem.W.findIn K (.ref C) f = some none ∧ fs.lookup f = some v ∧ Q v H1
theorem pe_hf {e : Expr} {te : TE} {pos : Pos} {n : Str} (he : PE X e te) (hb : attributeBase e n X.env (eval e X.env) = eval e X.env := by rfl) : PE X (.Attribute e n pos) (tHf X.K n te) := by
  refine ⟨fun pins s σ H Q I h => ?_⟩
  refine attr_of hb (thn (he.run pins s σ H _ I h) fun u s1 ⟨x, H1, I1, rx, a, C, dd, fs, v, ex, ha, hd, T, hno, l, q⟩ => ?_)
  subst ex
  obtain rfl : u = Value.ref a := rx
  obtain ⟨oe, od, mA, J, ho, hns, hr⟩ := held_at I1 ha hd
  obtain ⟨od2, ho2, hl⟩ := lookIn_ns hns
  rw [ho] at ho2
  cases ho2
  obtain ⟨u, hu, ru⟩ := RelO.some_of (v := v) (o := mA n) (by rw [← l]; exact hr n)
  exact HandSPX.exc_get I1.kIn J T.ga T.gg T.exC (PySem.W.findObj_own T.hdC hno rfl (by rw [hl, hu])) (handed_of ru) ⟨v, H1, I1.tok _, ru, q⟩
end
end Z
/-! what is known stays known where lambdas are made (tables of code objects are written then) -/
namespace Z
open PySem PySem.Spec PyProof.Rows L2 Evl LamX
/-- what is known but tables -/
def nt (H : Hp) : Hp := fun a => match H a with
  | some (.tbl _) => none
  | o => o
section
variable {K : PySem.W.Frag} {p : Me} {H H' A A' : Hp} {T : List (Addr × Str)}
theorem nt_ex : Ex (nt H) H := fun a o h => by
  unfold nt at h
  split at h
  · cases h
  · exact h
theorem nt_at {a : Addr} {o : HO} (h : H a = some o) (n : ∀ ps, o ≠ .tbl ps) : nt H a = some o := by
  unfold nt
  split
  · rename_i ps e
    rw [h] at e
    exact absurd (Option.some.inj e) (n ps)
  · exact h
theorem nt_no {a : Addr} {ps : Array Value} : nt H a ≠ some (.tbl ps) := fun h => by
  unfold nt at h
  split at h
  · cases h
  · rename_i q
    exact q ps h
theorem sqt_nt {a : Addr} {xs : List V} (h : SqT K H a xs) : SqT K (nt H) a xs := by
  rcases h with (h | ⟨o, h⟩) | h
  · exact .inl (.inl (nt_at h fun _ => by simp))
  · exact .inl (.inr ⟨o, nt_at h fun _ => by simp⟩)
  · exact .inr h
theorem dq_nt : ∀ (d : PyData) (v : V), Dq K H v d → Dq K (nt H) v d
  | .none, _, .non => .non
  | .bool _, _, .bl b => .bl b
  | .int _, _, .int i => .int i
  | .str _, _, .str x => .str x
  | .list ds, _, .lst h hs => .lst (nt_at h fun _ => by simp) (all ds _ hs)
  | .tuple ds, _, .tup h hs => .tup (sqt_nt h) (all ds _ hs)
  | .dict [], _, .dic h => .dic (nt_at h fun _ => by simp)
where
  all : ∀ (ds : List PyData) (vs : List V), DqAll K H vs ds → DqAll K (nt H) vs ds
  | [], _, .nil => .nil
  | d :: ds, _, .cons h hs => .cons (dq_nt d _ h) (all ds _ hs)
/-- a lambda was made -/
theorem Reg.lam (R : Reg p H A) (e : ExtN A A') (ho : ∀ q o, p.own q = some o → ∀ ps, o ≠ .tbl ps) : Reg p (nt H) A' := by
  have keep : Ex (nt H) A' := fun a o h => e a o (R.ex a o (nt_ex a o h)) fun ps z => by subst z; exact nt_no h
  refine ⟨keep, fun q hq => ?_, fun q hq => fresh_back nt_ex (R.off q hq), fun q o h => e q o (R.own q o h) (ho q o h), fun q o h => ⟨fresh_back nt_ex (R.offO q o h).1, (R.offO q o h).2⟩⟩
  obtain ⟨a, b, h, k⟩ := R.pool q hq
  exact ⟨a, b, e q _ h fun _ => by simp, k⟩
/-- the tables stay where an expression is evaluated -/
theorem tabs_gr (R : Reg p H A) (t : Tabs T A) (g : Gr p A H A' H') : Tabs T A' := fun q hq => by
  obtain ⟨ps, h1, h2, h3⟩ := t q hq
  have np : ∀ {b : Addr} {o : HO}, A b = some o → (∀ xs, o ≠ .lst xs) → p.pool ≠ some b := fun h n z => by
    obtain ⟨x, y, k, _⟩ := R.pool _ z
    rw [h] at k
    exact n _ (Option.some.inj k)
  refine ⟨ps, g.act _ _ (np h1 fun _ => by simp) h1, h2, fun pos cv hc => ?_⟩
  obtain ⟨c, e1, e2⟩ := h3 pos cv hc
  exact ⟨c, e1, g.act _ _ (np e2 fun xs z => by unfold CodeO at z; cases z) e2⟩
end
end Z
/-! repr of any data, {} too -/
namespace Z
open PySem PySem.Spec PyProof.Rows L2 Evl
def showD : PyData → Str
  | .none => "None"
  | .bool b => if b then "True" else "False"
  | .int i => toString i
  | .str x => reprText x
  | d => d.shown
def ShowOk : PyData → Prop
  | .none => True
  | .bool _ => True
  | .int i => i.natAbs.log2 < 1920
  | .str x => (reprText x).length ≤ sizeLine
  | .dict _ => True
  | d => d.showable = true ∧ d.hasDict = false ∧ d.depth ≤ 60 ∧ d.shown.length ≤ sizeLine
def rReprA (K : PySem.W.Frag) : List V → Hp → VK → Prop := fun vs H Q => ∃ (v : V) (d : PyData), vs = [v] ∧ Dq K H v d ∧ ShowOk d ∧ Q (.str (showD d)) H
theorem cr_reprA {X : Cx} (hg : X.A.guards = some []) (hu : X.A.units + 64 < cLine) : CallR X (.builtin "repr") (rReprA X.K) := by
  intro pins s σ H vs us Q I r h
  obtain ⟨v, d, rfl, hd, ok, q⟩ := h
  obtain ⟨u, rfl, ru⟩ := vals1 r
  have k0 := hd
  cases hd with
  | non =>
    cases (show u = Value.none from ru)
    exact PySem.P.repr_of_none ⟨.str _, H, I.tok _, ⟨_, rfl⟩, q⟩
  | bl b =>
    cases (show u = Value.bool b from ru)
    refine PySem.P.repr_of_bool ⟨.str _, H, I.tok _, ?_, q⟩
    cases b <;> exact ⟨_, rfl⟩
  | int i =>
    obtain ⟨t, rfl⟩ := (show ∃ t, u = Value.int i t from ru)
    exact PySem.P.repr_of_int ok ⟨.str _, H, I.tok _, ⟨_, rfl⟩, q⟩
  | str x =>
    obtain ⟨t, rfl⟩ := (show ∃ t, u = Value.str x t from ru)
    exact PySem.P.repr_of_str ⟨.str _, H, I.tok _, ⟨_, rfl⟩, q⟩ ok
  | @lst a xs ds _ _ =>
    cases (show u = Value.ref a from ru)
    obtain ⟨h1, h2, h3, h4⟩ := ok
    obtain ⟨as, rd⟩ := Dp.reads I _ (.ref a) (.ref a) (dq_dp _ _ h2 k0) rfl
    exact repr_of_reads' rd h1 (fun z => by rw [h2] at z; cases z) hg (by omega) (fun b o e => e) (fun h' u tk hk => ⟨.str _, H, I.kept hk, ⟨u, rfl⟩, q⟩) h4
  | @tup a xs ds _ _ =>
    cases (show u = Value.ref a from ru)
    obtain ⟨h1, h2, h3, h4⟩ := ok
    obtain ⟨as, rd⟩ := Dp.reads I _ (.ref a) (.ref a) (dq_dp _ _ h2 k0) rfl
    exact repr_of_reads' rd h1 (fun z => by rw [h2] at z; cases z) hg (by omega) (fun b o e => e) (fun h' u tk hk => ⟨.str _, H, I.kept hk, ⟨u, rfl⟩, q⟩) h4
  | @dic a hd =>
    cases (show u = Value.ref a from ru)
    obtain ⟨_, nm, vs, kv, o, es, ep, h1, h2, h3, h4, h5, _⟩ := dk_of I.hok hd
    cases kv
    have ee : es.toList = [] := by
      cases e : es.toList with
      | nil => rfl
      | cons a l => rw [e] at h5; cases h5
    have rd : Reads s.heap (.ref a) (.dict []) (a :: [] ++ []) := .dict h1 h2.1 h3 (by rw [ee]; exact .nil) (by rw [ee]; exact .nil)
    refine repr_of_reads' rd rfl (fun _ hm => ?_) hg (by have : (PyData.dict []).depth = 1 := rfl; omega) (fun b o e => e) (fun h' u tk hk => ⟨.str _, H, I.kept hk, ⟨u, rfl⟩, q⟩) (by decide +kernel)
    have : sysModules = a := by simpa using hm
    rw [← this] at nm
    simp at nm
theorem cr_reprAK {X : Cx} {K : PySem.W.Frag} (hK : X.K = K) (hg : X.A.guards = some []) (hu : X.A.units + 64 < cLine) : CallR X (.builtin "repr") (rReprA K) := hK ▸ cr_reprA hg hu
theorem c_reprA {K : PySem.W.Frag} {p : Me} {d : PyData} (h : ShowOk d) : CaD K p (rReprA K) [d] (.str (showD d)) := fun vs H A kk R Q q => by
  obtain ⟨v, rfl, kv⟩ := dqall_one kk
  exact ⟨v, d, rfl, dq_ex R.ex _ _ kv, h, q _ A H R.refl (.str _)⟩
end Z
namespace Z
open PySem PySem.Spec PyProof.Rows L2 Evl
/-- {} -/
theorem d_dicN {K : PySem.W.Frag} {p : Me} {σ : L2.St} {H : Hp} : EvD K p tDNewK σ H (.dict []) := fun A R Q q l hl => by
  have g := Gr.alloc R (o := .dK []) hl
  exact q (.ref l) _ _ g (.dic upd_same)
end Z
/-! the helper that hears an error -/
namespace Q43
open PySem PySem.Spec PyProof.Rows L2 Z Evl LamX
abbrev s__law_heard : Stmt := top 25
abbrev N__law_heard : List Str := ["_law_call", "_law_held", "e"]
theorem sc__law_heard : FnScope N__law_heard ["_law_call"] (defScope s__law_heard) := ⟨rfl, rfl, rfl, by decide +kernel, rfl, by decide +kernel, by decide +kernel⟩
/-- what may be shown -/
abbrev Showy (d : PyData) : Prop := ShowOk d
/-- the class of the error heard, what isinstance asks -/
structure Hear (K : PySem.W.Frag) (mg : Str → Option Value) (CF Ce CT : Addr) : Prop where
  mF : mg "FreshError" = some (.ref CF)
  mR : mg "InvalidRow" = some (.ref Ce)
  mT : mg "InvalidTree" = some (.ref CT)
  exm : PySem.W.exmOne K (.ref Ce) (.ref CF) = some true
  exc : ExcC K Ce
  xf : XfC K Ce
  no : PySem.W.findIn K (.ref Ce) "value" = some none
  isR : PySem.W.kitOne K (.ref Ce) (.ref Ce) = some true
  isT : PySem.W.kitOne K (.ref Ce) (.ref CT) = some false
/-- what the helper does with a call that raises Ce over a value that may be shown -/
def TTheard (K : PySem.W.Frag) (Ce : Addr) : (XK → Hp → VK → Prop) → Hp → VK → Prop := fun tl A Q =>
  ∀ Qn : VK, tl (fun cls d A1 => ∃ (H1 : Hp) (dd : Addr) (v : V) (dat : PyData), cls = .ref Ce ∧ d = some dd ∧ H1 dd = some (.xd [(("value" : Str), v)]) ∧ Reg .non H1 A1 ∧ Dq K H1 v dat ∧ Showy dat ∧
    ∀ v A' H', Gr .non A1 H1 A' H' → Dq K H' v (.list [.str "row", .str (showD dat)]) → Q v A') A Qn
/-- the end of an error, its slots as many as the names -/
theorem takes_len {X : Cx} {W : WX} (tk : Takes X W) : Takes X (fun cls d σ H => σ.length = X.N.length → W cls d σ H) := fun u s' ⟨a, B, sI, pins, σ, H, cls, d, e, I, nb, up, sky, na, os, ag, w⟩ => tk u s' ⟨a, B, sI, pins, σ, H, cls, d, e, I, nb, up, sky, na, os, ag, w I.len⟩
theorem heard_gives {X : Cx} {g CF Ce CT : Addr} {cdg : Value} {q : Str} (Hr : Hear X.K X.mg CF Ce CT) (B : Bs X.mg) (m_repr : X.mg "repr" = none) (gd : X.A.guards = some []) (hr : Room 1 X.A) :
    GivesTo X N__law_heard "_law_heard" (defScope s__law_heard) g cdg (defBody s__law_heard) "_law_call" q (TTheard X.K Ce) := by
  intro f c' s H Q tl act hc h
  refine ⟨_, pss_cons (ps_set (i := 1) sc__law_heard.nd rfl (Or.inl rfl) pe_non)
    (pss_cons (ps_try_held (c := .ref CF) (i := 2) (Wout := fun _ _ _ _ => False)
      (tb := fun W D σ H => ∃ Ech : XK, (∀ cls d σ' H', Ech cls d H' → σ'.length = 3 → W cls d σ' H') ∧ σ[0]? = some (some (.ref f)) ∧ H c' = some (CodeO c' q) ∧ tl Ech H (fun v H' => D.nx σ H'))
      rfl rfl rfl sc__law_heard.nd rfl rfl ⟨rfl, by decide, .inl Hr.mF⟩ L2.takes0 (fun W pn xe tk _ => ?_) (fun a oe cls d pn _ _ => pss_one (ps_set (i := 1) sc__law_heard.nd rfl (Or.inl rfl) (pv 2))))
    (pss_cons (ps_if (PW.pt (pw_and (pt_val (pe_callB call_isiH (by rfl) B.isinstance (by decide +kernel) (pa_cons (pv 1) (pa_cons (C8.pe_gc (v := .ref Ce) (by rfl) ⟨.ref Ce, Hr.mR, rfl⟩) pa_nil)))) (pw_and1 (pt_not (pt_val (pe_callB call_isiH (by rfl) B.isinstance (by decide +kernel) (pa_cons (pv 1) (pa_cons (C8.pe_gc (v := .ref CT) (by rfl) ⟨.ref CT, Hr.mT, rfl⟩) pa_nil))))))))
      (pss_one (ps_ret (pe_lst (pa_cons pe_str (pa_cons (pe_callB (cr_reprAK (K := X.K) rfl gd (Nat.lt_of_le_of_lt (Nat.add_le_add_left (by decide : 64 ≤ 64) _) (Room.deeper (k := 0) hr _).units)) (by rfl) m_repr (by decide +kernel) (pa_cons (pe_hf (pv 1)) pa_nil)) pa_nil))))) pss_nil)
    (pss_one (ps_ret (pe_lst (pa_cons pe_str pa_nil)))))), ?_⟩
  · refine ⟨fun pins s' σ H' D I h' => ?_⟩
    obtain ⟨Ech, hW, h1, h2, h3⟩ := h'
    exact (pss_one (ps_expr (act _ pn xe Ech _ _ (takes_len tk) fun cls d σ' H' e hl => hW cls d σ' H' e hl))).run pins s' σ H' D I ⟨h1, h2, h3⟩
  · refine ⟨_, fun cls d σ' A1 ⟨H1, dd, v, dat, e1, e2, hdd, R1, kv, sw, k⟩ hl => ?_, rfl, hc, h _⟩
    subst e1 e2
    refine ⟨true, Hr.exm, (fun z => nomatch z), fun _ a na => ?_⟩
    obtain ⟨x, y, z, rfl⟩ : ∃ x y z, σ' = [x, y, z] := by
      match σ', hl with
      | [x, y, z], _ => exact ⟨x, y, z, rfl⟩
    refine ⟨.ref a, rfl, ?_⟩
    have ga := Gr.alloc R1 (o := ExH (.ref Ce) (some dd) a) na
    have R2 := ga.to R1
    have hdd2 := ga.reg _ _ hdd
    have kv2 := dq_ex ga.reg _ _ kv
    have ev : ∀ (c : Addr) (b : Bool), PySem.W.kitOne X.K (.ref Ce) (.ref c) = some b → EvD X.K .non (tCB (rIsiH X.K) (tCons (tVar 1) (tCons (tC (.ref c)) tNil))) [x, some (.ref a), none] (upd H1 a (ExH (.ref Ce) (some dd) a)) (.bool b) := fun c b hk A R Q q =>
      ⟨.ref a, rfl, a, Ce, dd, _, .ref c, .ref c, b, rfl, .own c, R.ex _ _ upd_same, R.ex _ _ hdd2, Hr.exc, hk, q _ A _ R.refl (.bl b)⟩
    have evf : EvD X.K .non (tHf X.K "value" (tVar 1)) [x, some (.ref a), none] (upd H1 a (ExH (.ref Ce) (some dd) a)) dat := fun A R Q q =>
      ⟨.ref a, rfl, a, Ce, dd, _, v, rfl, R.ex _ _ upd_same, R.ex _ _ hdd2, Hr.xf, Hr.no, rfl, q v A _ R.refl kv2⟩
    refine q_when (b := true) ((b_and (a := true) (b := true) (b_B (ev Ce true Hr.isR)) fun _ => (b_not (b_B (ev CT false Hr.isT))).is rfl).is rfl) R2 (fun _ A3 H3 g3 => ?_) fun z => nomatch z
    refine Z.s_ret (d_lst (K := X.K) (s_cons d_str (s_cons (d_cb (s_cons (EvD.mono g3.reg evf) s_nil) (c_reprA sw)) s_nil)) (by show 2 ≤ 100000; decide)) (g3.to R2) fun v4 A4 H4 g4 k4 => k v4 A4 H4 ((ga.trans g3).trans g4) k4
end Q43
/-! the helper that hands out an error's value -/
namespace Q43
open PySem PySem.Spec PyProof.Rows L2 Z Evl LamX
abbrev s__law_value : Stmt := top 26
abbrev N__law_value : List Str := ["_law_call", "e"]
theorem sc__law_value : FnScope N__law_value ["_law_call"] (defScope s__law_value) := ⟨rfl, rfl, rfl, by decide +kernel, rfl, by decide +kernel, by decide +kernel⟩
def TTvalue (Ce : Addr) : (XK → Hp → VK → Prop) → Hp → VK → Prop := fun tl A Q =>
  ∀ Qn : VK, tl (fun cls d A1 => ∃ (H1 : Hp) (dd : Addr) (v : V), cls = .ref Ce ∧ d = some dd ∧ H1 dd = some (.xd [(("value" : Str), v)]) ∧ Reg .non H1 A1 ∧ ∀ A' H', Gr .non A1 H1 A' H' → Q v A') A Qn
theorem value_gives {X : Cx} {g Ce : Addr} {cdg : Value} {q : Str} (mR : X.mg "InvalidRow" = some (.ref Ce)) (exm : PySem.W.exmOne X.K (.ref Ce) (.ref Ce) = some true) (xf : XfC X.K Ce) (no : PySem.W.findIn X.K (.ref Ce) "value" = some none) :
    GivesTo X N__law_value "_law_value" (defScope s__law_value) g cdg (defBody s__law_value) "_law_call" q (TTvalue Ce) := by
  intro f c' s H Q tl act hc h
  refine ⟨_, pss_cons (ps_try_held (c := .ref Ce) (i := 1) (Wout := fun _ _ _ _ => False)
      (tb := fun W D σ H => ∃ Ech : XK, (∀ cls d σ' H', Ech cls d H' → σ'.length = 2 → W cls d σ' H') ∧ σ[0]? = some (some (.ref f)) ∧ H c' = some (CodeO c' q) ∧ tl Ech H (fun v H' => D.nx σ H'))
      rfl rfl rfl sc__law_value.nd rfl rfl ⟨rfl, by decide, .inl mR⟩ L2.takes0 (fun W pn xe tk _ => ?_) (fun a oe cls d pn hz hf => pss_one (ps_ret (pe_xf xf no hz hf (pv 1)))))
    (pss_one (ps_ret pe_non)), ?_⟩
  · refine ⟨fun pins s' σ H' D I h' => ?_⟩
    obtain ⟨Ech, hW, h1, h2, h3⟩ := h'
    exact (pss_one (ps_expr (act _ pn xe Ech _ _ (takes_len tk) fun cls d σ' H' e hl => hW cls d σ' H' e hl))).run pins s' σ H' D I ⟨h1, h2, h3⟩
  · refine ⟨_, fun cls d σ' A1 ⟨H1, dd, v, e1, e2, hdd, R1, k⟩ hl => ?_, rfl, hc, h _⟩
    subst e1 e2
    refine ⟨true, exm, (fun z => nomatch z), fun _ a na => ?_⟩
    obtain ⟨x, y, rfl⟩ : ∃ x y, σ' = [x, y] := by
      match σ', hl with
      | [x, y], _ => exact ⟨x, y, rfl⟩
    have ga := Gr.alloc R1 (o := ExH (.ref Ce) (some dd) a) na
    exact ⟨.ref a, rfl, rfl, rfl, dd, _, v, rfl, R1.ex _ _ hdd, rfl, k _ _ ga⟩
end Q43
/-! leads of a span, their number -/
namespace Q43
def Lead (S : List (List Int)) (j : Nat) : Prop := ∃ v, In S v ∧ v j ≠ 0 ∧ ∀ i, i < j → v i = 0
open Classical in
noncomputable def cnt (S : List (List Int)) : Nat → Nat
  | 0 => 0
  | n + 1 => cnt S n + if Lead S n then 1 else 0
theorem cnt_yes {S : List (List Int)} {n : Nat} (h : Lead S n) : cnt S (n + 1) = cnt S n + 1 := by
  show cnt S n + @ite Nat (Lead S n) (Classical.propDecidable _) 1 0 = _
  rw [if_pos h]
theorem cnt_no {S : List (List Int)} {n : Nat} (h : ¬ Lead S n) : cnt S (n + 1) = cnt S n := by
  show cnt S n + @ite Nat (Lead S n) (Classical.propDecidable _) 1 0 = _
  rw [if_neg h]; rfl
theorem cnt_congr {S T : List (List Int)} {n : Nat} (h : ∀ j, j < n → (Lead S j ↔ Lead T j)) : cnt S n = cnt T n := by
  induction n with
  | zero => rfl
  | succ n ih =>
    have e := ih fun j hj => h j (Nat.lt_succ_of_lt hj)
    by_cases c : Lead S n
    · rw [cnt_yes c, cnt_yes ((h n (Nat.lt_succ_self n)).mp c), e]
    · rw [cnt_no c, cnt_no (fun q => c ((h n (Nat.lt_succ_self n)).mpr q)), e]
theorem cnt_none {S : List (List Int)} {n : Nat} (h : ∀ j, j < n → ¬ Lead S j) : cnt S n = 0 := by
  induction n with
  | zero => rfl
  | succ n ih => rw [cnt_no (h n (Nat.lt_succ_self n)), ih fun j hj => h j (Nat.lt_succ_of_lt hj)]
theorem cnt_stay {S : List (List Int)} {m n : Nat} (h : ∀ j, m ≤ j → j < n → ¬ Lead S j) (hm : m ≤ n) : cnt S n = cnt S m := by
  induction n with
  | zero => rw [Nat.le_zero.mp hm]
  | succ n ih =>
    by_cases c : m = n + 1
    · rw [c]
    · rw [cnt_no (h n (by omega) (by omega))]
      exact ih (fun j h1 h2 => h j h1 (by omega)) (by omega)
theorem cnt_insert {S T : List (List Int)} {a n : Nat} (h : ∀ j, j < n → (Lead S j ↔ j = a ∨ Lead T j)) (ha : a < n) (hT : ¬ Lead T a) : cnt S n = cnt T n + 1 := by
  induction n with
  | zero => omega
  | succ n ih =>
    by_cases c : a = n
    · subst c
      have e : cnt S a = cnt T a := cnt_congr fun j hj => by
        have := h j (Nat.lt_succ_of_lt hj)
        constructor
        · intro q; exact (this.mp q).resolve_left (by omega)
        · intro q; exact this.mpr (.inr q)
      rw [cnt_yes ((h a (Nat.lt_succ_self a)).mpr (.inl rfl)), cnt_no hT, e]
    · have e := ih (fun j hj => h j (Nat.lt_succ_of_lt hj)) (by omega)
      by_cases d : Lead T n
      · rw [cnt_yes ((h n (Nat.lt_succ_self n)).mpr (.inr d)), cnt_yes d, e]
      · rw [cnt_no (fun q => ((h n (Nat.lt_succ_self n)).mp q).elim (fun z => c z.symm) d), cnt_no d, e]
theorem in_nil {v : Nat → Int} (h : In [] v) (i : Nat) : v i = 0 := by
  induction h with
  | zero => rfl
  | row h => cases h
  | add _ _ a b => show _ + _ = (0 : Int); rw [a, b]; rfl
  | smul c _ a => show c * _ = (0 : Int); rw [a]; simp
  | unscale hc _ a => exact (Int.mul_eq_zero.mp a).resolve_left hc
theorem in_low {S : List (List Int)} {v : Nat → Int} {i : Nat} (hS : ∀ x ∈ S, vec x i = 0) (h : In S v) : v i = 0 := by
  induction h with
  | zero => rfl
  | row h => exact hS _ h
  | add _ _ a b => show _ + _ = (0 : Int); rw [a, b]; rfl
  | smul c _ a => show c * _ = (0 : Int); rw [a]; simp
  | unscale hc _ a => exact (Int.mul_eq_zero.mp a).resolve_left hc
/-- a column is cleared by f -/
theorem elim_in {X X' : List (List Int)} {f : List Int} {a : Nat} (hX : ∀ x ∈ X, x = f ∨ ∃ x' ∈ X', ∃ c : Int, ∀ i, vec f a * vec x i - vec x a * vec f i = c * vec x' i) {v : Nat → Int} (h : In X v) :
    In X' fun i => vec f a * v i - v a * vec f i := by
  induction h with
  | zero => exact In.zero.of fun i => by simp
  | row h =>
    rcases hX _ h with e | ⟨x', h1, c, h2⟩
    · rw [e]; exact In.zero.of fun i => by grind
    · exact (In.smul c (.row h1)).of fun i => (h2 i).symm
  | add _ _ p q => exact (In.add p q).of fun i => by grind
  | smul c _ p => exact (In.smul c p).of fun i => by grind
  | unscale hc _ p => exact In.of_mul hc p fun i => by grind
theorem elim_zero {X X' : List (List Int)} {f : List Int} {a : Nat} (hf : vec f a ≠ 0) (hX : ∀ x ∈ X, x = f ∨ ∃ x' ∈ X', ∃ c : Int, ∀ i, vec f a * vec x i - vec x a * vec f i = c * vec x' i) {v : Nat → Int} (h : In X v) (hv : v a = 0) : In X' v :=
  In.of_mul hf (elim_in hX h) fun i => by rw [hv]; simp
/-! reduced rows: the leads of their span are their leads -/
theorem lead_of {n : Nat} {fs : List (List Int)} (h : Rr n fs) : ∀ (l : List (List Int)) (v : Nat → Int) (j : Nat), (∀ x ∈ l, x ∈ fs) → (l.Pairwise fun x y => lead x < lead y) → In l v → v j ≠ 0 → (∀ i, i < j → v i = 0) → ∃ x ∈ l, lead x = j
  | [], v, j, _, _, hv, hj, _ => absurd (in_nil hv j) hj
  | r :: l, v, j, hl, hp, hv, hj, h0 => by
    have hr := hl r (List.mem_cons_self ..)
    by_cases c : lead r = j
    · exact ⟨r, List.mem_cons_self .., c⟩
    · have hd := h.pos r hr
      obtain ⟨hp1, hp2⟩ := List.pairwise_cons.mp hp
      have w := elim_in (X := r :: l) (X' := l) (f := r) (a := lead r) (fun x hx => by
        rcases List.mem_cons.mp hx with e | hx
        · exact .inl e
        · refine .inr ⟨x, hx, vec r (lead r), fun i => ?_⟩
          have := hp1 x hx
          rw [h.zero r hr x (hl x (List.mem_cons_of_mem _ hx)) (by omega)]
          simp) hv
      have same : ∀ i, i ≤ j → vec r (lead r) * v i - v (lead r) * vec r i = vec r (lead r) * v i := fun i hi => by
        by_cases c2 : lead r < j
        · rw [h0 _ c2]; simp
        · rw [show vec r i = 0 from vec_lead_zero (by omega)]; simp
      obtain ⟨x, hx, e⟩ := lead_of h l _ j (fun x hx => hl x (List.mem_cons_of_mem _ hx)) hp2 w (by
        show vec r (lead r) * v j - v (lead r) * vec r j ≠ 0
        rw [same j (Nat.le_refl j)]
        exact Int.mul_ne_zero (by omega) hj) (fun i hi => by
        show vec r (lead r) * v i - v (lead r) * vec r i = 0
        rw [same i (Nat.le_of_lt hi), h0 i hi]; simp)
      exact ⟨x, List.mem_cons_of_mem _ hx, e⟩
theorem lead_iff {n : Nat} {fs : List (List Int)} (h : Rr n fs) (j : Nat) : Lead fs j ↔ ∃ x ∈ fs, lead x = j := by
  constructor
  · rintro ⟨v, h1, h2, h3⟩
    exact lead_of h fs v j (fun x q => q) h.srt h1 h2 h3
  · rintro ⟨x, hx, rfl⟩
    have := h.pos x hx
    exact ⟨vec x, .row hx, by omega, fun i hi => vec_lead_zero hi⟩
/-- how many of range n are in a list without repeats -/
theorem count_in : ∀ (l : List Nat) (n : Nat), l.Nodup → (∀ x ∈ l, x < n) → ((List.range n).filter fun j => decide (j ∈ l)).length = l.length
  | l, 0, _, h => by
    cases l with
    | nil => rfl
    | cons x l => exact absurd (h x (List.mem_cons_self ..)) (Nat.not_lt_zero x)
  | l, n + 1, hn, h => by
    rw [List.range_succ, List.filter_append, List.length_append]
    by_cases c : n ∈ l
    · have ih := count_in (l.erase n) n (hn.erase n) fun x hx => by
        have h1 := h x (List.mem_of_mem_erase hx)
        have h2 : x ≠ n := fun e => by
          rw [e] at hx
          exact (List.Nodup.not_mem_erase hn) hx
        omega
      have e : ((List.range n).filter fun j => decide (j ∈ l)) = (List.range n).filter fun j => decide (j ∈ l.erase n) := by
        refine List.filter_congr fun j hj => ?_
        have hj' : j ≠ n := Nat.ne_of_lt (List.mem_range.mp hj)
        exact decide_eq_decide.mpr (List.mem_erase_of_ne hj').symm
      have le := List.length_erase_of_mem c
      have pos := List.length_pos_of_mem c
      rw [e, ih, le]
      simp [c]
      omega
    · have ih := count_in l n hn fun x hx => by
        have h1 := h x hx
        have h2 : x ≠ n := fun e => c (e ▸ hx)
        omega
      rw [ih]
      simp [c]
theorem cnt_filter {S : List (List Int)} {l : List Nat} {n : Nat} (h : ∀ j, j < n → (Lead S j ↔ j ∈ l)) : cnt S n = ((List.range n).filter fun j => decide (j ∈ l)).length := by
  induction n with
  | zero => rfl
  | succ n ih =>
    have e := ih fun j hj => h j (Nat.lt_succ_of_lt hj)
    have hn := h n (Nat.lt_succ_self n)
    rw [List.range_succ, List.filter_append, List.length_append]
    by_cases c : n ∈ l
    · rw [cnt_yes (hn.mpr c), e]; simp [c]
    · rw [cnt_no (fun q => c (hn.mp q)), e]; simp [c]
theorem srt_nodup : ∀ {fs : List (List Int)}, (fs.Pairwise fun x y => lead x < lead y) → (fs.map lead).Nodup
  | [], _ => .nil
  | r :: fs, h => by
    obtain ⟨h1, h2⟩ := List.pairwise_cons.mp h
    refine List.nodup_cons.mpr ⟨fun q => ?_, srt_nodup h2⟩
    obtain ⟨x, hx, e⟩ := List.mem_map.mp q
    have := h1 x hx
    omega
theorem cnt_rr {n : Nat} {fs : List (List Int)} (h : Rr n fs) : cnt fs n = fs.length := by
  have hl : ∀ j, j < n → (Lead fs j ↔ j ∈ fs.map lead) := fun j _ => by
    rw [lead_iff h, List.mem_map]
  rw [cnt_filter hl, count_in (fs.map lead) n (srt_nodup h.srt) (fun x hx => by
    obtain ⟨y, hy, rfl⟩ := List.mem_map.mp hx
    exact h.nz y hy), List.length_map]
theorem span_red {n a : Nat} {rows : List (List Int)} (h : Ok n a rows) (v : Nat → Int) : In rows v ↔ In (redM rows) v := by
  have k := kp_all h rows.length (Nat.le_refl _)
  rw [List.take_length] at k
  exact ⟨fun q => q.trans (k.back _ fun o ho => .row ho), fun q => q.trans (k.into _ fun o ho => .row ho)⟩
theorem cnt_rows {n a : Nat} {rows : List (List Int)} (h : Ok n a rows) : cnt rows n = (redM rows).length := by
  have k := kp_all h rows.length (Nat.le_refl _)
  rw [List.take_length] at k
  rw [← cnt_rr k.rr]
  refine cnt_congr fun j _ => ?_
  unfold Lead
  constructor
  · rintro ⟨v, h1, h2⟩; exact ⟨v, (span_red h v).mp h1, h2⟩
  · rintro ⟨v, h1, h2⟩; exact ⟨v, (span_red h v).mpr h1, h2⟩
end Q43
/-! reduced rows without a common factor are the only ones of their span -/
namespace Q43
theorem content_mul_go (a : Nat) : ∀ (r : List Int) (g : Nat), (r.map fun n => (a : Int) * n).foldl (fun g n => Nat.gcd g n.natAbs) (a * g) = a * r.foldl (fun g n => Nat.gcd g n.natAbs) g
  | [], g => rfl
  | n :: r, g => by
    rw [List.map_cons, List.foldl_cons, List.foldl_cons, Int.natAbs_mul, Int.natAbs_natCast, Nat.gcd_mul_left]
    exact content_mul_go a r (Nat.gcd g n.natAbs)
theorem content_mul (a : Nat) (r : List Int) : content (r.map fun n => (a : Int) * n) = a * content r := content_mul_go a r 0
theorem ext_vec {x y : List Int} (hl : x.length = y.length) (h : ∀ i, vec x i = vec y i) : x = y := by
  refine List.ext_getElem hl fun i h1 h2 => ?_
  have := h i
  simp only [vec, List.getD, List.getElem?_eq_getElem h1, List.getElem?_eq_getElem h2] at this
  exact this
theorem same_row {x y : List Int} {a b : Int} (hl : x.length = y.length) (ha : 0 < a) (hb : 0 < b) (cx : content x = 1) (cy : content y = 1) (h : ∀ i, a * vec x i = b * vec y i) : x = y := by
  have ea : ((a.natAbs : Nat) : Int) = a := Int.natAbs_of_nonneg (by omega)
  have eb : ((b.natAbs : Nat) : Int) = b := Int.natAbs_of_nonneg (by omega)
  have e : (x.map fun n => ((a.natAbs : Nat) : Int) * n) = y.map fun n => ((b.natAbs : Nat) : Int) * n := by
    refine ext_vec (by rw [List.length_map, List.length_map, hl]) fun i => ?_
    rw [vec_map (f := fun n => ((a.natAbs : Nat) : Int) * n) (Int.mul_zero _), vec_map (f := fun n => ((b.natAbs : Nat) : Int) * n) (Int.mul_zero _), ea, eb]
    exact h i
  have c := congrArg content e
  rw [content_mul, content_mul, cx, cy] at c
  have hab : a = b := by omega
  subst hab
  exact ext_vec hl fun i => Int.eq_of_mul_eq_mul_left (by omega) (h i)
theorem srt_eq : ∀ (l m : List Nat), l.Pairwise (· < ·) → m.Pairwise (· < ·) → (∀ j, j ∈ l ↔ j ∈ m) → l = m
  | [], [], _, _, _ => rfl
  | [], b :: m, _, _, h => absurd ((h b).mpr (List.mem_cons_self ..)) List.not_mem_nil
  | a :: l, [], _, _, h => absurd ((h a).mp (List.mem_cons_self ..)) List.not_mem_nil
  | a :: l, b :: m, hl, hm, h => by
    obtain ⟨l1, l2⟩ := List.pairwise_cons.mp hl
    obtain ⟨m1, m2⟩ := List.pairwise_cons.mp hm
    have hab : a = b := by
      rcases List.mem_cons.mp ((h a).mp (List.mem_cons_self ..)) with e | q
      · exact e
      · rcases List.mem_cons.mp ((h b).mpr (List.mem_cons_self ..)) with e | q2
        · exact e.symm
        · have := m1 a q
          have := l1 b q2
          omega
    subst hab
    rw [srt_eq l m l2 m2 fun j => ⟨fun q => ?_, fun q => ?_⟩]
    · rcases List.mem_cons.mp ((h j).mp (List.mem_cons_of_mem _ q)) with e | q2
      · have := l1 j q; omega
      · exact q2
    · rcases List.mem_cons.mp ((h j).mpr (List.mem_cons_of_mem _ q)) with e | q2
      · have := m1 j q; omega
      · exact q2
theorem eq_of_leads : ∀ (fs gs : List (List Int)), fs.map lead = gs.map lead → (∀ x ∈ fs, ∀ y ∈ gs, lead x = lead y → x = y) → fs = gs
  | [], [], _, _ => rfl
  | [], _ :: _, h, _ => by cases h
  | _ :: _, [], h, _ => by cases h
  | x :: fs, y :: gs, h, k => by
    obtain ⟨h1, h2⟩ := List.cons.inj (show lead x :: fs.map lead = lead y :: gs.map lead from h)
    rw [k x (List.mem_cons_self ..) y (List.mem_cons_self ..) h1, eq_of_leads fs gs h2 fun a ha b hb => k a (List.mem_cons_of_mem _ ha) b (List.mem_cons_of_mem _ hb)]
theorem leads_srt {fs : List (List Int)} (h : fs.Pairwise fun x y => lead x < lead y) : (fs.map lead).Pairwise (· < ·) := List.pairwise_map.mpr h
/-- the only one -/
theorem rr_unique {n : Nat} {fs gs : List (List Int)} (hf : Rr n fs) (hg : Rr n gs) (cf : ∀ x ∈ fs, content x = 1) (cg : ∀ x ∈ gs, content x = 1) (h : ∀ v, In fs v ↔ In gs v) : fs = gs := by
  have hL : ∀ j, Lead fs j ↔ Lead gs j := fun j => ⟨fun ⟨v, a, b⟩ => ⟨v, (h v).mp a, b⟩, fun ⟨v, a, b⟩ => ⟨v, (h v).mpr a, b⟩⟩
  have hm : ∀ j, j ∈ fs.map lead ↔ j ∈ gs.map lead := fun j => by
    rw [List.mem_map, List.mem_map, ← lead_iff hf, ← lead_iff hg]
    exact hL j
  refine eq_of_leads fs gs (srt_eq _ _ (leads_srt hf.srt) (leads_srt hg.srt) hm) fun x hx y hy hxy => ?_
  have px := hf.pos x hx
  have py := hg.pos y hy
  rw [← hxy] at py
  have hw : In fs fun i => vec y (lead x) * vec x i + (-vec x (lead x)) * vec y i := In.lin _ _ (.row hx) ((h _).mpr (.row hy))
  have zero : ∀ i, vec y (lead x) * vec x i + (-vec x (lead x)) * vec y i = 0 := by
    refine Classical.byContradiction fun z => ?_
    have ex : ∃ i, vec y (lead x) * vec x i + (-vec x (lead x)) * vec y i ≠ 0 := Classical.byContradiction fun q => z fun i => Classical.byContradiction fun q2 => q ⟨i, q2⟩
    -- the first such place is a lead, where it is zero
    have first : ∀ (k : Nat), (∃ i, i ≤ k ∧ vec y (lead x) * vec x i + (-vec x (lead x)) * vec y i ≠ 0) → ∃ j, vec y (lead x) * vec x j + (-vec x (lead x)) * vec y j ≠ 0 ∧ ∀ i, i < j → vec y (lead x) * vec x i + (-vec x (lead x)) * vec y i = 0 := by
      intro k
      induction k with
      | zero =>
        rintro ⟨i, hi, q⟩
        exact ⟨i, q, fun i' hi' => by omega⟩
      | succ k ih =>
        intro hk
        by_cases c : ∃ i, i ≤ k ∧ vec y (lead x) * vec x i + (-vec x (lead x)) * vec y i ≠ 0
        · exact ih c
        · obtain ⟨i, hi, q⟩ := hk
          refine ⟨i, q, fun i' hi' => Classical.byContradiction fun q2 => c ⟨i', by omega, q2⟩⟩
    obtain ⟨i0, hi0⟩ := ex
    obtain ⟨j, hj1, hj2⟩ := first i0 ⟨i0, Nat.le_refl _, hi0⟩
    obtain ⟨o, ho, e⟩ := (lead_iff hf j).mp ⟨_, hw, hj1, hj2⟩
    apply hj1
    by_cases c : j = lead x
    · rw [c]; grind
    · have z1 : vec x j = 0 := by rw [← e]; exact hf.zero o ho x hx (by omega)
      obtain ⟨o2, ho2, e2⟩ := List.mem_map.mp ((hm j).mp (List.mem_map.mpr ⟨o, ho, e⟩))
      have z2 : vec y j = 0 := by rw [← e2]; exact hg.zero o2 ho2 y hy (by omega)
      rw [z1, z2]; simp
  exact same_row (by rw [hf.len x hx, hg.len y hy]) py px (cf x hx) (cg y hy) fun i => by
    have := zero i
    grind
/-! the rows found have no common factor -/
theorem content_one {r : List Int} {p : Nat} (h : vec r p ≠ 0) : content r ≠ 0 := fun z => by
  have hp : p < r.length := by
    by_cases c : p < r.length
    · exact c
    · exact absurd (vec_beyond (Nat.le_of_not_lt c)) h
  have := content_dvd (List.mem_of_getElem? (getD_at hp))
  rw [z] at this
  have h0 := Nat.eq_zero_of_zero_dvd this
  exact h (Int.natAbs_eq_zero.mp h0)
theorem thin_one {r : List Int} {p : Nat} (h : vec r p ≠ 0) : content (thin r) = 1 := by
  have c0 := content_one h
  unfold thin
  split
  · omega
  · have e : (r.map fun n => n / (content r : Int)).map (fun n => (content r : Int) * n) = r := by
      rw [List.map_map]
      refine List.map_congr_left (g := id) (fun n hn => Int.mul_ediv_cancel' (content_dvdI hn)) |>.trans (List.map_id r)
    have c := content_mul (content r) (r.map fun n => n / (content r : Int))
    rw [e] at c
    exact Nat.eq_of_mul_eq_mul_left (Nat.pos_of_ne_zero c0) (by rw [← c, Nat.mul_one])
theorem content_neg_go : ∀ (r : List Int) (g : Nat), (r.map fun n => -n).foldl (fun g n => Nat.gcd g n.natAbs) g = r.foldl (fun g n => Nat.gcd g n.natAbs) g
  | [], g => rfl
  | n :: r, g => by
    rw [List.map_cons, List.foldl_cons, List.foldl_cons, Int.natAbs_neg]
    exact content_neg_go r _
theorem above_content (r : List Int) (p : Nat) : content (above r p) = content r := by
  unfold above
  split
  · rfl
  · exact content_neg_go r 0
theorem clear_content {r o : List Int} {p q : Nat} (h : content r = 1) (hq : vec (clear r o p) q ≠ 0) : content (clear r o p) = 1 := by
  unfold clear at hq ⊢
  split
  · exact h
  · rename_i c
    rw [if_neg c] at hq
    obtain ⟨g, g0, hg⟩ := thin_vec (comb r o (o.getD p 0) (r.getD p 0))
    exact thin_one (p := q) fun z => hq (by
      rw [hg] at z
      exact (Int.mul_eq_zero.mp z).resolve_left (by omega))
theorem with_content {n : Nat} {fs : List (List Int)} {r : List Int} (h : Rr n fs) (hr : r.length = n) (hc : ∀ x ∈ fs, content x = 1) : ∀ x ∈ withRow fs r, content x = 1 := by
  intro x hx
  by_cases c : ((rest r fs).any fun n => n != 0) = true
  · have N := new_row h hr c
    have T := vec_lead_ne (lead_lt c)
    have oth : ∀ y ∈ fs, content (clear y (above (thin (rest r fs)) (lead (rest r fs))) (lead (rest r fs))) = 1 := fun y hy => by
      have q := (clear_other h N hy).2.1
      exact clear_content (hc y hy) (q := lead y) (by omega)
    unfold withRow at hx
    rw [if_pos c] at hx
    rcases List.mem_append.mp hx with hx | hx
    · rcases List.mem_append.mp hx with hx | hx
      · obtain ⟨y, hy, rfl⟩ := List.mem_map.mp (List.mem_filter.mp hx).1
        exact oth y hy
      · have e : x = above (thin (rest r fs)) (lead (rest r fs)) := by simpa using hx
        rw [e, above_content]
        exact thin_one T
    · obtain ⟨y, hy, rfl⟩ := List.mem_map.mp (List.mem_filter.mp hx).1
      exact oth y hy
  · unfold withRow at hx
    rw [if_neg c] at hx
    exact hc x hx
theorem red_content {n a : Nat} {rows : List (List Int)} (h : Ok n a rows) : ∀ i, i ≤ rows.length → ∀ x ∈ redM (rows.take i), content x = 1
  | 0, _ => fun x hx => by cases hx
  | i + 1, hi => by
    have e := List.getElem?_eq_getElem (show i < rows.length from hi)
    have k := kp_all h i (Nat.le_of_lt hi)
    rw [red_more e]
    exact with_content k.rr (h _ (List.mem_of_getElem? e)).1 (red_content h i (Nat.le_of_lt hi))
/-- two lists of rows of one span have one reduced form -/
theorem red_same {n a b : Nat} {rows more : List (List Int)} (h1 : Ok n a rows) (h2 : Ok n b more) (h : ∀ v, In rows v ↔ In more v) : redM rows = redM more := by
  have k1 := kp_all h1 rows.length (Nat.le_refl _)
  have k2 := kp_all h2 more.length (Nat.le_refl _)
  have c1 := red_content h1 rows.length (Nat.le_refl _)
  have c2 := red_content h2 more.length (Nat.le_refl _)
  rw [List.take_length] at k1 k2 c1 c2
  exact rr_unique k1.rr k2.rr c1 c2 fun v => (span_red h1 v).symm.trans ((h v).trans (span_red h2 v))
end Q43
/-! the law's elimination: what it keeps -/
namespace Q43
def lin (f x : List Int) (a n : Nat) : List Int := (List.range n).map fun i => f.getD a 0 * x.getD i 0 - x.getD a 0 * f.getD i 0
theorem lin_len (f x : List Int) (a n : Nat) : (lin f x a n).length = n := by
  unfold lin
  rw [List.length_map, List.length_range]
theorem lin_vec {f x : List Int} {a n : Nat} (hf : f.length = n) (hx : x.length = n) (i : Nat) : vec (lin f x a n) i = vec f a * vec x i - vec x a * vec f i := by
  by_cases c : i < n
  · simp [vec, lin, List.getD, c]
  · rw [vec_beyond (r := lin f x a n) (i := i) (by rw [lin_len]; omega), vec_beyond (r := x) (i := i) (by omega), vec_beyond (r := f) (i := i) (by omega)]; simp
theorem sm_lin {b : Nat} {f x : List Int} {a n : Nat} (hf : Sm b f) (hx : Sm b x) : Sm (b + b + 1) (lin f x a n) := by
  intro m hm
  obtain ⟨i, _, rfl⟩ := List.mem_map.mp hm
  have h1 := Nat.mul_lt_mul'' (sm_getD hf a) (sm_getD hx i)
  have h2 := Nat.mul_lt_mul'' (sm_getD hx a) (sm_getD hf i)
  have e : (2 : Nat) ^ (b + b + 1) = 2 ^ b * 2 ^ b + 2 ^ b * 2 ^ b := by rw [Nat.pow_succ, Nat.pow_add]; omega
  have h3 := Int.natAbs_sub_le (f.getD a 0 * x.getD i 0) (x.getD a 0 * f.getD i 0)
  rw [Int.natAbs_mul, Int.natAbs_mul] at h3
  rw [e]
  omega
/-- bits behind t columns cleared -/
def Eb (e t : Nat) : Nat := (e + 1) * 2 ^ t - 1
theorem eb_step (e t : Nat) : Eb e t + Eb e t + 1 = Eb e (t + 1) := by
  unfold Eb
  have h : 0 < (e + 1) * 2 ^ t := Nat.mul_pos (Nat.succ_pos e) (Nat.two_pow_pos t)
  have h2 : (e + 1) * 2 ^ (t + 1) = (e + 1) * 2 ^ t * 2 := by rw [Nat.pow_succ, Nat.mul_assoc]
  rw [h2]
  omega
theorem eb_mono (e : Nat) {s t : Nat} (h : s ≤ t) : Eb e s ≤ Eb e t := by
  unfold Eb
  have := Nat.mul_le_mul_left (e + 1) (Nat.pow_le_pow_right (n := 2) (by decide) h)
  omega
/-- rows of index at least t -/
def From (l : List (List Int)) (t : Nat) : List (List Int) := l.drop t
theorem mem_from {l : List (List Int)} {t : Nat} {x : List Int} : x ∈ From l t ↔ ∃ i, t ≤ i ∧ l[i]? = some x := by
  unfold From
  rw [List.mem_iff_getElem?]
  constructor
  · rintro ⟨i, h⟩
    rw [List.getElem?_drop] at h
    exact ⟨t + i, by omega, h⟩
  · rintro ⟨i, h1, h2⟩
    refine ⟨i - t, ?_⟩
    rw [List.getElem?_drop, show t + (i - t) = i by omega]
    exact h2
structure MI (rows : List (List Int)) (n e m : Nat) (l : List (List Int)) (t a : Nat) : Prop where
  len : l.length = m
  ok : ∀ x ∈ l, x.length = n ∧ Sm (Eb e t) x
  tm : t ≤ m
  cnt : cnt rows a = t
  into : ∀ v, In rows v → (∀ i, i < a → v i = 0) → In (From l t) v
  back : ∀ x ∈ From l t, In rows (vec x) ∧ ∀ i, i < a → vec x i = 0
theorem mi_start {rows : List (List Int)} {n e : Nat} (h : ∀ x ∈ rows, x.length = n ∧ Sm e x) : MI rows n e rows.length rows 0 0 :=
  ⟨rfl, fun x hx => ⟨(h x hx).1, (h x hx).2.mono (by unfold Eb; omega)⟩, Nat.zero_le _, rfl, fun v hv _ => hv, fun x hx => ⟨.row hx, fun i hi => absurd hi (Nat.not_lt_zero i)⟩⟩
theorem mi_no {rows : List (List Int)} {n e m : Nat} {l : List (List Int)} {t a : Nat} (h : MI rows n e m l t a) (hz : ∀ x ∈ From l t, vec x a = 0) : MI rows n e m l t (a + 1) := by
  refine ⟨h.len, h.ok, h.tm, ?_, fun v hv hz0 => h.into v hv fun i hi => hz0 i (by omega), fun x hx => ⟨(h.back x hx).1, fun i hi => ?_⟩⟩
  · rw [cnt_no ?_, h.cnt]
    rintro ⟨v, h1, h2, h3⟩
    exact h2 (in_low hz (h.into v h1 h3))
  · by_cases c : i = a
    · rw [c]; exact hz x hx
    · exact (h.back x hx).2 i (by omega)
theorem mi_end {rows : List (List Int)} {n e m : Nat} {l : List (List Int)} {t a w : Nat} (h : MI rows n e m l t a) (ha : a ≤ w) (hw : ¬ (a < w ∧ t < m)) : cnt rows w = t := by
  by_cases c : a < w
  · have ht : t = m := by have := h.tm; omega
    have en : From l t = [] := by
      unfold From
      rw [List.drop_eq_nil_iff, h.len, ht]; exact Nat.le_refl m
    rw [cnt_stay (m := a) (n := w) ?_ ha, h.cnt]
    rintro j h1 h2 ⟨v, h3, h4, h5⟩
    have := h.into v h3 fun i hi => h5 i (by omega)
    rw [en] at this
    exact h4 (in_nil this j)
  · have : a = w := by omega
    rw [← this]; exact h.cnt
theorem mi_piv {rows : List (List Int)} {n e m : Nat} {l l1 l2 : List (List Int)} {t a g : Nat} {f lt : List Int} (h : MI rows n e m l t a) (hg : t ≤ g) (hf : l[g]? = some f) (hl : l[t]? = some lt) (hfa : vec f a ≠ 0)
    (h1 : l1 = (l.set t f).set g lt) (len2 : l2.length = m) (same : ∀ i, i ≤ t → l2[i]? = l1[i]?) (new : ∀ i x, t < i → l1[i]? = some x → l2[i]? = some (thin (lin f x a n))) : MI rows n e m l2 (t + 1) (a + 1) := by
  have hgm : g < l.length := (List.getElem?_eq_some_iff.mp hf).1
  have htm : t < l.length := (List.getElem?_eq_some_iff.mp hl).1
  have get1 : ∀ i, l1[i]? = if g = i then some lt else if t = i then some f else l[i]? := fun i => by
    rw [h1, List.getElem?_set, List.length_set]
    by_cases c : g = i
    · rw [if_pos c, if_pos c, if_pos (by omega)]
    · rw [if_neg c, if_neg c, List.getElem?_set]
      by_cases d : t = i
      · rw [if_pos d, if_pos d, if_pos (by omega)]
      · rw [if_neg d, if_neg d]
  have hfo := h.ok f (List.mem_of_getElem? hf)
  have hlo := h.ok lt (List.mem_of_getElem? hl)
  have mem1 : ∀ i x, l1[i]? = some x → x ∈ l ∧ (t ≤ i → x ∈ From l t) := fun i x hx => by
    rw [get1] at hx
    by_cases c : g = i
    · rw [if_pos c] at hx; cases hx
      exact ⟨List.mem_of_getElem? hl, fun _ => mem_from.mpr ⟨t, Nat.le_refl t, hl⟩⟩
    · rw [if_neg c] at hx
      by_cases d : t = i
      · rw [if_pos d] at hx; cases hx
        exact ⟨List.mem_of_getElem? hf, fun _ => mem_from.mpr ⟨g, hg, hf⟩⟩
      · rw [if_neg d] at hx
        exact ⟨List.mem_of_getElem? hx, fun q => mem_from.mpr ⟨i, q, hx⟩⟩
  have len1 : l1.length = m := by rw [h1, List.length_set, List.length_set, h.len]
  have hfF : f ∈ From l t := mem_from.mpr ⟨g, hg, hf⟩
  have all2 : ∀ x2 ∈ From l2 (t + 1), ∃ x, x ∈ From l t ∧ x ∈ l ∧ x2 = thin (lin f x a n) := fun x2 hx => by
    obtain ⟨i, hi, e⟩ := mem_from.mp hx
    have il : i < l1.length := by
      have := (List.getElem?_eq_some_iff.mp e).1
      omega
    have e1 := List.getElem?_eq_getElem il
    have e2 := new i _ hi e1
    rw [e] at e2
    obtain ⟨q1, q2⟩ := mem1 i _ e1
    exact ⟨_, q2 (by omega), q1, Option.some.inj e2⟩
  refine ⟨len2, fun x2 hx2 => ?_, by have := h.len; omega, ?_, fun v hv hz => ?_, fun x2 hx2 => ?_⟩
  · obtain ⟨i, hi⟩ := List.mem_iff_getElem?.mp hx2
    have il : i < l1.length := by
      have := (List.getElem?_eq_some_iff.mp hi).1
      omega
    have e1 := List.getElem?_eq_getElem il
    obtain ⟨q1, q2⟩ := h.ok _ (mem1 i _ e1).1
    by_cases c : t < i
    · have e2 := new i _ c e1
      rw [hi] at e2
      cases e2
      refine ⟨by rw [thin_len, lin_len], ?_⟩
      rw [← eb_step]
      exact sm_thin (sm_lin hfo.2 q2)
    · have e2 := same i (by omega)
      rw [hi, e1] at e2
      cases e2
      exact ⟨q1, q2.mono (eb_mono e (Nat.le_succ t))⟩
  · rw [cnt_yes ⟨vec f, (h.back f hfF).1, hfa, (h.back f hfF).2⟩, h.cnt]
  · refine elim_zero (X := From l t) (f := f) (a := a) hfa (fun x hx => ?_) (h.into v hv fun i hi => hz i (by omega)) (hz a (by omega))
    obtain ⟨i, hi, e⟩ := mem_from.mp hx
    have key : ∀ i', t < i' → l1[i']? = some x → ∃ x' ∈ From l2 (t + 1), ∃ c : Int, ∀ i, vec f a * vec x i - vec x a * vec f i = c * vec x' i := fun i' hi' e' => by
      obtain ⟨c, c0, hc⟩ := thin_vec (lin f x a n)
      have hxo := h.ok x (mem1 i' x e').1
      exact ⟨_, mem_from.mpr ⟨i', hi', new i' x hi' e'⟩, c, fun j => by rw [← hc j, lin_vec hfo.1 hxo.1]⟩
    by_cases c : g = i
    · subst c
      rw [hf] at e; cases e
      exact .inl rfl
    · by_cases d : t = i
      · subst d
        rw [hl] at e; cases e
        exact .inr (key g (by omega) (by rw [get1, if_pos rfl]))
      · exact .inr (key i (by omega) (by rw [get1, if_neg c, if_neg d]; exact e))
  · obtain ⟨x, q1, q2, rfl⟩ := all2 x2 hx2
    obtain ⟨c, c0, hc⟩ := thin_vec (lin f x a n)
    have hxo := h.ok x q2
    obtain ⟨b1, b2⟩ := h.back x q1
    obtain ⟨b3, b4⟩ := h.back f hfF
    have lv := fun i => lin_vec (a := a) hfo.1 hxo.1 i
    refine ⟨In.of_mul (c := c) (by omega) (In.lin (vec f a) (-vec x a) b1 b3) fun i => by rw [← hc i, lv i]; grind, fun i hi => ?_⟩
    have z : vec (lin f x a n) i = 0 := by
      rw [lv i]
      by_cases q : i = a
      · rw [q]; grind
      · rw [b2 i (by omega), b4 i (by omega)]; simp
    rw [hc i] at z
    exact (Int.mul_eq_zero.mp z).resolve_left (by omega)
/-- one row after another replaced -/
def curL (G : List Int → List Int) (l1 : List (List Int)) (b : Nat) : Nat → List (List Int)
  | 0 => l1
  | i + 1 => (curL G l1 b i).set (b + i) (G (l1.getD (b + i) []))
theorem curL_len (G : List Int → List Int) (l1 : List (List Int)) (b : Nat) : ∀ i, (curL G l1 b i).length = l1.length
  | 0 => rfl
  | i + 1 => by
    show ((curL G l1 b i).set _ _).length = _
    rw [List.length_set, curL_len]
theorem curL_same (G : List Int → List Int) (l1 : List (List Int)) (b : Nat) : ∀ i j, j < b ∨ b + i ≤ j → (curL G l1 b i)[j]? = l1[j]?
  | 0, j, _ => rfl
  | i + 1, j, h => by
    show ((curL G l1 b i).set _ _)[j]? = _
    rw [List.getElem?_set, if_neg (by omega)]
    exact curL_same G l1 b i j (by omega)
theorem curL_new (G : List Int → List Int) (l1 : List (List Int)) (b : Nat) : ∀ i j x, b ≤ j → j < b + i → l1[j]? = some x → (curL G l1 b i)[j]? = some (G x)
  | 0, j, x, h1, h2, _ => by omega
  | i + 1, j, x, h1, h2, hx => by
    show ((curL G l1 b i).set _ _)[j]? = _
    have jl := (List.getElem?_eq_some_iff.mp hx).1
    rw [List.getElem?_set]
    by_cases c : b + i = j
    · rw [if_pos c, if_pos (by rw [curL_len]; omega), c]
      simp [List.getD, hx]
    · rw [if_neg c]
      exact curL_new G l1 b i j x h1 (by omega) hx
end Q43
/-! how great the numbers of reduced rows can be -/
namespace Q43
theorem in_zero {n : Nat} {fs : List (List Int)} (hf : Rr n fs) {w : Nat → Int} (h : In fs w) (hz : ∀ x ∈ fs, w (lead x) = 0) : ∀ i, w i = 0 := by
  refine Classical.byContradiction fun z => ?_
  have ex : ∃ i, w i ≠ 0 := Classical.byContradiction fun q => z fun i => Classical.byContradiction fun q2 => q ⟨i, q2⟩
  have first : ∀ (k : Nat), (∃ i, i ≤ k ∧ w i ≠ 0) → ∃ j, w j ≠ 0 ∧ ∀ i, i < j → w i = 0 := by
    intro k
    induction k with
    | zero =>
      rintro ⟨i, hi, q⟩
      exact ⟨i, q, fun i' hi' => by omega⟩
    | succ k ih =>
      intro hk
      by_cases c : ∃ i, i ≤ k ∧ w i ≠ 0
      · exact ih c
      · obtain ⟨i, hi, q⟩ := hk
        exact ⟨i, q, fun i' hi' => Classical.byContradiction fun q2 => c ⟨i', by omega, q2⟩⟩
  obtain ⟨i0, hi0⟩ := ex
  obtain ⟨j, hj1, hj2⟩ := first i0 ⟨i0, Nat.le_refl _, hi0⟩
  obtain ⟨o, ho, e⟩ := (lead_iff hf j).mp ⟨_, h, hj1, hj2⟩
  exact hj1 (by rw [← e]; exact hz o ho)
/-- rows of the span that are 0 in the columns done, and span all such -/
structure EI (S : List (List Int)) (n a t : Nat) (dn : Nat → Prop) (X : List (List Int)) : Prop where
  ok : ∀ x ∈ X, x.length = n ∧ Sm (Eb a t) x ∧ In S (vec x) ∧ ∀ j, dn j → vec x j = 0
  all : ∀ v, In S v → (∀ j, dn j → v j = 0) → In X v
theorem ei_step {S X : List (List Int)} {n a t : Nat} {dn : Nat → Prop} (h : EI S n a t dn X) (c : Nat) : ∃ X', EI S n a (t + 1) (fun j => j = c ∨ dn j) X' := by
  by_cases e : ∃ f ∈ X, vec f c ≠ 0
  · obtain ⟨f, hf, hc⟩ := e
    obtain ⟨f1, f2, f3, f4⟩ := h.ok f hf
    refine ⟨X.map fun x => lin f x c n, fun x' hx' => ?_, fun v hv hz => ?_⟩
    · obtain ⟨x, hx, rfl⟩ := List.mem_map.mp hx'
      obtain ⟨x1, x2, x3, x4⟩ := h.ok x hx
      refine ⟨lin_len _ _ _ _, ?_, In.of (In.lin (vec f c) (-vec x c) x3 f3) fun i => by rw [lin_vec f1 x1]; grind, fun j hj => ?_⟩
      · rw [← eb_step]
        exact sm_lin f2 x2
      · rw [lin_vec f1 x1]
        rcases hj with rfl | hj
        · grind
        · rw [x4 j hj, f4 j hj]; simp
    · refine elim_zero (X := X) (f := f) (a := c) hc (fun x hx => .inr ⟨_, List.mem_map.mpr ⟨x, hx, rfl⟩, 1, fun i => ?_⟩) (h.all v hv fun j hj => hz j (.inr hj)) (hz c (.inl rfl))
      rw [lin_vec f1 (h.ok x hx).1, Int.one_mul]
  · have z : ∀ x ∈ X, vec x c = 0 := fun x hx => Classical.byContradiction fun q => e ⟨x, hx, q⟩
    refine ⟨X, fun x hx => ?_, fun v hv hz => h.all v hv fun j hj => hz j (.inr hj)⟩
    obtain ⟨x1, x2, x3, x4⟩ := h.ok x hx
    refine ⟨x1, x2.mono (eb_mono a (Nat.le_succ t)), x3, fun j hj => ?_⟩
    rcases hj with rfl | hj
    · exact z x hx
    · exact x4 j hj
theorem ei_all {S : List (List Int)} {n a : Nat} : ∀ (J : List Nat) (t : Nat) (dn : Nat → Prop) (X : List (List Int)), EI S n a t dn X → ∃ X', EI S n a (t + J.length) (fun j => j ∈ J ∨ dn j) X'
  | [], t, dn, X, h => ⟨X, fun x hx => by
    obtain ⟨x1, x2, x3, x4⟩ := h.ok x hx
    exact ⟨x1, x2, x3, fun j hj => x4 j (hj.resolve_left List.not_mem_nil)⟩, fun v hv hz => h.all v hv fun j hj => hz j (.inr hj)⟩
  | c :: J, t, dn, X, h => by
    obtain ⟨X1, h1⟩ := ei_step h c
    obtain ⟨X2, h2⟩ := ei_all J (t + 1) _ X1 h1
    refine ⟨X2, fun x hx => ?_, fun v hv hz => h2.all v hv fun j hj => hz j ?_⟩
    · obtain ⟨x1, x2, x3, x4⟩ := h2.ok x hx
      refine ⟨x1, ?_, x3, fun j hj => x4 j ?_⟩
      · rw [List.length_cons, show t + (J.length + 1) = t + 1 + J.length by omega]; exact x2
      · rcases hj with hj | hj
        · rcases List.mem_cons.mp hj with e | hj
          · exact .inr (.inl e)
          · exact .inl hj
        · exact .inr (.inr hj)
    · rcases hj with hj | rfl | hj
      · exact .inl (List.mem_cons_of_mem _ hj)
      · exact .inl (List.mem_cons_self ..)
      · exact .inr hj
theorem content_neg (r : List Int) : content (r.map fun n => -n) = content r := content_neg_go r 0
/-- a row without a common factor is the smallest of its multiples -/
theorem least {o x : List Int} {l : Nat} (hl : o.length = x.length) (ho : 0 < vec o l) (hx : vec x l ≠ 0) (co : content o = 1) (h : ∀ i, vec o l * vec x i = vec x l * vec o i) (i : Nat) : (vec o i).natAbs ≤ (vec x i).natAbs := by
  have eo : (((vec o l).natAbs : Nat) : Int) = vec o l := Int.natAbs_of_nonneg (by omega)
  have e : content (x.map fun n => (((vec o l).natAbs : Nat) : Int) * n) = content (o.map fun n => (((vec x l).natAbs : Nat) : Int) * n) := by
    by_cases c : 0 ≤ vec x l
    · have ex : (((vec x l).natAbs : Nat) : Int) = vec x l := Int.natAbs_of_nonneg c
      refine congrArg content (ext_vec (by rw [List.length_map, List.length_map, hl]) fun i => ?_)
      rw [vec_map (f := fun n => (((vec o l).natAbs : Nat) : Int) * n) (Int.mul_zero _), vec_map (f := fun n => (((vec x l).natAbs : Nat) : Int) * n) (Int.mul_zero _), eo, ex]
      exact h i
    · have ex : (((vec x l).natAbs : Nat) : Int) = -vec x l := by omega
      rw [← content_neg (o.map _)]
      refine congrArg content (ext_vec (by rw [List.length_map, List.length_map, List.length_map, hl]) fun i => ?_)
      rw [vec_map (f := fun n => (((vec o l).natAbs : Nat) : Int) * n) (Int.mul_zero _), vec_map (f := fun n => -n) (by simp), vec_map (f := fun n => (((vec x l).natAbs : Nat) : Int) * n) (Int.mul_zero _), eo, ex, h i]
      grind
  rw [content_mul, content_mul, co, Nat.mul_one] at e
  have hi := congrArg Int.natAbs (h i)
  rw [Int.natAbs_mul, Int.natAbs_mul, ← e, Nat.mul_assoc] at hi
  have hp : 0 < (vec o l).natAbs := by omega
  have := Nat.eq_of_mul_eq_mul_left hp hi
  rw [this]
  have c0 := content_one hx
  exact Nat.le_mul_of_pos_left _ (Nat.pos_of_ne_zero c0)
/-- the numbers of reduced rows, by their count -/
theorem small {n a : Nat} {rows : List (List Int)} (h : Ok n a rows) : ∀ o ∈ redM rows, Sm (Eb a ((redM rows).length - 1)) o := by
  intro o ho
  have kp := kp_all h rows.length (Nat.le_refl _)
  have co := red_content h rows.length (Nat.le_refl _)
  rw [List.take_length] at kp co
  have rr := kp.rr
  have start : EI rows n a 0 (fun _ => False) rows := ⟨fun x hx => ⟨(h x hx).1, (h x hx).2.mono (by unfold Eb; omega), .row hx, fun j hj => hj.elim⟩, fun v hv _ => hv⟩
  obtain ⟨X, hX⟩ := ei_all (((redM rows).map lead).erase (lead o)) 0 _ rows start
  have nd := srt_nodup rr.srt
  have hlen : (((redM rows).map lead).erase (lead o)).length = (redM rows).length - 1 := by
    rw [List.length_erase_of_mem (List.mem_map.mpr ⟨o, ho, rfl⟩), List.length_map]
  rw [hlen, Nat.zero_add] at hX
  have po := rr.pos o ho
  have oz : ∀ j, (j ∈ ((redM rows).map lead).erase (lead o) ∨ False) → vec o j = 0 := fun j hj => by
    obtain ⟨h1, h2⟩ := (List.Nodup.mem_erase_iff nd).mp (hj.resolve_right id)
    obtain ⟨y, hy, rfl⟩ := List.mem_map.mp h2
    exact rr.zero y hy o ho (by omega)
  have inX := hX.all (vec o) ((span_red h _).mpr (.row ho)) oz
  obtain ⟨x, hx, hxl⟩ : ∃ x ∈ X, vec x (lead o) ≠ 0 := Classical.byContradiction fun q => by
    have := in_low (i := lead o) (fun x hx => Classical.byContradiction fun q2 => q ⟨x, hx, q2⟩) inX
    omega
  obtain ⟨x1, x2, x3, x4⟩ := hX.ok x hx
  have hw : In (redM rows) fun i => vec o (lead o) * vec x i + (-vec x (lead o)) * vec o i := In.lin _ _ ((span_red h _).mp x3) (.row ho)
  have z := in_zero rr hw fun y hy => by
    by_cases c : lead y = lead o
    · rw [c]; grind
    · have m : lead y ∈ ((redM rows).map lead).erase (lead o) := (List.Nodup.mem_erase_iff nd).mpr ⟨c, List.mem_map.mpr ⟨y, hy, rfl⟩⟩
      rw [x4 _ (.inl m), oz _ (.inl m)]; simp
  have le := least (l := lead o) (by rw [rr.len o ho, x1]) po hxl (co o ho) fun i => by have := z i; grind
  intro m hm
  obtain ⟨i, hi, rfl⟩ := List.mem_iff_getElem.mp hm
  have e : vec o i = o[i] := by simp [vec, List.getD, hi]
  rw [← e]
  exact Nat.lt_of_le_of_lt (le i) (sm_getD x2 i)
/-- as many rows as places: each has one number, 1 -/
theorem units {n a : Nat} {rows : List (List Int)} (h : Ok n a rows) (hn : (redM rows).length = n) : ∀ o ∈ redM rows, Sm 1 o := by
  intro o ho
  have kp := kp_all h rows.length (Nat.le_refl _)
  have co := red_content h rows.length (Nat.le_refl _)
  rw [List.take_length] at kp co
  have rr := kp.rr
  have nd := srt_nodup rr.srt
  have hc := count_in ((redM rows).map lead) n nd fun x hx => by
    obtain ⟨y, hy, rfl⟩ := List.mem_map.mp hx
    exact rr.nz y hy
  rw [List.length_map, hn] at hc
  have all : ∀ j, j < n → j ∈ (redM rows).map lead := fun j hj => by
    have hf := List.length_filter_eq_length_iff.mp (by rw [hc, List.length_range]) j (List.mem_range.mpr hj)
    simpa using hf
  have po := rr.pos o ho
  have lo := rr.len o ho
  have oz : ∀ j, j ≠ lead o → vec o j = 0 := fun j hj => by
    by_cases c : j < n
    · obtain ⟨y, hy, e⟩ := List.mem_map.mp (all j c)
      rw [← e]
      exact rr.zero y hy o ho (by omega)
    · exact vec_beyond (by omega)
  have e : o = ((List.range n).map fun i => if i = lead o then (1 : Int) else 0).map fun m => (((vec o (lead o)).natAbs : Nat) : Int) * m := by
    refine ext_vec (by rw [List.length_map, List.length_map, List.length_range, lo]) fun i => ?_
    rw [vec_map (f := fun m => (((vec o (lead o)).natAbs : Nat) : Int) * m) (Int.mul_zero _)]
    have nz := rr.nz o ho
    by_cases c : i < n
    · have : vec ((List.range n).map fun i => if i = lead o then (1 : Int) else 0) i = if i = lead o then 1 else 0 := by simp [vec, List.getD, c]
      rw [this]
      by_cases d : i = lead o
      · rw [if_pos d, d]; omega
      · rw [if_neg d, oz i d]; simp
    · rw [vec_beyond (r := List.map _ _) (i := i) (by rw [List.length_map, List.length_range]; omega), oz i (by omega)]; simp
  have c1 := co o ho
  rw [e, content_mul] at c1
  have c2 : (vec o (lead o)).natAbs = 1 := Nat.eq_one_of_mul_eq_one_right c1
  intro m hm
  obtain ⟨i, hi, rfl⟩ := List.mem_iff_getElem.mp hm
  have ei : vec o i = o[i] := by simp [vec, List.getD, hi]
  rw [← ei]
  by_cases d : i = lead o
  · rw [d, c2]; decide
  · rw [oz i d]; decide
/-- the smaller of both -/
def Nb (n a k : Nat) : Nat := if k = n then 1 else Eb a (k - 1)
theorem told_sm {n a : Nat} {rows : List (List Int)} (h : Ok n a rows) : ∀ o ∈ redM rows, Sm (Nb n a (redM rows).length) o := fun o ho => by
  unfold Nb
  split
  · rename_i c
    exact units h c o ho
  · exact small h o ho
theorem cnt_le (S : List (List Int)) : ∀ n, cnt S n ≤ n
  | 0 => Nat.le_refl _
  | n + 1 => by
    have ih := cnt_le S n
    by_cases c : Lead S n
    · rw [cnt_yes c]; omega
    · rw [cnt_no c]; omega
theorem cnt_mono (S : List (List Int)) {m n : Nat} (h : m ≤ n) : cnt S m ≤ cnt S n := by
  induction h with
  | refl => exact Nat.le_refl _
  | step _ ih =>
    rename_i k _
    refine Nat.le_trans ih ?_
    by_cases c : Lead S k
    · rw [cnt_yes c]; omega
    · rw [cnt_no c]; exact Nat.le_refl _
end Q43
namespace Q43
open PySem PySem.Spec PyProof.Rows L2 Z
section
variable {P : Program} {w : World} {K : PySem.W.Frag} {mg : Str → Option Value} {base : Heap}
abbrev s_reduced : Stmt := top 10
abbrev N_reduced : List Str := ["rows", "width", "found", "row"]
theorem sc_reduced : FnScope N_reduced ["rows", "width"] (defScope s_reduced) := ⟨rfl, rfl, rfl, by decide +kernel, rfl, by decide +kernel, by decide +kernel⟩
def F_reduced : List PyData → PyData → Prop := fun ds d => ∃ (rows : List (List Int)) (n a : Nat), ds = [LR rows, .int (n : Nat)] ∧ n ≤ 60000 ∧ rows.length ≤ 1000 ∧ Ok n a rows ∧ (∀ k, k ≤ n → k < rows.length → a + k * (Nb n a k + 1) + Nb n a k + 1 ≤ 9000) ∧ d = LR (redM rows)
theorem dn_reduced (Hx : St K mg "reduced" s_reduced ["rows", "width"]) (B : Bs mg) (D1 : Dn P w K mg base CX0 3 "check_rows" ["rows", "width"] (SpD K F_check_rows)) (D2 : Dn P w K mg base CX0 4 "_with_row" ["found", "row"] (SpW K F__with_row)) :
    Dn P w K mg base CX0 5 "reduced" ["rows", "width"] (SpN K F_reduced) := by
  refine dn_dataN 4 Hx sc_reduced (fun ds d h => by obtain ⟨x, r, _, rfl, _⟩ := h; rfl) fun f cdv A outer s H E hr => ⟨_, (pss_cons (ps_expr (pe_cd D1 hr (by decide) rfl (pa_cons (pv 0) (pa_cons (pv 1) pa_nil))))
    (pss_cons (ps_set (i := 2) sc_reduced.nd rfl (Or.inl rfl) (pe_lst pa_nil))
    (pss_cons (ps_for PassesOwn.never rfl (pi_list (pv 0)) (pg_name (i := 3) sc_reduced.nd rfl (Or.inl rfl)) (pss_one (ps_set (i := 2) sc_reduced.nd rfl (Or.inl rfl) (pe_cd D2 hr (by decide) rfl (pa_cons (pv 2) (pa_cons (pv 3) pa_nil))))))
    (pss_one (ps_ret (pv 2)))))), ?_⟩
  intro vs H A ds d Q R hk hF q
  obtain ⟨rows, n, a, rfl, hn, hl, hok, hB, rfl⟩ := hF
  obtain ⟨v, v2, rfl, k1, k2⟩ := dqall_two hk
  refine q_drop (d_call (K := K) (F := F_check_rows) (s_cons (d_var rfl k1) (s_cons (d_var rfl k2) s_nil)) ⟨rows, n, hn, fun r h => (hok r h).1, rfl, rfl⟩) R fun u A1 H1 g1 ku => ?_
  refine q_asg (g_lstN (K := K) s_nil (Nat.zero_le _)) (g1.to R) fun z A2 H2 g2 ⟨kz, lz, ez, nz⟩ => ?_
  have nz0 := Evl.fresh_back g1.reg nz
  have g12 := g1.trans g2
  refine s_forL (K := K) (ds := rows.map Q43.R) (d_var rfl (dq_ex g12.reg _ _ k1)) (g12.to R) (fun i σ' A' H' w => (∃ z y, σ' = [some v, some v2, some z, y] ∧ Dq K H' z (LR (redM (rows.take i))) ∧ ∃ l, z = .ref l ∧ H l = none) ∧ w = Me.non.own ∧ Gr .non A H A' H') (fun _ _ g => ⟨⟨_, _, rfl, dq_ex g.reg _ _ kz, lz, ez, nz0⟩, rfl, g12.trans g⟩) ?_ ?_
  · rintro H3 e1 i d x σ' A' H' w hi ⟨⟨z, y, rfl, kz, lz', ez', nz'⟩, rfl, g0⟩ e ra kx
    obtain ⟨o, h1, h2, rfl⟩ := at_rows hi
    obtain ⟨f1, f2⟩ := hok o h2
    have hi' : i < rows.length := (List.getElem?_eq_some_iff.mp h1).1
    have kp := kp_all hok i (Nat.le_of_lt hi')
    have le := kp.le
    rw [List.length_take, Nat.min_eq_left (Nat.le_of_lt hi')] at le
    have okt : Ok n a (rows.take i) := fun r hr => hok r (List.mem_of_mem_take hr)
    have lk : (redM (rows.take i)).length ≤ n := by rw [← cnt_rr kp.rr]; exact cnt_le _ _
    have hm := hB _ lk (by omega)
    have hsm := told_sm okt
    refine Z.s_asg (g_callW (K := K) (F := F__with_row) (d := LR (withRow (redM (rows.take i)) o)) ⟨o, redM (rows.take i), a, Nb n a (redM (rows.take i)).length, rfl, by omega, by omega, f2, fun y hy => ⟨by rw [kp.rr.len y hy, f1], by rw [f1]; exact kp.rr.nz y hy, hsm y hy⟩, hm, rfl⟩ (a_vars2 rfl kz rfl kx)) ra fun v4 A4 H4 g4 ⟨k4, n4⟩ => ⟨H4, _, ⟨⟨v4, some x, rfl, ?_, ?_⟩, rfl, g0.trans g4⟩, e.trans g4.reg, g4.to ra⟩
    · rw [red_more h1]
      exact k4
    · rcases n4 with ⟨vs, rfl, hv⟩ | ⟨l, el, nl⟩
      · cases hv
        exact ⟨lz', ez', nz'⟩
      · exact ⟨l, el, Evl.fresh_back ((g1.trans g2).reg.trans e1) (Evl.fresh_back e nl)⟩
  · rintro σ' A' H' w ⟨⟨z, y, rfl, kz, lz', ez', nz'⟩, rfl, g⟩ e ra
    rw [List.length_map, List.take_length] at kz
    refine Z.s_ret (g_var (v := z) rfl) ra fun v4 A4 H4 g4 k4 => ?_
    subst k4
    exact q _ _ _ (g.trans g4) (dq_ex g4.reg _ _ kz) ⟨lz', ez', nz'⟩
end
end Q43
/-! the class Space -/
namespace Q43
open PySem PySem.Spec PyProof.Rows L2 Z Evl
abbrev sp_m (j : Nat) : Stmt := inClass (top 20) j
def spFs (n : Nat) (l : Addr) : List (Str × V) := [(("_width" : Str), .int (n : Nat)), (("_rows" : Str), .ref l)]
/-- what the class has -/
structure SpC (K : PySem.W.Frag) (C : Addr) : Prop where
  ins : C8.InsC K C
  kd : ∀ T ∈ tysD, PySem.W.kitOne K (.type T) (.ref C) = some false
  nw : NoAttr K C "_width"
  nr : NoAttr K C "_rows"
  nb : NoAttr K C "__bool__"
  ne : PySem.W.findIn K (.ref C) "__ne__" = some (some (.builtin "object.__ne__"))
  sf : PySem.W.selfFirst K C = true
/-- a space that stands in what is known -/
def SpO (K : PySem.W.Frag) (C : Addr) (n : Nat) (rs : List (List Int)) : V → Hp → Prop := fun v H => ∃ a dx l, v = .ref a ∧ H a = some (.ins C dx (spFs n l)) ∧ Dq K H (.ref l) (LR rs)
theorem mono_sp {K : PySem.W.Frag} {C : Addr} {n : Nat} {rs : List (List Int)} : Mono (SpO K C n rs) := fun v H H' e ⟨a, dx, l, h1, h2, h3⟩ => ⟨a, dx, l, h1, e _ _ h2, dq_ex e _ _ h3⟩
theorem iso_sp {K : PySem.W.Frag} {C : Addr} {n : Nat} {rs : List (List Int)} : ∀ v H, SpO K C n rs v H → IsO C v H := fun v H ⟨a, dx, l, h1, h2, h3⟩ => ⟨a, dx, _, h1, h2⟩
/-- the sizes that reduced can take -/
def Rd (n a m : Nat) : Prop := n ≤ 60000 ∧ m ≤ 1000 ∧ ∀ k, k ≤ n → k < m → a + k * (Nb n a k + 1) + Nb n a k + 1 ≤ 9000
def Pf : Type := List V → Hp → (V → Hp → Prop) → Prop
section
variable (K : PySem.W.Frag) (C : Addr)
def F_init : List V → Hp → (List (Str × V) → Hp → Prop) → Prop := fun us H P => ∃ (rows : List (List Int)) (n a : Nat) (v : V), us = [.int (n : Nat), v] ∧ Dq K H v (LR rows) ∧ 1 ≤ n ∧ Ok n a rows ∧ Rd n a rows.length ∧ ∀ l H', H l = none → Dq K H' (.ref l) (LR (redM rows)) → P (spFs n l) H'
def F_width : List V → Hp → (V → Hp → Prop) → Prop := fun vs H P => ∃ (n : Nat) (rs : List (List Int)) (o : V), vs = [o] ∧ SpO K C n rs o H ∧ P = fun v _ => v = .int (n : Nat)
def F_rows : List V → Hp → (V → Hp → Prop) → Prop := fun vs H P => ∃ (n : Nat) (rs : List (List Int)) (o : V), vs = [o] ∧ SpO K C n rs o H ∧ P = fun v H' => Dq K H' v (LR rs) ∧ ∃ l, v = .ref l ∧ H l = none
end
section
variable {P : Program} {w : World} {K : PySem.W.Frag} {mg : Str → Option Value} {base : Heap} {C f : Addr}
theorem fld_w {p : Me} {σ : L2.St} {H : Hp} {i n : Nat} {l a dx : Addr} (S : SpC K C) (hs : σ[i]? = some (some (.ref a))) (ho : H a = some (.ins C dx (spFs n l))) : EvD K p (tFld K (tVar i) "_width") σ H (.int (n : Nat)) :=
  d_fld hs ho S.ins.cl S.nw (u := .int (n : Nat)) rfl (.int _)
theorem fld_r {p : Me} {σ : L2.St} {H : Hp} {i n : Nat} {l a dx : Addr} {rs : List (List Int)} (S : SpC K C) (hs : σ[i]? = some (some (.ref a))) (ho : H a = some (.ins C dx (spFs n l))) (k : Dq K H (.ref l) (LR rs)) : EvD K p (tFld K (tVar i) "_rows") σ H (LR rs) :=
  d_fld hs ho S.ins.cl S.nr (u := .ref l) rfl k
theorem len_g {F : List V → Hp → (V → Hp → Prop) → Prop} {n : Nat} (h : ∀ vs H P, F vs H P → vs.length = n) : ∀ vs H Q E, SpG F vs H Q E → vs.length = n := fun vs H Q E ⟨_, _, _, k, _⟩ => h _ _ _ k
/-! width -/
abbrev N_sp_width : List Str := ["self"]
theorem sc_sp_width : FnScope N_sp_width ["self"] (defScope (sp_m 1)) := ⟨rfl, rfl, rfl, by decide +kernel, rfl, by decide +kernel, by decide +kernel⟩
theorem mn_width (Hx : StM K "width" "Space.width" (sp_m 1) f ["self"]) (S : SpC K C) : Mn P w K mg base 1 f ["self"] (SpG (F_width K C)) := by
  refine mn_of 0 Hx sc_sp_width (len_g fun vs H P h => by obtain ⟨_, _, _, rfl, _⟩ := h; rfl) fun cdv A outer s H vs Q E hr h => ⟨_, pss_one (ps_ret (pe_fld (pv 0) rfl)), ?_⟩
  obtain ⟨H0, P0, R, ⟨n, rs, o, rfl, ⟨a, dx, l, rfl, ha, kl⟩, rfl⟩, q⟩ := h
  exact Z.s_ret (fld_w (K := K) S rfl ha) R fun v A1 H1 g1 k1 => q v A1 H1 g1 (by cases k1; rfl)
/-! rows -/
abbrev N_sp_rows : List Str := ["self"]
theorem sc_sp_rows : FnScope N_sp_rows ["self"] (defScope (sp_m 2)) := ⟨rfl, rfl, rfl, by decide +kernel, rfl, by decide +kernel, by decide +kernel⟩
theorem g_listN {p : Me} {σ : L2.St} {H : Hp} {ta : TE} {ds : List PyData} (h : EvD K p ta σ H (.list ds)) : EvG p (tCB (fun xs H Q => ∃ q ys, xs = [.ref q] ∧ (SqL K H q ys ∨ SqT K H q ys) ∧ ∀ l, H l = none → Q (.ref l) (upd H l (.lst ys))) (tCons ta tNil)) σ H fun v H' => Dq K H' v (.list ds) ∧ ∃ l, v = .ref l ∧ H l = none := fun A R Q q =>
  h A R _ fun v A1 H1 g1 k1 => by
    have R1 := g1.to R
    obtain ⟨a, xs, rfl, h1, h2⟩ := dq_inv_l k1
    refine ⟨a, xs, rfl, .inl (sq_of (R1.ex _ _ h1)), fun l hn => ?_⟩
    have g2 := Gr.alloc R1 (o := .lst xs) hn
    exact q (.ref l) _ _ (g1.trans g2) ⟨.lst upd_same (dqall_ex g2.reg h2), l, rfl, fresh_back g1.reg (fresh_back R1.ex hn)⟩
theorem mn_rows (Hx : StM K "rows" "Space.rows" (sp_m 2) f ["self"]) (S : SpC K C) (B : Bs mg) : Mn P w K mg base 1 f ["self"] (SpG (F_rows K C)) := by
  refine mn_of 0 Hx sc_sp_rows (len_g fun vs H P h => by obtain ⟨_, _, _, rfl, _⟩ := h; rfl) fun cdv A outer s H vs Q E hr h => ⟨_, pss_one (ps_ret (pe_callTy (call_list_ofK (K := K) rfl) (by rfl) B.list (by decide +kernel) (pa_cons (pe_fld (pv 0) rfl) pa_nil))), ?_⟩
  obtain ⟨H0, P0, R, ⟨n, rs, o, rfl, ⟨a, dx, l, rfl, ha, kl⟩, rfl⟩, q⟩ := h
  exact Z.s_ret (g_listN (K := K) (fld_r S rfl ha kl)) R fun v A1 H1 g1 k1 => q v A1 H1 g1 k1
/-- o.f = e, o one's own, e of any kind -/
theorem q_fldOwnG {p : Me} {σ : L2.St} {H A : Hp} {te : TE} {D : Ends} {i : Nat} {a dx C : Addr} {fs : List (Str × V)} {f : Str} {Pv : V → Hp → Prop} (h : EvG p te σ H Pv) (hs : σ[i]? = some (some (.ref a))) (ho : p.own a = some (.ins C dx fs)) (c : Cls K C) (nf : NoAttr K C f) (hn : fs.length < 1000) (R : Reg p H A)
    (k : ∀ v A' H', Gr p A H A' H' → Pv v H' → Reg ⟨p.pool, upd p.own a (.ins C dx (putF f v fs))⟩ H' (upd A' a (.ins C dx (putF f v fs))) → D.nx σ (upd A' a (.ins C dx (putF f v fs)))) : sFld K (tVar i) te f D σ A :=
  h A R _ fun v A1 H1 g1 k1 => by
    have R1 := g1.to R
    exact ⟨.ref a, hs, a, C, dx, fs, rfl, R1.own _ _ ho, c, nf, hn, k v A1 H1 g1 k1 (R1.put (R1.offO a _ ho).2 (R1.offO a _ ho).1)⟩
/-! __init__ -/
abbrev N_sp_init : List Str := ["self", "width", "rows"]
theorem sc_sp_init : FnScope N_sp_init ["self", "width", "rows"] (defScope (sp_m 0)) := ⟨rfl, rfl, rfl, by decide +kernel, rfl, by decide +kernel, by decide +kernel⟩
theorem mn_init (Hx : StM K "__init__" "Space.__init__" (sp_m 0) f ["self", "width", "rows"]) (S : SpC K C) (B : Bs mg) (D1 : Dn P w K mg base CX0 1 "is_whole" ["value"] (SpD K F_is_whole)) (D2 : Dn P w K mg base CX0 5 "reduced" ["rows", "width"] (SpN K F_reduced)) : Mn P w K mg base 6 f ["self", "width", "rows"] (SpI C (F_init K)) := by
  refine mn_of 5 Hx sc_sp_init (fun vs H Q E h => by obtain ⟨_, _, _, _, _, rfl, _, ⟨_, _, _, _, rfl, _⟩, _⟩ := h; rfl) fun cdv A outer s H vs Q E hr h => ⟨_, pss_cons (ps_if (PW.pt (pw_or (pt_not (pt_val (pe_cd D1 hr (by decide) rfl (pa_cons (pv 1) pa_nil)))) (pw_or1 (pt_cmpR op_lt (pv 1) pe_int (nomark _))))) (pss_one ps_never) pss_nil)
    (pss_cons (ps_fld (pv 0) (pv 1) rfl) (pss_one (ps_fld (pv 0) (pe_cd D2 hr (by decide) rfl (pa_cons (pv 2) (pa_cons (pv 1) pa_nil))) rfl))), ?_⟩
  obtain ⟨H0, x, dx, us, P0, rfl, R, ⟨rows, n, a, v, rfl, kv, hn, hok, ⟨b1, b2, b3⟩, hP⟩, last⟩ := h
  have e0 : decide ((n : Int) < 1) = false := decide_eq_false (by omega)
  refine q_when (b := false) ((b_or (b_not (b_test (d_call (K := K) (s_cons (d_var rfl (.int _)) s_nil) ⟨_, rfl, rfl⟩))) fun _ => b_test (d_op (K := K) (d_var rfl (.int (n : Nat))) d_int o_lt)).is (by rw [e0]; rfl)) R (fun z => nomatch z) fun _ A1 H1 g1 => ?_
  have R1 := g1.to R
  have o1 : (Me.mk none (upd (fun _ => none) x (.ins C dx []))).own x = some (.ins C dx []) := own_same
  refine q_fldOwn (d_var (K := K) rfl (.int (n : Nat))) rfl o1 S.ins.cl S.nw (by show 0 < 1000; decide) R1 fun v2 A2 H2 g2 k2 R2 => ?_
  cases k2
  simp only [L2.upd_upd] at R2
  have o2 : (Me.mk none (upd (fun _ => none) x (.ins C dx (putF "_width" (.int (n : Nat)) [])))).own x = some (.ins C dx (putF "_width" (.int (n : Nat)) [])) := own_same
  refine q_fldOwnG (g_callN (K := K) (F := F_reduced) (d := LR (redM rows)) (s_cons (d_var rfl (dq_ex (g1.reg.trans g2.reg) _ _ kv)) (s_cons (d_var rfl (.int (n : Nat))) s_nil)) ⟨rows, n, a, rfl, b1, b2, hok, b3, rfl⟩) rfl o2 S.ins.cl S.nr (by show 1 < 1000; decide) R2 fun v3 A3 H3 g3 ⟨k3, lz, ez, nz⟩ R3 => ?_
  simp only [L2.upd_upd] at R3
  have e2 : Ex H0 H3 := (g1.reg.trans g2.reg).trans g3.reg
  have n1 : H1 x = none := (R1.offO x _ o1).1
  have n2 : H2 x = none := (R2.offO x _ o2).1
  have n3 : H3 x = none := (R3.offO x _ own_same).1
  subst ez
  refine last (spFs n lz) _ H3 R3 e2 (hP lz H3 (fresh_back (g1.reg.trans g2.reg) nz) k3) fun A0 B0 hx0 g0 => ?_
  have ga := g0.trans (g1.as rfl)
  have gb := (ga.trans (g2.as rfl)).poke (o := .ins C dx (putF "_width" (.int (n : Nat)) [])) hx0 n2
  exact (gb.trans (g3.as rfl)).poke hx0 n3
end
end Q43
/-! the class Space: its questions -/
namespace Q43
open PySem PySem.Spec PyProof.Rows L2 Z Evl
def numsOf : PyData → List Int
  | .tuple es => es.map fun | .int i => i | _ => 0
  | _ => []
theorem nums_R (r : List Int) : numsOf (R r) = r := by
  show (r.map PyData.int).map _ = r
  rw [List.map_map]
  exact List.map_id r
theorem all_ints : ∀ es : List PyData, es.all isI = true → ∃ r : List Int, es = r.map .int
  | [], _ => ⟨[], rfl⟩
  | e :: es, h => by
    rw [List.all_cons, Bool.and_eq_true] at h
    obtain ⟨r, hr⟩ := all_ints es h.2
    cases e with
    | int i => exact ⟨i :: r, by rw [hr]; rfl⟩
    | _ => exact absurd h.1 (by simp [isI])
theorem isRw_inv {d : PyData} {n : Nat} (h : isRw d n = true) : ∃ r, d = R r ∧ r.length = n := by
  cases d with
  | tuple es =>
    have h' : (decide (es.length = n) && es.all isI) = true := h
    rw [Bool.and_eq_true] at h'
    obtain ⟨r, rfl⟩ := all_ints es h'.2
    exact ⟨r, rfl, by have := of_decide_eq_true h'.1; rwa [List.length_map] at this⟩
  | _ => cases h
/-- d is a row of n numsOf within the space of the reduced rows rs -/
def mem (n : Nat) (rs : List (List Int)) (d : PyData) : Bool := isRw d n && !((rest (numsOf d) rs).any fun n => n != 0)
section
variable (K : PySem.W.Frag) (C : Addr)
def F_con : List V → Hp → (V → Hp → Prop) → Prop := fun vs H P => ∃ (n : Nat) (rs : List (List Int)) (o x : V) (d : PyData) (a b : Nat), vs = [o, x] ∧ SpO K C n rs o H ∧ Dq K H x d ∧ n ≤ 60000 ∧ (∀ es, d = .tuple es → es.length ≤ 60000) ∧ (∀ r, d = R r → r.length = n → Sm a r) ∧ Fd n b rs ∧ a + rs.length * (b + 1) ≤ 9000 ∧ P = fun v _ => v = .bl (mem n rs d)
def F_slen : List V → Hp → (V → Hp → Prop) → Prop := fun vs H P => ∃ (n : Nat) (rs : List (List Int)) (o : V), vs = [o] ∧ SpO K C n rs o H ∧ P = fun v _ => v = .int (rs.length : Nat)
def F_seq : List V → Hp → (V → Hp → Prop) → Prop := fun vs H P => ∃ (n : Nat) (rs : List (List Int)) (o y : V) (b : Bool), vs = [o, y] ∧ SpO K C n rs o H ∧ ((∃ m ss, SpO K C m ss y H ∧ (∀ r ∈ rs, ∀ i ∈ r, True) ∧ b = (decide ((n : Int) = (m : Nat)) && PyData.eqv (LR rs) (LR ss))) ∨ (∃ d, Dq K H y d ∧ b = false)) ∧ P = fun v _ => v = .bl b
def F_iss : List V → Hp → (V → Hp → Prop) → Prop := fun vs H P => ∃ (n m : Nat) (rs : List (List Int)) (o : V), vs = [o, .int (m : Nat)] ∧ SpO K C n rs o H ∧ P = fun v _ => v = .bl (decide ((n : Int) = (m : Nat)))
def F_or : List V → Hp → (V → Hp → Prop) → Prop := fun vs H P => ∃ (n a : Nat) (rs ss : List (List Int)) (o y : V), vs = [o, y] ∧ SpO K C n rs o H ∧ SpO K C n ss y H ∧ 1 ≤ n ∧ Ok n a (rs ++ ss) ∧ Rd n a (rs ++ ss).length ∧ P = SpO K C n (redM (rs ++ ss))
def F_wit : List V → Hp → (V → Hp → Prop) → Prop := fun vs H P => ∃ (n a b : Nat) (rs ss : List (List Int)) (o y : V), vs = [o, y] ∧ SpO K C n rs o H ∧ SpO K C n ss y H ∧ n ≤ 60000 ∧ rs.length ≤ 1000 ∧ (∀ r ∈ rs, r.length = n ∧ Sm a r) ∧ Fd n b ss ∧ a + ss.length * (b + 1) ≤ 9000 ∧ P = fun v _ => v = .bl (rs.all fun r => mem n ss (R r))
end
section
variable {P : Program} {w : World} {K : PySem.W.Frag} {mg : Str → Option Value} {base : Heap} {C f gw pw fi fc : Addr}
/-! __contains__ -/
abbrev N_sp_con : List Str := ["self", "row"]
theorem sc_sp_con : FnScope N_sp_con ["self", "row"] (defScope (sp_m 3)) := ⟨rfl, rfl, rfl, by decide +kernel, rfl, by decide +kernel, by decide +kernel⟩
theorem mn_con (Hx : StM K "__contains__" "Space.__contains__" (sp_m 3) f ["self", "row"]) (S : SpC K C) (B : Bs mg) (D1 : Dn P w K mg base CX0 2 "is_row" ["value", "width"] (SpD K F_is_row)) (D2 : Dn P w K mg base CX0 3 "remainder" ["row", "found"] (SpD K F_remainder)) : Mn P w K mg base 4 f ["self", "row"] (SpG (F_con K C)) := by
  refine mn_of 3 Hx sc_sp_con (len_g fun vs H P h => by obtain ⟨_, _, _, _, _, _, _, rfl, _⟩ := h; rfl) fun cdv A outer s H vs Q E hr h => ⟨_, pss_one (ps_ret (pe_and (pe_cd D1 hr (by decide) rfl (pa_cons (pv 1) (pa_cons (pe_fld (pv 0) rfl) pa_nil))) (pe_one (pe_not (pe_callB (cr_anyT rfl) (by rfl) B.any (by decide +kernel) (pa_cons (pe_cd D2 hr (by decide) rfl (pa_cons (pv 1) (pa_cons (pe_fld (pv 0) rfl) pa_nil))) pa_nil)))))), ?_⟩
  obtain ⟨H0, P0, R, ⟨n, rs, o, x, d, a, b, rfl, ⟨c, dx, l, rfl, ha, kl⟩, kx, hn, hl, hs, hf, hab, rfl⟩, q⟩ := h
  refine Z.s_ret (P := fun v H' => Dq K H' v (.bool (mem n rs d))) (d_andV (K := K) (a := isRw d n) (b := !((rest (numsOf d) rs).any fun n => n != 0)) (d_call (s_cons (d_var rfl kx) (s_cons (fld_w S rfl ha) s_nil)) ⟨d, n, rfl, hl, rfl⟩) fun h1 => ?_) R fun v A1 H1 g1 k1 => q v A1 H1 g1 (by cases k1; rfl)
  obtain ⟨r, rfl, hr2⟩ := isRw_inv h1
  subst hr2
  rw [nums_R]
  exact d_notV (d_cb (s_cons (d_call (s_cons (d_var rfl kx) (s_cons (fld_r S rfl ha kl) s_nil)) ⟨r, rs, a, b, rfl, hn, hs r rfl rfl, hf, hab, rfl⟩) s_nil) c_anyT)
/-! __len__ -/
abbrev N_sp_len : List Str := ["self"]
theorem sc_sp_len : FnScope N_sp_len ["self"] (defScope (sp_m 4)) := ⟨rfl, rfl, rfl, by decide +kernel, rfl, by decide +kernel, by decide +kernel⟩
theorem mn_len (Hx : StM K "__len__" "Space.__len__" (sp_m 4) f ["self"]) (S : SpC K C) (B : Bs mg) : Mn P w K mg base 1 f ["self"] (SpG (F_slen K C)) := by
  refine mn_of 0 Hx sc_sp_len (len_g fun vs H P h => by obtain ⟨_, _, _, rfl, _⟩ := h; rfl) fun cdv A outer s H vs Q E hr h => ⟨_, pss_one (ps_ret (pe_callB call_len_seq (by rfl) B.len (by decide +kernel) (pa_cons (pe_fld (pv 0) rfl) pa_nil))), ?_⟩
  obtain ⟨H0, P0, R, ⟨n, rs, o, rfl, ⟨a, dx, l, rfl, ha, kl⟩, rfl⟩, q⟩ := h
  exact Z.s_ret (d_cb (K := K) (s_cons (fld_r S rfl ha kl) s_nil) (c_len rfl)) R fun v A1 H1 g1 k1 => q v A1 H1 g1 (by cases k1; show V.int ((rs.map Q43.R).length : Nat) = _; rw [List.length_map])
end
end Q43
/-! the class Space: its operators -/
namespace Q43
open PySem PySem.Spec PyProof.Rows L2 Z Evl
section
variable {P : Program} {w : World} {K : PySem.W.Frag} {mg : Str → Option Value} {base : Heap} {C f gw pw fi fc : Addr}
/-! __eq__ -/
abbrev N_sp_eq : List Str := ["self", "other"]
theorem sc_sp_eq : FnScope N_sp_eq ["self", "other"] (defScope (sp_m 5)) := ⟨rfl, rfl, rfl, by decide +kernel, rfl, by decide +kernel, by decide +kernel⟩
theorem mn_eq (Hx : StM K "__eq__" "Space.__eq__" (sp_m 5) f ["self", "other"]) (S : SpC K C) (B : Bs mg) (mC : mg "Space" = some (.ref C)) : Mn P w K mg base 1 f ["self", "other"] (SpG (F_seq K C)) := by
  refine mn_of 0 Hx sc_sp_eq (len_g fun vs H P h => by obtain ⟨_, _, _, _, _, rfl, _⟩ := h; rfl) fun cdv A outer s H vs Q E hr h => ⟨_, pss_one (ps_ret (pe_and (pe_callB call_isi (by rfl) B.isinstance (by decide +kernel) (pa_cons (pv 1) (pa_cons (C8.pe_gc (v := .ref C) (by rfl) ⟨.ref C, mC, rfl⟩) pa_nil)))
    (pe_and (pe_cmpR op_eq (pe_fld (pv 0) rfl) (pe_fld (pv 1) rfl) (nomark _)) (pe_one (pe_cmpR (op_eqDK (K := K) rfl (Nat.lt_of_le_of_lt (Nat.add_le_add_left (by decide : 64 ≤ 64) _) hr.units)) (pe_fld (pv 0) rfl) (pe_fld (pv 1) rfl) (nomark _)))))), ?_⟩
  obtain ⟨H0, P0, R, ⟨n, rs, o, y, b, rfl, ⟨a, dx, l, rfl, ha, kl⟩, hy, rfl⟩, q⟩ := h
  refine Z.s_ret (P := fun v H' => Dq K H' v (.bool b)) ?_ R fun v A1 H1 g1 k1 => q v A1 H1 g1 (by cases k1; rfl)
  rcases hy with ⟨m, ss, sy, _, rfl⟩ | ⟨d, kd, rfl⟩
  · have hy2 := sy
    obtain ⟨a2, dx2, l2, rfl, ha2, kl2⟩ := hy2
    refine (d_andV (K := K) (a := true) (d_isiO (g_in rfl mono_sp sy) iso_sp S.ins) fun _ => d_andV (d_op (fld_w S rfl ha) (fld_w S rfl ha2) o_eqI) fun _ => d_op (fld_r S rfl ha kl) (fld_r S rfl ha2 kl2) (o_eqD (shaped_rows rs) (shaped_rows ss))).is ?_
    rw [Bool.true_and]
  · exact (d_andV (K := K) (a := false) (b := false) (d_isiN (d_var rfl kd) S.kd) fun z => nomatch z).is rfl
/-! _is_space -/
abbrev s__is_space : Stmt := top 21
abbrev N__is_space : List Str := ["value", "width"]
theorem sc__is_space : FnScope N__is_space ["value", "width"] (defScope s__is_space) := ⟨rfl, rfl, rfl, by decide +kernel, rfl, by decide +kernel, by decide +kernel⟩
theorem dn__is_space (Hx : St K mg "_is_space" s__is_space ["value", "width"]) (S : SpC K C) (B : Bs mg) (mC : mg "Space" = some (.ref C)) (hw : PropOf K C "width" pw gw) (D1 : Mn P w K mg base 1 gw ["self"] (SpG (F_width K C))) : Dn P w K mg base CX0 3 "_is_space" ["value", "width"] (SpG (F_iss K C)) := by
  refine dn_of 2 Hx sc__is_space (len_g fun vs H P h => by obtain ⟨_, _, _, _, rfl, _⟩ := h; rfl) fun f cdv A outer s H vs Q E hr h => ⟨_, pss_one (ps_ret (pe_and (pe_callB call_isi (by rfl) B.isinstance (by decide +kernel) (pa_cons (pv 0) (pa_cons (C8.pe_gc (v := .ref C) (by rfl) ⟨.ref C, mC, rfl⟩) pa_nil)))
    (pe_one (pe_cmpR op_eq (pe_propM (pv 0) S.ins.cl hw D1 hr (by decide)) (pv 1) (nomark _))))), ?_⟩
  obtain ⟨H0, P0, R, ⟨n, m, rs, o, rfl, so, rfl⟩, q⟩ := h
  refine Z.s_ret (P := fun v H' => Dq K H' v (.bool (true && decide ((n : Int) = (m : Nat))))) (d_andV (K := K) (d_isiO (g_in rfl mono_sp so) iso_sp S.ins) fun _ => d_op ((g_prop (F := F_width K C) (g_in rfl mono_sp so) iso_sp fun x H' e k => ⟨n, rs, x, rfl, k, rfl⟩).imp fun v H' k => by subst k; exact .int _) (d_var rfl (.int (m : Nat))) o_eqI) R fun v A1 H1 g1 k1 => q v A1 H1 g1 (by cases k1; rw [Bool.true_and])
theorem ev_iss {p : Me} {σ : L2.St} {H : Hp} {E : XK} {i j n : Nat} {rs ss : List (List Int)} {y : V} {a dx l : Addr} (S : SpC K C) (hi : σ[i]? = some (some y)) (sy : SpO K C n ss y H) (hj : σ[j]? = some (some (.ref a))) (ha : H a = some (.ins C dx (spFs n l))) :
    EvD K p (tCall (SpG (F_iss K C)) [] E (tCons (tVar i) (tCons (tFld K (tVar j) "_width") tNil))) σ H (.bool true) :=
  (g_call (P := fun v _ => v = .bl true) (a_two mono_sp (g_in hi mono_sp sy) fun H1 e => fld_w (n := n) S hj (e _ _ ha)) fun vs H' e k => by
    obtain ⟨x, z, rfl, h1, h2⟩ := k
    cases h2
    refine ⟨n, n, ss, x, rfl, h1, ?_⟩
    rw [decide_eq_true rfl]).imp fun v H' k => by subst k; exact .bl _
/-! __or__ -/
abbrev N_sp_or : List Str := ["self", "other"]
theorem sc_sp_or : FnScope N_sp_or ["self", "other"] (defScope (sp_m 6)) := ⟨rfl, rfl, rfl, by decide +kernel, rfl, by decide +kernel, by decide +kernel⟩
/-- Space(n, rows) -/
theorem g_spaceN {p : Me} {σ : L2.St} {H : Hp} {E : XK} {tn tr : TE} {n a : Nat} {rows : List (List Int)} (h1 : EvD K p tn σ H (.int (n : Nat))) (h2 : EvD K p tr σ H (LR rows)) (hn : 1 ≤ n) (hok : Ok n a rows) (hR : Rd n a rows.length) : EvG p (tMake C (SpI C (F_init K)) [] E (tCons tn (tCons tr tNil))) σ H fun v H' => ∃ a dx l, v = .ref a ∧ H' a = some (.ins C dx (spFs n l)) ∧ Dq K H' (.ref l) (LR (redM rows)) ∧ H l = none :=
  (g_make (Pf := fun fs H' => ∃ l, fs = spFs n l ∧ Dq K H' (.ref l) (LR (redM rows)) ∧ H l = none) (fun fs H H' e ⟨l, k1, k2, k3⟩ => ⟨l, k1, dq_ex e _ _ k2, k3⟩) (a_two mono_data h1 fun H1 e => EvD.mono e h2) (fun vs H' e ⟨x, y, k1, k2, k3⟩ => by
    subst k1
    cases k2
    exact ⟨rows, n, a, y, rfl, k3, hn, hok, hR, fun l H' nl kl => ⟨l, rfl, kl, fresh_back e nl⟩⟩) fun vs H1 H2 e ⟨x, y, k1, k2, k3⟩ => ⟨x, y, k1, dq_ex e _ _ k2, dq_ex e _ _ k3⟩).imp fun v H' ⟨a, dx, fs, k1, k2, l, k3, k4, k5⟩ => ⟨a, dx, l, k1, by rw [← k3]; exact k2, k4, k5⟩
theorem g_space {p : Me} {σ : L2.St} {H : Hp} {E : XK} {tn tr : TE} {n a : Nat} {rows : List (List Int)} (h1 : EvD K p tn σ H (.int (n : Nat))) (h2 : EvD K p tr σ H (LR rows)) (hn : 1 ≤ n) (hok : Ok n a rows) (hR : Rd n a rows.length) : EvG p (tMake C (SpI C (F_init K)) [] E (tCons tn (tCons tr tNil))) σ H (SpO K C n (redM rows)) :=
  (g_spaceN h1 h2 hn hok hR).imp fun v H' ⟨a, dx, l, k1, k2, k3, _⟩ => ⟨a, dx, l, k1, k2, k3⟩
theorem mn_or (Hx : StM K "__or__" "Space.__or__" (sp_m 6) f ["self", "other"]) (S : SpC K C) (B : Bs mg) (mC : mg "Space" = some (.ref C)) (M : Mk K C fi) (D1 : Dn P w K mg base CX0 3 "_is_space" ["value", "width"] (SpG (F_iss K C))) (D2 : Mn P w K mg base 6 fi ["self", "width", "rows"] (SpI C (F_init K))) : Mn P w K mg base 8 f ["self", "other"] (SpG (F_or K C)) := by
  refine mn_of 7 Hx sc_sp_or (len_g fun vs H P h => by obtain ⟨_, _, _, _, _, _, rfl, _⟩ := h; rfl) fun cdv A outer s H vs Q E hr h => ⟨_, pss_cons (ps_if (pt_not (pt_val (pe_cd D1 hr (by decide) rfl (pa_cons (pv 1) (pa_cons (pe_fld (pv 0) rfl) pa_nil))))) (pss_one ps_never) pss_nil)
    (pss_one (ps_ret (pe_mk M D2 hr (by decide) (by rfl) mC (pa_cons (pe_fld (pv 0) rfl) (pa_cons (pe_op op_cat (pe_fld (pv 0) rfl) (pe_fld (pv 1) rfl)) pa_nil))))), ?_⟩
  obtain ⟨H0, P0, R, ⟨n, a, rs, ss, o, y, rfl, ⟨b, dx, l, rfl, ha, kl⟩, sy, hn, hok, hR, rfl⟩, q⟩ := h
  refine q_when (b := false) (b_not (b := true) (b_test (ev_iss (rs := rs) S rfl sy rfl ha))) R (fun z => nomatch z) fun _ A1 H1 g1 => ?_
  have e1 := g1.reg
  obtain ⟨b2, dx2, l2, rfl, ha2, kl2⟩ := sy
  have hl : (rs.map Q43.R).length + (ss.map Q43.R).length ≤ 100000 := by
    have := hR.2.1
    rw [List.length_append] at this
    rw [List.length_map, List.length_map]; omega
  refine Z.s_ret (g_space (K := K) (rows := rs ++ ss) (fld_w S rfl (e1 _ _ ha)) ((d_op (fld_r S rfl (e1 _ _ ha) (dq_ex e1 _ _ kl)) (fld_r S rfl (e1 _ _ ha2) (dq_ex e1 _ _ kl2)) (o_cat hl)).is (by rw [← List.map_append])) hn hok hR) (g1.to R) fun v A2 H2 g2 k2 => q v A2 H2 (g1.trans g2) k2
/-! is_within -/
abbrev N_sp_wit : List Str := ["self", "other", "row"]
theorem sc_sp_wit : FnScope N_sp_wit ["self", "other"] (defScope (sp_m 7)) := ⟨rfl, rfl, rfl, by decide +kernel, rfl, by decide +kernel, by decide +kernel⟩
theorem ev_in {p : Me} {σ : L2.St} {H : Hp} {tx ty : TE} {n a b : Nat} {ss : List (List Int)} {d : PyData} (hx : EvD K p tx σ H d) (hy : EvG p ty σ H (SpO K C n ss)) (hn : n ≤ 60000) (hl : ∀ es, d = .tuple es → es.length ≤ 60000) (hs : ∀ r, d = R r → r.length = n → Sm a r) (hf : Fd n b ss) (hab : a + ss.length * (b + 1) ≤ 9000) :
    EvD K p (tOp (rInO C (SpG (F_con K C)) false) tx ty) σ H (.bool (mem n ss d)) :=
  (d_inO (neg := false) hx mono_data hy mono_sp iso_sp fun x y H' e k1 k2 => ⟨n, ss, y, x, d, a, b, rfl, k2, k1, hn, hl, hs, hf, hab, rfl⟩)
theorem mn_wit (Hx : StM K "is_within" "Space.is_within" (sp_m 7) f ["self", "other"]) (S : SpC K C) (B : Bs mg) (D1 : Dn P w K mg base CX0 3 "_is_space" ["value", "width"] (SpG (F_iss K C))) (hc : Meth K C "__contains__" fc) (D2 : Mn P w K mg base 4 fc ["self", "row"] (SpG (F_con K C))) : Mn P w K mg base 5 f ["self", "other"] (SpG (F_wit K C)) := by
  refine mn_of 4 Hx sc_sp_wit (len_g fun vs H P h => by obtain ⟨_, _, _, _, _, _, _, rfl, _⟩ := h; rfl) fun cdv A outer s H vs Q E hr h => ⟨_, pss_cons (ps_if (pt_not (pt_val (pe_cd D1 hr (by decide) rfl (pa_cons (pv 1) (pa_cons (pe_fld (pv 0) rfl) pa_nil))))) (pss_one ps_never) pss_nil)
    (pss_one (ps_ret (pe_callB (cr_all rfl) (by rfl) B.all (by decide +kernel) (pa_cons (pe_lc (own := [("row", 2)]) (g := gName 2) (tt := tYes) rfl sc_sp_wit.nd (pi_list (pe_fld (pv 0) rfl)) (blkOk_by (N := N_sp_wit) (sc := defScope (sp_m 7)) (by decide +kernel)) (fun _ _ _ _ _ => (pg_name (i := 2) sc_sp_wit.nd rfl (Or.inl rfl))) (fun _ _ _ _ _ => pts_nil) (fun _ _ _ _ _ => (pe_cmpR (op_inM hc D2 hr (by decide)) (pv 2) (pv 1) (by rfl)))) pa_nil)))), ?_⟩
  obtain ⟨H0, P0, R, ⟨n, a, b, rs, ss, o, y, rfl, ⟨c, dx, l, rfl, ha, kl⟩, sy, hn, hrl, hrs, hf, hab, rfl⟩, q⟩ := h
  refine q_when (b := false) (b_not (b := true) (b_test (ev_iss (rs := rs) S rfl sy rfl ha))) R (fun z => nomatch z) fun _ A1 H1 g1 => ?_
  have e1 := g1.reg
  have lc := d_lcL (K := K) (p := .non) (σ := start N_sp_wit [.ref c, y]) (H := H1) (j := 2) (vs := [2]) (tt := tYes) (te := tOp (rInO C (SpG (F_con K C)) false) (tVar 2) (tVar 1)) (tl := tFld K (tVar 0) "_rows") (ds := rs.map Q43.R) (fun _ => true) (fun d => .bool (mem n ss d)) (fld_r S rfl (e1 _ _ ha) (dq_ex e1 _ _ kl)) (by rw [List.length_map]; omega) (fun x => rfl) (fun d hd x H2 e k => b_yes) (fun d hd x H2 e k _ => by
    obtain ⟨r, hr2, rfl⟩ := List.mem_map.mp hd
    obtain ⟨f1, f2⟩ := hrs r hr2
    refine ev_in (a := a) (b := b) (d_var rfl k) (g_in rfl mono_sp (mono_sp _ _ _ (e1.trans e) sy)) hn (fun es he => by cases he; rw [List.length_map]; omega) (fun r2 he _ => ?_) hf hab
    have : r2 = r := by rw [← nums_R r2, ← he, nums_R]
    rw [this]; exact f2)
  rw [List.filter_eq_self.mpr fun _ _ => rfl, List.map_map] at lc
  have ca := c_all (K := K) (p := .non) (bs := rs.map fun r => mem n ss (Q43.R r))
  refine Z.s_ret ((d_cb (s_cons (lc.is (by rw [List.map_map]; rfl)) s_nil) ca).is (dx := .bool (rs.all fun r => mem n ss (Q43.R r))) (by rw [List.all_map]; rfl)) (g1.to R) fun v A2 H2 g2 k2 => q v A2 H2 (g1.trans g2) (by cases k2; rfl)
end
end Q43
/-! rows that are none: what raises -/
namespace Q43
open PySem PySem.Spec PyProof.Rows L2 Z Evl
section
variable {P : Program} {w : World} {K : PySem.W.Frag} {mg : Str → Option Value} {base : Heap} {C Ce fI f fi : Addr}
/-- a list of items of which d is the first that is no row of n ints -/
def Bad (n : Nat) (items : List PyData) (d : PyData) : Prop := ∃ pre post, items = pre ++ d :: post ∧ (∀ c ∈ pre, isRw c n = true) ∧ isRw d n = false ∧ n ≤ 60000 ∧ ∀ c ∈ items, ∀ es, c = .tuple es → es.length ≤ 60000
def F_bad (K : PySem.W.Frag) : List V → Hp → (V → Hp → Prop) → Prop := fun vs H P => ∃ (items : List PyData) (n : Nat) (d : PyData) (x : V), vs = [x, .int (n : Nat)] ∧ Dq K H x (.list items) ∧ Bad n items d ∧ P = fun v H' => Dq K H' v d
theorem dx_check_rows (Hx : St K mg "check_rows" s_check_rows ["rows", "width"]) (B : Bs mg) (D1 : Dn P w K mg base CX0 2 "is_row" ["value", "width"] (SpD K F_is_row)) (T : ErrC P K mg "InvalidRow" Ce fI "value") : Dn P w K mg base (L2.CX P w) 3 "check_rows" ["rows", "width"] (SpR Ce "value" (F_bad K)) := by
  refine dnx_of 2 Hx sc_check_rows (lenR fun vs H P h => by obtain ⟨_, _, _, _, rfl, _⟩ := h; rfl) fun f cdv A outer s H vs Q E hr h => ⟨_, (pss_one (ps_for own_fn rfl (pi_list (pv 0)) (pg_name (i := 2) sc_check_rows.nd rfl (Or.inl rfl)) (pss_one (ps_if (pt_not (pt_val (pe_cd D1 hr (by decide) rfl (pa_cons (pv 2) (pa_cons (pv 1) pa_nil))))) (pss_one (ps_raiseE rfl (ErrC.at T) hr takes_fn (pa_cons (pv 2) pa_nil))) pss_nil)))), ?_⟩
  obtain ⟨H0, P0, R, ⟨items, n, d, x, rfl, kx, ⟨pre, post, rfl, hpre, hd, hn, hl⟩, rfl⟩, q⟩ := h
  refine s_forL (K := K) (ds := pre ++ d :: post) (d_var rfl kx) R (fun i σ' A' H' w => (∃ y, σ' = [some x, some (.int (n : Nat)), y]) ∧ w = Me.non.own ∧ Gr .non H H0 A' H' ∧ i ≤ pre.length) (fun _ _ g => ⟨⟨_, rfl⟩, rfl, g, Nat.zero_le _⟩) ?_ ?_
  · rintro H1 e1 i c y σ' A' H' w hi ⟨⟨z, rfl⟩, rfl, g0, hle⟩ e r ky
    have hm := List.mem_of_getElem? hi
    have ht : EvB .non (tNot (tTest (tCall (SpD K F_is_row) [] E0 (tCons (tVar 2) (tCons (tVar 1) tNil))))) [some x, some (.int (n : Nat)), some y] H' (!isRw c n) := b_not (b_test (d_call (K := K) (s_cons (d_var rfl ky) (s_cons (d_var rfl (.int (n : Nat))) s_nil)) ⟨c, n, rfl, hl c hm, rfl⟩))
    refine Z.s_if ht r (fun hb A2 H2 g2 => ?_) fun hb A2 H2 g2 => ⟨H2, _, ⟨⟨_, rfl⟩, rfl, g0.trans g2, ?_⟩, e.trans g2.reg, g2.to r⟩
    · have hc : c = d := by
        rcases Nat.lt_or_eq_of_le hle with lt | rfl
        · rw [List.getElem?_append_left lt] at hi
          have := hpre c (List.mem_of_getElem? hi)
          rw [this] at hb; cases hb
        · rw [List.getElem?_append_right (Nat.le_refl _), Nat.sub_self] at hi
          exact (Option.some.inj hi).symm
      subst hc
      refine s_raise (P := fun v H' => Dq K H' v c) (d_var rfl (dq_ex g2.reg _ _ ky)) mono_data (g2.to r) fun v dd A3 H3 g3 e3 k3 => q v dd A3 H3 ((g0.trans g2).trans g3) e3 k3
    · rcases Nat.lt_or_eq_of_le hle with lt | rfl
      · exact lt
      · rw [List.getElem?_append_right (Nat.le_refl _), Nat.sub_self] at hi
        cases hi
        rw [hd] at hb; cases hb
  · rintro σ' A' H' w ⟨⟨y, rfl⟩, rfl, g, hle⟩ e r
    rw [List.length_append, List.length_cons] at hle
    omega
theorem dx_reduced (Hx : St K mg "reduced" s_reduced ["rows", "width"]) (D1 : Dn P w K mg base (L2.CX P w) 3 "check_rows" ["rows", "width"] (SpR Ce "value" (F_bad K))) (D2 : Dn P w K mg base CX0 4 "_with_row" ["found", "row"] (SpW K F__with_row)) : Dn P w K mg base (L2.CX P w) 5 "reduced" ["rows", "width"] (SpR Ce "value" (F_bad K)) := by
  refine dnx_of 4 Hx sc_reduced (lenR fun vs H P h => by obtain ⟨_, _, _, _, rfl, _⟩ := h; rfl) fun f cdv A outer s H vs Q E hr h => ⟨_, (pss_cons (ps_expr (pe_cdX D1 takes_fn hr (by decide) rfl (pa_cons (pv 0) (pa_cons (pv 1) pa_nil))))
    (pss_cons (ps_set (i := 2) sc_reduced.nd rfl (Or.inl rfl) (pe_lst pa_nil))
    (pss_cons (ps_for own_fn rfl (pi_list (pv 0)) (pg_name (i := 3) sc_reduced.nd rfl (Or.inl rfl)) (pss_one (ps_set (i := 2) sc_reduced.nd rfl (Or.inl rfl) (pe_cd D2 hr (by decide) rfl (pa_cons (pv 2) (pa_cons (pv 3) pa_nil))))))
    (pss_one (ps_ret (pv 2)))))), ?_⟩
  obtain ⟨H0, P0, R, ⟨items, n, d, x, rfl, kx, bad, rfl⟩, q⟩ := h
  exact q_dropR (C := Ce) (fld := "value") (F := F_bad K) (W := fun cls d _ H => E cls d H) (P := fun v H' => Dq K H' v d) (a_two (Py := fun v _ => v = .int (n : Nat)) (mono_data (K := K) (d := .list items)) (d_var rfl kx) fun H1 e => g_var rfl) R (fun vs H' e ⟨y, z, h1, h2, h3⟩ => ⟨items, n, d, y, by rw [h1, h3], h2, bad, rfl⟩) fun v dd A' H' g e k => q v dd A' H' g e k
end
end Q43
namespace Q43
open PySem PySem.Spec PyProof.Rows L2 Z Evl
section
variable {P : Program} {w : World} {K : PySem.W.Frag} {mg : Str → Option Value} {base : Heap} {C Ce fI f fi gw pw : Addr}
/-- no int above 0 -/
def noWidth : PyData → Bool
  | .int i => decide (i < 1)
  | _ => true
def F_badW (K : PySem.W.Frag) : List V → Hp → (V → Hp → Prop) → Prop := fun us H P => ∃ (d : PyData) (x y : V), us = [x, y] ∧ Dq K H x d ∧ noWidth d = true ∧ P = fun v H' => Dq K H' v d
theorem mx_initW (Hx : StM K "__init__" "Space.__init__" (sp_m 0) f ["self", "width", "rows"]) (D1 : Dn P w K mg base CX0 1 "is_whole" ["value"] (SpD K F_is_whole)) (D2 : Dn P w K mg base CX0 5 "reduced" ["rows", "width"] (SpN K F_reduced)) (T : ErrC P K mg "InvalidRow" Ce fI "value") :
    ∃ fd, FnOk P w K mg base (L2.CX P w) 6 f fd ["self", "width", "rows"] (SpRI C Ce "value" (F_badW K)) ∧ L2.Binds K fd ["self", "width", "rows"] [] := by
  refine mnx_of 5 Hx sc_sp_init (fun vs H Q E h => by obtain ⟨_, _, _, _, _, rfl, _, ⟨_, _, _, rfl, _⟩, _⟩ := h; rfl) fun cdv A outer s H vs Q E hr h => ⟨_, pss_cons (ps_if (PW.pt (pw_or (pt_not (pt_val (pe_cd D1 hr (by decide) rfl (pa_cons (pv 1) pa_nil)))) (pw_or1 (pt_cmpR op_lt (pv 1) pe_int (nomark _))))) (pss_one (ps_raiseE rfl (ErrC.at T) hr takes_fn (pa_cons (pv 1) pa_nil))) pss_nil)
    (pss_cons (ps_fld (pv 0) (pv 1) rfl) (pss_one (ps_fld (pv 0) (pe_cd D2 hr (by decide) rfl (pa_cons (pv 2) (pa_cons (pv 1) pa_nil))) rfl))), ?_⟩
  obtain ⟨H0, x, dx, us, P0, rfl, R, ⟨d, wv, rv, rfl, kw, hd, rfl⟩, last⟩ := h
  have t1 : EvB ⟨none, upd (fun _ => none) x (.ins C dx [])⟩ (tNot (tTest (tCall (SpD K F_is_whole) [] E0 (tCons (tVar 1) tNil)))) (start N_sp_init [.ref x, wv, rv]) H0 (!isI d) := b_not (b_test (d_call (K := K) (s_cons (d_var rfl kw) s_nil) ⟨_, rfl, rfl⟩))
  have t2 : isI d = true → EvB ⟨none, upd (fun _ => none) x (.ins C dx [])⟩ (tTest (tOp (rI0 fun i j => .bl (decide (i < j))) (tVar 1) (tC (.int 1)))) (start N_sp_init [.ref x, wv, rv]) H0 true := fun hi => by
    cases d with
    | int i => exact (b_test (d_op (K := K) (d_var rfl kw) d_int o_lt)).is (show decide (i < 1) = true from hd)
    | _ => cases hi
  refine q_when (b := true) ((b_or t1 fun hf => t2 (by cases h : isI d <;> simp_all)).is (by cases isI d <;> rfl)) R (fun _ A1 H1 g1 => ?_) fun z => nomatch z
  have R1 := g1.to R
  refine s_raise (P := fun v H' => Dq K H' v d) (d_var rfl (dq_ex g1.reg _ _ kw)) mono_data R1 fun v dd A3 H3 g3 e3 k3 => last v dd A3 H3 (g3.to R1).nil (g1.reg.trans g3.reg) (fun A0 B0 hx0 g0 => (g0.trans (g1.as rfl)).trans (g3.as rfl)) e3 k3
theorem mx_initR (Hx : StM K "__init__" "Space.__init__" (sp_m 0) f ["self", "width", "rows"]) (S : SpC K C) (D1 : Dn P w K mg base CX0 1 "is_whole" ["value"] (SpD K F_is_whole)) (D2 : Dn P w K mg base (L2.CX P w) 5 "reduced" ["rows", "width"] (SpR Ce "value" (F_bad K))) (T : ErrC P K mg "InvalidRow" Ce fI "value") :
    ∃ fd, FnOk P w K mg base (L2.CX P w) 6 f fd ["self", "width", "rows"] (SpRI C Ce "value" (fun us H P => ∃ (items : List PyData) (n : Nat) (d : PyData) (x : V), us = [.int (n : Nat), x] ∧ 1 ≤ n ∧ Dq K H x (.list items) ∧ Bad n items d ∧ P = fun v H' => Dq K H' v d)) ∧ L2.Binds K fd ["self", "width", "rows"] [] := by
  refine mnx_of 5 Hx sc_sp_init (fun vs H Q E h => by obtain ⟨_, _, _, _, _, rfl, _, ⟨_, _, _, _, rfl, _⟩, _⟩ := h; rfl) fun cdv A outer s H vs Q E hr h => ⟨_, pss_cons (ps_if (PW.pt (pw_or (pt_not (pt_val (pe_cd D1 hr (by decide) rfl (pa_cons (pv 1) pa_nil)))) (pw_or1 (pt_cmpR op_lt (pv 1) pe_int (nomark _))))) (pss_one (ps_raiseE rfl (ErrC.at T) hr takes_fn (pa_cons (pv 1) pa_nil))) pss_nil)
    (pss_cons (ps_fld (pv 0) (pv 1) rfl) (pss_one (ps_fld (pv 0) (pe_cdX D2 takes_fn hr (by decide) rfl (pa_cons (pv 2) (pa_cons (pv 1) pa_nil))) rfl))), ?_⟩
  obtain ⟨H0, x, dx, us, P0, rfl, R, ⟨items, n, d, xv, rfl, hn, kx, bad, rfl⟩, last⟩ := h
  have e0 : decide ((n : Int) < 1) = false := decide_eq_false (by omega)
  refine q_when (b := false) ((b_or (b_not (b_test (d_call (K := K) (s_cons (d_var rfl (.int _)) s_nil) ⟨_, rfl, rfl⟩))) fun _ => b_test (d_op (K := K) (d_var rfl (.int (n : Nat))) d_int o_lt)).is (by rw [e0]; rfl)) R (fun z => nomatch z) fun _ A1 H1 g1 => ?_
  have R1 := g1.to R
  have o1 : (Me.mk none (upd (fun _ => none) x (.ins C dx []))).own x = some (.ins C dx []) := own_same
  refine q_fldOwn (d_var (K := K) rfl (.int (n : Nat))) rfl o1 S.ins.cl S.nw (by show 0 < 1000; decide) R1 fun v2 A2 H2 g2 k2 R2 => ?_
  cases k2
  simp only [L2.upd_upd] at R2
  have n2 : H2 x = none := (R2.offO x _ own_same).1
  refine s_fldR (C := Ce) (fld := "value") (F := F_bad K) (W := fun cls d _ H => E cls d H) (P := fun v H' => Dq K H' v d) (a_two (Py := fun v _ => v = .int (n : Nat)) (mono_data (K := K) (d := .list items)) (d_var rfl (dq_ex (g1.reg.trans g2.reg) _ _ kx)) fun H1 e => g_var rfl) R2 (fun vs H' e ⟨y, z, h1, h2, h3⟩ => ⟨items, n, d, y, by rw [h1, h3], h2, bad, rfl⟩) fun v dd A3 H3 g3 e3 k3 => ?_
  refine last v dd A3 H3 (g3.to R2).nil ((g1.reg.trans g2.reg).trans g3.reg) (fun A0 B0 hx0 g0 => ?_) e3 k3
  exact ((((g0.trans (g1.as rfl)).trans (g2.as rfl)).poke hx0 n2).trans (g3.as rfl))
end
end Q43
/-! spaces asked with what is no space of their width -/
namespace Q43
open PySem PySem.Spec PyProof.Rows L2 Z Evl
/-- y is no space of width n -/
def BadO (K : PySem.W.Frag) (C : Addr) (n : Nat) (y : V) (H : Hp) : Prop := (∃ d, Dq K H y d) ∨ ∃ m ss, SpO K C m ss y H ∧ m ≠ n
theorem bado_ex {K : PySem.W.Frag} {C : Addr} {n : Nat} {y : V} {H H' : Hp} (e : Ex H H') (h : BadO K C n y H) : BadO K C n y H' := by
  rcases h with ⟨d, h⟩ | ⟨m, ss, h, hn⟩
  · exact .inl ⟨d, dq_ex e _ _ h⟩
  · exact .inr ⟨m, ss, mono_sp _ _ _ e h, hn⟩
section
variable (K : PySem.W.Frag) (C : Addr)
def F_issX : List V → Hp → (V → Hp → Prop) → Prop := fun vs H P => ∃ (n : Nat) (y : V), vs = [y, .int (n : Nat)] ∧ BadO K C n y H ∧ P = fun v _ => v = .bl false
def F_badO : List V → Hp → (V → Hp → Prop) → Prop := fun vs H P => ∃ (n : Nat) (rs : List (List Int)) (o y : V), vs = [o, y] ∧ SpO K C n rs o H ∧ BadO K C n y H ∧ P = fun v _ => v = y
end
section
variable {P : Program} {w : World} {K : PySem.W.Frag} {mg : Str → Option Value} {base : Heap} {C Ce fI f fi fc gw pw : Addr}
theorem dn__is_spaceX (Hx : St K mg "_is_space" s__is_space ["value", "width"]) (S : SpC K C) (B : Bs mg) (mC : mg "Space" = some (.ref C)) (hw : PropOf K C "width" pw gw) (D1 : Mn P w K mg base 1 gw ["self"] (SpG (F_width K C))) : Dn P w K mg base CX0 3 "_is_space" ["value", "width"] (SpG (F_issX K C)) := by
  refine dn_of 2 Hx sc__is_space (len_g fun vs H P h => by obtain ⟨_, _, rfl, _⟩ := h; rfl) fun f cdv A outer s H vs Q E hr h => ⟨_, pss_one (ps_ret (pe_and (pe_callB call_isi (by rfl) B.isinstance (by decide +kernel) (pa_cons (pv 0) (pa_cons (C8.pe_gc (v := .ref C) (by rfl) ⟨.ref C, mC, rfl⟩) pa_nil)))
    (pe_one (pe_cmpR op_eq (pe_propM (pv 0) S.ins.cl hw D1 hr (by decide)) (pv 1) (nomark _))))), ?_⟩
  obtain ⟨H0, P0, R, ⟨n, y, rfl, hy, rfl⟩, q⟩ := h
  refine Z.s_ret (P := fun v H' => Dq K H' v (.bool false)) ?_ R fun v A1 H1 g1 k1 => q v A1 H1 g1 (by cases k1; rfl)
  rcases hy with ⟨d, kd⟩ | ⟨m, ss, so, hn⟩
  · exact d_andV (K := K) (a := false) (b := false) (d_isiN (d_var rfl kd) S.kd) fun z => nomatch z
  · have e : (true && decide ((m : Int) = (n : Nat))) = false := by rw [Bool.true_and]; exact decide_eq_false (by omega)
    exact (d_andV (K := K) (d_isiO (g_in rfl mono_sp so) iso_sp S.ins) fun _ => d_op ((g_prop (F := F_width K C) (g_in rfl mono_sp so) iso_sp fun x H' e k => ⟨m, ss, x, rfl, k, rfl⟩).imp fun v H' k => by subst k; exact .int _) (d_var rfl (.int (n : Nat))) o_eqI).is (congrArg PyData.bool e)
theorem ev_issX {p : Me} {σ : L2.St} {H : Hp} {E : XK} {i j n : Nat} {y : V} {a dx l : Addr} (S : SpC K C) (hi : σ[i]? = some (some y)) (by_ : BadO K C n y H) (hj : σ[j]? = some (some (.ref a))) (ha : H a = some (.ins C dx (spFs n l))) :
    EvD K p (tCall (SpG (F_issX K C)) [] E (tCons (tVar i) (tCons (tFld K (tVar j) "_width") tNil))) σ H (.bool false) :=
  (g_call (P := fun v _ => v = .bl false) (a_two (Px := fun v H' => v = y) (fun _ _ _ _ k => k) (g_var hi) fun H1 e => fld_w (n := n) S hj (e _ _ ha)) fun vs H' e k => by
    obtain ⟨x, z, rfl, h1, h2⟩ := k
    cases h2
    subst h1
    exact ⟨n, x, rfl, bado_ex e by_, rfl⟩).imp fun v H' k => by subst k; exact .bl _
theorem mx_or (Hx : StM K "__or__" "Space.__or__" (sp_m 6) f ["self", "other"]) (S : SpC K C) (mC : mg "Space" = some (.ref C)) (M : Mk K C fi) (D1 : Dn P w K mg base CX0 3 "_is_space" ["value", "width"] (SpG (F_issX K C))) (D2 : Mn P w K mg base 6 fi ["self", "width", "rows"] (SpI C (F_init K))) (T : ErrC P K mg "InvalidRow" Ce fI "value") :
    ∃ fd, FnOk P w K mg base (L2.CX P w) 8 f fd ["self", "other"] (SpR Ce "value" (F_badO K C)) ∧ L2.Binds K fd ["self", "other"] [] := by
  refine mnx_of 7 Hx sc_sp_or (lenR fun vs H P h => by obtain ⟨_, _, _, _, rfl, _⟩ := h; rfl) fun cdv A outer s H vs Q E hr h => ⟨_, pss_cons (ps_if (pt_not (pt_val (pe_cd D1 hr (by decide) rfl (pa_cons (pv 1) (pa_cons (pe_fld (pv 0) rfl) pa_nil))))) (pss_one (ps_raiseE rfl (ErrC.at T) hr takes_fn (pa_cons (pv 1) pa_nil))) pss_nil)
    (pss_one (ps_ret (pe_mk M D2 hr (by decide) (by rfl) mC (pa_cons (pe_fld (pv 0) rfl) (pa_cons (pe_op op_cat (pe_fld (pv 0) rfl) (pe_fld (pv 1) rfl)) pa_nil))))), ?_⟩
  obtain ⟨H0, P0, R, ⟨n, rs, o, y, rfl, ⟨b, dx, l, rfl, ha, kl⟩, by_, rfl⟩, q⟩ := h
  refine q_when (b := true) (b_not (b := false) (b_test (ev_issX S rfl by_ rfl ha))) R (fun _ A1 H1 g1 => ?_) fun z => nomatch z
  exact s_raise (P := fun v _ => v = y) (g_var rfl) (fun _ _ _ _ k => k) (g1.to R) fun v dd A3 H3 g3 e3 k3 => q v dd A3 H3 (g1.trans g3) e3 k3
theorem mx_wit (Hx : StM K "is_within" "Space.is_within" (sp_m 7) f ["self", "other"]) (S : SpC K C) (B : Bs mg) (D1 : Dn P w K mg base CX0 3 "_is_space" ["value", "width"] (SpG (F_issX K C))) (hc : Meth K C "__contains__" fc) (D2 : Mn P w K mg base 4 fc ["self", "row"] (SpG (F_con K C))) (T : ErrC P K mg "InvalidRow" Ce fI "value") :
    ∃ fd, FnOk P w K mg base (L2.CX P w) 5 f fd ["self", "other"] (SpR Ce "value" (F_badO K C)) ∧ L2.Binds K fd ["self", "other"] [] := by
  refine mnx_of 4 Hx sc_sp_wit (lenR fun vs H P h => by obtain ⟨_, _, _, _, rfl, _⟩ := h; rfl) fun cdv A outer s H vs Q E hr h => ⟨_, pss_cons (ps_if (pt_not (pt_val (pe_cd D1 hr (by decide) rfl (pa_cons (pv 1) (pa_cons (pe_fld (pv 0) rfl) pa_nil))))) (pss_one (ps_raiseE rfl (ErrC.at T) hr takes_fn (pa_cons (pv 1) pa_nil))) pss_nil)
    (pss_one (ps_ret (pe_callB (cr_all rfl) (by rfl) B.all (by decide +kernel) (pa_cons (pe_lc (own := [("row", 2)]) (g := gName 2) (tt := tYes) rfl sc_sp_wit.nd (pi_list (pe_fld (pv 0) rfl)) (blkOk_by (N := N_sp_wit) (sc := defScope (sp_m 7)) (by decide +kernel)) (fun _ _ _ _ _ => (pg_name (i := 2) sc_sp_wit.nd rfl (Or.inl rfl))) (fun _ _ _ _ _ => pts_nil) (fun _ _ _ _ _ => (pe_cmpR (op_inM hc D2 hr (by decide)) (pv 2) (pv 1) (by rfl)))) pa_nil)))), ?_⟩
  obtain ⟨H0, P0, R, ⟨n, rs, o, y, rfl, ⟨b, dx, l, rfl, ha, kl⟩, by_, rfl⟩, q⟩ := h
  refine q_when (b := true) (b_not (b := false) (b_test (ev_issX S rfl by_ rfl ha))) R (fun _ A1 H1 g1 => ?_) fun z => nomatch z
  exact s_raise (P := fun v _ => v = y) (g_var rfl) (fun _ _ _ _ k => k) (g1.to R) fun v dd A3 H3 g3 e3 k3 => q v dd A3 H3 (g1.trans g3) e3 k3
end
end Q43
/-! kernel that raises -/
namespace Z
open PySem PySem.Spec PyProof.Rows L2 Evl
section
variable {P : Program} {w : World} {K : PySem.W.Frag} {mg : Str → Option Value} {base : Heap}
/-- a def that is not called -/
theorem dn_never {x : Str} {st : Stmt} {ps : List Str} (Hx : St K mg x st ps) : Dn P w K mg base CX0 1 x ps (fun _ _ _ _ => False) := by
  obtain ⟨f, fd, F, m, b⟩ := Hx
  exact ⟨f, fd, ⟨fun _ _ _ _ h => h.elim, fun _ _ _ _ _ _ _ _ _ _ _ _ _ h => h.elim⟩, m, F.kp, b⟩
end
section
variable {p : Me} {σ : L2.St} {H A : Hp} {tz : TS} {D : Ends} {P : V → Hp → Prop} {C : Addr} {fld : Str} {F : List V → Hp → (V → Hp → Prop) → Prop}
theorem q_asgR {i : Nat} {W : WX} {Pa : List V → Hp → Prop} {t : TA} (h : EvA p t σ H Pa) (R : Reg p H A) (hF : ∀ vs H', Ex H H' → Pa vs H' → F vs H' P) (k : ∀ v dd A' H', Gr p A H A' H' → H' dd = some (.xd [(fld, v)]) → P v H' → W (.ref C) (some dd) σ A') : tSeq (tAsg (tCallS (SpR C fld F) (WE W) t) (gName i)) tz D σ A :=
  h A R _ fun vs A1 H1 g1 k1 => by
    have R1 := g1.to R
    exact ⟨H1, P, R1.nil, hF vs H1 g1.reg k1, fun v dd A2 H2 g2 e2 k2 => k v dd A2 H2 (g1.trans (g2.pure R1)) e2 k2⟩
end
end Z
namespace Q43
open PySem PySem.Spec PyProof.Rows L2 Z Evl
section
variable {P : Program} {w : World} {K : PySem.W.Frag} {mg : Str → Option Value} {base : Heap} {Ce fI : Addr}
abbrev s_kernel : Stmt := top 11
abbrev N_kernel : List Str := ["rows", "width", "found", "leading", "row", "place"]
theorem sc_kernel : FnScope N_kernel ["rows", "width"] (defScope s_kernel) := ⟨rfl, rfl, rfl, by decide +kernel, rfl, by decide +kernel, by decide +kernel⟩
theorem dx_kernel (Hx : St K mg "kernel" s_kernel ["rows", "width"]) (B : Bs mg) (D1 : Dn P w K mg base (L2.CX P w) 5 "reduced" ["rows", "width"] (SpR Ce "value" (F_bad K))) (D__first_place : Dn P w K mg base CX0 1 "_first_place" ["row"] (SpD K F__first_place)) (D__kernel_row : Dn P w K mg base CX0 1 "_kernel_row" ["found", "leading", "free", "width"] (fun _ _ _ _ => False)) : Dn P w K mg base (L2.CX P w) 6 "kernel" ["rows", "width"] (SpR Ce "value" (F_bad K)) := by
  refine dnx_of 5 Hx sc_kernel (lenR fun vs H P h => by obtain ⟨_, _, _, _, rfl, _⟩ := h; rfl) fun f cdv A outer s H vs Q E hr h => ⟨_, (pss_cons (ps_set (i := 2) sc_kernel.nd rfl (Or.inr rfl) (pe_cdX D1 takes_fn hr (by decide) rfl (pa_cons (pv 0) (pa_cons (pv 1) pa_nil))))
    (pss_cons (ps_set (i := 3) sc_kernel.nd rfl (Or.inr rfl) (pe_lc (own := [("row", 4)]) (g := gName 4) (tt := tYes) rfl sc_kernel.nd (pi_list (pv 2)) (blkOk_by (N := N_kernel) (sc := defScope s_kernel) (by decide +kernel)) (fun _ _ _ _ _ => (pg_name (i := 4) sc_kernel.nd rfl (Or.inl rfl))) (fun _ _ _ _ _ => pts_nil) (fun _ _ _ _ _ => (pe_cd D__first_place hr (by decide) rfl (pa_cons (pv 4) pa_nil)))))
    (pss_one (ps_ret (pe_lc (own := [("place", 5)]) (g := gName 5) rfl sc_kernel.nd (pi_range1 (by rfl) B.range (pa_cons (pv 1) pa_nil)) (blkOk_by (N := N_kernel) (sc := defScope s_kernel) (by decide +kernel)) (fun _ _ _ _ _ => (pg_name (i := 5) sc_kernel.nd rfl (Or.inl rfl))) (fun _ _ _ _ _ => (pts_one (pt_cmpR (op_notInK (K := K) rfl) (pv 5) (pv 3) (by rfl)))) (fun _ _ _ _ _ => (pe_cd D__kernel_row hr (by decide) rfl (pa_cons (pv 2) (pa_cons (pv 3) (pa_cons (pv 5) (pa_cons (pv 1) pa_nil))))))))))), ?_⟩
  obtain ⟨H0, P0, R, ⟨items, n, d, x, rfl, kx, bad, rfl⟩, q⟩ := h
  exact q_asgR (C := Ce) (fld := "value") (F := F_bad K) (W := fun cls d _ H => E cls d H) (P := fun v H' => Dq K H' v d) (a_two (Py := fun v _ => v = .int (n : Nat)) (mono_data (K := K) (d := .list items)) (d_var rfl kx) fun H1 e => g_var rfl) R (fun vs H' e ⟨y, z, h1, h2, h3⟩ => ⟨items, n, d, y, by rw [h1, h3], h2, bad, rfl⟩) fun v dd A' H' g e k => q v dd A' H' g e k
end
end Q43
/-! an operator of one's own class that may raise; its right side an object of the class, or data -/
namespace Z
open PySem PySem.Spec PyProof.Rows L2 Evl
theorem sub_data {K : PySem.W.Frag} {C : Addr} {T : String} (h : T ∈ tysD) : PySem.W.subIn K (.type T) (.ref C) = some false := by
  have e : ∀ T ∈ tysD, ∃ l : List Value, PySem.fastBuiltinMro T = some l ∧ (l.all fun v => match v with | .type _ => true | _ => false) = true := by
    intro T hT
    unfold tysD at hT
    simp only [List.mem_cons, List.not_mem_nil, or_false] at hT
    rcases hT with rfl | rfl | rfl | rfl | rfl | rfl | rfl
    · exact ⟨[.type "NoneType", .type "object"], by decide +kernel, rfl⟩
    · exact ⟨[.type "bool", .type "int", .type "object"], by decide +kernel, rfl⟩
    · exact ⟨[.type "int", .type "object"], by decide +kernel, rfl⟩
    · exact ⟨[.type "str", .type "object"], by decide +kernel, rfl⟩
    · exact ⟨[.type "list", .type "object"], by decide +kernel, rfl⟩
    · exact ⟨[.type "tuple", .type "object"], by decide +kernel, rfl⟩
    · exact ⟨[.type "dict", .type "object"], by decide +kernel, rfl⟩
  obtain ⟨l, e1, e2⟩ := e T h
  show (PySem.fastBuiltinMro T).map (·.contains (.ref C)) = some false
  rw [e1]
  show some (l.contains (.ref C)) = some false
  congr 1
  rw [← Bool.not_eq_true, List.contains_iff_mem]
  intro z
  have := List.all_eq_true.mp e2 _ z
  cases this
section
variable {prog : Program} {w : World} {A : Around} {E : Value → Shared → Prop} {s : Shared} {K : PySem.W.Frag} {x C L f : Addr} {h0 : Heap} {m : Str → Option Value} {ox : Obj} {od : Option Obj} {T : String}
open PySem.W in
/-- o op b, b of a built-in type, told by what a look at the heap says -/
theorem bin_left {op : Operator} {b : Value} {fo ro : Option Value} {Q : Value → Shared → Prop} (fr : Fr h0 L s.heap m) (inK : K.In h0) (I : InstAt s.heap x ox C od) (hb : Looks (model prog w) s.heap (typeOf b) (.type T))
    (sf : selfFirst K C = true) (own : findIn K (.ref C) (PySem.dunder op.info.2) = some (some (.ref f))) (isf : isFn K (.ref f) = true) (nor : findIn K (.ref C) (dunderR op.info.2) = some none)
    (l1 : findIn K (.type T) (PySem.dunder op.info.2) = some fo) (l2 : findIn K (.type T) (dunderR op.info.2) = some ro) (ns : subIn K (.type T) (.ref C) = some false)
    (go : wpAny (model prog w) A (call (.ref f) [.ref x, b]) (PySem.W.CmpBack Q) E s) : wpAny (model prog w) A (binaryOp op (.ref x) b) Q E s := by
  have at0 := inK.keeps fr.keep
  obtain ⟨cd, rest, isC, mro⟩ := ksp_first sf
  rcases q : op.info with ⟨sy, n⟩
  rw [q] at own nor l1 l2
  dsimp only at own nor l1 l2
  have tried := ksp_try at0 I own isf go
  obtain ⟨hh, gg, dd, tt, os⟩ := s
  have k1 : Looks (model prog w) hh (typeOf (.ref x)) (.ref C) := I.type
  have k2 : Looks (model prog w) hh (typeOf b) (.type T) := hb
  have k3 : Looks (model prog w) hh (fillsNumberSlot (.ref C) n) true := fills_K at0 isC mro own
  have k4 := ksp_fillsT (M := model prog w) at0 l1 l2
  have k5 : Looks (model prog w) hh (isSubtype (.type T) (.ref C)) false := looks_subIn at0 ns
  have k6 : Looks (model prog w) hh (numberSlotInPython (.ref C) n) true := ksp_inPy at0 own nor (.inl rfl)
  have k7 : Looks (model prog w) hh (numberSlotInPython (.type T) n) false := Looks.of_pure rfl
  have k8 : Looks (model prog w) hh (typeLookup (.type T) (dunderR n)) ro := looks_findIn at0 l2
  generalize ((fo.isSome && !isSeqSlot fo) || (ro.isSome && !isSeqSlot ro)) = rt at k4
  have ne : (Value.ref C == Value.type T) = false := Bool.eq_false_iff.mpr fun z => by cases beq_iff_eq.mp z
  simp only [binaryOp, q]
  refine wpAny_holding (wpAny_bind ?_)
  unfold binaryOp1
  refine wpAny_bind (k1.at (wpAny_bind (k2.at (wpAny_bind (k3.at ?_)))))
  simp only [ne, Bool.false_eq_true, if_false]
  cases rt <;>
  · ksp_lk
    refine wpAny_mono tried (fun r s' z => ?_) fun _ _ z => z
    obtain ⟨v, rfl, z⟩ := z
    ksp_lk
    exact z
end
theorem or_look : ∀ T ∈ tysD, ∃ fo ro, PySem.fastLookup T "__or__" = some fo ∧ PySem.fastLookup T "__ror__" = some ro := by
  intro T hT
  unfold tysD at hT
  simp only [List.mem_cons, List.not_mem_nil, or_false] at hT
  rcases hT with rfl | rfl | rfl | rfl | rfl | rfl | rfl <;> exact ⟨_, _, rfl, rfl⟩
section
variable {X : Cx} {k k' : Nat} {C f : Addr} {ps : List Str} {sp : Sp} {E : XK} {fd : FuncData}
/-- o | y; y may be data -/
def rOrX (C : Addr) (K : PySem.W.Frag) (sp : Sp) (E : XK) : R2 := fun x y H Q => ∃ a dx fs, x = .ref a ∧ H a = some (.ins C dx fs) ∧ ((∃ b dy gs, y = .ref b ∧ H b = some (.ins C dy gs)) ∨ ∃ d, Dq K H y d) ∧ sp [.ref a, y] H Q E
theorem op_orX (sf : PySem.W.selfFirst X.K C = true) (hm : Meth X.K C "__or__" f) (nor : NoAttr X.K C "__ror__") (F : FnOk X.prog X.w X.K X.mg X.base (L2.CX X.prog X.w) k f fd ps sp) (hr : Room k X.A) (hb : Binds X.K fd ps []) (hx : Passes (L2.CX X.prog X.w) X E) : OpR X (binaryOp .BitOr) (rOrX C X.K sp E) := by
  intro pins s σ H x y v u Q I rx ry h
  obtain ⟨a, dx, fs, rfl, ha, hy, q⟩ := h
  cases rx
  obtain ⟨od, J⟩ := ins_look I ha
  obtain ⟨m, fr⟩ := I.fr
  have go : wpAny (model X.prog X.w) X.A (call (.ref f) [.ref a, u]) (PySem.W.CmpBack (EP X pins σ Q)) X.xe s :=
    wpAny_mono (run_fn (dvs := []) (ds := []) F hr hb .nil hx I (vs := [.ref a, y]) (.cons rfl (.cons ry .nil)) q) (fun u2 s1 z => by
      obtain ⟨v, H1, I1, rv, q1⟩ := z
      have hn := relv_ne rv
      cases u2 <;> first | exact ⟨v, H1, I1, rv, q1⟩ | exact (hn rfl).elim) fun _ _ e => e
  rcases hy with ⟨b, dy, gs, rfl, hb2⟩ | ⟨d, hd⟩
  · cases ry
    obtain ⟨oe, J2⟩ := ins_look I hb2
    exact PySem.W.binop_K fr I.ok.mod.kin J J2.type sf hm.at_ hm.fn go
  · obtain ⟨fo, ro, l1, l2⟩ := or_look _ (tyD_mem hd)
    exact bin_left (op := .BitOr) fr I.ok.mod.kin J (looks_data I hd ry) sf hm.at_ hm.fn nor l1 l2 (sub_data (tyD_mem hd)) go
theorem op_orXK {K : PySem.W.Frag} (hK : X.K = K) (sf : PySem.W.selfFirst K C = true) (hm : Meth K C "__or__" f) (nor : NoAttr K C "__ror__") (F : FnOk X.prog X.w K X.mg X.base (L2.CX X.prog X.w) k f fd ps sp) (hr : Room k X.A) (hb : Binds K fd ps []) (hx : Passes (L2.CX X.prog X.w) X E) : OpR X (binaryOp .BitOr) (rOrX C K sp E) := by
  subst hK
  exact op_orX sf hm nor F hr hb hx
end
end Z
/-! laws that hand lambdas on: what is known has no tables; walks; bodies that raise -/
namespace Z
open PySem PySem.Spec PyProof.Rows L2 Evl LamX
def NoT (H : Hp) : Prop := ∀ a ps, H a ≠ some (.tbl ps)
section
variable {K : PySem.W.Frag} {p : Me} {H H' A A' : Hp} {T : List (Addr × Str)} {σ : L2.St} {te ta tb tl : TE} {tu tz : TS} {D : Ends} {ds : List PyData}
theorem noT_nt : NoT (nt H) := fun a ps => nt_no
theorem ex_nt (e : Ex H H') (n : NoT H) : Ex H (nt H') := fun a o h => nt_at (e a o h) fun ps z => n a ps (by rw [h, z])
theorem nt_mono (e : Ex H H') : Ex (nt H) (nt H') := ex_nt (nt_ex.trans e) noT_nt
theorem sql_nt {a : Addr} {xs : List V} (h : SqL K H a xs) : SqL K (nt H) a xs := by
  rcases h with (h | ⟨o, h⟩) | h
  · exact .inl (.inl (nt_at h fun _ => by simp))
  · exact .inl (.inr ⟨o, nt_at h fun _ => by simp⟩)
  · exact .inr h
/-- at the start: all that is tracked but tables -/
theorem reg_nt (A : Hp) : Reg .non (nt A) A := ⟨nt_ex, (fun q h => nomatch h), (fun q h => nomatch h), (fun q o h => nomatch h), (fun q o h => nomatch h)⟩
theorem tabs_nil {cs : List (Addr × Str)} (h : ∀ q ∈ cs, A q.1 = some (.tbl #[])) : Tabs cs A := fun q hq => TabS.nil (h q hq)
/-- over a list, what is known having no tables -/
theorem s_forLn {j : Nat} (h : EvD K p tl σ H (.list ds)) (R : Reg p H A) (I : Iv) (h0 : ∀ A1 H1, Gr p A H A1 H1 → I 0 σ A1 (nt H1) p.own)
    (hs : ∀ H1, NoT H1 → Ex (nt H) H1 → ∀ i d v σ' A' H' w, ds[i]? = some d → I i σ' A' H' w → Ex H1 H' → Reg ⟨p.pool, w⟩ H' A' → Dq K H' v d → tu { D with nx := Nx p (I (i + 1)) H1, ct := Nx p (I (i + 1)) H1, bk := D.nx } (σ'.set j (some v)) A')
    (hd : ∀ σ' A' H' w, I ds.length σ' A' H' w → Ex (nt H) H' → Reg ⟨p.pool, w⟩ H' A' → D.nx σ' A') : tFor (iList K tl) (gName j) tu D σ A := h A R _ fun v A1 H1 g1 k1 => by
  obtain ⟨a, xs, rfl, sq, el⟩ := dq_inv_l (dq_nt _ _ k1)
  have R1 : Reg p (nt H1) A1 := (g1.to R).less nt_ex
  have ln := dqall_len el
  refine ⟨a, rfl, ⟨xs, sq_of (R1.ex _ _ sq)⟩, loop_w (walk_list (K := K) (a := a) (xs := xs)) I R1 (fun H' A' w e r => sq_of ((e.trans r.ex) _ _ sq)) (h0 A1 H1 g1) ?_ ?_⟩
  · rintro i x σ' A' A2 H' w hi hI e r ⟨rfl, hx⟩
    have hi' : i < ds.length := by omega
    obtain ⟨v, hv, kv⟩ := dqall_get el (List.getElem?_eq_getElem hi')
    rw [hx] at hv
    cases hv
    exact hs (nt H1) noT_nt (nt_mono g1.reg) i _ x σ' A2 H' w (List.getElem?_eq_getElem hi') hI e r (dq_ex e _ _ kv)
  · intro σ' A' H' w hI e r
    rw [ln] at hI
    exact hd σ' A' H' w hI ((nt_mono g1.reg).trans e) r
/-- over range(n), likewise -/
theorem s_forRn {tr : TA} {j : Nat} {n : Int} (h : EvS K p tr σ H [.int n]) (hn : -1000000 ≤ n ∧ n ≤ 1000000) (R : Reg p H A) (I : Iv) (h0 : ∀ A1 H1, Gr p A H A1 H1 → I 0 σ A1 (nt H1) p.own)
    (hs : ∀ H1, NoT H1 → Ex (nt H) H1 → ∀ (i : Nat) σ' A' H' w, (i : Int) < n → I i σ' A' H' w → Ex H1 H' → Reg ⟨p.pool, w⟩ H' A' → tu { D with nx := Nx p (I (i + 1)) H1, ct := Nx p (I (i + 1)) H1, bk := D.nx } (σ'.set j (some (.int (i : Int)))) A')
    (hd : ∀ σ' A' H' w, I n.toNat σ' A' H' w → Ex (nt H) H' → Reg ⟨p.pool, w⟩ H' A' → D.nx σ' A') : tFor (iRng1 tr) (gName j) tu D σ A := h A R _ fun vs A1 H1 g1 k1 => by
  cases k1 with | cons c1 c2 =>
  cases c2
  cases c1
  have R1 : Reg p (nt H1) A1 := (g1.to R).less nt_ex
  refine ⟨_, rfl, by omega, by omega, loop_w (walk_range (lo := 0) (n := n.toNat)) I R1 (fun H' A' w e r => trivial) (h0 A1 H1 g1) ?_ ?_⟩
  · rintro i x σ' A' A2 H' w hi hI e r ⟨rfl, rfl⟩
    have e0 : (0 : Int) + (i : Int) = (i : Int) := Int.zero_add _
    show tu _ (σ'.set j (some (.int ((0 : Int) + (i : Int))))) A2
    rw [e0]
    exact hs (nt H1) noT_nt (nt_mono g1.reg) i σ' A2 H' w (by omega) hI e r
  · intro σ' A' H' w hI e r
    exact hd σ' A' H' w hI ((nt_mono g1.reg).trans e) r
/-! bodies that raise C, the field of P -/
def Rz (C : Addr) (fld : Str) (p : Me) (tb : XK → TE) (σ : L2.St) (H : Hp) (P : V → Hp → Prop) : Prop := ∀ A, Reg p H A → ∀ (E : XK) (Q : VK), (∀ v dd A' H', Gr p A H A' H' → H' dd = some (.xd [(fld, v)]) → P v H' → E (.ref C) (some dd) A') → tb E σ A Q
variable {C Ce : Addr} {fld : Str} {F : List V → Hp → (V → Hp → Prop) → Prop} {P Px Py : V → Hp → Prop} {t : TA} {Pa : List V → Hp → Prop}
theorem rz_call (h : EvA p t σ H Pa) (hF : ∀ vs H', Ex H H' → Pa vs H' → F vs H' P) : Rz Ce fld p (fun E => tCallS (SpR Ce fld F) (WE fun cls d _ H => E cls d H) t) σ H P := fun A R E Q k =>
  h A R _ fun vs A1 H1 g1 k1 => by
    have R1 := g1.to R
    exact ⟨H1, P, R1.nil, hF vs H1 g1.reg k1, fun v dd A2 H2 g2 e2 k2 => k v dd A2 H2 (g1.trans (g2.pure R1)) e2 k2⟩
theorem rz_make (h : EvA p t σ H Pa) (ma : ∀ vs H1 H2, Ex H1 H2 → Pa vs H1 → Pa vs H2) (hF : ∀ vs H', Ex H H' → Pa vs H' → F vs H' P) : Rz Ce fld p (fun E => tMake C (SpRI C Ce fld F) [] E t) σ H P := fun A R E Q k =>
  h A R _ fun vs A1 H1 g1 k1 x dx hx hdx ne => by
    have R1 := g1.to R
    have gd := Gr.alloc R1.nil (o := .own x) hdx
    have Rd := gd.to R1.nil
    have hx2 : upd A1 dx (.own x) x = none := by rw [upd_ne (fun z => ne z.symm)]; exact hx
    have gx := Gr.allocM Rd (o := .ins C dx []) hx2
    rw [List.append_nil]
    exact ⟨upd H1 dx (.own x), x, dx, vs, P, rfl, Reg.one Rd hx2, hF vs _ (g1.reg.trans gd.reg) (ma _ _ _ gd.reg k1), fun v dd A' H' r e last hd pv => k v dd A' H' (g1.trans ((last A1 H1 hx (gd.trans gx)).pure R1)) hd pv⟩
theorem rz_meth {m : Str} (hx : EvG p ta σ H Px) (mx : Mono Px) (iso : ∀ v H, Px v H → ∃ a dx fs, v = .ref a ∧ H a = some (.ins C dx fs) ∧ fs.lookup m = none) (hy : EvG p tb σ H Py) (my : Mono Py) (hF : ∀ x y H', Ex H H' → Px x H' → Py y H' → F [x, y] H' P) :
    Rz Ce fld p (fun E => tMeth C m (SpR Ce fld F) [] E ta (tCons tb tNil)) σ H P := fun A R E Q k => hx A R _ fun v A1 H1 g1 k1 => by
  obtain ⟨a, dx, fs, rfl, ha, hl⟩ := iso v H1 k1
  have R1 := g1.to R
  refine ⟨a, dx, fs, rfl, R1.ex _ _ ha, hl, (hy.monoP my g1.reg) A1 R1 _ fun y A2 H2 g2 k2 => ?_⟩
  have R2 := g2.to R1
  exact ⟨H2, P, R2.nil, hF _ y H2 (g1.reg.trans g2.reg) (mx _ _ _ g2.reg k1) k2, fun v dd A3 H3 g3 e3 k3 => k v dd A3 H3 ((g1.trans g2).trans (g3.pure R2)) e3 k3⟩
theorem rz_or (hx : EvG p ta σ H Px) (mx : Mono Px) (iso : ∀ v H, Px v H → IsO C v H) (hy : EvG p tb σ H Py) (my : Mono Py) (isy : ∀ v H, Py v H → IsO C v H ∨ ∃ d, Dq K H v d) (hF : ∀ x y H', Ex H H' → Px x H' → Py y H' → F [x, y] H' P) :
    Rz Ce fld p (fun E => tOp (rOrX C K (SpR Ce fld F) E) ta tb) σ H P := fun A R E Q k => hx A R _ fun x A1 H1 g1 k1 => (hy.monoP my g1.reg) A1 (g1.to R) _ fun y A2 H2 g2 k2 => by
  have R2 := g2.to (g1.to R)
  have kx := mx _ _ _ g2.reg k1
  obtain ⟨a, dx, fs, rfl, ha⟩ := iso x H2 kx
  refine ⟨a, dx, fs, rfl, R2.ex _ _ ha, ?_, H2, P, R2.nil, hF _ y H2 (g1.reg.trans g2.reg) kx k2, fun v dd A3 H3 g3 e3 k3 => k v dd A3 H3 ((g1.trans g2).trans (g3.pure R2)) e3 k3⟩
  rcases isy y H2 k2 with ⟨b, dy, gs, h1, h2⟩ | ⟨d, h1⟩
  · exact .inl ⟨b, dy, gs, h1, R2.ex _ _ h2⟩
  · exact .inr ⟨d, dq_ex R2.ex _ _ h1⟩
/-- what is known is handed on as it is -/
theorem g_val {v : V} (mp : Mono P) (k : P v H) : EvG p (fun σ H Q => Q v H) σ H P := fun A R Q q => q v A H R.refl k
end
/-! an error raised in a lambda's body -/
theorem takes_lam {X : Cx} {A : Around} {outer : List Env} {s : Shared} {H : Hp} {E : XK} {scope : Scope} {f c' : Addr} : Takes (lamCx X A outer s H E scope f c') (fun cls d _ H => E cls d H) := takes_of rfl rfl rfl rfl
theorem pass_lam {X : Cx} {A : Around} {outer : List Env} {s : Shared} {H : Hp} {E : XK} {scope : Scope} {f c' : Addr} : Passes (L2.CX X.prog X.w) (lamCx X A outer s H E scope f c') E := passes_call takes_lam fun _ _ _ _ h => h
end Z
/-! a law whose defs have tables (lambdas): its def, its end, the head's facts -/
namespace Z
open PySem PySem.Spec PyProof.Rows L2 Evl LamX
/-- as fnG_of; the def's own code object is told -/
theorem fnG_ofC {P : Program} {w : World} {K : PySem.W.Frag} {mg : Str → Option Value} {base : Heap} {x qual : Str} {params : Arguments} {body : List Stmt} {scope : Scope} {dvs : List V} {kws : List (Str × V)} {f : Addr} {fd : FuncData} {N ps : List Str} {k : Nat} {sp : Sp} (F : FunD K x qual params body scope dvs kws f fd) (S : FnScope N ps scope)
    (ln : ∀ vs H Q E, sp vs H Q E → vs.length = ps.length)
    (hB : ∀ (A : Around) (outer : List Env) (s : Shared) (H : Hp) (vs : List V) (Q : VK) (E : XK), A.guards = some [] → Room k (A.deeper (envOfC qual scope s.heap.objs.size f fd.code)) → sp vs H Q E →
      ∃ t, PSs (cxOf CX0 P w K mg base N qual scope f fd.code A outer s H E) body t ∧ t { nx := fun _ G => Q .non G, rt := Q } (start N vs) H) : FnG P w K mg base (k + 1) f fd ps sp := by
  obtain ⟨oc, od, dV, kV, doc, pm, an, cdv, ct, osl, rfl, lk, cd, _, _⟩ := F.ex
  refine ⟨ln, fun A outer s H args us vs Q E gd room env bnd rv promise => ?_⟩
  have lenV := ln _ _ _ _ promise
  have inK : K.In s.heap := env.mod.kin.keeps (fun b o z => (env.bs b o z).1)
  have noL : s.heap.NoLimit := env.mod.nolimit.keeps (fun b o z => (env.bs b o z).1)
  have kinds : ∀ y ∈ ps.zip us, scope.names.lookup y.1 = some .local ∨ (scope.names.lookup y.1 = some .cell ∧ ((cellsFrom (s.heap.objs.size + 1) scope.names []).lookup y.1).isSome = true) := by
    rintro ⟨n, v⟩ hy
    cases S.par n (List.of_mem_zip hy).1 with
    | inl z => exact .inl z
    | inr z => exact .inr ⟨z, PySem.W.cellsFrom_some _ _ _ (.inl z)⟩
  refine codeAny_call_function room.depth (inK _ _ lk) rfl S.co S.gen rfl (PySem.W.codeRec_of inK cd) (bnd _ _ _ _ (wpAny_newFunctionEnv_cells S.kind kinds ?_))
  intro e he s1 z
  cases he
  refine ⟨noL.keeps z.toInCall.keep, codeAny_func ?_⟩
  obtain ⟨t, ht, hq⟩ := hB A outer s H vs Q E gd (room.deeper _) promise
  have J0 := inv_start (N := N) S room.hd env lenV rv z (E := E) (CX := CX0)
  refine wpAny_mono (ht.run [] s1 (start N vs) H _ J0 hq) (fun fl s' hs => ?_) (fun _ _ hs => hs)
  cases fl with
  | ret u =>
    obtain ⟨v, σ', H', J, r, q⟩ := hs
    exact ⟨v, H', J.os, J.bare, J.base, J.hok, r, q⟩
  | next =>
    obtain ⟨σ', H', J, q⟩ := hs
    exact ⟨.non, H', J.os, J.bare, J.base, J.hok, rfl, q⟩
  | brk => exact hs.elim fun _ h => h.elim fun _ h => False.elim h.2
  | cont => exact hs.elim fun _ h => h.elim fun _ h => False.elim h.2
section
variable {P : Program} {w : World} {K : PySem.W.Frag} {mg mb : Str → Option Value} {k : Nat} {fa a : Addr} {fd : FuncData} {x : Str} {sp : Sp} {s1 : Shared} {vs : List Value} {ns : List Int} {cs : List (Addr × Addr)}
abbrev bare0 : Obj := { cls := .none, data := .fields #[] }
abbrev OneOf (cs : List (Addr × Addr)) (b : Addr) : Prop := ∃ q ∈ cs, b = q.2
theorem callT_core (KX : K.In s1.heap) (hns : s1.heap.Ns mainGlobals mg) (hb : s1.heap.Ns builtinsNs mb) (hbb : ∀ x : Str, x ≠ "__name__" → mb x = bootBuiltins x) (nl : s1.heap.NoLimit) (gn : s1.gens = #[])
    (empty : ∀ q ∈ cs, s1.heap.get? q.2 = some bare0) (out : ∀ q ∈ cs, K.lookup q.2 = none) (code : ∀ q ∈ cs, PySem.W.codeHdIn K q.1 q.2 = true)
    (bmod : ∃ (bm : Addr) (o : Obj), mg "__builtins__" = some (.ref bm) ∧ bm ≠ builtinsNs ∧ s1.heap.get? bm = some o ∧ o.cls = .type "module" ∧ o.dict = some builtinsNs ∧ o.data = .plain)
    (ha : s1.heap.get? a = some { cls := .type "list", data := .seq vs.toArray }) (room : Room k callerA)
    (F : ∀ base : Heap, K.In base → base.Ns mainGlobals mg → (∀ q ∈ cs, TabB base mg q.1 q.2) → FnG P w K mg base k fa fd [x] sp) (bnd : ∀ (s : Shared) (u : Value), BindsTo s fd ⟨[u], []⟩ [(x, u)])
    (H : Hp) (only : ∀ b, H b = none ∨ OneOf cs b ∨ ∃ o xs, H b = some (.frz o (.lst xs))) (tabs : ∀ q ∈ cs, H q.2 = some (.tbl #[])) (promise : sp [.ref a] H (fun v _ => v = .bl true) fun _ _ _ => False)
    (ok : HOk P w H s1.heap) (isA : ∀ b, H b ≠ none → b = a ∨ OneOf cs b) (notK : H a ≠ none → K.lookup a = none) :
    codeAny (model P w) callerA (.call (.ref fa) ⟨[.ref a], []⟩) (fun r s' => r = .ok (.ret (.bool true)) ∧ OldK s1.heap s'.heap ∧ s'.os = s1.os ∧ AllBare s'.gens) s1 := by
  let B := hidT s1.heap H
  have toB : ∀ {b : Addr} {o : Obj}, s1.heap.get? b = some o → H b = none → B.get? b = some o := hidT_get
  -- what is neither the script nor a table is not tracked
  have free : ∀ {b : Addr} {o : Obj}, s1.heap.get? b = some o → (∀ xs n, o.data ≠ .seq xs n) → o.data ≠ .fields #[] → H b = none := by
    intro b o e n1 n2
    cases q : H b with
    | none => rfl
    | some u =>
      rcases isA b (by rw [q]; exact fun z => nomatch z) with rfl | ⟨r, hr, rfl⟩
      · rw [ha] at e
        cases e
        exact absurd rfl (n1 _ _)
      · rw [empty r hr] at e
        cases e
        exact absurd rfl n2
  have nsB : ∀ {b : Addr} {m : Str → Option Value}, s1.heap.Ns b m → B.Ns b m := by
    rintro b m ⟨o, es, ep, e, d, r⟩
    exact ⟨o, es, ep, toB e (free e (fun _ _ z => by rw [d] at z; cases z) fun z => by rw [d] at z; cases z), d, r⟩
  have inB : K.In B := fun b o e => toB (KX b o e) (by
    cases q : H b with
    | none => rfl
    | some u =>
      rcases isA b (by rw [q]; exact fun z => nomatch z) with rfl | ⟨r, hr, rfl⟩
      · rw [notK (by rw [q]; exact fun z => nomatch z)] at e
        cases e
      · rw [out r hr] at e
        cases e)
  have tB : ∀ q ∈ cs, TabB B mg q.1 q.2 := by
    intro q hq
    have eq := empty q hq
    refine ⟨PySem.W.codeHd_of_K inB (code q hq), ?_, ?_⟩
    · obtain ⟨bm, o, m1, m2, m3, m4, m5, m6⟩ := bmod
      refine ⟨bm, o, m1, m2, ?_, ?_, toB m3 (free m3 (fun _ _ z => by rw [m6] at z; cases z) fun z => by rw [m6] at z; cases z), m4, m5, m6⟩
      · rintro rfl
        obtain ⟨o', es, ep, e, d, _⟩ := hns
        rw [m3] at e
        cases e
        rw [m6] at d
        cases d
      · rintro rfl
        rw [m3] at eq
        cases eq
        cases m6
    · intro z
      obtain ⟨o', es, ep, e, d, _⟩ := hns
      rw [z, eq] at e
      cases e
      cases d
  obtain ⟨mc, nl1, nl2⟩ := nl
  have md : Mod K mg B := ⟨inB, nsB hns, ⟨mb, nsB hb, hbb⟩, mc, nsB nl1, nl2⟩
  have env : Env0 P w K mg B callerA [] s1 H := ⟨rfl, md, fun b o e => of_hidT e, Nat.le_of_eq (hidT_size _ _), trivial, (fun b z => nomatch z), ok, .of_eq gn⟩
  have go := (F B inB (nsB hns) tB).run callerA [] s1 H ⟨[.ref a], []⟩ [.ref a] [.ref a] _ _ rfl room env (bnd s1 (.ref a)) (.cons rfl .nil) promise
  refine codeAny_mono go fun r s' h => ?_
  match r, h with
  | .error e, h => exact h.elim
  | .ok .next, h => exact False.elim h
  | .ok .brk, h => exact False.elim h
  | .ok .cont, h => exact False.elim h
  | .ok (.ret u), ⟨v, H', os, bare, un, ok', rv, q⟩ =>
    cases (show v = .bl true from q)
    cases (show u = Value.bool true from rv)
    have more : ∀ q ∈ cs, ∃ m : Array Value, s'.heap.get? q.2 = some { cls := .none, data := .fields m } := fun q hq => by
      obtain ⟨m, z⟩ := un.tbls q.2 #[] (tabs q hq)
      exact ⟨_, ok' q.2 _ z⟩
    have stays : ∀ b o, ¬ OneOf cs b → s1.heap.get? b = some o → s'.heap.get? b = some o := by
      intro b o nb e
      cases q : H b with
      | none => exact un.keep b o e q (fun z => nomatch z) (fun z => nomatch z)
      | some u =>
        rcases only b with z | z | ⟨ob, xs, z⟩
        · rw [q] at z
          cases z
        · exact absurd z nb
        · have e1 := (ok b _ z).1
          have e2 := (ok' b _ (un.frzs b ob _ z)).1
          rw [e] at e1
          cases e1
          exact e2
    refine ⟨rfl, ⟨?_, ?_⟩, os, bare⟩
    · intro b o e
      by_cases c : OneOf cs b
      · obtain ⟨q, hq, rfl⟩ := c
        obtain ⟨m, hm⟩ := more q hq
        rw [empty q hq] at e
        cases e
        have hd := PySem.W.codeHd_of_K KX (code q hq)
        exact .inr (.inl ⟨(hd.tab (empty q hq)).isCodeTable, rfl, #[], m, rfl, by rw [hm, Array.empty_append]⟩)
      · exact .inl (stays b o c e)
    · intro b o e
      by_cases c : OneOf cs b
      · obtain ⟨q, hq, rfl⟩ := c
        obtain ⟨m, hm⟩ := more q hq
        exact ⟨_, hm⟩
      · exact ⟨o, stays b o c e⟩
theorem callT_all (KX : K.In s1.heap) (hns : s1.heap.Ns mainGlobals mg) (hb : s1.heap.Ns builtinsNs mb) (hbb : ∀ x : Str, x ≠ "__name__" → mb x = bootBuiltins x) (nl : s1.heap.NoLimit) (gn : s1.gens = #[])
    (empty : ∀ q ∈ cs, s1.heap.get? q.2 = some bare0) (out : ∀ q ∈ cs, K.lookup q.2 = none) (code : ∀ q ∈ cs, PySem.W.codeHdIn K q.1 q.2 = true)
    (bmod : ∃ (bm : Addr) (o : Obj), mg "__builtins__" = some (.ref bm) ∧ bm ≠ builtinsNs ∧ s1.heap.get? bm = some o ∧ o.cls = .type "module" ∧ o.dict = some builtinsNs ∧ o.data = .plain)
    (ha : s1.heap.get? a = some { cls := .type "list", data := .seq vs.toArray }) (wholes : IntsAre vs ns) (sz : ns.length ≤ sizeLine) (room : Room k callerA)
    (F : ∀ base : Heap, K.In base → base.Ns mainGlobals mg → (∀ q ∈ cs, TabB base mg q.1 q.2) → FnG P w K mg base k fa fd [x] sp) (bnd : ∀ (s : Shared) (u : Value), BindsTo s fd ⟨[u], []⟩ [(x, u)])
    (promise : ∀ H : Hp, (∀ q ∈ cs, H q.2 = some (.tbl #[])) → SqL K H a (ns.map V.int) → sp [.ref a] H (fun v _ => v = .bl true) fun _ _ _ => False) :
    codeAny (model P w) callerA (.call (.ref fa) ⟨[.ref a], []⟩) (fun r s' => r = .ok (.ret (.bool true)) ∧ OldK s1.heap s'.heap ∧ s'.os = s1.os ∧ AllBare s'.gens) s1 := by
  classical
  have rv := vals_ints wholes
  have na : ¬ OneOf cs a := by
    rintro ⟨q, hq, rfl⟩
    have z := empty q hq
    rw [ha] at z
    have z2 : Data.seq vs.toArray _ = Data.fields #[] := congrArg Obj.data (Option.some.inj z)
    cases z2
  let T : Hp := fun b => if OneOf cs b then some (.tbl #[]) else none
  have tT : ∀ q ∈ cs, T q.2 = some (.tbl #[]) := fun q hq => if_pos ⟨q, hq, rfl⟩
  have tN : ∀ b, ¬ OneOf cs b → T b = none := fun b h => if_neg h
  cases lk : K.lookup a with
  | some o =>
    have e := KX a o lk
    rw [ha] at e
    cases e
    refine callT_core KX hns hb hbb nl gn empty out code bmod ha room F bnd T (fun b => ?_) tT (promise T tT (.inr ⟨_, vs.toArray, _, lk, rfl, rfl, rfl, by rw [List.size_toArray, wholes.length]; exact sz, by simpa using rv⟩)) (fun b u z => ?_) (fun b z => ?_) fun z => absurd (tN a na) z
    · by_cases c : OneOf cs b
      · exact .inr (.inl c)
      · exact .inl (tN b c)
    · by_cases c : OneOf cs b
      · obtain ⟨q, hq, rfl⟩ := c
        rw [tT q hq] at z
        cases z
        exact empty q hq
      · rw [tN b c] at z
        cases z
    · by_cases c : OneOf cs b
      · exact .inr c
      · exact absurd (tN b c) z
  | none =>
    let G : Hp := upd T a (.frz { cls := .type "list", data := .seq vs.toArray } (.lst (ns.map V.int)))
    have ga : G a = some (.frz { cls := .type "list", data := .seq vs.toArray } (.lst (ns.map V.int))) := upd_same
    have gT : ∀ b, b ≠ a → G b = T b := fun b z => upd_ne z
    have gt : ∀ q ∈ cs, G q.2 = some (.tbl #[]) := fun q hq => by
      rw [gT _ fun z => na ⟨q, hq, z.symm⟩]
      exact tT q hq
    refine callT_core KX hns hb hbb nl gn empty out code bmod ha room F bnd G (fun b => ?_) gt (promise G gt (.inl (.inr ⟨_, ga⟩))) (fun b u z => ?_) (fun b z => ?_) fun _ => lk
    · by_cases c : b = a
      · subst c; exact .inr (.inr ⟨_, _, ga⟩)
      · by_cases c2 : OneOf cs b
        · exact .inr (.inl c2)
        · exact .inl ((gT b c).trans (tN b c2))
    · by_cases c : b = a
      · subst c
        rw [ga] at z
        cases z
        exact ⟨ha, by rw [List.length_map]; exact sz, vs, _, rv, ha⟩
      · rw [gT b c] at z
        by_cases c2 : OneOf cs b
        · obtain ⟨q, hq, rfl⟩ := c2
          rw [tT q hq] at z
          cases z
          exact empty q hq
        · rw [tN b c2] at z
          cases z
    · by_cases c : b = a
      · exact .inl c
      · by_cases c2 : OneOf cs b
        · exact .inr c2
        · exact absurd ((gT b c).trans (tN b c2)) z
end
/-- as walk_ofG, with tables -/
theorem walk_ofGT {l : PySem.W.OpenLaw} {n k : Nat} {q : Program} {loose : List Str} {XP : (Str → Option Value) → Heap → Prop} {YP : World → Heap → Prop} {d : DefRec} {x : Str} (most : l.most = some n) (few : n ≤ sizeLine) (nodef : d.params.defaults = []) (room : Room k callerA)
    (F : ∀ (w : World) (mg : Str → Option Value) (fa : Addr) (h : Heap), YP w h → h.Ns mainGlobals mg → mg d.name = some (.ref fa) →
      ∃ (K : PySem.W.Frag) (fd : FuncData) (cs : List (Addr × Addr)) (sp : Sp), K.In h ∧ (∀ q ∈ cs, h.get? q.2 = some bare0) ∧ (∀ q ∈ cs, K.lookup q.2 = none) ∧ (∀ q ∈ cs, PySem.W.codeHdIn K q.1 q.2 = true) ∧ (∀ (s : Shared) (u : Value), BindsTo s fd ⟨[u], []⟩ [(x, u)]) ∧
        (∀ (H : Hp) (a : Addr) (ns : List Int), ns.length ≤ n → (∀ q ∈ cs, H q.2 = some (.tbl #[])) → SqL K H a (ns.map V.int) → sp [.ref a] H (fun v _ => v = .bl true) fun _ _ _ => False) ∧
        ∀ base : Heap, K.In base → base.Ns mainGlobals mg → (∀ q ∈ cs, TabB base mg q.1 q.2) → FnG l.prog w K mg base k fa fd [x] sp) :
    PySem.W.WalkO q loose XP YP l.row.toRowW d [] (fun f vs => PySem.call f vs) := by
  refine Att.attach_call most nodef ?_
  intro w s0 s1 mg mb fa o pm cd doc a vs ns G Y ho hd hcd hmg hobj wholes len gens
  obtain ⟨K, fd, cs, sp, inK, empty, out, code, bnd, promise, ok⟩ := F w mg fa _ Y G.T.g hmg
  exact callT_all inK G.T.g G.T.b G.T.builtins G.T.nolimit gens empty out code G.T.bmain hobj wholes (Nat.le_trans len few) room ok bnd fun H tb sq => promise H a ns len tb sq
/-! the head's facts, with tables -/
def obsPT (n : Nat) (fa : List He.Fa) (fn : List He.DefD) (tf : List He.Defn) (ex : PySem.W.Frag → Bool) (gs : List GetD) (g : Addr → Option Obj) : AlP := (He.obsX n fa fn [] tf ex g, getsA (He.frT g (He.asD g n)) gs)
def hookPT (n : Nat) (fa : List He.Fa) (fn : List He.DefD) (tf : List He.Defn) (ex : PySem.W.Frag → Bool) (gs : List GetD) : PySem.W.Hook where
  α := AlP
  obs := fun s => obsPT n fa fn tf ex gs s.heap.get?
  val := fun w => (He.valX fn [] w, gs.map GetD.val)
  says := fun w h => ∃ K : PySem.W.Frag, K.In h ∧ He.SaysX fa fn [] tf ex w h K ∧ getsA K gs = gs.map GetD.val
  of := fun _ _ e => ⟨_, He.frT_in, He.saysX_of (congrArg (fun z : AlP => z.1) e), congrArg (fun z : AlP => z.2) e⟩
  keeps := fun _ _ _ ⟨K, hK, c, cg⟩ k => ⟨K, PySem.W.Frag.In.keeps hK k, ⟨c.t, c.more, c.hd, c.out, fun p hp => k _ _ (c.empty p hp)⟩, cg⟩
theorem obsPT_eq {n : Nat} {fa : List He.Fa} {fn : List He.DefD} {tf : List He.Defn} {ex : PySem.W.Frag → Bool} {gs : List GetD} {g : Addr → Option Obj} {s : Shared} (h : ∀ a, g a = s.heap.get? a) : obsPT n fa fn tf ex gs g = (hookPT n fa fn tf ex gs).obs s := by
  have e : g = s.heap.get? := funext h
  rw [e] <;> rfl
end Z
namespace Q43
open PySem PySem.Spec PyProof.Rows L2 Z Evl LamX
abbrev qL : Str := "law" ++ ".<locals>." ++ "<lambda>"
def spLaw (K : PySem.W.Frag) (cs : List (Addr × Addr)) : Sp := fun vs H Q _ => ∃ (a : Addr) (ns : List Int), vs = [.ref a] ∧ SqL K H a (ns.map V.int) ∧ ns.length ≤ 1000 ∧ (∀ q ∈ cs, H q.2 = some (.tbl #[])) ∧ ∀ H', Q (.bl true) H'
abbrev s_law : Stmt := top 27
abbrev N_law : List Str := ["_law_script", "_law_odds", "_law_k", "_law_pool_here", "_law_odd", "_law_last", "_law_rows", "_law_wide", "_law_space", "_law_far", "_law_other"]
theorem sc_law : FnScope N_law ["_law_script"] (defScope s_law) := ⟨rfl, rfl, rfl, by decide +kernel, rfl, by decide +kernel, by decide +kernel⟩
theorem start_law {v : V} : start N_law [v] = [some v, none, none, none, none, none, none, none, none, none, none] := rfl
/-! the helpers, called with a lambda -/
section
variable {X : Cx} {k : Nat} {Ce CF CT c Pt : Addr} {params : Arguments} {body : Expr} {scope : Scope} {t : XK → TE} {q : Str} {p lpos pos : Pos}
theorem pe_heard (Hx : St X.K X.mg "_law_heard" s__law_heard ["_law_call"]) (Hr : Hear X.K X.mg CF Ce CT) (B : Bs X.mg) (m_repr : X.mg "repr" = none) (gd : X.A.guards = some []) (TB : TabB X.base X.mg c Pt) (hc : X.env.code = .ref c) (hq : X.env.qual ++ "<lambda>" = q) (hr : Room (k + 2) X.A) (hg : Gl X "_law_heard") (L : LamS X.env.scope scope)
    (hbody : ∀ (A : Around) (outer : List Env) (s : Shared) (H : Hp) (E : XK) (f c' : Addr), Room k (A.deeper (lamEnv X scope s.heap.objs.size f c')) → Takes (lamCx X A outer s H E scope f c') (fun cls d _ H => E cls d H) → Passes (L2.CX X.prog X.w) (lamCx X A outer s H E scope f c') E → PE (lamCx X A outer s H E scope f c') body (t E))
    (hdef : defaultsOf params X.env = ([], []) := by rfl) (hbind : ∀ (q : Str) (cl : List (Str × Addr)) (pm cv ctv : Value), bindArgs (PySem.W.kla_fn "<lambda>" q params body scope cl pm cv ctv) ⟨[], []⟩ = pure [] := by exact fun _ _ _ _ _ => rfl) :
    PE X (.Call (.Name "_law_heard" p) [.Lambda params body scope lpos] [] pos) (tLam [(Pt, q)] (TTheard X.K Ce) t) := by
  obtain ⟨g, fd, F, m, b⟩ := Hx
  obtain ⟨oc, od, dV, kV, doc, pm, an, cdv, ct, osl, rfl, lk, cd, _, _⟩ := F.ex
  subst hq
  exact pe_lamcall hg m F.kp lk cd b sc__law_heard rfl (.inl rfl) (heard_gives Hr B m_repr gd (hr.mono (by omega))) TB hc (List.mem_cons_self ..) (fun p hp _ => by rw [List.mem_singleton.mp hp]) hr L hdef hbind fun A outer s H E f c' hr' => hbody A outer s H E f c' hr' takes_lam pass_lam
theorem pe_val (Hx : St X.K X.mg "_law_value" s__law_value ["_law_call"]) (mR : X.mg "InvalidRow" = some (.ref Ce)) (exm : PySem.W.exmOne X.K (.ref Ce) (.ref Ce) = some true) (xf : XfC X.K Ce) (no : PySem.W.findIn X.K (.ref Ce) "value" = some none) (TB : TabB X.base X.mg c Pt) (hc : X.env.code = .ref c) (hq : X.env.qual ++ "<lambda>" = q) (hr : Room (k + 2) X.A) (hg : Gl X "_law_value") (L : LamS X.env.scope scope)
    (hbody : ∀ (A : Around) (outer : List Env) (s : Shared) (H : Hp) (E : XK) (f c' : Addr), Room k (A.deeper (lamEnv X scope s.heap.objs.size f c')) → Takes (lamCx X A outer s H E scope f c') (fun cls d _ H => E cls d H) → Passes (L2.CX X.prog X.w) (lamCx X A outer s H E scope f c') E → PE (lamCx X A outer s H E scope f c') body (t E))
    (hdef : defaultsOf params X.env = ([], []) := by rfl) (hbind : ∀ (q : Str) (cl : List (Str × Addr)) (pm cv ctv : Value), bindArgs (PySem.W.kla_fn "<lambda>" q params body scope cl pm cv ctv) ⟨[], []⟩ = pure [] := by exact fun _ _ _ _ _ => rfl) :
    PE X (.Call (.Name "_law_value" p) [.Lambda params body scope lpos] [] pos) (tLam [(Pt, q)] (TTvalue Ce) t) := by
  obtain ⟨g, fd, F, m, b⟩ := Hx
  obtain ⟨oc, od, dV, kV, doc, pm, an, cdv, ct, osl, rfl, lk, cd, _, _⟩ := F.ex
  subst hq
  exact pe_lamcall hg m F.kp lk cd b sc__law_value rfl (.inl rfl) (value_gives mR exm xf no) TB hc (List.mem_cons_self ..) (fun p hp _ => by rw [List.mem_singleton.mp hp]) hr L hdef hbind fun A outer s H E f c' hr' => hbody A outer s H E f c' hr' takes_lam pass_lam
end
/-! readings -/
section
variable {K : PySem.W.Frag} {p : Me} {σ : L2.St} {H A : Hp} {T : List (Addr × Str)} {Ce C : Addr} {tb : XK → TE} {tr : TE} {tz tu : TS} {D : Ends} {dat : PyData} {P : V → Hp → Prop}
theorem own_not (h : p.own = fun _ => none) : ∀ q o, p.own q = some o → ∀ ps, o ≠ .tbl ps := fun q o e => by rw [h] at e; cases e
theorem heard_ev (R : Reg p H A) (tabs : Tabs T A) (ho : p.own = fun _ => none) (sw : ShowOk dat) (hb : Rz Ce "value" p tb σ (nt H) fun v H' => Dq K H' v dat) (Q : VK)
    (k : ∀ v A' H', Reg p H' A' → Ex (nt H) H' → Tabs T A' → Dq K H' v (.list [.str "row", .str (showD dat)]) → Q v A') : tLam T (TTheard K Ce) tb σ A Q :=
  ⟨tabs, fun A1 eN T1 Qn => by
    have R1 : Reg p (nt H) A1 := R.lam eN (own_not ho)
    refine hb A1 R1 _ Qn fun v dd A2 H2 g2 e2 k2 => ⟨H2, dd, v, dat, rfl, rfl, e2, (g2.to R1).nil, k2, sw, fun v3 A3 H3 g3 k3 => ?_⟩
    have g4 := g2.trans (g3.pure (g2.to R1))
    exact k v3 A3 H3 (g4.to R1) g4.reg (tabs_gr R1 T1 g4) k3⟩
theorem val_ev (R : Reg p H A) (tabs : Tabs T A) (ho : p.own = fun _ => none) (mp : Mono P) (hb : Rz Ce "value" p tb σ (nt H) P) (Q : VK)
    (k : ∀ v A' H', Reg p H' A' → Ex (nt H) H' → Tabs T A' → P v H' → Q v A') : tLam T (TTvalue Ce) tb σ A Q :=
  ⟨tabs, fun A1 eN T1 Qn => by
    have R1 : Reg p (nt H) A1 := R.lam eN (own_not ho)
    refine hb A1 R1 _ Qn fun v dd A2 H2 g2 e2 k2 => ⟨H2, dd, v, rfl, rfl, e2, (g2.to R1).nil, fun A3 H3 g3 => ?_⟩
    have g4 := g2.trans (g3.pure (g2.to R1))
    exact k v A3 H3 (g4.to R1) g4.reg (tabs_gr R1 T1 g4) (mp _ _ _ g3.reg k2)⟩
theorem shaped_two {s : Str} (h : PyData.strOk s = true) : SeqAt.shaped (.list [.str "row", .str s]) = true := by
  show ((PyData.strOk "row" && (PyData.strOk s && true)) && decide (PyData.depth (.list [.str "row", .str s]) ≤ 64)) = true
  rw [h, show PyData.strOk "row" = true by decide +kernel]
  rfl
theorem eqv_two (s : Str) : PyData.eqv (.list [.str "row", .str s]) (.list [.str "row", .str s]) = true := by simp [PyData.eqv, PyData.eqvAll]
/-- if _law_heard(lambda: ..) != ["row", repr(..)]: .. -/
theorem q_heard (R : Reg p H A) (tabs : Tabs T A) (ho : p.own = fun _ => none) (sw : ShowOk dat) (so : PyData.strOk (showD dat) = true) (hb : Rz Ce "value" p tb σ (nt H) fun v H' => Dq K H' v dat) (hr : ∀ H1, Ex (nt H) H1 → EvD K p tr σ H1 (.list [.str "row", .str (showD dat)]))
    (k : ∀ A' H', Reg p H' A' → Ex (nt H) H' → Tabs T A' → tz D σ A') : tSeq (tIfS (tTest (tOp (rNeD K) (tLam T (TTheard K Ce) tb) tr)) tu tNext) tz D σ A :=
  heard_ev (K := K) R tabs ho sw hb _ fun v A1 H1 R1 e1 T1 k1 => by
    have o := o_neD (K := K) (p := p) (dx := .list [.str "row", .str (showD dat)]) (dy := .list [.str "row", .str (showD dat)]) (shaped_two so) (shaped_two so)
    rw [eqv_two] at o
    exact q_when (b := false) (tu := tu) (tz := tz) (D := D) (b_test (d_op (K := K) (g_val (P := fun v H => Dq K H v (.list [.str "row", .str (showD dat)])) mono_data k1) (hr H1 e1) o)) R1 (fun z => nomatch z) fun _ A2 H2 g2 => k A2 H2 (g2.to R1) (e1.trans g2.reg) (tabs_gr R1 T1 g2)
theorem rhs_ev {i : Nat} {v : V} (hs : σ[i]? = some (some v)) (kv : Dq K H v dat) (sw : ShowOk dat) : EvD K p (tLst (tCons (tC (.str "row")) (tCons (tCB (rReprA K) (tCons (tVar i) tNil)) tNil))) σ H (.list [.str "row", .str (showD dat)]) :=
  d_lst (K := K) (s_cons d_str (s_cons (d_cb (s_cons (d_var hs kv) s_nil) (c_reprA sw)) s_nil)) (by show 2 ≤ 100000; decide)
theorem eqv_nil : PyData.eqv (LR []) (LR []) = true := by simp [PyData.eqv, PyData.eqvAll]
theorem e_neSame {ta tb : TE} {n : Nat} (hx : EvG p ta σ H (SpO K C n [])) (hy : EvG p tb σ H (SpO K C n [])) : EvD K p (tOp (rEqO C K (SpG (F_seq K C)) true) ta tb) σ H (.bool false) :=
  d_eqO (b := true) (neg := true) hx mono_sp iso_sp hy mono_sp (fun v H k => .inl (iso_sp v H k)) fun x y H' e kx ky => ⟨n, [], x, y, true, rfl, kx, .inl ⟨n, [], ky, fun _ _ _ _ => trivial, by rw [eqv_nil]; simp⟩, rfl⟩
/-- if _law_value(lambda: ..) != far: .. -/
theorem q_value {i n : Nat} {far : V} (R : Reg p H A) (tabs : Tabs T A) (ho : p.own = fun _ => none) (hb : Rz Ce "value" p tb σ (nt H) fun v _ => v = far) (hs : σ[i]? = some (some far)) (hf : SpO K C n [] far (nt H))
    (k : ∀ A' H', Reg p H' A' → Ex (nt H) H' → Tabs T A' → tz D σ A') : tSeq (tIfS (tTest (tOp (rEqO C K (SpG (F_seq K C)) true) (tLam T (TTvalue Ce) tb) (tVar i))) tu tNext) tz D σ A :=
  val_ev R tabs ho mono_is hb _ fun v A1 H1 R1 e1 T1 k1 => by
    subst k1
    exact q_when (b := false) (tu := tu) (tz := tz) (D := D) (b_test (e_neSame (g_val mono_sp (mono_sp _ _ _ e1 hf)) (g_in hs mono_sp (mono_sp _ _ _ e1 hf)))) R1 (fun z => nomatch z) fun _ A2 H2 g2 => k A2 H2 (g2.to R1) (e1.trans g2.reg) (tabs_gr R1 T1 g2)
theorem sp_nt {n : Nat} {rs : List (List Int)} {v : V} (h : SpO K C n rs v H) : SpO K C n rs v (nt H) := by
  obtain ⟨a, dx, l, rfl, h1, h2⟩ := h
  exact ⟨a, dx, l, rfl, nt_at h1 (fun _ => by simp), dq_nt _ _ h2⟩
theorem g_c {v : V} : EvG p (tC v) σ H fun x _ => x = v := fun A R Q q => q _ A H R.refl rfl
/-! what is drawn -/
abbrev odds : List PyData := [.none, .int 5, .list [.int 1, .int 2], .tuple [.int 1], .tuple [.int 1, .int 2, .int 3], .tuple [.int 1, .none], .tuple [.bool true, .int 0], .tuple [.str "a", .int 1], .tuple [.tuple [], .tuple []], .dict []]
theorem odd_bad : ∀ d ∈ odds, isRw d 2 = false := by
  intro d hd
  simp only [List.mem_cons, List.not_mem_nil, or_false] at hd
  rcases hd with rfl | rfl | rfl | rfl | rfl | rfl | rfl | rfl | rfl | rfl <;> rfl
theorem odd_len : ∀ d ∈ odds, ∀ es, d = .tuple es → es.length ≤ 60000 := by
  intro d hd es e
  subst e
  simp only [List.mem_cons, List.not_mem_nil, or_false, PyData.tuple.injEq, reduceCtorEq, false_or] at hd
  rcases hd with rfl | rfl | rfl | rfl | rfl | rfl <;> simp
theorem odd_str : ∀ d ∈ odds, PyData.strOk (showD d) = true := by
  intro d hd
  simp only [List.mem_cons, List.not_mem_nil, or_false] at hd
  rcases hd with rfl | rfl | rfl | rfl | rfl | rfl | rfl | rfl | rfl | rfl <;> decide +kernel
theorem odd_show : ∀ d ∈ odds, ShowOk d := by
  intro d hd
  simp only [List.mem_cons, List.not_mem_nil, or_false] at hd
  rcases hd with rfl | rfl | rfl | rfl | rfl | rfl | rfl | rfl | rfl | rfl <;> first | trivial | (show _ < _; decide +kernel) | exact ⟨by decide +kernel, by decide +kernel, by decide +kernel, by decide +kernel⟩
abbrev wides : List PyData := [.int 0, .int (-1), .none, .str "2", .bool true, .tuple [.int 2]]
theorem wide_no : ∀ d ∈ wides, noWidth d = true := by
  intro d hd
  simp only [List.mem_cons, List.not_mem_nil, or_false] at hd
  rcases hd with rfl | rfl | rfl | rfl | rfl | rfl <;> rfl
theorem wide_str : ∀ d ∈ wides, PyData.strOk (showD d) = true := by
  intro d hd
  simp only [List.mem_cons, List.not_mem_nil, or_false] at hd
  rcases hd with rfl | rfl | rfl | rfl | rfl | rfl <;> decide +kernel
theorem wide_show : ∀ d ∈ wides, ShowOk d := by
  intro d hd
  simp only [List.mem_cons, List.not_mem_nil, or_false] at hd
  rcases hd with rfl | rfl | rfl | rfl | rfl | rfl <;> first | trivial | (show _ < _; decide +kernel) | (show List.length _ ≤ _; decide +kernel) | exact ⟨by decide +kernel, by decide +kernel, by decide +kernel, by decide +kernel⟩
abbrev others : List PyData := [.none, .int 5, .tuple [.int 1, .int 2], .list [.tuple [.int 1, .int 2]]]
theorem other_str : ∀ d ∈ others, PyData.strOk (showD d) = true := by
  intro d hd
  simp only [List.mem_cons, List.not_mem_nil, or_false] at hd
  rcases hd with rfl | rfl | rfl | rfl <;> decide +kernel
theorem other_show : ∀ d ∈ others, ShowOk d := by
  intro d hd
  simp only [List.mem_cons, List.not_mem_nil, or_false] at hd
  rcases hd with rfl | rfl | rfl | rfl <;> first | trivial | (show _ < _; decide +kernel) | exact ⟨by decide +kernel, by decide +kernel, by decide +kernel, by decide +kernel⟩
/-- l[:take] -/
theorem cut_ev {te ti : TE} {ds : List PyData} (h : EvD K p te σ H (.list ds)) (ht : EvG p ti σ H fun v _ => ∃ r : Int, v = .int r ∧ 0 ≤ r ∧ r < 3) : EvG p (tSl (rSlL K) te tNoPart (tPart ti)) σ H fun v H' => ∃ es, (∀ c ∈ es, c ∈ ds) ∧ es.length ≤ ds.length ∧ Dq K H' v (.list es) := fun A R Q q => h A R _ fun v A1 H1 g1 k1 => by
  refine EvG.monoP (fun v H H' e k => k) g1.reg ht A1 (g1.to R) _ fun u A2 H2 g2 k2 => ?_
  obtain ⟨n, rfl, n0, n3⟩ := k2
  obtain ⟨a, xs, rfl, h1, h2⟩ := dq_inv_l k1
  have R2 := g2.to (g1.to R)
  refine ⟨n, rfl, a, xs, rfl, sq_of (R2.ex _ _ (g2.reg _ _ h1)), fun l hl => ?_⟩
  have g := Gr.alloc R2 (o := .lst (cutV xs none (some n))) hl
  refine q _ _ _ ((g1.trans g2).trans g) ⟨Z.cutD ds none (some n), fun c hc => ?_, ?_, .lst upd_same (dqall_ex (g2.reg.trans g.reg) (dqall_cut h2))⟩
  · exact List.mem_of_mem_drop (List.mem_of_mem_take hc)
  · unfold Z.cutD
    rw [List.length_take, List.length_drop]
    omega
theorem cat_ev {ta tb : TE} {Pa Pb : List PyData → Prop} (ha : EvG p ta σ H fun v H' => ∃ es, Pa es ∧ es.length ≤ 10 ∧ Dq K H' v (.list es)) (hb : EvG p tb σ H fun v H' => ∃ es, Pb es ∧ es.length ≤ 10 ∧ Dq K H' v (.list es)) :
    EvG p (tOp rCat ta tb) σ H fun v H' => ∃ es fs, Pa es ∧ Pb fs ∧ es.length ≤ 10 ∧ fs.length ≤ 10 ∧ Dq K H' v (.list (es ++ fs)) :=
  g_opV (Px := fun v H' => ∃ es, Pa es ∧ es.length ≤ 10 ∧ Dq K H' v (.list es)) (fun v H H' e ⟨es, a, b, c⟩ => ⟨es, a, b, dq_ex e _ _ c⟩) ha (fun H1 e => hb.monoP (fun v H H' e ⟨es, a, b, c⟩ => ⟨es, a, b, dq_ex e _ _ c⟩) e) fun x y H2 A e ⟨es, a1, a2, a3⟩ ⟨fs, b1, b2, b3⟩ R Q q =>
    o_cat (K := K) (p := p) (ds := es) (es := fs) (by omega) x y H2 A a3 b3 R Q fun v A' H' g k => q v A' H' g ⟨es, fs, a1, b1, a2, b2, k⟩
theorem take3 {q : Addr} {i : Nat} (hs : σ[i]? = some (some (.ref q))) : EvG ⟨some q, fun _ => none⟩ (tCall (takeS K) [] E0 (tCons (tVar i) (tCons (tC (.int 3)) tNil))) σ H fun v _ => ∃ r : Int, v = .int r ∧ 0 ≤ r ∧ r < 3 := take_ev (K := K) hs (by decide) (by decide)
theorem odd_ev {q : Addr} {i j : Nat} {lv : V} (hs : σ[i]? = some (some (.ref q))) (hj : σ[j]? = some (some lv)) (kl : Dq K H lv (.list odds)) : EvG ⟨some q, fun _ => none⟩ (tOp (rIx K) (tVar j) (tCall (takeS K) [] E0 (tCons (tVar i) (tCons (tC (.int 10)) tNil)))) σ H fun v H' => ∃ d, d ∈ odds ∧ Dq K H' v d := fun A R Q k =>
  ⟨lv, hj, take_ev (K := K) (m := 10) hs (by decide) (by decide) A R _ fun y A1 H1 g1 ⟨r, er, r0, r1⟩ => by
    subst er
    have R1 := g1.to R
    obtain ⟨a, xs, rfl, h1, h2⟩ := dq_inv_l (dq_ex g1.reg _ _ kl)
    have e : ∃ d, atI odds r = some d ∧ d ∈ odds := by
      obtain ⟨m, rfl⟩ : ∃ m : Nat, r = (m : Int) := ⟨r.toNat, by omega⟩
      have hm : m < 10 := by omega
      have : m = 0 ∨ m = 1 ∨ m = 2 ∨ m = 3 ∨ m = 4 ∨ m = 5 ∨ m = 6 ∨ m = 7 ∨ m = 8 ∨ m = 9 := by omega
      rcases this with rfl | rfl | rfl | rfl | rfl | rfl | rfl | rfl | rfl | rfl <;> exact ⟨_, rfl, by simp⟩
    obtain ⟨d, e1, e2⟩ := e
    obtain ⟨v, hv, kv⟩ := dqall_at h2 e1
    exact .inl ⟨a, xs, r, v, rfl, rfl, sq_of (R1.ex _ _ h1), hv, k v A1 H1 g1 ⟨d, e2, kv⟩⟩⟩
/-! statements; what is drawn -/
theorem q_par2 {i j : Nat} {ta tb : TE} {Px Py : V → Hp → Prop} (mx : Mono Px) (ha : EvG p ta σ H Px) (hb : ∀ H1, Ex H H1 → EvG p tb σ H1 Py) (R : Reg p H A) (k : ∀ x y A' H', Gr p A H A' H' → Px x H' → Py y H' → tz D ((σ.set i (some x)).set j (some y)) A') : tSeq (tPar i j (tCons ta (tCons tb tNil))) tz D σ A :=
  ha A R _ fun x A1 H1 g1 k1 => hb H1 g1.reg A1 (g1.to R) _ fun y A2 H2 g2 k2 => ⟨x, y, rfl, k x y A2 H2 (g1.trans g2) (mx _ _ _ g2.reg k1) k2⟩
theorem s_heard (R : Reg p H A) (tabs : Tabs T A) (ho : p.own = fun _ => none) (sw : ShowOk dat) (so : PyData.strOk (showD dat) = true) (hb : Rz Ce "value" p tb σ (nt H) fun v H' => Dq K H' v dat) (hr : ∀ H1, Ex (nt H) H1 → EvD K p tr σ H1 (.list [.str "row", .str (showD dat)]))
    (k : ∀ A' H', Reg p H' A' → Ex (nt H) H' → Tabs T A' → D.nx σ A') : tIfS (tTest (tOp (rNeD K) (tLam T (TTheard K Ce) tb) tr)) tu tNext D σ A := q_heard (tz := tNext) (D := D) R tabs ho sw so hb hr k
theorem rz_is {d : PyData} {x : V} (h : Rz Ce "value" p tb σ H fun v _ => v = x) (kx : Dq K H x d) : Rz Ce "value" p tb σ H fun v H' => Dq K H' v d := fun A R E Q q => h A R E Q fun v dd A' H' g e k2 => q v dd A' H' g e (by subst k2; exact dq_ex g.reg _ _ kx)
abbrev twoT (a b : Int) : TE := tTup (tCons (tC (.int a)) (tCons (tC (.int b)) tNil))
theorem two_ev (a b : Int) : EvD K p (twoT a b) σ H (R [a, b]) := d_tup (s_cons d_int (s_cons d_int s_nil)) (by show 2 ≤ 100000; decide)
theorem small_len {c : PyData} {a b : Int} (h : c = R [a, b]) : ∀ es, c = .tuple es → es.length ≤ 60000 := fun es e => by
  rw [h] at e
  cases e
  show 2 ≤ 60000
  decide
theorem rows_ev {q : Addr} {od la : PyData} {x4 x5 : V} (hq : σ[3]? = some (some (.ref q))) (h4 : σ[4]? = some (some x4)) (h5 : σ[5]? = some (some x5)) (k4 : Dq K H x4 od) (k5 : Dq K H x5 la) (hod : od ∈ odds) (hla : la ∈ odds) :
    EvG ⟨some q, fun _ => none⟩ (tOp rCat (tOp rCat (tSl (rSlL K) (tLst (tCons (twoT 1 2) (tCons (twoT 3 4) tNil))) tNoPart (tPart (tCall (takeS K) [] E0 (tCons (tVar 3) (tCons (tC (.int 3)) tNil))))) (tLst (tCons (tVar 4) tNil))) (tSl (rSlL K) (tLst (tCons (twoT 0 1) (tCons (tVar 5) tNil))) tNoPart (tPart (tCall (takeS K) [] E0 (tCons (tVar 3) (tCons (tC (.int 3)) tNil)))))) σ H
      fun v H' => ∃ its, Bad 2 its od ∧ Dq K H' v (.list its) := by
  have a1 := cut_ev (K := K) (d_lst (s_cons (two_ev (K := K) (p := ⟨some q, fun _ => none⟩) (σ := σ) (H := H) 1 2) (s_cons (two_ev 3 4) s_nil)) (by show 2 ≤ 100000; decide)) (take3 (K := K) hq)
  have a2 : EvG ⟨some q, fun _ => none⟩ (tLst (tCons (tVar 4) tNil)) σ H fun v H' => ∃ es, es = [od] ∧ es.length ≤ 10 ∧ Dq K H' v (.list es) := (d_lst (K := K) (s_cons (d_var h4 k4) s_nil) (by show 1 ≤ 100000; decide)).imp fun v H' k => ⟨[od], rfl, by show 1 ≤ 10; decide, k⟩
  have a3 := cut_ev (K := K) (d_lst (s_cons (two_ev (K := K) (p := ⟨some q, fun _ => none⟩) (σ := σ) (H := H) 0 1) (s_cons (d_var h5 k5) s_nil)) (by show 2 ≤ 100000; decide)) (take3 (K := K) hq)
  have b1 := cat_ev (K := K) (Pa := fun es => (∀ c ∈ es, c ∈ [R [1, 2], R [3, 4]]) ∧ es.length ≤ 2) (a1.imp fun v H' ⟨es, x, y, z⟩ => ⟨es, ⟨x, y⟩, Nat.le_trans y (by show 2 ≤ 10; decide), z⟩) a2
  have b2 := cat_ev (K := K) (Pa := fun es => ∃ pre, es = pre ++ [od] ∧ ∀ c ∈ pre, c ∈ [R [1, 2], R [3, 4]]) (Pb := fun es => ∀ c ∈ es, c ∈ [R [0, 1], la])
    (b1.imp fun v H' ⟨es, fs, ⟨x1, x2⟩, y, _, _, z⟩ => ⟨es ++ fs, ⟨es, by rw [y], x1⟩, by rw [y, List.length_append]; show es.length + 1 ≤ 10; omega, z⟩) (a3.imp fun v H' ⟨es, x, y, z⟩ => ⟨es, x, Nat.le_trans y (by show 2 ≤ 10; decide), z⟩)
  refine b2.imp fun v H' ⟨es, fs, ⟨pre, e, hp⟩, hf, _, _, k⟩ => ⟨es ++ fs, ⟨pre, fs, by rw [e, List.append_assoc]; rfl, fun c hc => ?_, odd_bad od hod, by decide, fun c hc => ?_⟩, k⟩
  · have := hp c hc
    simp only [List.mem_cons, List.not_mem_nil, or_false] at this
    rcases this with rfl | rfl <;> rfl
  · rw [e, List.append_assoc] at hc
    rcases List.mem_append.mp hc with h | h
    · have := hp c h
      simp only [List.mem_cons, List.not_mem_nil, or_false] at this
      rcases this with h | h <;> exact small_len h
    · rcases List.mem_append.mp h with h | h
      · rw [List.mem_singleton.mp h]
        exact odd_len od hod
      · have := hf c h
        simp only [List.mem_cons, List.not_mem_nil, or_false] at this
        rcases this with h | h
        · exact small_len h
        · rw [h]
          exact odd_len la hla
end
end Q43
namespace Q43
open PySem PySem.Spec PyProof.Rows L2 Z Evl LamX
section
variable {P : Program} {w : World} {K : PySem.W.Frag} {mg : Str → Option Value} {base : Heap} {C Ce CF CT fi fe fo fw c Pt : Addr} {fdR fdW fdO fdI : FuncData}
theorem ok_law {f : Addr} {fd : FuncData} (F : FnP K "law" s_law f fd) (hc : fd.code = .ref c) (TB : TabB base mg c Pt) (B : Bs mg) (m_repr : mg "repr" = none) (Hr : Hear K mg CF Ce CT) (mR : mg "InvalidRow" = some (.ref Ce)) (exm : PySem.W.exmOne K (.ref Ce) (.ref Ce) = some true) (xf : XfC K Ce) (nof : PySem.W.findIn K (.ref Ce) "value" = some none)
    (S : SpC K C) (mC : mg "Space" = some (.ref C)) (M : Mk K C fi) (D_init : Mn P w K mg base 6 fi ["self", "width", "rows"] (SpI C (F_init K)))
    (FR : FnOk P w K mg base (L2.CX P w) 6 fi fdR ["self", "width", "rows"] (SpRI C Ce "value" (fun us H P => ∃ (items : List PyData) (n : Nat) (d : PyData) (x : V), us = [.int (n : Nat), x] ∧ 1 ≤ n ∧ Dq K H x (.list items) ∧ Bad n items d ∧ P = fun v H' => Dq K H' v d))) (bR : L2.Binds K fdR ["self", "width", "rows"] [])
    (FW : FnOk P w K mg base (L2.CX P w) 6 fi fdW ["self", "width", "rows"] (SpRI C Ce "value" (F_badW K))) (bW : L2.Binds K fdW ["self", "width", "rows"] [])
    (h_or : Meth K C "__or__" fo) (nor : NoAttr K C "__ror__") (FO : FnOk P w K mg base (L2.CX P w) 8 fo fdO ["self", "other"] (SpR Ce "value" (F_badO K C))) (bO : L2.Binds K fdO ["self", "other"] [])
    (h_wit : Meth K C "is_within" fw) (FI : FnOk P w K mg base (L2.CX P w) 5 fw fdI ["self", "other"] (SpR Ce "value" (F_badO K C))) (bI : L2.Binds K fdI ["self", "other"] [])
    (h_eq : Meth K C "__eq__" fe) (D_eq : Mn P w K mg base 1 fe ["self", "other"] (SpG (F_seq K C)))
    (D_pool : Dn P w K mg base CX0 1 "_law_pool" ["_law_script", "_law_k"] (poolS K)) (D_take : Dn P w K mg base CX0 1 "_law_take" ["_law_pool_here", "_law_wide"] (takeS K))
    (DX_reduced : Dn P w K mg base (L2.CX P w) 5 "reduced" ["rows", "width"] (SpR Ce "value" (F_bad K))) (DX_kernel : Dn P w K mg base (L2.CX P w) 6 "kernel" ["rows", "width"] (SpR Ce "value" (F_bad K)))
    (H_heard : St K mg "_law_heard" s__law_heard ["_law_call"]) (H_value : St K mg "_law_value" s__law_value ["_law_call"]) : FnG P w K mg base 11 f fd ["_law_script"] (spLaw K [(c, Pt)]) := by
  refine fnG_ofC F sc_law (fun vs H Q E h => by obtain ⟨_, _, rfl, _⟩ := h; rfl) fun A outer s H vs Q E gd hr h => ⟨_, PSs.nox (pss_cons (ps_set (i := 1) sc_law.nd rfl (Or.inl rfl) (pe_lst (pa_cons pe_non (pa_cons pe_int (pa_cons (pe_lst (pa_cons pe_int (pa_cons pe_int pa_nil))) (pa_cons (pe_tup (pa_cons pe_int pa_nil)) (pa_cons (pe_tup (pa_cons pe_int (pa_cons pe_int (pa_cons pe_int pa_nil)))) (pa_cons (pe_tup (pa_cons pe_int (pa_cons pe_non pa_nil))) (pa_cons (pe_tup (pa_cons pe_bl (pa_cons pe_int pa_nil))) (pa_cons (pe_tup (pa_cons pe_str (pa_cons pe_int pa_nil))) (pa_cons (pe_tup (pa_cons (pe_tup pa_nil) (pa_cons (pe_tup pa_nil) pa_nil))) (pa_cons pe_dnewK pa_nil))))))))))))
    (pss_cons (ps_for PassesOwn.never rfl (pi_range1 (by rfl) B.range (pa_cons (pe_callB (call_max2 rfl) (by rfl) B.max (by decide +kernel) (pa_cons pe_int (pa_cons (pe_callB (call_min2 rfl) (by rfl) B.min (by decide +kernel) (pa_cons (pe_callB call_len_seq (by rfl) B.len (by decide +kernel) (pa_cons (pv 0) pa_nil)) (pa_cons pe_int pa_nil))) pa_nil))) pa_nil)) (pg_name (i := 2) sc_law.nd rfl (Or.inl rfl)) (pss_cons (ps_set (i := 3) sc_law.nd rfl (Or.inl rfl) (pe_cd D_pool hr (by decide) rfl (pa_cons (pv 0) (pa_cons (pv 2) pa_nil))))
    (pss_cons (ps_par (i := 4) (j := 5) (by rfl) sc_law.nd rfl rfl (by decide) rfl rfl (pa_cons (pe_ix (ix_K (K := K) rfl) (pv 1) (pe_cd D_take hr (by decide) rfl (pa_cons (pv 3) (pa_cons pe_int pa_nil))) (fun _ _ => rfl)) (pa_cons (pe_ix (ix_K (K := K) rfl) (pv 1) (pe_cd D_take hr (by decide) rfl (pa_cons (pv 3) (pa_cons pe_int pa_nil))) (fun _ _ => rfl)) pa_nil)) (by rfl))
    (pss_cons (ps_set (i := 6) sc_law.nd rfl (Or.inr rfl) (pe_op op_cat (pe_op op_cat (pe_slice (sl_listK (K := K) rfl) (pe_lst (pa_cons (pe_tup (pa_cons pe_int (pa_cons pe_int pa_nil))) (pa_cons (pe_tup (pa_cons pe_int (pa_cons pe_int pa_nil))) pa_nil))) po_none (po_some (pe_cd D_take hr (by decide) rfl (pa_cons (pv 3) (pa_cons pe_int pa_nil))))) (pe_lst (pa_cons (pv 4) pa_nil))) (pe_slice (sl_listK (K := K) rfl) (pe_lst (pa_cons (pe_tup (pa_cons pe_int (pa_cons pe_int pa_nil))) (pa_cons (pv 5) pa_nil))) po_none (po_some (pe_cd D_take hr (by decide) rfl (pa_cons (pv 3) (pa_cons pe_int pa_nil)))))))
    (pss_cons (ps_if (pt_cmpR (op_neDK (K := K) rfl (Nat.lt_of_le_of_lt (Nat.add_le_add_left (by decide : 64 ≤ 64) _) hr.units)) (pe_heard H_heard Hr B m_repr gd TB hc rfl hr (by rfl) (lamS_by (sc := defScope s_law) (by decide +kernel)) (fun A outer s H E f c' hr' tk hp => (pe_cdX DX_reduced tk hr' (by decide) (by rfl) (pa_cons (pv 6) (pa_cons pe_int pa_nil))))) (pe_lst (pa_cons pe_str (pa_cons (pe_callB (cr_reprAK (K := K) rfl gd (Nat.lt_of_le_of_lt (Nat.add_le_add_left (by decide : 64 ≤ 64) _) hr.units)) (by rfl) m_repr (by decide +kernel) (pa_cons (pv 4) pa_nil)) pa_nil))) (nomark _)) (pss_one (ps_ret pe_bl)) pss_nil)
    (pss_cons (ps_if (pt_cmpR (op_neDK (K := K) rfl (Nat.lt_of_le_of_lt (Nat.add_le_add_left (by decide : 64 ≤ 64) _) hr.units)) (pe_heard H_heard Hr B m_repr gd TB hc rfl hr (by rfl) (lamS_by (sc := defScope s_law) (by decide +kernel)) (fun A outer s H E f c' hr' tk hp => (pe_cdX DX_kernel tk hr' (by decide) (by rfl) (pa_cons (pv 6) (pa_cons pe_int pa_nil))))) (pe_lst (pa_cons pe_str (pa_cons (pe_callB (cr_reprAK (K := K) rfl gd (Nat.lt_of_le_of_lt (Nat.add_le_add_left (by decide : 64 ≤ 64) _) hr.units)) (by rfl) m_repr (by decide +kernel) (pa_cons (pv 4) pa_nil)) pa_nil))) (nomark _)) (pss_one (ps_ret pe_bl)) pss_nil)
    (pss_cons (ps_if (pt_cmpR (op_neDK (K := K) rfl (Nat.lt_of_le_of_lt (Nat.add_le_add_left (by decide : 64 ≤ 64) _) hr.units)) (pe_heard H_heard Hr B m_repr gd TB hc rfl hr (by rfl) (lamS_by (sc := defScope s_law) (by decide +kernel)) (fun A outer s H E f c' hr' tk hp => (pe_make M FR (hr'.mono (by decide)) (by rfl) mC bR .nil hp (pa_cons pe_int (pa_cons (pv 6) pa_nil))))) (pe_lst (pa_cons pe_str (pa_cons (pe_callB (cr_reprAK (K := K) rfl gd (Nat.lt_of_le_of_lt (Nat.add_le_add_left (by decide : 64 ≤ 64) _) hr.units)) (by rfl) m_repr (by decide +kernel) (pa_cons (pv 4) pa_nil)) pa_nil))) (nomark _)) (pss_one (ps_ret pe_bl)) pss_nil)
    (pss_cons (ps_for PassesOwn.never rfl (pi_list (pe_lst (pa_cons pe_int (pa_cons (pe_un un_neg pe_int) (pa_cons pe_non (pa_cons pe_str (pa_cons pe_bl (pa_cons (pe_tup (pa_cons pe_int pa_nil)) pa_nil)))))))) (pg_name (i := 7) sc_law.nd rfl (Or.inr rfl)) (pss_one (ps_if (pt_cmpR (op_neDK (K := K) rfl (Nat.lt_of_le_of_lt (Nat.add_le_add_left (by decide : 64 ≤ 64) _) hr.units)) (pe_heard H_heard Hr B m_repr gd TB hc rfl hr (by rfl) (lamS_by (sc := defScope s_law) (by decide +kernel)) (fun A outer s H E f c' hr' tk hp => (pe_make M FW (hr'.mono (by decide)) (by rfl) mC bW .nil hp (pa_cons (pv 7) (pa_cons (pv 6) pa_nil))))) (pe_lst (pa_cons pe_str (pa_cons (pe_callB (cr_reprAK (K := K) rfl gd (Nat.lt_of_le_of_lt (Nat.add_le_add_left (by decide : 64 ≤ 64) _) hr.units)) (by rfl) m_repr (by decide +kernel) (pa_cons (pv 7) pa_nil)) pa_nil))) (nomark _)) (pss_one (ps_ret pe_bl)) pss_nil)))
    (pss_cons (ps_set (i := 8) sc_law.nd rfl (Or.inr rfl) (pe_mk M D_init hr (by decide) (by rfl) mC (pa_cons pe_int (pa_cons (pe_lst (pa_cons (pe_tup (pa_cons pe_int (pa_cons pe_int pa_nil))) pa_nil)) pa_nil))))
    (pss_cons (ps_set (i := 9) sc_law.nd rfl (Or.inr rfl) (pe_mk M D_init hr (by decide) (by rfl) mC (pa_cons pe_int (pa_cons (pe_lst pa_nil) pa_nil))))
    (pss_cons (ps_if (pt_cmpR (op_neM h_eq S.ne S.ins.hm D_eq hr (by decide)) (pe_val H_value mR exm xf nof TB hc rfl hr (by rfl) (lamS_by (sc := defScope s_law) (by decide +kernel)) (fun A outer s H E f c' hr' tk hp => (pe_op (op_orXK (K := K) rfl S.sf h_or nor FO (hr'.mono (by decide)) bO hp) (pv 8) (pv 9)))) (pv 9) (nomark _)) (pss_one (ps_ret pe_bl)) pss_nil)
    (pss_cons (ps_if (pt_cmpR (op_neM h_eq S.ne S.ins.hm D_eq hr (by decide)) (pe_val H_value mR exm xf nof TB hc rfl hr (by rfl) (lamS_by (sc := defScope s_law) (by decide +kernel)) (fun A outer s H E f c' hr' tk hp => (pe_meth (pv 8) S.ins.cl h_wit FI (hr'.mono (by decide)) bI .nil hp (pa_cons (pv 9) pa_nil)))) (pv 9) (nomark _)) (pss_one (ps_ret pe_bl)) pss_nil)
    (pss_one (ps_for PassesOwn.never rfl (pi_list (pe_lst (pa_cons pe_non (pa_cons pe_int (pa_cons (pe_tup (pa_cons pe_int (pa_cons pe_int pa_nil))) (pa_cons (pe_lst (pa_cons (pe_tup (pa_cons pe_int (pa_cons pe_int pa_nil))) pa_nil)) pa_nil)))))) (pg_name (i := 10) sc_law.nd rfl (Or.inr rfl)) (pss_cons (ps_if (pt_cmpR (op_neDK (K := K) rfl (Nat.lt_of_le_of_lt (Nat.add_le_add_left (by decide : 64 ≤ 64) _) hr.units)) (pe_heard H_heard Hr B m_repr gd TB hc rfl hr (by rfl) (lamS_by (sc := defScope s_law) (by decide +kernel)) (fun A outer s H E f c' hr' tk hp => (pe_op (op_orXK (K := K) rfl S.sf h_or nor FO (hr'.mono (by decide)) bO hp) (pv 8) (pv 10)))) (pe_lst (pa_cons pe_str (pa_cons (pe_callB (cr_reprAK (K := K) rfl gd (Nat.lt_of_le_of_lt (Nat.add_le_add_left (by decide : 64 ≤ 64) _) hr.units)) (by rfl) m_repr (by decide +kernel) (pa_cons (pv 10) pa_nil)) pa_nil))) (nomark _)) (pss_one (ps_ret pe_bl)) pss_nil)
    (pss_one (ps_if (pt_cmpR (op_neDK (K := K) rfl (Nat.lt_of_le_of_lt (Nat.add_le_add_left (by decide : 64 ≤ 64) _) hr.units)) (pe_heard H_heard Hr B m_repr gd TB hc rfl hr (by rfl) (lamS_by (sc := defScope s_law) (by decide +kernel)) (fun A outer s H E f c' hr' tk hp => (pe_meth (pv 8) S.ins.cl h_wit FI (hr'.mono (by decide)) bI .nil hp (pa_cons (pv 10) pa_nil)))) (pe_lst (pa_cons pe_str (pa_cons (pe_callB (cr_reprAK (K := K) rfl gd (Nat.lt_of_le_of_lt (Nat.add_le_add_left (by decide : 64 ≤ 64) _) hr.units)) (by rfl) m_repr (by decide +kernel) (pa_cons (pv 10) pa_nil)) pa_nil))) (nomark _)) (pss_one (ps_ret pe_bl)) pss_nil)))))))))))))))))
    (pss_one (ps_ret pe_bl)))), ?_⟩
  obtain ⟨sa, ns, rfl, hs0, hn, hT, q⟩ := h
  rw [start_law]
  have R0 := reg_nt H
  have tabs0 : Tabs [(Pt, qL)] H := tabs_nil fun q hq => by rw [List.mem_singleton.mp hq]; exact hT (c, Pt) (List.mem_cons_self ..)
  have hs := sql_nt hs0
  refine q_asg (P := fun v H' => Dq K H' v (.list odds)) (d_lst (s_cons d_non (s_cons d_int (s_cons (d_lst (s_cons d_int (s_cons d_int s_nil)) (by show 2 ≤ 100000; decide)) (s_cons (d_tup (s_cons d_int s_nil) (by show 1 ≤ 100000; decide)) (s_cons (d_tup (s_cons d_int (s_cons d_int (s_cons d_int s_nil))) (by show 3 ≤ 100000; decide)) (s_cons (d_tup (s_cons d_int (s_cons d_non s_nil)) (by show 2 ≤ 100000; decide)) (s_cons (d_tup (s_cons d_bl (s_cons d_int s_nil)) (by show 2 ≤ 100000; decide)) (s_cons (d_tup (s_cons d_str (s_cons d_int s_nil)) (by show 2 ≤ 100000; decide)) (s_cons (d_tup (s_cons (d_tup s_nil (Nat.zero_le _)) (s_cons (d_tup s_nil (Nat.zero_le _)) s_nil)) (by show 2 ≤ 100000; decide)) (s_cons d_dicN s_nil)))))))))) (by show 10 ≤ 100000; decide)) R0 fun lv A1 H1 g1 kl => ?_
  have R1 := g1.to R0
  have tabs1 := tabs_gr R0 tabs0 g1
  have hs1 := sql_ex g1.reg hs
  have hturns : ∃ N : Int, N = (if (if (8 : Int) < (ns.length : Nat) then (8 : Int) else (ns.length : Nat)) > 1 then (if (8 : Int) < (ns.length : Nat) then (8 : Int) else (ns.length : Nat)) else 1) ∧ 1 ≤ N ∧ N ≤ 8 := ⟨_, rfl, by split <;> omega, by split <;> (try split) <;> omega⟩
  obtain ⟨N, hN, hN1, hN8⟩ := hturns
  refine s_forRn (K := K) (n := N) (s_cons (d_cb (d := .int N) (s_cons d_int (s_cons (d_cb (s_cons (d_lenS rfl hs1) (s_cons d_int s_nil)) (c_min2 (K := K))) s_nil)) (by rw [hN]; exact c_max2)) s_nil) (by omega) R1
    (fun i σ' A' H' w => (∃ y2 y3 y4 y5 y6 y7 y8 y9 y10, σ' = [some (.ref sa), some lv, y2, y3, y4, y5, y6, y7, y8, y9, y10]) ∧ w = Me.non.own ∧ Tabs [(Pt, qL)] A') (fun _ _ g => ⟨⟨_, _, _, _, _, _, _, _, _, rfl⟩, rfl, tabs_gr R1 tabs1 g⟩) ?_ ?_
  · rintro H2 nt2 e2 i σ' A2 H2' w hi ⟨⟨y2, y3, y4, y5, y6, y7, y8, y9, y10, rfl⟩, rfl, tb2⟩ ex2 R2
    have kl2 := dq_ex (e2.trans ex2) _ _ (dq_nt _ _ kl)
    have hs2 := sql_ex (e2.trans ex2) (sql_nt hs1)
    -- the pool
    refine q_asgQ ⟨.ref sa, rfl, .int (i : Int), rfl, H2', sa, ns, i, R2, rfl, hs2, by omega, fun qp pa pb A3 H3 g3 n1 n2 hq b0 b1 b2 => ?_⟩
    have R3 : Reg ⟨some qp, fun _ => none⟩ H3 A3 := by
      have r := g3.to R2
      refine ⟨r.ex, fun x hx => ?_, fun x hx => ?_, (fun q o h => nomatch h), (fun q o h => nomatch h)⟩
      · cases hx; exact ⟨pa, pb, hq, b0, b1, b2⟩
      · cases hx; exact n2
    have tb3 := tabs_gr R2 tb2 g3
    have c3 : Evl.Ex H2 H3 := ex2.trans g3.reg
    have kl3 := dq_ex g3.reg _ _ kl2
    -- what is odd, what is last
    refine q_par2 (Px := fun v H' => ∃ d, d ∈ odds ∧ Dq K H' v d) (Py := fun v H' => ∃ d, d ∈ odds ∧ Dq K H' v d) (fun v H H' e ⟨d, a, b⟩ => ⟨d, a, dq_ex e _ _ b⟩) (odd_ev rfl rfl kl3) (fun H' e => odd_ev rfl rfl (dq_ex e _ _ kl3)) R3 fun x4 x5 A4 H4 g4 ⟨od, hod, ko4⟩ ⟨la, hla, kla⟩ => ?_
    have R4 := g4.to R3
    have tb4 := tabs_gr R3 tb3 g4
    have c4 := c3.trans g4.reg
    refine q_asg (rows_ev rfl rfl rfl ko4 kla hod hla) R4 fun lr A5 H5 g5 ⟨its, bad, kr5⟩ => ?_
    have R5 := g5.to R4
    have tb5 := tabs_gr R4 tb4 g5
    have c5 := c4.trans g5.reg
    have ko5 := dq_ex g5.reg _ _ ko4
    have so := odd_show od hod
    have st := odd_str od hod
    -- reduced, kernel, Space of such rows
    refine q_heard (dat := od) R5 tb5 rfl so st (rz_call (F := F_bad K) (a_two (mono_data (d := .list its)) (d_var rfl (dq_nt _ _ kr5)) fun H1 e => g_c) fun vs H' e ⟨x, y, h1, h2, h3⟩ => ⟨its, 2, od, x, by rw [h1, h3]; rfl, h2, bad, rfl⟩) (fun H1 e => rhs_ev rfl (dq_ex e _ _ (dq_nt _ _ ko5)) so) fun A6 H6 R6 e6 tb6 => ?_
    have c6 := (ex_nt c5 nt2).trans e6
    have kr6 := dq_ex e6 _ _ (dq_nt _ _ kr5)
    have ko6 := dq_ex e6 _ _ (dq_nt _ _ ko5)
    refine q_heard (dat := od) R6 tb6 rfl so st (rz_call (F := F_bad K) (a_two (mono_data (d := .list its)) (d_var rfl (dq_nt _ _ kr6)) fun H1 e => g_c) fun vs H' e ⟨x, y, h1, h2, h3⟩ => ⟨its, 2, od, x, by rw [h1, h3]; rfl, h2, bad, rfl⟩) (fun H1 e => rhs_ev rfl (dq_ex e _ _ (dq_nt _ _ ko6)) so) fun A7 H7 R7 e7 tb7 => ?_
    have c7 := (ex_nt c6 nt2).trans e7
    have kr7 := dq_ex e7 _ _ (dq_nt _ _ kr6)
    have ko7 := dq_ex e7 _ _ (dq_nt _ _ ko6)
    refine q_heard (dat := od) R7 tb7 rfl so st (rz_make (a_two (fun _ _ _ _ k => k) g_c fun H1 e => d_var (K := K) rfl (dq_ex e _ _ (dq_nt _ _ kr7))) (fun vs H1 H2 e ⟨x, y, h1, h2, h3⟩ => ⟨x, y, h1, h2, dq_ex e _ _ h3⟩) fun vs H' e ⟨x, y, h1, h2, h3⟩ => ⟨its, 2, od, y, by rw [h1, h2]; rfl, by decide, h3, bad, rfl⟩) (fun H1 e => rhs_ev rfl (dq_ex e _ _ (dq_nt _ _ ko7)) so) fun A8 H8 R8 e8 tb8 => ?_
    have c8 := (ex_nt c7 nt2).trans e8
    -- widths that are none
    refine s_forLn (K := K) (ds := wides) (d_lst (s_cons d_int (s_cons (d_un d_int u_neg) (s_cons d_non (s_cons d_str (s_cons d_bl (s_cons (d_tup (s_cons d_int s_nil) (by show 1 ≤ 100000; decide)) s_nil)))))) (by show 6 ≤ 100000; decide)) R8
      (fun _ σ' A' H' w => (∃ y7, σ' = [some (.ref sa), some lv, some (.int (i : Int)), some (.ref qp), some x4, some x5, some lr, y7, y8, y9, y10]) ∧ w = (fun _ => none) ∧ Tabs [(Pt, qL)] A') (fun _ _ g => ⟨⟨_, rfl⟩, rfl, tabs_gr R8 tb8 g⟩) ?_ ?_
    · rintro H9 nt9 e9 j d x σ' A9 H9' w hj ⟨⟨y7', rfl⟩, rfl, tb9⟩ ex9 R9 kx
      have hd := List.mem_of_getElem? hj
      refine s_heard (dat := d) R9 tb9 rfl (wide_show d hd) (wide_str d hd) (rz_make (F := F_badW K) (Pa := fun vs H' => ∃ x y, vs = [x, y] ∧ Dq K H' x d ∧ True) (a_two (mono_data (d := d)) (d_var rfl (dq_nt _ _ kx)) fun H1 e => (g_var rfl).imp fun _ _ _ => trivial) (fun vs H1 H2 e ⟨x, y, h1, h2, h3⟩ => ⟨x, y, h1, dq_ex e _ _ h2, h3⟩) fun vs H' e ⟨x, y, h1, h2, _⟩ => ⟨d, x, y, h1, h2, wide_no d hd, rfl⟩)
        (fun H1 e => rhs_ev rfl (dq_ex e _ _ (dq_nt _ _ kx)) (wide_show d hd)) fun A10 H10 R10 e10 tb10 => ⟨H10, _, ⟨⟨_, rfl⟩, rfl, tb10⟩, (ex_nt ex9 nt9).trans e10, R10⟩
    rintro σ' A9 H9 w ⟨⟨y7', rfl⟩, rfl, tb9⟩ e9 R9
    have c9 := (ex_nt c8 nt2).trans e9
    -- a space, and one of another width
    have rd1 : Rd 2 3 1 := ⟨by decide, by decide, fun k h1 h2 => by
      have : k = 0 := by omega
      subst this
      decide +kernel⟩
    have rd0 : Rd 3 3 0 := ⟨by decide, by decide, fun k h1 h2 => absurd h2 (Nat.not_lt_zero _)⟩
    have ok1 : Ok 2 3 [[1, 2]] := fun r hr => by
      rw [List.mem_singleton.mp hr]
      exact ⟨rfl, fun n hn => by
        simp only [List.mem_cons, List.not_mem_nil, or_false] at hn
        rcases hn with rfl | rfl <;> decide⟩
    have ok0 : Ok 3 3 [] := fun r hr => nomatch hr
    refine q_asg (g_space (K := K) (C := C) (rows := [[1, 2]]) (n := 2) (a := 3) d_int (d_lst (s_cons (two_ev 1 2) s_nil) (by show 1 ≤ 100000; decide)) (by decide) ok1 rd1) R9 fun sp A10 H10 g10 ks10 => ?_
    have R10 := g10.to R9
    have tb10 := tabs_gr R9 tb9 g10
    have c10 := c9.trans g10.reg
    refine q_asg (P := SpO K C 3 []) (g_space (K := K) (C := C) (rows := []) (n := 3) (a := 3) d_int (d_lst s_nil (Nat.zero_le _)) (by decide) ok0 rd0) R10 fun far A11 H11 g11 kf11 => ?_
    have R11 := g11.to R10
    have tb11 := tabs_gr R10 tb10 g11
    have c11 := c10.trans g11.reg
    have ks11 := mono_sp _ _ _ g11.reg ks10
    refine q_value (n := 3) R11 tb11 rfl (rz_or (F := F_badO K C) (Py := fun v H => v = far ∧ SpO K C 3 [] v H) (g_in rfl mono_sp (sp_nt ks11)) mono_sp iso_sp (g_in rfl (fun v H H' e k => ⟨k.1, mono_sp _ _ _ e k.2⟩) ⟨rfl, sp_nt kf11⟩) (fun v H H' e k => ⟨k.1, mono_sp _ _ _ e k.2⟩) (fun v H k => .inl (iso_sp v H k.2)) fun x y H' e kx ky => ⟨2, _, x, y, rfl, kx, .inr ⟨3, [], ky.2, by decide⟩, by rw [ky.1]⟩) rfl (sp_nt kf11) fun A12 H12 R12 e12 tb12 => ?_
    have c12 := (ex_nt c11 nt2).trans e12
    have ks12 := mono_sp _ _ _ e12 (sp_nt ks11)
    have kf12 := mono_sp _ _ _ e12 (sp_nt kf11)
    refine q_value (n := 3) R12 tb12 rfl (rz_meth (F := F_badO K C) (Py := fun v H => v = far ∧ SpO K C 3 [] v H) (g_in rfl mono_sp (sp_nt ks12)) mono_sp (fun v H ⟨c, dx, l, h1, h2, h3⟩ => ⟨c, dx, _, h1, h2, rfl⟩) (g_in rfl (fun v H H' e k => ⟨k.1, mono_sp _ _ _ e k.2⟩) ⟨rfl, sp_nt kf12⟩) (fun v H H' e k => ⟨k.1, mono_sp _ _ _ e k.2⟩) fun x y H' e kx ky => ⟨2, _, x, y, rfl, kx, .inr ⟨3, [], ky.2, by decide⟩, by rw [ky.1]⟩) rfl (sp_nt kf12) fun A13 H13 R13 e13 tb13 => ?_
    have c13 := (ex_nt c12 nt2).trans e13
    have ks13 := mono_sp _ _ _ e13 (sp_nt ks12)
    -- values that are no spaces
    refine s_forLn (K := K) (ds := others) (d_lst (s_cons d_non (s_cons d_int (s_cons (two_ev 1 2) (s_cons (d_lst (s_cons (two_ev 1 2) s_nil) (by show 1 ≤ 100000; decide)) s_nil)))) (by show 4 ≤ 100000; decide)) R13
      (fun _ σ' A' H' w => (∃ y10, σ' = [some (.ref sa), some lv, some (.int (i : Int)), some (.ref qp), some x4, some x5, some lr, y7', some sp, some far, y10]) ∧ w = (fun _ => none) ∧ Tabs [(Pt, qL)] A') (fun _ _ g => ⟨⟨_, rfl⟩, rfl, tabs_gr R13 tb13 g⟩) ?_ ?_
    · rintro H14 nt14 e14 j d x σ' A14 H14' w hj ⟨⟨y10', rfl⟩, rfl, tb14⟩ ex14 R14 kx
      have hd := List.mem_of_getElem? hj
      have ks14 := mono_sp _ _ _ (e14.trans ex14) (sp_nt ks13)
      refine q_heard (dat := d) R14 tb14 rfl (other_show d hd) (other_str d hd) (rz_is (rz_or (F := F_badO K C) (Py := fun v H => v = x ∧ Dq K H v d) (g_in rfl mono_sp (sp_nt ks14)) mono_sp iso_sp (g_in rfl (fun v H H' e k => ⟨k.1, dq_ex e _ _ k.2⟩) ⟨rfl, dq_nt _ _ kx⟩) (fun v H H' e k => ⟨k.1, dq_ex e _ _ k.2⟩) (fun v H k => .inr ⟨d, k.2⟩) fun x' y H' e kx' ky => ⟨2, _, x', y, rfl, kx', .inl ⟨d, ky.2⟩, by rw [ky.1]⟩) (dq_nt _ _ kx))
        (fun H1 e => rhs_ev rfl (dq_ex e _ _ (dq_nt _ _ kx)) (other_show d hd)) fun A15 H15 R15 e15 tb15 => ?_
      have kx15 := dq_ex e15 _ _ (dq_nt _ _ kx)
      have ks15 := mono_sp _ _ _ e15 (sp_nt ks14)
      refine s_heard (dat := d) R15 tb15 rfl (other_show d hd) (other_str d hd) (rz_is (rz_meth (F := F_badO K C) (Py := fun v H => v = x ∧ Dq K H v d) (g_in rfl mono_sp (sp_nt ks15)) mono_sp (fun v H ⟨c, dx, l, h1, h2, h3⟩ => ⟨c, dx, _, h1, h2, rfl⟩) (g_in rfl (fun v H H' e k => ⟨k.1, dq_ex e _ _ k.2⟩) ⟨rfl, dq_nt _ _ kx15⟩) (fun v H H' e k => ⟨k.1, dq_ex e _ _ k.2⟩) fun x' y H' e kx' ky => ⟨2, _, x', y, rfl, kx', .inl ⟨d, ky.2⟩, by rw [ky.1]⟩) (dq_nt _ _ kx15))
        (fun H1 e => rhs_ev rfl (dq_ex e _ _ (dq_nt _ _ kx15)) (other_show d hd)) fun A16 H16 R16 e16 tb16 => ⟨H16, _, ⟨⟨_, rfl⟩, rfl, tb16⟩, (ex_nt ((ex_nt ex14 nt14).trans e15) nt14).trans e16, R16⟩
    rintro σ' A14 H14 w ⟨⟨y10', rfl⟩, rfl, tb14⟩ e14 R14
    exact ⟨H14, _, ⟨⟨_, _, _, _, _, _, _, _, _, rfl⟩, rfl, tb14⟩, (ex_nt c13 nt2).trans e14, R14.nil⟩
  · rintro σ' A2 H2 w ⟨⟨y2, y3, y4, y5, y6, y7, y8, y9, y10, rfl⟩, rfl, tb2⟩ e2 R2
    exact q A2
end
end Q43
/-! the head's facts of error classes of one's own -/
namespace Z
open PySem PySem.Spec PyProof.Rows L2
open PySem.ZX (eA eB eS EvSup ErrTxt okF)
abbrev ErrW : Type := Option (Str × Str × Arguments × FuncBody × Scope × Addr × List Str × Addr)
def errA (K : PySem.W.Frag) (a : Addr) : ErrW := match K.lookup a with
  | some ⟨_, _, .func fd, _⟩ => some (fd.name, fd.qualname, fd.params, fd.body, fd.scope, fd.globals, fd.closure.map (·.1), fd.builtins)
  | _ => none
/-- the class, its field, its __init__ -/
abbrev ErrD : Type := Str × Str × Str × Stmt
def ErrD.val (d : ErrD) : ErrW := some ("__init__", d.2.2.1, defArgs d.2.2.2, .stmts (defBody d.2.2.2), defScope d.2.2.2, mainGlobals, [("__class__" : Str)], builtinsNs)
def errObjB (K : PySem.W.Frag) (C : Addr) : Bool := match K.lookup C with
  | some ⟨.type "type", _, .cls cd, sl⟩ => (match cd.mro, sl.toList with
    | .ref C' :: bm, [_, _, _, _, some (.builtin n), _] => decide (C' = C) && (decide (n = "ValueError.__new__") && (!cd.hasDel && (cd.hasDict && HandSPX.refsVE bm)))
    | _, _ => false)
  | _ => false
theorem errObj_ok {K : PySem.W.Frag} {C : Addr} (h : errObjB K C = true) : ∃ nm q N bs bm sn sub ab col dd k0 k1 k2 k3 k5, K.lookup C = some (PySem.excClassObj nm q C N bs bm true sn sub ab col dd k0 k1 k2 k3 k5 "ValueError.__new__") ∧ HandSPX.refsVE bm = true := by
  unfold errObjB at h
  split at h
  · rename_i dd cd sl ho
    split at h
    · rename_i C' bm k0 k1 k2 k3 n k5 hm hs
      obtain ⟨h1, h⟩ := Bool.and_eq_true_iff.mp h
      obtain ⟨h2, h⟩ := Bool.and_eq_true_iff.mp h
      obtain ⟨h3, h⟩ := Bool.and_eq_true_iff.mp h
      obtain ⟨h4, h5⟩ := Bool.and_eq_true_iff.mp h
      have e1 := of_decide_eq_true h1
      have e2 := of_decide_eq_true h2
      subst e1 e2
      obtain ⟨nm, bs, mro, ns, qn, hd, sn, sub, ab, col, del⟩ := cd
      dsimp only at hm h3 h4
      subst hm h4
      have e3 : del = false := by simpa using h3
      subst e3
      have e4 : sl = #[k0, k1, k2, k3, some (.builtin "ValueError.__new__"), k5] := by
        obtain ⟨l⟩ := sl
        simp only at hs
        rw [hs]
      subst e4
      exact ⟨nm, qn, ns, bs, bm, sn, sub, ab, col, dd, k0, k1, k2, k3, k5, ho, h5⟩
    · cases h
  · cases h
def isNn : Value → Bool
  | .none => true
  | _ => false
theorem isNn_ok {v : Value} (h : isNn v = true) : v = .none := by
  cases v <;> first | rfl | cases h
def errFileB (K : PySem.W.Frag) (C fI : Addr) (qual file : Str) : Bool := match K.lookup fI with
  | some ⟨_, _, .func fd, _⟩ => (isNn fd.defaults && isNn fd.kwdefaults) && (PySem.W.codeIn K fd.code qual && ((match fd.code with
    | .ref cda => (match K.lookup cda with
      | some ⟨_, _, .fields vs, _⟩ => (match vs[2]? with
        | some (Value.str fl _) => (file : Str) == fl
        | _ => false)
      | _ => false)
    | _ => false) && (match fd.closure with
    | [(_, cc)] => (match K.lookup cc with
      | some ⟨_, _, .cell (some (.ref C')), _⟩ => decide (C' = C)
      | _ => false)
    | _ => false)))
  | _ => false
def errB (K : PySem.W.Frag) (x fld qual file : Str) : Bool :=
  errObjB K (He.ga K x) && (He.eqO (PySem.W.findIn K (.ref (He.ga K x)) "__setattr__") (some (some (.builtin "object.__setattr__"))) && (He.eqO (PySem.W.findIn K (.ref (He.ga K x)) fld) (some none) && (He.eqO (PySem.W.findIn K (.ref (He.ga K x)) "__init__") (some (some (.ref (He.ma K (He.ga K x) "__init__")))) &&
  (decide (PySem.W.typeIn K (.ref (He.ma K (He.ga K x) "__init__")) = some (.type "function")) && (He.eqO (PySem.W.ks_superIn K (He.ga K x) (He.ga K x) "__init__") (some (some (.builtin "ValueError.__init__"))) && (decide (PySem.W.subIn K (.ref (He.ga K x)) (.type "ValueError") = some true) && (decide (PySem.W.mroIn K (He.ga K x) (.ref (He.ga K x)) = some true) &&
  (He.eqO (PySem.W.nsIn K cStatics "thirdparty.any") (some none) && (He.eqO (PySem.W.nsIn K mainGlobals "super") (some none) && (PySem.W.keepIn K (.ref (He.ga K x)) && (decide (PySem.W.subIn K (.ref (He.ga K x)) (.type "BaseException") = some true) && (decide (PySem.W.typeIn K (.ref (He.ga K x)) = some (.type "type")) && errFileB K (He.ga K x) (He.ma K (He.ga K x) "__init__") qual file))))))))))))
theorem errC_ok {P : Program} {K : PySem.W.Frag} {mg : Str → Option Value} {x fld qual : Str} {st : Stmt} {p1 p2 : Pos} {q : Nat → Pos} {txt : Str} {n1 : Nat} (e : errA K (He.ma K (He.ga K x) "__init__") = ErrD.val (x, fld, qual, st)) (h : errB K x fld qual P.main.file = true) (g : mg x = some (.ref (He.ga K x))) (top : (P.main.scope.names.lookup ("super" : Str)).isSome = false)
    (ok : okF fld = true) (ea : defArgs st = eA fld p1 p2) (eb : defBody st = eB fld txt n1 q) (es : defScope st = eS fld) (ev : EvSup txt n1 q)
    (bnd : ∀ (doc pm : Value) (an : Option Addr) (cda : Addr) (ct : Value) (cc : Addr) (x v : Value), bindArgs (PySem.W.ksFn "__init__" qual (eA fld p1 p2) (eB fld txt n1 q) (eS fld) .none .none doc pm an (.ref cda) ct cc) ⟨[x, v], []⟩ = pure [(("self" : Str), x), (fld, v)]) :
    ErrC P K mg x (He.ga K x) (He.ma K (He.ga K x) "__init__") fld := by
  unfold errB at h
  obtain ⟨h1, h⟩ := Bool.and_eq_true_iff.mp h
  obtain ⟨h2, h⟩ := Bool.and_eq_true_iff.mp h
  obtain ⟨h3, h⟩ := Bool.and_eq_true_iff.mp h
  obtain ⟨h4, h⟩ := Bool.and_eq_true_iff.mp h
  obtain ⟨h5, h⟩ := Bool.and_eq_true_iff.mp h
  obtain ⟨h6, h⟩ := Bool.and_eq_true_iff.mp h
  obtain ⟨h7, h⟩ := Bool.and_eq_true_iff.mp h
  obtain ⟨h8, h⟩ := Bool.and_eq_true_iff.mp h
  obtain ⟨h9, h⟩ := Bool.and_eq_true_iff.mp h
  obtain ⟨h10, h⟩ := Bool.and_eq_true_iff.mp h
  obtain ⟨h11, h⟩ := Bool.and_eq_true_iff.mp h
  obtain ⟨h12, h⟩ := Bool.and_eq_true_iff.mp h
  obtain ⟨h13, h14⟩ := Bool.and_eq_true_iff.mp h
  refine ⟨⟨errObj_ok h1, He.eqO_ok h2, He.eqO_ok h3, He.eqO_ok h4, of_decide_eq_true h5, He.eqO_ok h6, of_decide_eq_true h7, of_decide_eq_true h8, He.eqO_ok h9, He.eqO_ok h10, ?_⟩, ok, top, g, h11, of_decide_eq_true h12, of_decide_eq_true h13⟩
  unfold errFileB at h14
  unfold errA at e
  split at h14
  · rename_i oc od fd osl ho
    rw [ho] at e
    obtain ⟨n1', n2, n3, n4, n5, n6, n7, n8, n9, n10, n11, n12, n13, n14, n15⟩ := fd
    have e2 : (some (n1', n2, n3, n4, n5, n6, n7.map (·.1), n15) : ErrW) = ErrD.val (x, fld, qual, st) := e
    unfold ErrD.val at e2
    simp only [Option.some.injEq, Prod.mk.injEq] at e2
    obtain ⟨k1, k2, k3, k4, k5, k6, k7, k8⟩ := e2
    subst k1 k2 k3 k4 k5 k6 k8
    obtain ⟨d1, h15⟩ := Bool.and_eq_true_iff.mp h14
    obtain ⟨d2, d3⟩ := Bool.and_eq_true_iff.mp d1
    obtain ⟨c1, h16⟩ := Bool.and_eq_true_iff.mp h15
    obtain ⟨f1, f2⟩ := Bool.and_eq_true_iff.mp h16
    have e8 := isNn_ok d2
    have e9 := isNn_ok d3
    dsimp only at e8 e9 c1 f1 f2
    subst e8 e9
    cases n13 with
    | ref cda =>
      dsimp only at f1
      split at f1
      · rename_i ccl cdd vs ccs hoc
        split at f1
        · rename_i fl tf hv
          split at f2
          · rename_i _ nm cc
            have e7 : nm = ("__class__" : Str) := by simpa using k7
            subst e7
            split at f2
            · rename_i cl cld C' csl hcc
              have e10 := of_decide_eq_true f2
              subst e10
              refine ⟨cda, ccl, cdd, vs, ccs, fl, tf, cc, cl, cld, csl, oc, od, n10, n11, n12, n14, osl, txt, n1, p1, p2, q, n2, ev, hoc, hv, f1, hcc, ?_, c1, fun x v => bnd _ _ _ _ _ _ x v⟩
              rw [ho, ← ea, ← eb, ← es]
            · cases f2
          · cases f2
        · cases f1
      · cases f1
    | _ => cases f1
  · cases h14
/-! what isinstance and a field ask of an error class -/
def excCB (K : PySem.W.Frag) (C : Addr) : Bool := He.eqO (PySem.W.findIn K (.ref C) "__getattribute__") (some (some (.builtin "BaseException.__getattribute__"))) && (He.eqO (PySem.W.findIn K (.ref C) "__getattr__") (some none) && (decide (PySem.W.subIn K (.ref C) (.type "BaseException") = some true) && (PySem.W.hasDictIn K C &&
  (He.eqO (PySem.W.findIn K (.ref C) "__class__") (some (some (.builtin "object.__class__"))) && (He.eqO (PySem.W.specialIn K (.builtin "object.__class__") "__get__") (some (some (.builtin "getset_descriptor.__get__"))) && (decide (PySem.W.takesIn K (.builtin "object.__class__") = some true) && decide (PySem.W.mroIn K C (.type "object") = some true)))))))
theorem excC_ok {K : PySem.W.Frag} {C : Addr} (h : excCB K C = true) : ExcC K C ∧ XfC K C := by
  unfold excCB at h
  obtain ⟨h1, h⟩ := Bool.and_eq_true_iff.mp h
  obtain ⟨h2, h⟩ := Bool.and_eq_true_iff.mp h
  obtain ⟨h3, h⟩ := Bool.and_eq_true_iff.mp h
  obtain ⟨h4, h⟩ := Bool.and_eq_true_iff.mp h
  obtain ⟨h5, h⟩ := Bool.and_eq_true_iff.mp h
  obtain ⟨h6, h⟩ := Bool.and_eq_true_iff.mp h
  obtain ⟨h7, h8⟩ := Bool.and_eq_true_iff.mp h
  exact ⟨⟨He.eqO_ok h1, He.eqO_ok h2, of_decide_eq_true h3, h4, He.eqO_ok h5, He.eqO_ok h6, of_decide_eq_true h7, of_decide_eq_true h8⟩, He.eqO_ok h1, He.eqO_ok h2, of_decide_eq_true h3, h4⟩
/-- a def's code object -/
theorem code_is {K : PySem.W.Frag} {x qual : Str} {params : Arguments} {body : List Stmt} {scope : Scope} {dvs : List V} {kws : List (Str × V)} {p : Str × Option Str} {fd : FuncData} (F : FunD K x qual params body scope dvs kws (He.fAd K p) fd) : fd.code = .ref (He.codeOf K p) := by
  obtain ⟨oc, od, dV, kV, doc, pm, an, cdv, ct, osl, rfl, lk, cd, _, _⟩ := F.ex
  obtain ⟨c, rfl⟩ := He.codeIn_ref cd
  rw [He.codeOf_eq lk rfl]
/-! the Hook, with tables and error classes; the interpreter's statics, too -/
def asS (g : Addr → Option Obj) (n : Nat) : List Addr := He.asD g n ++ [cStatics]
def obsXS (n : Nat) (fa : List He.Fa) (fn : List He.DefD) (tf : List He.Defn) (ex : PySem.W.Frag → Bool) (g : Addr → Option Obj) : He.AlX := (He.obsT fa fn [] (He.frT g (asS g n)), ex (He.frT g (asS g n)) && He.tabsB g tf (He.frT g (asS g n)))
theorem saysXS {n : Nat} {fa : List He.Fa} {fn : List He.DefD} {tf : List He.Defn} {ex : PySem.W.Frag → Bool} {w : World} {h : Heap} (e : obsXS n fa fn tf ex h.get? = He.valX fn [] w) : He.SaysX fa fn [] tf ex w h (He.frT h.get? (asS h.get? n)) := by
  obtain ⟨h1, h2⟩ := Bool.and_eq_true_iff.mp (show (ex (He.frT h.get? (asS h.get? n)) && He.tabsB h.get? tf (He.frT h.get? (asS h.get? n))) = true from congrArg (fun z : He.AlX => z.2) e)
  have tab : ∀ p ∈ tf, PySem.W.codeHdIn (He.frT h.get? (asS h.get? n)) (He.cT (He.frT h.get? (asS h.get? n)) p).1 (He.cT (He.frT h.get? (asS h.get? n)) p).2 = true ∧ ∃ o, h.get? (He.cT (He.frT h.get? (asS h.get? n)) p).2 = some o ∧ He.emptyTab o = true := by
    intro p hp
    obtain ⟨h3, h4⟩ := Bool.and_eq_true_iff.mp (List.all_eq_true.mp h2 p hp)
    refine ⟨h3, ?_⟩
    generalize h.get? (He.cT (He.frT h.get? (asS h.get? n)) p).2 = r at h4
    match r, h4 with
    | some o, z => exact ⟨o, rfl, z⟩
  refine ⟨congrArg (fun z : He.AlX => z.1) e, h1, fun p hp => (tab p hp).1, fun p hp => ?_, fun p hp => ?_⟩
  · obtain ⟨_, o, q, z⟩ := tab p hp
    exact He.frT_none q z
  · obtain ⟨_, o, q, z⟩ := tab p hp
    rw [q, He.emptyTab_eq z]
abbrev AlE : Type := AlP × List ErrW
def errsA (K : PySem.W.Frag) (es : List ErrD) : List ErrW := es.map fun d => errA K (He.ma K (He.ga K d.1) "__init__")
def obsE (n : Nat) (fa : List He.Fa) (fn : List He.DefD) (tf : List He.Defn) (ex : PySem.W.Frag → Bool) (gs : List GetD) (es : List ErrD) (g : Addr → Option Obj) : AlE := ((obsXS n fa fn tf ex g, getsA (He.frT g (asS g n)) gs), errsA (He.frT g (asS g n)) es)
def hookE (n : Nat) (fa : List He.Fa) (fn : List He.DefD) (tf : List He.Defn) (ex : PySem.W.Frag → Bool) (gs : List GetD) (es : List ErrD) : PySem.W.Hook where
  α := AlE
  obs := fun s => obsE n fa fn tf ex gs es s.heap.get?
  val := fun w => ((He.valX fn [] w, gs.map GetD.val), es.map ErrD.val)
  says := fun w h => ∃ K : PySem.W.Frag, K.In h ∧ He.SaysX fa fn [] tf ex w h K ∧ getsA K gs = gs.map GetD.val ∧ errsA K es = es.map ErrD.val
  of := fun _ _ e => ⟨_, He.frT_in, saysXS (congrArg (fun z : AlE => z.1.1) e), congrArg (fun z : AlE => z.1.2) e, congrArg (fun z : AlE => z.2) e⟩
  keeps := fun _ _ _ ⟨K, hK, c, cg, ce⟩ k => ⟨K, PySem.W.Frag.In.keeps hK k, ⟨c.t, c.more, c.hd, c.out, fun p hp => k _ _ (c.empty p hp)⟩, cg, ce⟩
theorem obsE_eq {n : Nat} {fa : List He.Fa} {fn : List He.DefD} {tf : List He.Defn} {ex : PySem.W.Frag → Bool} {gs : List GetD} {es : List ErrD} {g : Addr → Option Obj} {s : Shared} (h : ∀ a, g a = s.heap.get? a) : obsE n fa fn tf ex gs es g = (hookE n fa fn tf ex gs es).obs s := by
  have e : g = s.heap.get? := funext h
  rw [e] <;> rfl
theorem errs_at {K : PySem.W.Frag} {es : List ErrD} (c : errsA K es = es.map ErrD.val) (i : Nat) {d : ErrD} (h : es[i]? = some d) : errA K (He.ma K (He.ga K d.1) "__init__") = ErrD.val d := by
  have e : (errsA K es)[i]? = (es.map ErrD.val)[i]? := by rw [c]
  unfold errsA at e
  rw [List.getElem?_map, List.getElem?_map, h] at e
  exact Option.some.inj e
end Z
namespace Z
open PySem PySem.Spec PyProof.Rows L2
/-- where the parts of such an __init__ stand -/
def eposOf (st : Stmt) : Nat → Pos := match defBody st with
  | [.Expr (.Call (.Attribute (.Call (.Name _ a0) _ _ a1) _ a2) [.Constant _ _ a3] _ a4) a5, .Assign [.Attribute (.Name _ a6) _ a7] (.Name _ a8) a9] => fun i => match i with
    | 0 => a0
    | 1 => a1
    | 2 => a2
    | 3 => a3
    | 4 => a4
    | 5 => a5
    | 6 => a6
    | 7 => a7
    | 8 => a8
    | _ => a9
  | _ => fun _ => ⟨0, 0, 0, 0⟩
end Z
/-! the head: what the top has written, the run, the law -/
namespace Q43
open PySem PySem.Spec PyProof.Rows L2 Z LamX
abbrev s__kernel_row : Stmt := top 18
abbrev dfn (x : Str) (s : Stmt) : He.DefD := ⟨(x, none), x, x, defArgs s, defBody s, defScope s, [], []⟩
abbrev mth (m q : Str) (s : Stmt) : He.DefD := ⟨("Space", some m), m, q, defArgs s, defBody s, defScope s, [], []⟩
def fnL : List He.DefD := [dfn "is_whole" s_is_whole, dfn "is_row" s_is_row, dfn "check_rows" s_check_rows, dfn "reduced" s_reduced, dfn "kernel" s_kernel, dfn "remainder" s_remainder, dfn "_with_row" s__with_row, dfn "_first_place" s__first_place, dfn "_cleared" s__cleared, dfn "without_factor" s_without_factor, dfn "_leading_above_zero" s__leading_above_zero, dfn "_kernel_row" s__kernel_row, dfn "_is_space" s__is_space, dfn "_law_pool" s__law_pool, dfn "_law_take" s__law_take, dfn "_law_heard" s__law_heard, dfn "_law_value" s__law_value, dfn "law" s_law, mth "__init__" "Space.__init__" (sp_m 0), mth "__contains__" "Space.__contains__" (sp_m 3), mth "__len__" "Space.__len__" (sp_m 4), mth "__eq__" "Space.__eq__" (sp_m 5), mth "__or__" "Space.__or__" (sp_m 6), mth "is_within" "Space.is_within" (sp_m 7)]
def faL : List He.Fa := [.glo "is_whole", .glo "is_row", .glo "check_rows", .glo "reduced", .glo "kernel", .glo "remainder", .glo "_with_row", .glo "_first_place", .glo "_cleared", .glo "without_factor", .glo "_leading_above_zero", .glo "_kernel_row", .glo "_is_space", .glo "_law_pool", .glo "_law_take", .glo "_law_heard", .glo "_law_value", .glo "law", .free "isinstance", .free "len", .free "all", .free "any", .free "tuple", .free "list", .free "int", .free "bool", .free "abs", .free "range", .free "zip", .free "enumerate", .free "sum", .free "max", .free "min", .free "repr", .glo "Space", .cls "Space", .mkr "Space", .noat "Space" "_width", .noat "Space" "_rows", .noat "Space" "__bool__", .noat "Space" "__ror__", .meth "Space" "__contains__", .meth "Space" "__len__", .meth "Space" "__eq__", .meth "Space" "__or__", .meth "Space" "is_within", .glo "FreshError", .glo "InvalidTree", .glo "InvalidRow", .exm "InvalidRow" "FreshError" true, .exm "InvalidRow" "InvalidRow" true]
def gsL : List GetD := [("Space", "width", "Space.width", sp_m 1), ("Space", "rows", "Space.rows", sp_m 2)]
def esL : List ErrD := [("InvalidRow", "value", "InvalidRow.__init__", inClass (top 4) 0)]
def tfL : List He.Defn := [("law", none)]
def fileL : Str := PySem.Challenge.pw_freshplaces_k43_errors_of_rows.main.file
def exL (K : PySem.W.Frag) : Bool := (He.eqO (PySem.W.nsIn K mainGlobals "gcd") (some (some (.builtin "math.gcd"))) && (insB K "Space" && (noInsB K "Space" && (He.eqO (PySem.W.findIn K (.ref (He.ga K "Space")) "__ne__") (some (some (.builtin "object.__ne__"))) && (PySem.W.selfFirst K (He.ga K "Space") && (propB K "Space" "width" && (propB K "Space" "rows" && (getB K "Space" "width" "Space.width" && (getB K "Space" "rows" "Space.rows" && (excCB K (He.ga K "InvalidRow") && (errB K "InvalidRow" "value" "InvalidRow.__init__" fileL && (decide (PySem.W.kitOne K (.ref (He.ga K "InvalidRow")) (.ref (He.ga K "InvalidRow")) = some true) && decide (PySem.W.kitOne K (.ref (He.ga K "InvalidRow")) (.ref (He.ga K "InvalidTree")) = some false)))))))))))))
abbrev Rw : PySem.W.OpenRow := PySem.W.OpenLaw.row PySem.Challenge.rw_freshplaces_k43_errors_of_rows
abbrev hk : PySem.W.Hook := hookE 8 faL fnL tfL exL gsL esL
def ob (s : PySem.W.SharedT) : AlE := obsE 8 faL fnL tfL exL gsL esL (HandSHeadRun.getT s)
theorem ob_eq (s : PySem.W.SharedT) : ob s = hk.obs s.abs := obsE_eq (HandSHeadRun.getT_eq s)
def loose : List PySem.Str := ["__name__", "FreshError", "InvalidTree", "InvalidRow", "Space", "is_whole", "is_row", "check_rows", "reduced", "kernel", "remainder", "_with_row", "_first_place", "_cleared", "without_factor", "_leading_above_zero", "_kernel_row", "_is_space", "_law_pool", "_law_take", "_law_heard", "_law_value"]
theorem facts {P : Program} {w : World} {K : PySem.W.Frag} {h : Heap} {mg : Str → Option Value} {f : Addr} (X : K.In h) (G : h.Ns mainGlobals mg) (hfa : mg ("law" : Str) = some (.ref f)) (cx : He.SaysX faL fnL [] tfL exL w h K) (cg : getsA K gsL = gsL.map GetD.val) (ce : errsA K esL = esL.map ErrD.val) (hfile : P.main.file = PySem.Challenge.pw_freshplaces_k43_errors_of_rows.main.file) (hsup : (P.main.scope.names.lookup ("super" : Str)).isSome = false) :
    ∃ fd : FuncData, (∀ (s : Shared) (v : Value), BindsTo s fd ⟨[v], []⟩ [("_law_script", v)]) ∧ ∀ base : Heap, K.In base → base.Ns mainGlobals mg → (∀ q ∈ [He.cT K ("law", none)], TabB base mg q.1 q.2) → FnG P w K mg base 11 f fd ["_law_script"] (spLaw K [He.cT K ("law", none)]) := by
  have c := cx.t.d
  have e2 : (He.eqO (PySem.W.nsIn K mainGlobals "gcd") (some (some (.builtin "math.gcd"))) && (insB K "Space" && (noInsB K "Space" && (He.eqO (PySem.W.findIn K (.ref (He.ga K "Space")) "__ne__") (some (some (.builtin "object.__ne__"))) && (PySem.W.selfFirst K (He.ga K "Space") && (propB K "Space" "width" && (propB K "Space" "rows" && (getB K "Space" "width" "Space.width" && (getB K "Space" "rows" "Space.rows" && (excCB K (He.ga K "InvalidRow") && (errB K "InvalidRow" "value" "InvalidRow.__init__" fileL && (decide (PySem.W.kitOne K (.ref (He.ga K "InvalidRow")) (.ref (He.ga K "InvalidRow")) = some true) && decide (PySem.W.kitOne K (.ref (He.ga K "InvalidRow")) (.ref (He.ga K "InvalidTree")) = some false))))))))))))) = true := cx.more
  obtain ⟨x_gcd, e3⟩ := Bool.and_eq_true_iff.mp e2
  obtain ⟨x_ins, e4⟩ := Bool.and_eq_true_iff.mp e3
  obtain ⟨x_no, e5⟩ := Bool.and_eq_true_iff.mp e4
  obtain ⟨x_ne, e6⟩ := Bool.and_eq_true_iff.mp e5
  obtain ⟨x_sf, e7⟩ := Bool.and_eq_true_iff.mp e6
  obtain ⟨x_p_width, e8⟩ := Bool.and_eq_true_iff.mp e7
  obtain ⟨x_p_rows, e9⟩ := Bool.and_eq_true_iff.mp e8
  obtain ⟨x_g_width, e10⟩ := Bool.and_eq_true_iff.mp e9
  obtain ⟨x_g_rows, e11⟩ := Bool.and_eq_true_iff.mp e10
  obtain ⟨x_c_InvalidRow, e12⟩ := Bool.and_eq_true_iff.mp e11
  obtain ⟨x_e_InvalidRow, e13⟩ := Bool.and_eq_true_iff.mp e12
  obtain ⟨x_k_0, e14⟩ := Bool.and_eq_true_iff.mp e13
  have x_k_1 := e14
  have m_gcd : mg "gcd" = some (.builtin "math.gcd") := PySem.W.mg_of X G (He.eqO_ok x_gcd)
  have B : Bs mg := ⟨He.free_ok X G (c.fact 18 (f := .free "isinstance") rfl), He.free_ok X G (c.fact 19 (f := .free "len") rfl), He.free_ok X G (c.fact 20 (f := .free "all") rfl), He.free_ok X G (c.fact 21 (f := .free "any") rfl), He.free_ok X G (c.fact 22 (f := .free "tuple") rfl), He.free_ok X G (c.fact 23 (f := .free "list") rfl), He.free_ok X G (c.fact 24 (f := .free "int") rfl), He.free_ok X G (c.fact 25 (f := .free "bool") rfl), He.free_ok X G (c.fact 26 (f := .free "abs") rfl), He.free_ok X G (c.fact 27 (f := .free "range") rfl), He.free_ok X G (c.fact 28 (f := .free "zip") rfl), He.free_ok X G (c.fact 29 (f := .free "enumerate") rfl), He.free_ok X G (c.fact 30 (f := .free "sum") rfl), He.free_ok X G (c.fact 31 (f := .free "max") rfl), He.free_ok X G (c.fact 32 (f := .free "min") rfl)⟩
  have g := fun i (x : Str) (h : faL[i]? = some (.glo x)) => He.glo_ok X G (c.fact i (f := .glo x) h)
  have H_is_whole : St K mg "is_whole" s_is_whole ["value"] := by
    obtain ⟨fd, F⟩ := c.def_ 0 (d := dfn "is_whole" s_is_whole) rfl
    exact ⟨_, fd, F, g 0 _ rfl, F.bindsN fun _ _ _ _ _ _ us hl => match us, hl with | [_], _ => rfl⟩
  have H_is_row : St K mg "is_row" s_is_row ["value", "width"] := by
    obtain ⟨fd, F⟩ := c.def_ 1 (d := dfn "is_row" s_is_row) rfl
    exact ⟨_, fd, F, g 1 _ rfl, F.bindsN fun _ _ _ _ _ _ us hl => match us, hl with | [_, _], _ => rfl⟩
  have H_check_rows : St K mg "check_rows" s_check_rows ["rows", "width"] := by
    obtain ⟨fd, F⟩ := c.def_ 2 (d := dfn "check_rows" s_check_rows) rfl
    exact ⟨_, fd, F, g 2 _ rfl, F.bindsN fun _ _ _ _ _ _ us hl => match us, hl with | [_, _], _ => rfl⟩
  have H_reduced : St K mg "reduced" s_reduced ["rows", "width"] := by
    obtain ⟨fd, F⟩ := c.def_ 3 (d := dfn "reduced" s_reduced) rfl
    exact ⟨_, fd, F, g 3 _ rfl, F.bindsN fun _ _ _ _ _ _ us hl => match us, hl with | [_, _], _ => rfl⟩
  have H_kernel : St K mg "kernel" s_kernel ["rows", "width"] := by
    obtain ⟨fd, F⟩ := c.def_ 4 (d := dfn "kernel" s_kernel) rfl
    exact ⟨_, fd, F, g 4 _ rfl, F.bindsN fun _ _ _ _ _ _ us hl => match us, hl with | [_, _], _ => rfl⟩
  have H_remainder : St K mg "remainder" s_remainder ["row", "found"] := by
    obtain ⟨fd, F⟩ := c.def_ 5 (d := dfn "remainder" s_remainder) rfl
    exact ⟨_, fd, F, g 5 _ rfl, F.bindsN fun _ _ _ _ _ _ us hl => match us, hl with | [_, _], _ => rfl⟩
  have H__with_row : St K mg "_with_row" s__with_row ["found", "row"] := by
    obtain ⟨fd, F⟩ := c.def_ 6 (d := dfn "_with_row" s__with_row) rfl
    exact ⟨_, fd, F, g 6 _ rfl, F.bindsN fun _ _ _ _ _ _ us hl => match us, hl with | [_, _], _ => rfl⟩
  have H__first_place : St K mg "_first_place" s__first_place ["row"] := by
    obtain ⟨fd, F⟩ := c.def_ 7 (d := dfn "_first_place" s__first_place) rfl
    exact ⟨_, fd, F, g 7 _ rfl, F.bindsN fun _ _ _ _ _ _ us hl => match us, hl with | [_], _ => rfl⟩
  have H__cleared : St K mg "_cleared" s__cleared ["row", "one", "place"] := by
    obtain ⟨fd, F⟩ := c.def_ 8 (d := dfn "_cleared" s__cleared) rfl
    exact ⟨_, fd, F, g 8 _ rfl, F.bindsN fun _ _ _ _ _ _ us hl => match us, hl with | [_, _, _], _ => rfl⟩
  have H_without_factor : St K mg "without_factor" s_without_factor ["numbers"] := by
    obtain ⟨fd, F⟩ := c.def_ 9 (d := dfn "without_factor" s_without_factor) rfl
    exact ⟨_, fd, F, g 9 _ rfl, F.bindsN fun _ _ _ _ _ _ us hl => match us, hl with | [_], _ => rfl⟩
  have H__leading_above_zero : St K mg "_leading_above_zero" s__leading_above_zero ["row", "place"] := by
    obtain ⟨fd, F⟩ := c.def_ 10 (d := dfn "_leading_above_zero" s__leading_above_zero) rfl
    exact ⟨_, fd, F, g 10 _ rfl, F.bindsN fun _ _ _ _ _ _ us hl => match us, hl with | [_, _], _ => rfl⟩
  have H__kernel_row : St K mg "_kernel_row" s__kernel_row ["found", "leading", "free", "width"] := by
    obtain ⟨fd, F⟩ := c.def_ 11 (d := dfn "_kernel_row" s__kernel_row) rfl
    exact ⟨_, fd, F, g 11 _ rfl, F.bindsN fun _ _ _ _ _ _ us hl => match us, hl with | [_, _, _, _], _ => rfl⟩
  have H__is_space : St K mg "_is_space" s__is_space ["value", "width"] := by
    obtain ⟨fd, F⟩ := c.def_ 12 (d := dfn "_is_space" s__is_space) rfl
    exact ⟨_, fd, F, g 12 _ rfl, F.bindsN fun _ _ _ _ _ _ us hl => match us, hl with | [_, _], _ => rfl⟩
  have H__law_pool : St K mg "_law_pool" s__law_pool ["_law_script", "_law_k"] := by
    obtain ⟨fd, F⟩ := c.def_ 13 (d := dfn "_law_pool" s__law_pool) rfl
    exact ⟨_, fd, F, g 13 _ rfl, F.bindsN fun _ _ _ _ _ _ us hl => match us, hl with | [_, _], _ => rfl⟩
  have H__law_take : St K mg "_law_take" s__law_take ["_law_pool_here", "_law_wide"] := by
    obtain ⟨fd, F⟩ := c.def_ 14 (d := dfn "_law_take" s__law_take) rfl
    exact ⟨_, fd, F, g 14 _ rfl, F.bindsN fun _ _ _ _ _ _ us hl => match us, hl with | [_, _], _ => rfl⟩
  have H__law_heard : St K mg "_law_heard" s__law_heard ["_law_call"] := by
    obtain ⟨fd, F⟩ := c.def_ 15 (d := dfn "_law_heard" s__law_heard) rfl
    exact ⟨_, fd, F, g 15 _ rfl, F.bindsN fun _ _ _ _ _ _ us hl => match us, hl with | [_], _ => rfl⟩
  have H__law_value : St K mg "_law_value" s__law_value ["_law_call"] := by
    obtain ⟨fd, F⟩ := c.def_ 16 (d := dfn "_law_value" s__law_value) rfl
    exact ⟨_, fd, F, g 16 _ rfl, F.bindsN fun _ _ _ _ _ _ us hl => match us, hl with | [_], _ => rfl⟩
  have M_init : StM K "__init__" "Space.__init__" (sp_m 0) (He.ma K (He.ga K "Space") "__init__") ["self", "width", "rows"] := by
    obtain ⟨fd, F⟩ := c.def_ 18 (d := mth "__init__" "Space.__init__" (sp_m 0)) rfl
    exact ⟨fd, F, F.bindsN fun _ _ _ _ _ _ us hl => match us, hl with | [_, _, _], _ => rfl⟩
  have M_contains : StM K "__contains__" "Space.__contains__" (sp_m 3) (He.ma K (He.ga K "Space") "__contains__") ["self", "row"] := by
    obtain ⟨fd, F⟩ := c.def_ 19 (d := mth "__contains__" "Space.__contains__" (sp_m 3)) rfl
    exact ⟨fd, F, F.bindsN fun _ _ _ _ _ _ us hl => match us, hl with | [_, _], _ => rfl⟩
  have M_len : StM K "__len__" "Space.__len__" (sp_m 4) (He.ma K (He.ga K "Space") "__len__") ["self"] := by
    obtain ⟨fd, F⟩ := c.def_ 20 (d := mth "__len__" "Space.__len__" (sp_m 4)) rfl
    exact ⟨fd, F, F.bindsN fun _ _ _ _ _ _ us hl => match us, hl with | [_], _ => rfl⟩
  have M_eq : StM K "__eq__" "Space.__eq__" (sp_m 5) (He.ma K (He.ga K "Space") "__eq__") ["self", "other"] := by
    obtain ⟨fd, F⟩ := c.def_ 21 (d := mth "__eq__" "Space.__eq__" (sp_m 5)) rfl
    exact ⟨fd, F, F.bindsN fun _ _ _ _ _ _ us hl => match us, hl with | [_, _], _ => rfl⟩
  have M_or : StM K "__or__" "Space.__or__" (sp_m 6) (He.ma K (He.ga K "Space") "__or__") ["self", "other"] := by
    obtain ⟨fd, F⟩ := c.def_ 22 (d := mth "__or__" "Space.__or__" (sp_m 6)) rfl
    exact ⟨fd, F, F.bindsN fun _ _ _ _ _ _ us hl => match us, hl with | [_, _], _ => rfl⟩
  have M_is_within : StM K "is_within" "Space.is_within" (sp_m 7) (He.ma K (He.ga K "Space") "is_within") ["self", "other"] := by
    obtain ⟨fd, F⟩ := c.def_ 23 (d := mth "is_within" "Space.is_within" (sp_m 7)) rfl
    exact ⟨fd, F, F.bindsN fun _ _ _ _ _ _ us hl => match us, hl with | [_, _], _ => rfl⟩
  have M_width : StM K "width" "Space.width" (sp_m 1) (gA K "Space" "width") ["self"] := by
    obtain ⟨fd, F⟩ := get_ok (d := ("Space", "width", "Space.width", sp_m 1)) (gets_at cg 0 rfl) x_g_width
    exact ⟨fd, F, F.bindsN fun _ _ _ _ _ _ us hl => match us, hl with | [_], _ => rfl⟩
  have M_rows : StM K "rows" "Space.rows" (sp_m 2) (gA K "Space" "rows") ["self"] := by
    obtain ⟨fd, F⟩ := get_ok (d := ("Space", "rows", "Space.rows", sp_m 2)) (gets_at cg 1 rfl) x_g_rows
    exact ⟨fd, F, F.bindsN fun _ _ _ _ _ _ us hl => match us, hl with | [_], _ => rfl⟩
  have mC : mg "Space" = some (.ref (He.ga K "Space")) := g 34 _ rfl
  have cl : Cls K (He.ga K "Space") := He.cls_ok (c.fact 35 (f := .cls "Space") rfl)
  have Mk0 : Mk K (He.ga K "Space") (He.ma K (He.ga K "Space") "__init__") := He.mkr_ok (c.fact 36 (f := .mkr "Space") rfl)
  have no_width : NoAttr K (He.ga K "Space") "_width" := He.noat_ok (c.fact 37 (f := .noat "Space" "_width") rfl)
  have no_rows : NoAttr K (He.ga K "Space") "_rows" := He.noat_ok (c.fact 38 (f := .noat "Space" "_rows") rfl)
  have no_bool : NoAttr K (He.ga K "Space") "__bool__" := He.noat_ok (c.fact 39 (f := .noat "Space" "__bool__") rfl)
  have no_ror : NoAttr K (He.ga K "Space") "__ror__" := He.noat_ok (c.fact 40 (f := .noat "Space" "__ror__") rfl)
  have h_contains : Meth K (He.ga K "Space") "__contains__" (He.ma K (He.ga K "Space") "__contains__") := He.meth_ok (c.fact 41 (f := .meth "Space" "__contains__") rfl)
  have h_len : Meth K (He.ga K "Space") "__len__" (He.ma K (He.ga K "Space") "__len__") := He.meth_ok (c.fact 42 (f := .meth "Space" "__len__") rfl)
  have h_eq : Meth K (He.ga K "Space") "__eq__" (He.ma K (He.ga K "Space") "__eq__") := He.meth_ok (c.fact 43 (f := .meth "Space" "__eq__") rfl)
  have h_or : Meth K (He.ga K "Space") "__or__" (He.ma K (He.ga K "Space") "__or__") := He.meth_ok (c.fact 44 (f := .meth "Space" "__or__") rfl)
  have h_is_within : Meth K (He.ga K "Space") "is_within" (He.ma K (He.ga K "Space") "is_within") := He.meth_ok (c.fact 45 (f := .meth "Space" "is_within") rfl)
  have m_repr : mg "repr" = none := He.free_ok X G (c.fact 33 (f := .free "repr") rfl)
  have m_FreshError : mg "FreshError" = some (.ref (He.ga K "FreshError")) := g 46 _ rfl
  have m_InvalidTree : mg "InvalidTree" = some (.ref (He.ga K "InvalidTree")) := g 47 _ rfl
  have m_InvalidRow : mg "InvalidRow" = some (.ref (He.ga K "InvalidRow")) := g 48 _ rfl
  have exm_InvalidRow_FreshError : PySem.W.exmOne K (.ref (He.ga K "InvalidRow")) (.ref (He.ga K "FreshError")) = some true := He.exm_ok (c.fact 49 (f := .exm "InvalidRow" "FreshError" true) rfl)
  have exm_InvalidRow_InvalidRow : PySem.W.exmOne K (.ref (He.ga K "InvalidRow")) (.ref (He.ga K "InvalidRow")) = some true := He.exm_ok (c.fact 50 (f := .exm "InvalidRow" "InvalidRow" true) rfl)
  obtain ⟨ec_InvalidRow, xf_InvalidRow⟩ := excC_ok x_c_InvalidRow
  have T_InvalidRow : ErrC P K mg "InvalidRow" (He.ga K "InvalidRow") (He.ma K (He.ga K "InvalidRow") "__init__") "value" := errC_ok (q := eposOf (inClass (top 4) 0)) (errs_at ce 0 rfl) (by rw [hfile]; exact x_e_InvalidRow) m_InvalidRow hsup (by decide +kernel) rfl rfl rfl (fun env => ⟨_, rfl⟩) (fun _ _ _ _ _ _ _ _ => rfl)
  have S : SpC K (He.ga K "Space") := ⟨ins_ok cl x_ins, noIns_ok x_no, no_width, no_rows, no_bool, He.eqO_ok x_ne, x_sf⟩
  have hp_width := prop_ok x_p_width
  have Hr : Hear K mg (He.ga K "FreshError") (He.ga K "InvalidRow") (He.ga K "InvalidTree") := ⟨m_FreshError, m_InvalidRow, m_InvalidTree, exm_InvalidRow_FreshError, ec_InvalidRow, xf_InvalidRow, T_InvalidRow.t.noN, of_decide_eq_true x_k_0, of_decide_eq_true x_k_1⟩
  obtain ⟨fd, F⟩ := c.def_ 17 (d := dfn "law" s_law) rfl
  have e := hfa.symm.trans (g 17 _ rfl)
  cases e
  have b := FunD.bindsA (ps := ["_law_script"]) F fun _ _ _ _ _ _ us hl => match us, hl with | [_], _ => rfl
  refine ⟨fd, fun s v => b s [v] rfl, fun base _ _ htb => ?_⟩
  have D_is_whole := dn_is_whole (P := P) (w := w) (base := base) H_is_whole B
  have D_is_row := dn_is_row H_is_row B D_is_whole
  have D_check_rows := dn_check_rows H_check_rows B D_is_row
  have D__first_place := dn__first_place (P := P) (w := w) (base := base) H__first_place B
  have D_without_factor := dn_without_factor (P := P) (w := w) (base := base) H_without_factor B m_gcd
  have D__leading_above_zero := dn__leading_above_zero (P := P) (w := w) (base := base) H__leading_above_zero B
  have D__cleared := dn__cleared H__cleared B D_without_factor
  have D_remainder := dn_remainder H_remainder B D__first_place D__cleared
  have D__with_row := dn__with_row H__with_row B D__first_place D__cleared D_remainder D_without_factor D__leading_above_zero
  have D_reduced := dn_reduced H_reduced B D_check_rows D__with_row
  have D_init := mn_init M_init S B D_is_whole D_reduced
  have D_width := mn_width (P := P) (w := w) (mg := mg) (base := base) M_width S
  have D_con := mn_con M_contains S B D_is_row D_remainder
  have D_eq := mn_eq (P := P) (w := w) (mg := mg) (base := base) M_eq S B mC
  have D__is_spaceX := dn__is_spaceX H__is_space S B mC hp_width D_width
  have D__kernel_row := dn_never (P := P) (w := w) (base := base) H__kernel_row
  have D_X_check_rows := dx_check_rows H_check_rows B D_is_row T_InvalidRow
  have D_X_reduced := dx_reduced H_reduced D_X_check_rows D__with_row
  have D_X_kernel := dx_kernel H_kernel B D_X_reduced D__first_place D__kernel_row
  have D__law_pool := dn__law_pool (P := P) (w := w) (base := base) H__law_pool B
  have D__law_take := dn__law_take (P := P) (w := w) (base := base) H__law_take B
  obtain ⟨fdR, FR, bR⟩ := mx_initR M_init S D_is_whole D_X_reduced T_InvalidRow
  obtain ⟨fdW, FW, bW⟩ := mx_initW (C := He.ga K "Space") M_init D_is_whole D_reduced T_InvalidRow
  obtain ⟨fdO, FO, bO⟩ := mx_or M_or S mC Mk0 D__is_spaceX D_init T_InvalidRow
  obtain ⟨fdI, FI, bI⟩ := mx_wit M_is_within S B D__is_spaceX h_contains D_con T_InvalidRow
  exact ok_law F (code_is F) (htb _ (List.mem_cons_self ..)) B m_repr Hr m_InvalidRow exm_InvalidRow_InvalidRow xf_InvalidRow T_InvalidRow.t.noN S mC Mk0 D_init FR bR FW bW h_or no_ror FO bO h_is_within FI bI h_eq D_eq D__law_pool D__law_take D_X_reduced D_X_kernel H__law_heard H__law_value
end Q43
namespace Q43
theorem run (w : PySem.World) : HandSHeadRun.RunEqI Rw (PySem.W.view Rw.prog [0, 27]) hk ob 2000 loose w := by
  unfold HandSHeadRun.RunEqI
  kernel_rfl
end Q43
open PySem PySem.W PySem.Calls PyProof.Rows L2 Z LamX
theorem PySem.Challenge.cw_freshplaces_k43_errors_of_rows_holds : PySem.Challenge.rw_freshplaces_k43_errors_of_rows.Holds := by
  w_on; o_law
  refine HandSHeadRun.head_imp (r := OpenLaw.row PySem.Challenge.rw_freshplaces_k43_errors_of_rows) (q := view (OpenLaw.row PySem.Challenge.rw_freshplaces_k43_errors_of_rows).prog [0, 27]) (H := Q43.hk) (ob := Q43.ob) (M := 2000) (loose := Q43.loose) (d := HandSHeadRun.topDef (OpenLaw.row PySem.Challenge.rw_freshplaces_k43_errors_of_rows).prog 27) (kwd := []) Q43.ob_eq
    Q43.run (by kernel_rfl) (by kernel_rfl) (by kernel_rfl) (by rfl) (by first | assumption | decide +kernel) (by decide +kernel) ⟨rfl, rfl, rfl, rfl, rfl, by decide +kernel⟩ ?hw ?hc
  case hw => w_witness2
  case hc =>
    refine walk_ofGT (l := PySem.Challenge.rw_freshplaces_k43_errors_of_rows) (n := 63) (k := 11) (x := "_law_script") rfl (by decide) (by kernel_rfl) ⟨rfl, by decide, by decide⟩ ?F
    intro w mg fa h Y G hmg0
    obtain ⟨K, KX, c, cg, ce⟩ := Y
    have hmg : mg ("law" : PySem.Str) = some (.ref fa) := by
      have e : (HandSHeadRun.topDef (OpenLaw.row PySem.Challenge.rw_freshplaces_k43_errors_of_rows).prog 27).name = ("law" : PySem.Str) := by kernel_rfl
      rw [← e]
      exact hmg0
    obtain ⟨fd, hb, hF⟩ := Q43.facts (P := (PySem.Challenge.rw_freshplaces_k43_errors_of_rows).prog) (w := w) KX G hmg c cg ce (by kernel_rfl) (by kernel_rfl)
    exact ⟨K, fd, [He.cT K ("law", none)], Q43.spLaw K [He.cT K ("law", none)], KX, fun q hq => by rw [List.mem_singleton.mp hq]; exact c.empty _ (List.mem_cons_self ..), fun q hq => by rw [List.mem_singleton.mp hq]; exact c.out _ (List.mem_cons_self ..), fun q hq => by rw [List.mem_singleton.mp hq]; exact c.hd _ (List.mem_cons_self ..), hb, fun H a ns hl hT hS => ⟨a, ns, rfl, hS, Nat.le_trans hl (by decide), hT, fun _ => rfl⟩, hF⟩
