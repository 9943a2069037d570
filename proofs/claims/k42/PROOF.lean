import PyProof.Rows.All
import Wide.All
import OpenK.AllK
import Wide.FinOn
import HandS.ForMost
import HandS.Evl
import HandS.Walk
import HandS.Zip
import HandS.Gcd
import HandS.IsInst
import HandS.Wide
import KE.GoesMore
import HandS.Iter
import HandS.Defaults
import HandS.HeadHook2
import KE.KMathG
import KE.KStateDown
import HandS.Words
import HandS.WordsExc
import HandS.Head0
import HandS.Head1
import HandS.Head2
import HandS.Head3
import HandS.HeadEnd
import HandS.HeadHook1
import HandS.HeadHook3
import HandS.HeadHook4
import PySem.Challenge.RW_freshplaces_k42_kernels
set_option Elab.async false
set_option linter.all false
set_option maxRecDepth 100000
set_option maxHeartbeats 0
/-! What a reading evaluates to, in data: a known part of the heap (the region) that only grows, beside it at most one list of two numbers that may change (the pool). -/
namespace Z
open PySem PySem.Spec PyProof.Rows L2 Evl
mutual
/-- v stands for the data d: lists are ones of the heap's own -/
inductive Dq (K : PySem.W.Frag) (H : Hp) : V → PyData → Prop
  | non : Dq K H .non .none
  | bl (b : Bool) : Dq K H (.bl b) (.bool b)
  | int (i : Int) : Dq K H (.int i) (.int i)
  | str (x : Str) : Dq K H (.str x) (.str x)
  | lst {a : Addr} {xs : List V} {ds : List PyData} (h : H a = some (.lst xs)) (hs : DqAll K H xs ds) : Dq K H (.ref a) (.list ds)
  | tup {a : Addr} {xs : List V} {ds : List PyData} (h : SqT K H a xs) (hs : DqAll K H xs ds) : Dq K H (.ref a) (.tuple ds)
inductive DqAll (K : PySem.W.Frag) (H : Hp) : List V → List PyData → Prop
  | nil : DqAll K H [] []
  | cons {v : V} {vs : List V} {d : PyData} {ds : List PyData} (h : Dq K H v d) (hs : DqAll K H vs ds) : DqAll K H (v :: vs) (d :: ds)
end
theorem dq_ex {K : PySem.W.Frag} {H H' : Hp} (e : Ex H H') : ∀ (d : PyData) (v : V), Dq K H v d → Dq K H' v d
  | .none, _, .non => .non
  | .bool _, _, .bl b => .bl b
  | .int _, _, .int i => .int i
  | .str _, _, .str x => .str x
  | .list ds, _, .lst h hs => .lst (e _ _ h) (all e ds _ hs)
  | .tuple ds, _, .tup h hs => .tup (ex_t e h) (all e ds _ hs)
where
  all {K : PySem.W.Frag} {H H' : Hp} (e : Ex H H') : ∀ (ds : List PyData) (vs : List V), DqAll K H vs ds → DqAll K H' vs ds
  | [], _, .nil => .nil
  | d :: ds, _, .cons h hs => .cons (dq_ex e d _ h) (all e ds _ hs)
theorem dq_dp {K : PySem.W.Frag} {H : Hp} : ∀ (d : PyData) (v : V), Dq K H v d → Dp K H v d
  | .none, _, .non => .non
  | .bool _, _, .bl b => .bl b
  | .int _, _, .int i => .int i
  | .str _, _, .str x => .str x
  | .list ds, _, .lst h hs => .lst (sq_of h) (all ds _ hs)
  | .tuple ds, _, .tup h hs => .tup h (all ds _ hs)
where
  all {K : PySem.W.Frag} {H : Hp} : ∀ (ds : List PyData) (vs : List V), DqAll K H vs ds → DpAll K H vs ds
  | [], _, .nil => .nil
  | d :: ds, _, .cons h hs => .cons (dq_dp d _ h) (all ds _ hs)
theorem dqall_ex {K : PySem.W.Frag} {H H' : Hp} (e : Ex H H') {ds : List PyData} {vs : List V} (h : DqAll K H vs ds) : DqAll K H' vs ds := dq_ex.all e ds vs h
def Pool (p : Option Addr) (A : Hp) : Prop := ∀ q, p = some q → ∃ a b : Int, A q = some (.lst [.int a, .int b]) ∧ 0 ≤ a ∧ 0 ≤ b ∧ b < 2147483647
/-- what may change: the pool, and objects of one's own with what they hold now -/
structure Me where
  pool : Option Addr
  own : Hp
def Me.non : Me := ⟨none, fun _ => none⟩
/-- H is known in A and stays; apart from it the pool and what is one's own -/
structure Reg (p : Me) (H A : Hp) : Prop where
  ex : Ex H A
  pool : Pool p.pool A
  off : ∀ q, p.pool = some q → H q = none
  own : Ex p.own A
  offO : ∀ q o, p.own q = some o → H q = none ∧ p.pool ≠ some q
/-- from (A, H) on to (A', H') -/
structure Gr (p : Me) (A H A' H' : Hp) : Prop where
  act : ∀ a o, p.pool ≠ some a → A a = some o → A' a = some o
  dom : ∀ a o, A a = some o → ∃ o', A' a = some o'
  pool : Pool p.pool A'
  reg : Ex H H'
  sub : Ex H' A'
  new : ∀ a o o', A a = some o → H' a = some o' → H a = some o'
section
variable {p p' : Me} {A H A' H' A1 H1 A2 H2 : Hp}
theorem Reg.refl (r : Reg p H A) : Gr p A H A H := ⟨fun _ _ _ h => h, fun _ o h => ⟨o, h⟩, r.pool, Ex.refl H, r.ex, fun _ _ _ _ h => h⟩
theorem Gr.as (g : Gr p A H A' H') (e : p.pool = p'.pool) : Gr p' A H A' H' := ⟨fun a o n h => g.act a o (e ▸ n) h, g.dom, e ▸ g.pool, g.reg, g.sub, g.new⟩
theorem Gr.to (r : Reg p H A) (g : Gr p A H A' H') : Reg p H' A' := by
  have key : ∀ q o, A q = some o → H q = none → H' q = none := fun q o h n => by
    cases e : H' q with
    | none => rfl
    | some o' =>
      have := g.new q _ _ h e
      rw [n] at this
      cases this
  refine ⟨g.sub, g.pool, fun q hq => ?_, fun q o h => g.act q o (r.offO q o h).2 (r.own q o h), fun q o h => ⟨key q o (r.own q o h) (r.offO q o h).1, (r.offO q o h).2⟩⟩
  obtain ⟨a, b, h, _⟩ := r.pool q hq
  exact key q _ h (r.off q hq)
theorem Gr.trans (g : Gr p A H A1 H1) (k : Gr p A1 H1 A2 H2) : Gr p A H A2 H2 := ⟨fun a o n h => k.act a o n (g.act a o n h), fun a o h => by
  obtain ⟨o1, h1⟩ := g.dom a o h
  exact k.dom a o1 h1, k.pool, g.reg.trans k.reg, k.sub, fun a o o' h h' => by
  obtain ⟨o1, h1⟩ := g.dom a o h
  exact g.new a o o' h (k.new a o1 o' h1 h')⟩
def un (H2 H1 : Hp) : Hp := fun a => match H2 a with
  | some o => some o
  | none => H1 a
theorem un_l {a : Addr} {o : HO} (h : H2 a = some o) : un H2 H1 a = some o := by unfold un; rw [h]
theorem un_r {a : Addr} (h : H2 a = none) : un H2 H1 a = H1 a := by unfold un; rw [h]
/-- the same growth seen from a larger region -/
theorem Gr.wide (r : Reg p H2 A) (e : Ex H H2) (g : Gr p A H A' H1) : Gr p A H2 A' (un H2 H1) ∧ Ex H1 (un H2 H1) := by
  have sub : Ex (un H2 H1) A' := fun a o h => by
    cases q : H2 a with
    | some o2 =>
      rw [un_l q] at h
      cases h
      have n : p.pool ≠ some a := fun z => by
        rw [r.off a z] at q
        cases q
      exact g.act a _ n (r.ex a _ q)
    | none =>
      rw [un_r q] at h
      exact g.sub a o h
  refine ⟨⟨g.act, g.dom, g.pool, fun a o h => un_l h, sub, fun a o o' h h' => ?_⟩, fun a o h => ?_⟩
  · cases q : H2 a with
    | some o2 =>
      rw [un_l q] at h'
      exact h'
    | none =>
      rw [un_r q] at h'
      have := e a o' (g.new a o o' h h')
      rw [q] at this
      cases this
  · cases q : H2 a with
    | some o2 =>
      have := e a o (g.new a o2 o (r.ex a _ q) h)
      rw [q] at this
      cases this
      exact un_l q
    | none => rw [un_r q]; exact h
/-- without the pool -/
theorem Gr.pure (r : Reg p H A) (g : Gr .non A H A' H') : Gr p A H A' H' := ⟨fun a o _ h => g.act a o (fun z => nomatch z) h, g.dom, fun q hq => by
  obtain ⟨a, b, h, k⟩ := r.pool q hq
  exact ⟨a, b, g.act q _ (fun z => nomatch z) h, k⟩, g.reg, g.sub, g.new⟩
theorem Reg.nil (r : Reg p H A) : Reg .non H A := ⟨r.ex, fun _ h => (nomatch h), fun _ h => (nomatch h), fun _ _ h => (nomatch h), fun _ _ h => (nomatch h)⟩
/-- a smaller part known -/
theorem Reg.less (r : Reg p H2 A) (e : Ex H H2) : Reg p H A := ⟨e.trans r.ex, r.pool, fun q h => fresh_back e (r.off q h), r.own, fun q o h => ⟨fresh_back e (r.offO q o h).1, (r.offO q o h).2⟩⟩
/-- an own object, new or changed -/
theorem Reg.put (r : Reg p H A) {q : Addr} {o : HO} (hp : p.pool ≠ some q) (hq : H q = none) : Reg ⟨p.pool, upd p.own q o⟩ H (upd A q o) := by
  refine ⟨fun a x h => ?_, fun b hb => ?_, r.off, fun a x h => ?_, fun a x h => ?_⟩
  · rw [upd_ne (ne_of_none h hq)]
    exact r.ex a x h
  · obtain ⟨i, j, h, k⟩ := r.pool b hb
    have : b ≠ q := fun z => hp (z ▸ hb)
    exact ⟨i, j, by rw [upd_ne this]; exact h, k⟩
  · have h' : upd p.own q o a = some x := h
    by_cases c : a = q
    · subst c
      rw [upd_same] at h' ⊢
      exact h'
    · rw [upd_ne c] at h' ⊢
      exact r.own a x h'
  · by_cases c : a = q
    · subst c
      exact ⟨hq, hp⟩
    · have h' : upd p.own q o a = some x := h
      rw [upd_ne c] at h'
      exact r.offO a x h'
/-- nothing is one's own any more -/
theorem Reg.forget (r : Reg p H A) : Reg ⟨p.pool, fun _ => none⟩ H A := ⟨r.ex, r.pool, r.off, fun _ _ h => (nomatch h), fun _ _ h => (nomatch h)⟩
theorem Reg.ownAs (r : Reg p H A) {w : Hp} (h : ∀ a o, w a = some o → p.own a = some o) : Reg ⟨p.pool, w⟩ H A := ⟨r.ex, r.pool, r.off, fun a o e => r.own a o (h a o e), fun a o e => r.offO a o (h a o e)⟩
/-- a new object, known from then on -/
theorem Gr.alloc (r : Reg p H A) {q : Addr} {o : HO} (n : A q = none) : Gr p A H (upd A q o) (upd H q o) := by
  have nh : H q = none := fresh_back r.ex n
  refine ⟨fun a x _ h => ?_, fun a x h => ?_, fun b hb => ?_, Ex.new nh, fun a x h => ?_, fun a x x' h h' => ?_⟩
  · rw [upd_ne (ne_of_none h n)]; exact h
  · exact ⟨x, by rw [upd_ne (ne_of_none h n)]; exact h⟩
  · obtain ⟨i, j, h, k⟩ := r.pool b hb
    exact ⟨i, j, by rw [upd_ne (ne_of_none h n)]; exact h, k⟩
  · by_cases c : a = q
    · subst c
      rw [upd_same] at h ⊢
      exact h
    · rw [upd_ne c] at h ⊢
      exact r.ex a x h
  · rw [upd_ne (ne_of_none h n)] at h'
    exact h'
/-- a new object that is not counted to what is known: it may change -/
theorem Gr.allocM (r : Reg p H A) {q : Addr} {o : HO} (n : A q = none) : Gr p A H (upd A q o) H := by
  refine ⟨fun a x _ h => ?_, fun a x h => ?_, fun b hb => ?_, Ex.refl H, fun a x h => ?_, fun a x x' _ h' => h'⟩
  · rw [upd_ne (ne_of_none h n)]; exact h
  · exact ⟨x, by rw [upd_ne (ne_of_none h n)]; exact h⟩
  · obtain ⟨i, j, h, k⟩ := r.pool b hb
    exact ⟨i, j, by rw [upd_ne (ne_of_none h n)]; exact h, k⟩
  · rw [upd_ne (ne_of_none (r.ex a x h) n)]
    exact r.ex a x h
/-- such an object changes: seen from where it was not there yet -/
theorem Gr.mut (g : Gr p A H A' H') {q : Addr} {o : HO} (n : A q = none) (m : H' q = none) (hp : p.pool ≠ some q) : Gr p A H (upd A' q o) H' := by
  refine ⟨fun a x k h => ?_, fun a x h => ?_, fun b hb => ?_, g.reg, fun a x h => ?_, g.new⟩
  · rw [upd_ne (ne_of_none h n)]; exact g.act a x k h
  · obtain ⟨y, h'⟩ := g.dom a x h
    exact ⟨y, by rw [upd_ne (ne_of_none h n)]; exact h'⟩
  · obtain ⟨i, j, h, k⟩ := g.pool b hb
    have : b ≠ q := fun z => hp (z ▸ hb)
    exact ⟨i, j, by rw [upd_ne this]; exact h, k⟩
  · rw [upd_ne (ne_of_none h m)]
    exact g.sub a x h
/-- it is counted to what is known from here on -/
theorem Gr.know (g : Gr p A H A' H') {q : Addr} {o : HO} (n : A q = none) (m : H' q = none) (h : A' q = some o) : Gr p A H A' (upd H' q o) := by
  refine ⟨g.act, g.dom, g.pool, g.reg.trans (Ex.new m), fun a x e => ?_, fun a x x' e e' => ?_⟩
  · by_cases c : a = q
    · subst c
      rw [upd_same] at e
      cases e
      exact h
    · rw [upd_ne c] at e
      exact g.sub a x e
  · have c : a ≠ q := ne_of_none e n
    rw [upd_ne c] at e'
    exact g.new a x x' e e'
end
/-! ### judgements -/
def EvG (p : Me) (te : TE) (σ : L2.St) (H : Hp) (P : V → Hp → Prop) : Prop := ∀ A, Reg p H A → ∀ Q : VK, (∀ v A' H', Gr p A H A' H' → P v H' → Q v A') → te σ A Q
abbrev EvD (K : PySem.W.Frag) (p : Me) (te : TE) (σ : L2.St) (H : Hp) (d : PyData) : Prop := EvG p te σ H (fun v H' => Dq K H' v d)
def EvB (p : Me) (tt : TT) (σ : L2.St) (H : Hp) (b : Bool) : Prop := ∀ A, Reg p H A → ∀ Q : Bool → Hp → Prop, (∀ A' H', Gr p A H A' H' → Q b A') → tt σ A Q
def EvS (K : PySem.W.Frag) (p : Me) (ta : TA) (σ : L2.St) (H : Hp) (ds : List PyData) : Prop := ∀ A, Reg p H A → ∀ Q : List V → Hp → Prop, (∀ vs A' H', Gr p A H A' H' → DqAll K H' vs ds → Q vs A') → ta σ A Q
/-- operations on values -/
def OpG (K : PySem.W.Frag) (p : Me) (r : R2) (dx dy : PyData) (P : V → Hp → Prop) : Prop := ∀ x y H A, Dq K H x dx → Dq K H y dy → Reg p H A → ∀ Q : VK, (∀ v A' H', Gr p A H A' H' → P v H' → Q v A') → r x y A Q
abbrev OpD (K : PySem.W.Frag) (p : Me) (r : R2) (dx dy d : PyData) : Prop := OpG K p r dx dy (fun v H' => Dq K H' v d)
def UnD (K : PySem.W.Frag) (p : Me) (r : V → Hp → VK → Prop) (dx d : PyData) : Prop := ∀ x H A, Dq K H x dx → Reg p H A → ∀ Q : VK, (∀ v A' H', Gr p A H A' H' → Dq K H' v d → Q v A') → r x A Q
def CaG (K : PySem.W.Frag) (p : Me) (r : List V → Hp → VK → Prop) (ds : List PyData) (P : V → Hp → Prop) : Prop := ∀ vs H A, DqAll K H vs ds → Reg p H A → ∀ Q : VK, (∀ v A' H', Gr p A H A' H' → P v H' → Q v A') → r vs A Q
abbrev CaD (K : PySem.W.Frag) (p : Me) (r : List V → Hp → VK → Prop) (ds : List PyData) (d : PyData) : Prop := CaG K p r ds (fun v H' => Dq K H' v d)
section
variable {K : PySem.W.Frag} {p : Me} {σ : L2.St} {H H' A A' : Hp} {te ta tb tc : TE} {tt tu : TT} {d dx dy dz : PyData}
theorem EvD.mono {H2 : Hp} (e : Ex H H2) (h : EvD K p te σ H d) : EvD K p te σ H2 d := fun A r Q q => by
  have r0 : Reg p H A := r.less e
  exact h A r0 Q fun v A' H' g k => by
    obtain ⟨g2, e2⟩ := g.wide r e
    exact q v A' _ g2 (dq_ex e2 d v k)
theorem EvB.mono {H2 : Hp} {b : Bool} (e : Ex H H2) (h : EvB p tt σ H b) : EvB p tt σ H2 b := fun A r Q q => by
  have r0 : Reg p H A := r.less e
  exact h A r0 Q fun A' H' g => by
    obtain ⟨g2, e2⟩ := g.wide r e
    exact q A' _ g2
theorem EvS.mono {H2 : Hp} {ta : TA} {ds : List PyData} (e : Ex H H2) (h : EvS K p ta σ H ds) : EvS K p ta σ H2 ds := fun A r Q q => by
  have r0 : Reg p H A := r.less e
  exact h A r0 Q fun v A' H' g k => by
    obtain ⟨g2, e2⟩ := g.wide r e
    exact q v A' _ g2 (dqall_ex e2 k)
theorem d_var {i : Nat} {v : V} (h : σ[i]? = some (some v)) (k : Dq K H v d) : EvD K p (tVar i) σ H d := fun A r Q q => ⟨v, h, q v A H r.refl k⟩
theorem d_int {i : Int} : EvD K p (tC (.int i)) σ H (.int i) := fun A r Q q => q _ A H r.refl (.int i)
theorem d_bl {i : Bool} : EvD K p (tC (.bl i)) σ H (.bool i) := fun A r Q q => q _ A H r.refl (.bl i)
theorem d_str {i : Str} : EvD K p (tC (.str i)) σ H (.str i) := fun A r Q q => q _ A H r.refl (.str i)
theorem d_non : EvD K p (tC .non) σ H .none := fun A r Q q => q _ A H r.refl .non
theorem g_op {r : R2} {P : V → Hp → Prop} (ha : EvD K p ta σ H dx) (hb : EvD K p tb σ H dy) (hr : OpG K p r dx dy P) : EvG p (tOp r ta tb) σ H P := fun A R Q q =>
  ha A R _ fun x A1 H1 g1 k1 => EvD.mono g1.reg hb A1 (g1.to R) _ fun y A2 H2 g2 k2 => hr x y H2 A2 (dq_ex g2.reg _ _ k1) k2 (g2.to (g1.to R)) Q fun z A3 H3 g3 k3 => q z A3 H3 ((g1.trans g2).trans g3) k3
theorem d_op {r : R2} (ha : EvD K p ta σ H dx) (hb : EvD K p tb σ H dy) (hr : OpD K p r dx dy d) : EvD K p (tOp r ta tb) σ H d := g_op ha hb hr
theorem d_un {r : V → Hp → VK → Prop} (ha : EvD K p ta σ H dx) (hr : UnD K p r dx d) : EvD K p (tUn r ta) σ H d := fun A R Q q =>
  ha A R _ fun x A1 H1 g1 k1 => hr x H1 A1 k1 (g1.to R) Q fun z A3 H3 g3 k3 => q z A3 H3 (g1.trans g3) k3
theorem s_nil : EvS K p tNil σ H [] := fun A R Q q => q [] A H R.refl .nil
theorem s_cons {tr : TA} {ds : List PyData} (ha : EvD K p ta σ H d) (hr : EvS K p tr σ H ds) : EvS K p (tCons ta tr) σ H (d :: ds) := fun A R Q q =>
  ha A R _ fun x A1 H1 g1 k1 => EvS.mono g1.reg hr A1 (g1.to R) _ fun ys A2 H2 g2 k2 => q _ A2 H2 (g1.trans g2) (.cons (dq_ex g2.reg _ _ k1) k2)
theorem g_cb {r : List V → Hp → VK → Prop} {ta : TA} {ds : List PyData} {P : V → Hp → Prop} (h : EvS K p ta σ H ds) (hr : CaG K p r ds P) : EvG p (tCB r ta) σ H P := fun A R Q q =>
  h A R _ fun vs A1 H1 g1 k1 => hr vs H1 A1 k1 (g1.to R) Q fun z A3 H3 g3 k3 => q z A3 H3 (g1.trans g3) k3
theorem d_cb {r : List V → Hp → VK → Prop} {ta : TA} {ds : List PyData} (h : EvS K p ta σ H ds) (hr : CaD K p r ds d) : EvD K p (tCB r ta) σ H d := g_cb h hr
theorem dqall_len {vs : List V} {ds : List PyData} (h : DqAll K H vs ds) : vs.length = ds.length := by
  induction ds generalizing vs with
  | nil => cases h; rfl
  | cons d ds ih => cases h with | cons h1 h2 => rw [List.length_cons, List.length_cons, ih h2]
theorem d_tup {ta : TA} {ds : List PyData} (h : EvS K p ta σ H ds) (hl : ds.length ≤ 100000) : EvD K p (tTup ta) σ H (.tuple ds) := fun A R Q q =>
  h A R _ fun vs A1 H1 g1 k1 => ⟨by rw [dqall_len k1]; exact sz_of hl, fun l hn => by
    have g2 := Gr.alloc (g1.to R) (o := .tup vs) hn
    exact q (.ref l) _ _ (g1.trans g2) (.tup (st_of upd_same) (dqall_ex g2.reg k1))⟩
theorem d_lst {ta : TA} {ds : List PyData} (h : EvS K p ta σ H ds) (hl : ds.length ≤ 100000) : EvD K p (tLst ta) σ H (.list ds) := fun A R Q q =>
  h A R _ fun vs A1 H1 g1 k1 => ⟨by rw [dqall_len k1]; exact sz_of hl, fun l hn => by
    have g2 := Gr.alloc (g1.to R) (o := .lst vs) hn
    exact q (.ref l) _ _ (g1.trans g2) (.lst upd_same (dqall_ex g2.reg k1))⟩
theorem b_test {b : Bool} (h : EvD K p te σ H (.bool b)) : EvB p (tTest te) σ H b := fun A R Q q => h A R _ fun v A' H' g k => by
  cases k
  exact ⟨_, rfl, q A' H' g⟩
theorem b_B {b : Bool} (h : EvD K p te σ H (.bool b)) : EvB p (tB te) σ H b := fun A R Q q => h A R _ fun v A' H' g k => by
  cases k
  exact ⟨_, rfl, q A' H' g⟩
theorem b_not {b : Bool} (h : EvB p tt σ H b) : EvB p (tNot tt) σ H (!b) := fun A R Q q => h A R _ fun A' H' g => q A' H' g
theorem b_and {a b : Bool} (h1 : EvB p tt σ H a) (h2 : a = true → EvB p tu σ H b) : EvB p (tAnd tt tu) σ H (a && b) := fun A R Q q => h1 A R _ fun A1 H1 g1 => by
  cases a with
  | true =>
    show tu σ A1 Q
    exact (h2 rfl).mono g1.reg A1 (g1.to R) Q fun A2 H2 g2 => q A2 H2 (g1.trans g2)
  | false =>
    show Q false A1
    exact q A1 H1 g1
theorem b_or {a b : Bool} (h1 : EvB p tt σ H a) (h2 : a = false → EvB p tu σ H b) : EvB p (tOr tt tu) σ H (a || b) := fun A R Q q => h1 A R _ fun A1 H1 g1 => by
  cases a with
  | false =>
    show tu σ A1 Q
    exact (h2 rfl).mono g1.reg A1 (g1.to R) Q fun A2 H2 g2 => q A2 H2 (g1.trans g2)
  | true =>
    show Q true A1
    exact q A1 H1 g1
theorem b_yes : EvB p tYes σ H true := fun A R Q q => q A H R.refl
theorem d_andV {a b : Bool} (h1 : EvD K p ta σ H (.bool a)) (h2 : a = true → EvD K p tb σ H (.bool b)) : EvD K p (tAndV ta tb) σ H (.bool (a && b)) := fun A R Q q => h1 A R _ fun v A1 H1 g1 k1 => by
  cases k1
  refine ⟨_, rfl, ?_⟩
  cases a with
  | true =>
    show tb σ A1 Q
    exact (h2 rfl).mono g1.reg A1 (g1.to R) Q fun v A2 H2 g2 k2 => q v A2 H2 (g1.trans g2) k2
  | false =>
    show Q (.bl false) A1
    exact q _ A1 H1 g1 (.bl false)
theorem d_orV {a b : Bool} (h1 : EvD K p ta σ H (.bool a)) (h2 : a = false → EvD K p tb σ H (.bool b)) : EvD K p (tOrV ta tb) σ H (.bool (a || b)) := fun A R Q q => h1 A R _ fun v A1 H1 g1 k1 => by
  cases k1
  refine ⟨_, rfl, ?_⟩
  cases a with
  | false =>
    show tb σ A1 Q
    exact (h2 rfl).mono g1.reg A1 (g1.to R) Q fun v A2 H2 g2 k2 => q v A2 H2 (g1.trans g2) k2
  | true =>
    show Q (.bl true) A1
    exact q _ A1 H1 g1 (.bl true)
theorem d_notV {a : Bool} (h1 : EvD K p ta σ H (.bool a)) : EvD K p (tNotV ta) σ H (.bool (!a)) := fun A R Q q => h1 A R _ fun v A1 H1 g1 k1 => by
  cases k1
  exact ⟨_, rfl, q _ A1 H1 g1 (.bl _)⟩
theorem d_if {b : Bool} (h : EvB p tt σ H b) (h1 : b = true → EvD K p ta σ H d) (h2 : b = false → EvD K p tb σ H d) : EvD K p (tIf tt ta tb) σ H d := fun A R Q q => h A R _ fun A1 H1 g1 => by
  cases b with
  | true =>
    show ta σ A1 Q
    exact (h1 rfl).mono g1.reg A1 (g1.to R) Q fun v A2 H2 g2 k2 => q v A2 H2 (g1.trans g2) k2
  | false =>
    show tb σ A1 Q
    exact (h2 rfl).mono g1.reg A1 (g1.to R) Q fun v A2 H2 g2 k2 => q v A2 H2 (g1.trans g2) k2
theorem EvD.is (h : EvD K p te σ H d) (e : d = dx) : EvD K p te σ H dx := e ▸ h
theorem EvB.is {a b : Bool} (h : EvB p tt σ H a) (e : a = b) : EvB p tt σ H b := e ▸ h
/-! operations -/
theorem o_I0 {f : Int → Int → Int} {i j : Int} : OpD K p (rI0 fun i j => .int (f i j)) (.int i) (.int j) (.int (f i j)) := fun x y H A hx hy R Q q => by
  cases hx; cases hy
  exact ⟨_, _, rfl, rfl, q _ A H R.refl (.int _)⟩
theorem o_I {C : Int → Int → Prop} {f : Int → Int → Int} {i j : Int} (h : C i j) : OpD K p (rI C fun i j => .int (f i j)) (.int i) (.int j) (.int (f i j)) := fun x y H A hx hy R Q q => by
  cases hx; cases hy
  exact ⟨_, _, rfl, rfl, h, q _ A H R.refl (.int _)⟩
theorem o_B0 {f : Int → Int → Bool} {i j : Int} : OpD K p (rI0 fun i j => .bl (f i j)) (.int i) (.int j) (.bool (f i j)) := fun x y H A hx hy R Q q => by
  cases hx; cases hy
  exact ⟨_, _, rfl, rfl, q _ A H R.refl (.bl _)⟩
theorem o_eqD (h1 : SeqAt.shaped dx = true) (h2 : SeqAt.shaped dy = true) : OpD K p (rEqD K) dx dy (.bool (PyData.eqv dx dy)) := fun x y H A hx hy R Q q =>
  ⟨dx, dy, dq_dp _ _ (dq_ex R.ex _ _ hx), dq_dp _ _ (dq_ex R.ex _ _ hy), h1, h2, q _ A H R.refl (.bl _)⟩
theorem o_neD (h1 : SeqAt.shaped dx = true) (h2 : SeqAt.shaped dy = true) : OpD K p (rNeD K) dx dy (.bool (!PyData.eqv dx dy)) := fun x y H A hx hy R Q q =>
  ⟨dx, dy, dq_dp _ _ (dq_ex R.ex _ _ hx), dq_dp _ _ (dq_ex R.ex _ _ hy), h1, h2, q _ A H R.refl (.bl _)⟩
theorem dq_inv_l {ds : List PyData} {v : V} (h : Dq K H v (.list ds)) : ∃ a xs, v = .ref a ∧ H a = some (.lst xs) ∧ DqAll K H xs ds := by
  cases h with | lst h1 h2 => exact ⟨_, _, rfl, h1, h2⟩
theorem dq_inv_t {ds : List PyData} {v : V} (h : Dq K H v (.tuple ds)) : ∃ a xs, v = .ref a ∧ SqT K H a xs ∧ DqAll K H xs ds := by
  cases h with | tup h1 h2 => exact ⟨_, _, rfl, h1, h2⟩
theorem dqall_get {ds : List PyData} {vs : List V} (h : DqAll K H vs ds) {i : Nat} (e : ds[i]? = some d) : ∃ v, vs[i]? = some v ∧ Dq K H v d := by
  induction ds generalizing vs i with
  | nil => simp at e
  | cons c cs ih =>
    cases h with | cons h1 h2 =>
    cases i with
    | zero =>
      cases e
      exact ⟨_, rfl, h1⟩
    | succ i => exact ih h2 (by simpa using e)
theorem dqall_at {ds : List PyData} {vs : List V} (h : DqAll K H vs ds) {i : Int} (e : atI ds i = some d) : ∃ v, atI vs i = some v ∧ Dq K H v d := by
  unfold atI at e ⊢
  rw [dqall_len h]
  cases q : ixN ds.length i with
  | none => rw [q] at e; cases e
  | some j =>
    rw [q] at e
    exact dqall_get h e
/-- xs[i], of a list, a tuple -/
theorem o_ixL {ds : List PyData} {i : Int} (e : atI ds i = some d) : OpD K p (rIx K) (.list ds) (.int i) d := fun x y H A hx hy R Q q => by
  cases hy
  obtain ⟨a, xs, rfl, h1, h2⟩ := dq_inv_l hx
  obtain ⟨v, e1, k⟩ := dqall_at h2 e
  exact .inl ⟨a, xs, i, v, rfl, rfl, sq_of (R.ex _ _ h1), e1, q v A H R.refl k⟩
theorem o_ixT {ds : List PyData} {i : Int} (e : atI ds i = some d) : OpD K p (rIx K) (.tuple ds) (.int i) d := fun x y H A hx hy R Q q => by
  cases hy
  obtain ⟨a, xs, rfl, h1, h2⟩ := dq_inv_t hx
  obtain ⟨v, e1, k⟩ := dqall_at h2 e
  exact .inr (.inl ⟨a, xs, i, v, rfl, rfl, ex_t R.ex h1, e1, q v A H R.refl k⟩)
end
end Z
namespace Z
open PySem PySem.Spec PyProof.Rows L2 Evl
section
variable {K : PySem.W.Frag} {p : Me} {σ : L2.St} {H H' A A' : Hp} {te ta tb tc tl : TE} {tt : TT} {tu tw tz : TS} {D : Ends} {d dx dy dz : PyData} {ds : List PyData}
/-! ### statements -/
theorem s_asg {P : V → Hp → Prop} {i : Nat} (h : EvG p te σ H P) (R : Reg p H A) (k : ∀ v A' H', Gr p A H A' H' → P v H' → D.nx (σ.set i (some v)) A') : tAsg te (gName i) D σ A := h A R _ k
theorem q_asg {P : V → Hp → Prop} {i : Nat} (h : EvG p te σ H P) (R : Reg p H A) (k : ∀ v A' H', Gr p A H A' H' → P v H' → tz D (σ.set i (some v)) A') : tSeq (tAsg te (gName i)) tz D σ A := s_asg (D := { D with nx := tz D }) h R k
theorem s_ret {P : V → Hp → Prop} (h : EvG p te σ H P) (R : Reg p H A) (k : ∀ v A' H', Gr p A H A' H' → P v H' → D.rt v A') : tRet te D σ A := h A R _ k
theorem s_drop {P : V → Hp → Prop} (h : EvG p te σ H P) (R : Reg p H A) (k : ∀ v A' H', Gr p A H A' H' → P v H' → D.nx σ A') : tDrop te D σ A := h A R _ k
theorem q_drop {P : V → Hp → Prop} (h : EvG p te σ H P) (R : Reg p H A) (k : ∀ v A' H', Gr p A H A' H' → P v H' → tz D σ A') : tSeq (tDrop te) tz D σ A := s_drop (D := { D with nx := tz D }) h R k
theorem s_if {b : Bool} (h : EvB p tt σ H b) (R : Reg p H A) (h1 : b = true → ∀ A' H', Gr p A H A' H' → tu D σ A') (h2 : b = false → ∀ A' H', Gr p A H A' H' → tw D σ A') : tIfS tt tu tw D σ A := h A R _ fun A' H' g => by
  cases b with
  | true => exact h1 rfl A' H' g
  | false => exact h2 rfl A' H' g
theorem q_if {b : Bool} (h : EvB p tt σ H b) (R : Reg p H A) (h1 : b = true → ∀ A' H', Gr p A H A' H' → tu { D with nx := tz D } σ A') (h2 : b = false → ∀ A' H', Gr p A H A' H' → tw { D with nx := tz D } σ A') : tSeq (tIfS tt tu tw) tz D σ A := s_if (D := { D with nx := tz D }) h R h1 h2
theorem q_when {b : Bool} (h : EvB p tt σ H b) (R : Reg p H A) (h1 : b = true → ∀ A' H', Gr p A H A' H' → tu { D with nx := tz D } σ A') (h2 : b = false → ∀ A' H', Gr p A H A' H' → tz D σ A') : tSeq (tIfS tt tu tNext) tz D σ A := s_if (D := { D with nx := tz D }) h R h1 h2
/-! ### loops over data: I tells of the turn, the slots, the heap, what is known and what is one's own -/
abbrev Iv : Type := Nat → L2.St → Hp → Hp → Hp → Prop
/-- what a turn must reach -/
abbrev Nx (p : Me) (I : L2.St → Hp → Hp → Hp → Prop) (H1 : Hp) : L2.St → Hp → Prop := fun σ A => ∃ H w, I σ A H w ∧ Ex H1 H ∧ Reg ⟨p.pool, w⟩ H A
/-- over a walk -/
theorem loop_w {J : It} {n : Nat} {g : TG} {tu : TS} {D : Ends} {σ : L2.St} {A1 H1 : Hp} {G : Hp → Prop} {Y : Nat → Hp → V → Hp → Prop} (w : Walk J n G Y) (I : Iv) (R1 : Reg p H1 A1) (hG : ∀ H' A' w, Ex H1 H' → Reg ⟨p.pool, w⟩ H' A' → G A') (h0 : I 0 σ A1 H1 p.own)
    (hs : ∀ i x σ' A' A2 H' w, i < n → I i σ' A' H' w → Ex H1 H' → Reg ⟨p.pool, w⟩ H' A' → Y i A' x A2 → g x σ' A2 fun σ2 A3 => tu { D with nx := Nx p (I (i + 1)) H1, ct := Nx p (I (i + 1)) H1, bk := D.nx } σ2 A3)
    (hd : ∀ σ' A' H' w, I n σ' A' H' w → Ex H1 H' → Reg ⟨p.pool, w⟩ H' A' → D.nx σ' A') :
    ∃ W : Nat → Nat → L2.St → Hp → Prop, (∃ m, W 0 m σ A1) ∧ ∀ i m σ H, W i m σ H →
      (J.stop i H ∧ D.nx σ H) ∨ (J.go i H ∧ ∃ N : L2.St → Hp → Prop, (∀ σ' H', N σ' H' → ∃ m', m' < m ∧ W (i + 1) m' σ' H') ∧ ∀ x H', J.yld i H x H' → g x σ H' fun σ2 H2 => tu { D with nx := N, ct := N, bk := D.nx } σ2 H2) :=
  for_it w (fun i σ' A' => Nx p (I i) H1 σ' A') ⟨H1, p.own, h0, Ex.refl H1, R1⟩ (fun i σ' A' _ ⟨H', w, _, e, r⟩ => hG H' A' w e r) (fun i x σ' A' A2 hi ⟨H', w, hI, e, r⟩ y => hs i x σ' A' A2 H' w hi hI e r y) fun σ' A' ⟨H', w, hI, e, r⟩ => hd σ' A' H' w hI e r
theorem s_forL {j : Nat} (h : EvD K p tl σ H (.list ds)) (R : Reg p H A) (I : Iv) (h0 : ∀ A1 H1, Gr p A H A1 H1 → I 0 σ A1 H1 p.own)
    (hs : ∀ H1, Ex H H1 → ∀ i d v σ' A' H' w, ds[i]? = some d → I i σ' A' H' w → Ex H1 H' → Reg ⟨p.pool, w⟩ H' A' → Dq K H' v d → tu { D with nx := Nx p (I (i + 1)) H1, ct := Nx p (I (i + 1)) H1, bk := D.nx } (σ'.set j (some v)) A')
    (hd : ∀ σ' A' H' w, I ds.length σ' A' H' w → Ex H H' → Reg ⟨p.pool, w⟩ H' A' → D.nx σ' A') : tFor (iList K tl) (gName j) tu D σ A := h A R _ fun v A1 H1 g1 k1 => by
  obtain ⟨a, xs, rfl, sq, el⟩ := dq_inv_l k1
  have R1 := g1.to R
  have ln := dqall_len el
  refine ⟨a, rfl, ⟨xs, sq_of (R1.ex _ _ sq)⟩, loop_w (walk_list (K := K) (a := a) (xs := xs)) I R1 (fun H' A' w e r => sq_of ((e.trans r.ex) _ _ sq)) (h0 A1 H1 g1) ?_ ?_⟩
  · rintro i x σ' A' A2 H' w hi hI e r ⟨rfl, hx⟩
    have hi' : i < ds.length := by omega
    obtain ⟨v, hv, kv⟩ := dqall_get el (List.getElem?_eq_getElem hi')
    rw [hx] at hv
    cases hv
    exact hs H1 g1.reg i _ x σ' A2 H' w (List.getElem?_eq_getElem hi') hI e r (dq_ex e _ _ kv)
  · intro σ' A' H' w hI e r
    rw [ln] at hI
    exact hd σ' A' H' w hI (g1.reg.trans e) r
theorem s_forT {j : Nat} (h : EvD K p tl σ H (.tuple ds)) (R : Reg p H A) (I : Iv) (h0 : ∀ A1 H1, Gr p A H A1 H1 → I 0 σ A1 H1 p.own)
    (hs : ∀ H1, Ex H H1 → ∀ i d v σ' A' H' w, ds[i]? = some d → I i σ' A' H' w → Ex H1 H' → Reg ⟨p.pool, w⟩ H' A' → Dq K H' v d → tu { D with nx := Nx p (I (i + 1)) H1, ct := Nx p (I (i + 1)) H1, bk := D.nx } (σ'.set j (some v)) A')
    (hd : ∀ σ' A' H' w, I ds.length σ' A' H' w → Ex H H' → Reg ⟨p.pool, w⟩ H' A' → D.nx σ' A') : tFor (iTup K tl) (gName j) tu D σ A := h A R _ fun v A1 H1 g1 k1 => by
  obtain ⟨a, xs, rfl, sq, el⟩ := dq_inv_t k1
  have R1 := g1.to R
  have ln := dqall_len el
  refine ⟨a, rfl, ⟨xs, ex_t R1.ex sq⟩, loop_w (walk_tup (K := K) (a := a) (xs := xs)) I R1 (fun H' A' w e r => ex_t (e.trans r.ex) sq) (h0 A1 H1 g1) ?_ ?_⟩
  · rintro i x σ' A' A2 H' w hi hI e r ⟨rfl, hx⟩
    have hi' : i < ds.length := by omega
    obtain ⟨v, hv, kv⟩ := dqall_get el (List.getElem?_eq_getElem hi')
    rw [hx] at hv
    cases hv
    exact hs H1 g1.reg i _ x σ' A2 H' w (List.getElem?_eq_getElem hi') hI e r (dq_ex e _ _ kv)
  · intro σ' A' H' w hI e r
    rw [ln] at hI
    exact hd σ' A' H' w hI (g1.reg.trans e) r
/-- over range(n) -/
theorem s_forR {ta : TA} {j : Nat} {n : Int} (h : EvS K p ta σ H [.int n]) (hn : -1000000 ≤ n ∧ n ≤ 1000000) (R : Reg p H A) (I : Iv) (h0 : ∀ A1 H1, Gr p A H A1 H1 → I 0 σ A1 H1 p.own)
    (hs : ∀ H1, Ex H H1 → ∀ (i : Nat) σ' A' H' w, (i : Int) < n → I i σ' A' H' w → Ex H1 H' → Reg ⟨p.pool, w⟩ H' A' → tu { D with nx := Nx p (I (i + 1)) H1, ct := Nx p (I (i + 1)) H1, bk := D.nx } (σ'.set j (some (.int (i : Int)))) A')
    (hd : ∀ σ' A' H' w, I n.toNat σ' A' H' w → Ex H H' → Reg ⟨p.pool, w⟩ H' A' → D.nx σ' A') : tFor (iRng1 ta) (gName j) tu D σ A := h A R _ fun vs A1 H1 g1 k1 => by
  cases k1 with | cons c1 c2 =>
  cases c2
  cases c1
  have R1 := g1.to R
  refine ⟨_, rfl, by omega, by omega, loop_w (walk_range (lo := 0) (n := n.toNat)) I R1 (fun H' A' w e r => trivial) (h0 A1 H1 g1) ?_ ?_⟩
  · rintro i x σ' A' A2 H' w hi hI e r ⟨rfl, rfl⟩
    have e0 : (0 : Int) + (i : Int) = (i : Int) := Int.zero_add _
    show tu _ (σ'.set j (some (.int ((0 : Int) + (i : Int))))) A2
    rw [e0]
    exact hs H1 g1.reg i σ' A2 H' w (by omega) hI e r
  · intro σ' A' H' w hI e r
    exact hd σ' A' H' w hI (g1.reg.trans e) r
theorem s_forR2 {ta : TA} {j : Nat} {m n : Int} (h : EvS K p ta σ H [.int m, .int n]) (hn : -1000000 ≤ m ∧ m ≤ 1000000 ∧ -1000000 ≤ n ∧ n ≤ 1000000) (R : Reg p H A) (I : Iv) (h0 : ∀ A1 H1, Gr p A H A1 H1 → I 0 σ A1 H1 p.own)
    (hs : ∀ H1, Ex H H1 → ∀ (i : Nat) σ' A' H' w, m + (i : Int) < n → I i σ' A' H' w → Ex H1 H' → Reg ⟨p.pool, w⟩ H' A' → tu { D with nx := Nx p (I (i + 1)) H1, ct := Nx p (I (i + 1)) H1, bk := D.nx } (σ'.set j (some (.int (m + (i : Int))))) A')
    (hd : ∀ σ' A' H' w, I (n - m).toNat σ' A' H' w → Ex H H' → Reg ⟨p.pool, w⟩ H' A' → D.nx σ' A') : tFor (iRng2 ta) (gName j) tu D σ A := h A R _ fun vs A1 H1 g1 k1 => by
  cases k1 with | cons c1 c2 =>
  cases c2 with | cons c2 c3 =>
  cases c3
  cases c1
  cases c2
  have R1 := g1.to R
  refine ⟨_, _, rfl, by omega, loop_w (walk_range (lo := m) (n := (n - m).toNat)) I R1 (fun H' A' w e r => trivial) (h0 A1 H1 g1) ?_ ?_⟩
  · rintro i x σ' A' A2 H' w hi hI e r ⟨rfl, rfl⟩
    exact hs H1 g1.reg i σ' A2 H' w (by omega) hI e r
  · intro σ' A' H' w hI e r
    exact hd σ' A' H' w hI (g1.reg.trans e) r
/-- a while: b the test's answer, m falls -/
theorem s_while (I : Iv) (m0 : Nat) (h0 : I m0 σ A H p.own) (R : Reg p H A)
    (hs : ∀ m σ' A' H' w, I m σ' A' H' w → Ex H H' → Reg ⟨p.pool, w⟩ H' A' → ∃ b, EvB ⟨p.pool, w⟩ tt σ' H' b ∧ (b = true → ∀ A2 H2, Gr ⟨p.pool, w⟩ A' H' A2 H2 → ∃ N : L2.St → Hp → Prop, (∀ σ3 A3, N σ3 A3 → ∃ m', m' < m ∧ Nx p (I m') H σ3 A3) ∧ tu { D with nx := N, ct := N, bk := D.nx } σ' A2) ∧ (b = false → ∀ A2 H2, Gr ⟨p.pool, w⟩ A' H' A2 H2 → D.nx σ' A2)) : tWhile tt tu D σ A :=
  ⟨fun m σ A => Nx p (I m) H σ A, ⟨m0, H, p.own, h0, Ex.refl H, R⟩, fun m σ' A' ⟨H', w, hI, e, r⟩ => by
    obtain ⟨b, hb, h1, h2⟩ := hs m σ' A' H' w hI e r
    refine hb A' r _ fun A2 H2 g => ?_
    cases b with
    | true => exact h1 rfl A2 H2 g
    | false => exact h2 rfl A2 H2 g⟩
/-! ### comprehensions -/
theorem dqall_snoc {xs : List V} {ys : List PyData} {z : V} {c : PyData} (h : DqAll K H xs ys) (k : Dq K H z c) : DqAll K H (xs ++ [z]) (ys ++ [c]) := by
  induction ys generalizing xs with
  | nil => cases h; exact .cons k .nil
  | cons c cs ih => cases h with | cons a b => exact .cons a (ih b)
theorem lc_w {J : It} {n : Nat} {G : Hp → Prop} {Y : Nat → Hp → V → Hp → Prop} {g : TG} {tt : TT} {te : TE} {vs : List Nat} {σ : L2.St} {A1 H1 : Hp} {Dl : Addr} {Qd : Hp → Prop} (w : Walk J n G Y) (R1 : Reg p H1 A1) (hD : A1 Dl = none) (hn : n ≤ 60000) (f : Nat → Bool) (v : Nat → PyData) (hG : ∀ H' A', Ex H1 H' → Reg p H' A' → G A')
    (hs : ∀ i x A' A2 H', i < n → Ex H1 H' → Reg p H' A' → Y i A' x A2 → g x (wipe σ vs) A2 fun σ2 A3 => wipe σ2 vs = wipe σ vs ∧ ∃ H2, Gr p A' H' A3 H2 ∧ EvB p tt σ2 H2 (f i) ∧ (f i = true → EvD K p te σ2 H2 (v i)))
    (hgm : ∀ x σ A Q Q', (∀ σ A, Q σ A → Q' σ A) → g x σ A Q → g x σ A Q')
    (hd : ∀ A' H' xs, Gr p A1 H1 A' H' → H' Dl = none → A' Dl = some (.lst xs) → DqAll K H' xs (((List.range n).filter f).map v) → Qd A') :
    ∃ W : Nat → Nat → Hp → Prop, (∃ m, W 0 m (upd A1 Dl (.lst []))) ∧ ∀ i m H, W i m H →
      (J.stop i H ∧ Qd H) ∨ (J.go i H ∧ ∃ Nx : Hp → Prop, (∀ H', Nx H' → ∃ m', m' < m ∧ W (i + 1) m' H') ∧ ∀ x H', J.yld i H x H' → g x (wipe σ vs) H' fun σ2 H2 => wipe σ2 vs = wipe σ vs ∧ tt σ2 H2 fun b H3 =>
        if b = true then te σ2 H3 fun y H4 => ∃ acc, H4 Dl = some (.lst acc) ∧ acc.length < sizeLine ∧ Nx (upd H4 Dl (.lst (acc ++ [y]))) else Nx H3) := by
  have nh : H1 Dl = none := fresh_back R1.ex hD
  have np : p.pool ≠ some Dl := fun z => by
    obtain ⟨a, b, h, _⟩ := R1.pool Dl z
    rw [hD] at h
    cases h
  have lenle : ∀ i, (((List.range i).filter f).map v).length ≤ i := fun i => by
    rw [List.length_map]
    have := List.length_filter_le f (List.range i)
    rw [List.length_range] at this
    exact this
  refine lc_it w (fun i A' => ∃ H' xs, Gr p A1 H1 A' H' ∧ H' Dl = none ∧ A' Dl = some (.lst xs) ∧ DqAll K H' xs (((List.range i).filter f).map v)) ⟨H1, [], Gr.allocM R1 hD, nh, upd_same, .nil⟩ (fun i A' _ ⟨H', xs, g, _⟩ => hG H' A' g.reg (g.to R1)) ?_ (fun A' ⟨H', xs, g1, g2, g3, g4⟩ => hd A' H' xs g1 g2 g3 g4)
  rintro i x A' A2 hi ⟨H', xs, g1, m1, e1, k1⟩ y
  refine hgm _ _ _ _ _ ?_ (hs i x A' A2 H' hi g1.reg (g1.to R1) y)
  rintro σ2 A3 ⟨hw, H2, g2, ht, he⟩
  refine ⟨hw, ?_⟩
  have R3 := g2.to (g1.to R1)
  have new2 : ∀ {Ax Hx : Hp}, Gr p A' H' Ax Hx → Hx Dl = none := fun {Ax Hx} gx => by
    cases q : Hx Dl with
    | none => rfl
    | some o =>
      have := gx.new Dl _ o e1 q
      rw [m1] at this
      cases this
  refine ht A3 R3 _ fun A4 H4 g4 => ?_
  have g24 := g2.trans g4
  have e4 : A4 Dl = some (.lst xs) := g24.act Dl _ np e1
  cases hf : f i with
  | true =>
    show te σ2 A4 fun y A5 => _
    refine EvD.mono g4.reg (he hf) A4 (g4.to R3) _ fun z A5 H5 g5 k5 => ?_
    have g25 := g24.trans g5
    refine ⟨xs, g25.act Dl _ np e1, ?_, H5, xs ++ [z], Gr.mut (g1.trans g25) hD (new2 g25) np, new2 g25, upd_same, ?_⟩
    · have := dqall_len k1
      exact sz_lt (by have := lenle i; omega)
    · rw [List.range_succ, List.filter_append, List.map_append, List.filter_cons, if_pos hf]
      show DqAll K H5 (xs ++ [z]) (_ ++ [v i])
      exact dqall_snoc (dqall_ex g25.reg k1) k5
  | false =>
    show ∃ H' xs, _
    refine ⟨H4, xs, g1.trans g24, new2 g24, e4, ?_⟩
    rw [List.range_succ, List.filter_append, List.map_append, List.filter_cons, if_neg (by rw [hf]; decide)]
    show DqAll K H4 xs (_ ++ [])
    rw [List.append_nil]
    exact dqall_ex g24.reg k1

theorem filter_range_map {α β : Type} (f : α → Bool) (g : α → β) : ∀ (ds : List α) (d0 : α), ((List.range ds.length).filter fun i => f (ds.getD i d0)).map (fun i => g (ds.getD i d0)) = (ds.filter f).map g := by
  intro ds d0
  have e : ds = (List.range ds.length).map fun i => ds.getD i d0 := by
    refine List.ext_getElem (by simp) fun i h1 h2 => ?_
    simp [h1]
  have q : (((List.range ds.length).map fun i => ds.getD i d0).filter f).map g = (ds.filter f).map g := by rw [← e]
  rw [← q, List.filter_map, List.map_map]
  rfl
theorem done_lc {A1 H1 A' H' : Hp} {Dl : Addr} {xs : List V} {ds : List PyData} {Q : VK} (R1 : Reg p H1 A1) (hD : A1 Dl = none) (g : Gr p A1 H1 A' H') (n : H' Dl = none) (e : A' Dl = some (.lst xs)) (k : DqAll K H' xs ds)
    (q : ∀ v A' H', Gr p A1 H1 A' H' → Dq K H' v (.list ds) → Q v A') : Q (.ref Dl) A' := by
  have g2 := g.know hD n e
  exact q _ _ _ g2 (.lst upd_same (dqall_ex (Ex.new n) k))
theorem name_mono {j : Nat} : ∀ (x : V) (σ : L2.St) (A : Hp) (Q Q' : L2.St → Hp → Prop), (∀ σ A, Q σ A → Q' σ A) → gName j x σ A Q → gName j x σ A Q' := fun _ _ _ _ _ h q => h _ _ q
/-- [te for x in tl if tt], tl a list; f, v by the item -/
theorem d_lcL {j : Nat} {vs : List Nat} (f : PyData → Bool) (v : PyData → PyData) (h : EvD K p tl σ H (.list ds)) (hz : ds.length ≤ 60000) (hw : ∀ x, wipe ((wipe σ vs).set j (some x)) vs = wipe σ vs)
    (ht : ∀ c ∈ ds, ∀ x H1, Ex H H1 → Dq K H1 x c → EvB p tt ((wipe σ vs).set j (some x)) H1 (f c)) (he : ∀ c ∈ ds, ∀ x H1, Ex H H1 → Dq K H1 x c → f c = true → EvD K p te ((wipe σ vs).set j (some x)) H1 (v c)) :
    EvD K p (tLc (iList K tl) (gName j) tt te vs) σ H (.list ((ds.filter f).map v)) := fun A R Q q => h A R _ fun x A1 H1 g1 k1 => by
  obtain ⟨a, xs, rfl, sq, el⟩ := dq_inv_l k1
  have R1 := g1.to R
  have ln := dqall_len el
  refine ⟨a, rfl, ⟨xs, sq_of (R1.ex _ _ sq)⟩, fun Dl hD => lc_w (K := K) (p := p) (H1 := H1) (walk_list (K := K) (a := a) (xs := xs)) R1 hD (by omega) (fun i => f (ds.getD i .none)) (fun i => v (ds.getD i .none)) (fun H' A' e r => sq_of ((e.trans r.ex) _ _ sq)) ?_ name_mono ?_⟩
  · rintro i x A' A2 H' hi e r ⟨rfl, hx⟩
    have hi' : i < ds.length := by omega
    have hd : ds.getD i .none = ds[i] := by simp [hi']
    obtain ⟨y, hv, kv⟩ := dqall_get el (List.getElem?_eq_getElem hi')
    rw [hx] at hv
    cases hv
    have hm : ds[i] ∈ ds := List.getElem_mem hi'
    refine ⟨hw x, H', r.refl, ?_, ?_⟩
    · rw [hd]; exact ht _ hm x H' (g1.reg.trans e) (dq_ex e _ _ kv)
    · rw [hd]; exact he _ hm x H' (g1.reg.trans e) (dq_ex e _ _ kv)
  · intro A' H' ys g n e k
    rw [ln, filter_range_map] at k
    exact done_lc R1 hD g n e k fun v A2 H2 g2 k2 => q v A2 H2 (g1.trans g2) k2
theorem d_lcT {j : Nat} {vs : List Nat} (f : PyData → Bool) (v : PyData → PyData) (h : EvD K p tl σ H (.tuple ds)) (hz : ds.length ≤ 60000) (hw : ∀ x, wipe ((wipe σ vs).set j (some x)) vs = wipe σ vs)
    (ht : ∀ c ∈ ds, ∀ x H1, Ex H H1 → Dq K H1 x c → EvB p tt ((wipe σ vs).set j (some x)) H1 (f c)) (he : ∀ c ∈ ds, ∀ x H1, Ex H H1 → Dq K H1 x c → f c = true → EvD K p te ((wipe σ vs).set j (some x)) H1 (v c)) :
    EvD K p (tLc (iTup K tl) (gName j) tt te vs) σ H (.list ((ds.filter f).map v)) := fun A R Q q => h A R _ fun x A1 H1 g1 k1 => by
  obtain ⟨a, xs, rfl, sq, el⟩ := dq_inv_t k1
  have R1 := g1.to R
  have ln := dqall_len el
  refine ⟨a, rfl, ⟨xs, ex_t R1.ex sq⟩, fun Dl hD => lc_w (K := K) (p := p) (H1 := H1) (walk_tup (K := K) (a := a) (xs := xs)) R1 hD (by omega) (fun i => f (ds.getD i .none)) (fun i => v (ds.getD i .none)) (fun H' A' e r => ex_t (e.trans r.ex) sq) ?_ name_mono ?_⟩
  · rintro i x A' A2 H' hi e r ⟨rfl, hx⟩
    have hi' : i < ds.length := by omega
    have hd : ds.getD i .none = ds[i] := by simp [hi']
    obtain ⟨y, hv, kv⟩ := dqall_get el (List.getElem?_eq_getElem hi')
    rw [hx] at hv
    cases hv
    have hm : ds[i] ∈ ds := List.getElem_mem hi'
    refine ⟨hw x, H', r.refl, ?_, ?_⟩
    · rw [hd]; exact ht _ hm x H' (g1.reg.trans e) (dq_ex e _ _ kv)
    · rw [hd]; exact he _ hm x H' (g1.reg.trans e) (dq_ex e _ _ kv)
  · intro A' H' ys g n e k
    rw [ln, filter_range_map] at k
    exact done_lc R1 hD g n e k fun v A2 H2 g2 k2 => q v A2 H2 (g1.trans g2) k2
/-- over range(n), by the turn -/
theorem d_lcR {j : Nat} {vs : List Nat} {ta : TA} {n : Int} (f : Nat → Bool) (v : Nat → PyData) (h : EvS K p ta σ H [.int n]) (hz : n ≤ 60000) (hw : ∀ x, wipe ((wipe σ vs).set j (some x)) vs = wipe σ vs)
    (ht : ∀ (i : Nat), (i : Int) < n → ∀ H1, Ex H H1 → EvB p tt ((wipe σ vs).set j (some (.int i))) H1 (f i)) (he : ∀ (i : Nat), (i : Int) < n → ∀ H1, Ex H H1 → f i = true → EvD K p te ((wipe σ vs).set j (some (.int i))) H1 (v i)) (hlo : -1000000 ≤ n := by omega) :
    EvD K p (tLc (iRng1 ta) (gName j) tt te vs) σ H (.list (((List.range n.toNat).filter f).map v)) := fun A R Q q => h A R _ fun us A1 H1 g1 k1 => by
  cases k1 with | cons c1 c2 =>
  cases c2
  cases c1
  have R1 := g1.to R
  refine ⟨_, rfl, by omega, by omega, fun Dl hD => lc_w (K := K) (p := p) (H1 := H1) (walk_range (lo := 0) (n := n.toNat)) R1 hD (by omega) f v (fun H' A' e r => trivial) ?_ name_mono ?_⟩
  · rintro i x A' A2 H' hi e r ⟨rfl, rfl⟩
    have e0 : (0 : Int) + (i : Int) = (i : Int) := Int.zero_add _
    show wipe ((wipe σ vs).set j (some (.int ((0 : Int) + (i : Int))))) vs = wipe σ vs ∧ _
    refine ⟨hw _, H', r.refl, ?_, ?_⟩
    · dsimp only; rw [e0]; exact ht i (by omega) H' (g1.reg.trans e)
    · dsimp only; rw [e0]; exact he i (by omega) H' (g1.reg.trans e)
  · intro A' H' ys g n e k
    exact done_lc R1 hD g n e k fun v A2 H2 g2 k2 => q v A2 H2 (g1.trans g2) k2
theorem d_lcR2 {j : Nat} {vs : List Nat} {ta : TA} {m n : Int} (f : Nat → Bool) (v : Nat → PyData) (h : EvS K p ta σ H [.int m, .int n]) (hz : -10000 ≤ m ∧ m ≤ 60000 ∧ -10000 ≤ n ∧ n - m ≤ 60000) (hw : ∀ x, wipe ((wipe σ vs).set j (some x)) vs = wipe σ vs)
    (ht : ∀ (i : Nat), m + (i : Int) < n → ∀ H1, Ex H H1 → EvB p tt ((wipe σ vs).set j (some (.int (m + i)))) H1 (f i)) (he : ∀ (i : Nat), m + (i : Int) < n → ∀ H1, Ex H H1 → f i = true → EvD K p te ((wipe σ vs).set j (some (.int (m + i)))) H1 (v i)) :
    EvD K p (tLc (iRng2 ta) (gName j) tt te vs) σ H (.list (((List.range (n - m).toNat).filter f).map v)) := fun A R Q q => h A R _ fun us A1 H1 g1 k1 => by
  cases k1 with | cons c1 c2 =>
  cases c2 with | cons c2 c3 =>
  cases c3
  cases c1
  cases c2
  have R1 := g1.to R
  refine ⟨_, _, rfl, by omega, fun Dl hD => lc_w (K := K) (p := p) (H1 := H1) (walk_range (lo := m) (n := (n - m).toNat)) R1 hD (by omega) f v (fun H' A' e r => trivial) ?_ name_mono ?_⟩
  · rintro i x A' A2 H' hi e r ⟨rfl, rfl⟩
    refine ⟨hw _, H', r.refl, ?_, ?_⟩
    · exact ht i (by omega) H' (g1.reg.trans e)
    · exact he i (by omega) H' (g1.reg.trans e)
  · intro A' H' ys g n e k
    exact done_lc R1 hD g n e k fun v A2 H2 g2 k2 => q v A2 H2 (g1.trans g2) k2
end
end Z
namespace Z
open PySem PySem.Spec PyProof.Rows L2 Evl
section
variable {K : PySem.W.Frag} {p : Me} {σ : L2.St} {H H' A A' : Hp} {te ta tb tc tl : TE} {tt : TT} {d dx dy dz : PyData} {ds es : List PyData}
theorem dqall_one {vs : List V} (h : DqAll K H vs [d]) : ∃ v, vs = [v] ∧ Dq K H v d := by
  cases h with | cons h1 h2 => cases h2; exact ⟨_, rfl, h1⟩
theorem dqall_two {vs : List V} (h : DqAll K H vs [dx, dy]) : ∃ v w, vs = [v, w] ∧ Dq K H v dx ∧ Dq K H w dy := by
  cases h with | cons h1 h2 => cases h2 with | cons h2 h3 => cases h3; exact ⟨_, _, rfl, h1, h2⟩
theorem dq_ints {ns : List Int} : ∀ {vs : List V}, DqAll K H vs (ns.map .int) → vs = ns.map V.int := by
  induction ns with
  | nil => intro vs h; cases h; rfl
  | cons n ns ih =>
    intro vs h
    cases h with | cons h1 h2 =>
    cases h1
    rw [ih h2]
    rfl
theorem dq_bls {ns : List Bool} : ∀ {vs : List V}, DqAll K H vs (ns.map .bool) → vs = ns.map V.bl := by
  induction ns with
  | nil => intro vs h; cases h; rfl
  | cons n ns ih =>
    intro vs h
    cases h with | cons h1 h2 =>
    cases h1
    rw [ih h2]
    rfl
theorem ints_dq (ns : List Int) : DqAll K H (ns.map V.int) (ns.map .int) := by
  induction ns with
  | nil => exact .nil
  | cons n ns ih => exact .cons (.int n) ih
/-- a call of one argument that gives a number, a truth value at once -/
theorem c_len {X : Cx} (hK : X.K = K) : CaD K p (fun xs H Q => ∃ q ys, xs = [.ref q] ∧ (SqL X.K H q ys ∨ SqT X.K H q ys) ∧ Q (.int ys.length) H) [.list ds] (.int ds.length) := fun vs H A h R Q q => by
  obtain ⟨v, rfl, k⟩ := dqall_one h
  obtain ⟨a, xs, rfl, h1, h2⟩ := dq_inv_l k
  rw [← dqall_len h2] at q
  exact ⟨a, xs, rfl, .inl (sq_of (R.ex _ _ h1)), q _ A H R.refl (.int _)⟩
theorem c_lenT {X : Cx} (hK : X.K = K) : CaD K p (fun xs H Q => ∃ q ys, xs = [.ref q] ∧ (SqL X.K H q ys ∨ SqT X.K H q ys) ∧ Q (.int ys.length) H) [.tuple ds] (.int ds.length) := fun vs H A h R Q q => by
  obtain ⟨v, rfl, k⟩ := dqall_one h
  obtain ⟨a, xs, rfl, h1, h2⟩ := dq_inv_t k
  rw [← dqall_len h2] at q
  exact ⟨a, xs, rfl, .inr (by rw [hK]; exact ex_t R.ex h1), q _ A H R.refl (.int _)⟩
theorem c_abs {i : Int} : CaD K p (fun xs H Q => ∃ i, xs = [V.int i] ∧ Q (.int (if i < 0 then -i else i)) H) [.int i] (.int (if i < 0 then -i else i)) := fun vs H A h R Q q => by
  obtain ⟨v, rfl, k⟩ := dqall_one h
  cases k
  exact ⟨i, rfl, q _ A H R.refl (.int _)⟩
theorem c_all {bs : List Bool} : CaD K p (rAll K) [.list (bs.map .bool)] (.bool (bs.all id)) := fun vs H A h R Q q => by
  obtain ⟨v, rfl, k⟩ := dqall_one h
  obtain ⟨a, xs, rfl, h1, h2⟩ := dq_inv_l k
  have := dq_bls h2
  subst this
  exact ⟨a, bs, rfl, sq_of (R.ex _ _ h1), q _ A H R.refl (.bl _)⟩
theorem c_any {bs : List Bool} : CaD K p (rAny K) [.list (bs.map .bool)] (.bool (bs.any id)) := fun vs H A h R Q q => by
  obtain ⟨v, rfl, k⟩ := dqall_one h
  obtain ⟨a, xs, rfl, h1, h2⟩ := dq_inv_l k
  have := dq_bls h2
  subst this
  exact ⟨a, bs, rfl, sq_of (R.ex _ _ h1), q _ A H R.refl (.bl _)⟩
theorem c_sum {ns : List Int} : CaD K p (rSum K) [.list (ns.map .int)] (.int ns.sum) := fun vs H A h R Q q => by
  obtain ⟨v, rfl, k⟩ := dqall_one h
  obtain ⟨a, xs, rfl, h1, h2⟩ := dq_inv_l k
  have := dq_ints h2
  subst this
  exact ⟨a, ns, rfl, sq_of (R.ex _ _ h1), q _ A H R.refl (.int _)⟩
theorem c_gcd {i j : Int} : CaD K p rGcd [.int i, .int j] (.int ((Nat.gcd i.natAbs j.natAbs : Nat) : Int)) := fun vs H A h R Q q => by
  obtain ⟨v, w, rfl, k1, k2⟩ := dqall_two h
  cases k1; cases k2
  exact ⟨i, j, rfl, q _ A H R.refl (.int _)⟩
/-- tuple(xs) of a list; list(t) of a tuple, a list -/
theorem c_tuple {X : Cx} (hK : X.K = K) : CaD K p (fun xs H Q => ∃ q ys, xs = [.ref q] ∧ ((SqL X.K H q ys ∧ ∀ l, H l = none → Q (.ref l) (upd H l (.tup ys))) ∨ (SqT X.K H q ys ∧ Q (.ref q) H))) [.list ds] (.tuple ds) := fun vs H A h R Q q => by
  obtain ⟨v, rfl, k⟩ := dqall_one h
  obtain ⟨a, xs, rfl, h1, h2⟩ := dq_inv_l k
  exact ⟨a, xs, rfl, .inl ⟨sq_of (R.ex _ _ h1), fun l hl => by
    have g := Gr.alloc R (o := .tup xs) hl
    exact q _ _ _ g (.tup (st_of upd_same) (dqall_ex g.reg h2))⟩⟩
theorem c_listT {X : Cx} (hK : X.K = K) : CaD K p (fun xs H Q => ∃ q ys, xs = [.ref q] ∧ (SqL X.K H q ys ∨ SqT X.K H q ys) ∧ ∀ l, H l = none → Q (.ref l) (upd H l (.lst ys))) [.tuple ds] (.list ds) := fun vs H A h R Q q => by
  obtain ⟨v, rfl, k⟩ := dqall_one h
  obtain ⟨a, xs, rfl, h1, h2⟩ := dq_inv_t k
  exact ⟨a, xs, rfl, .inr (by rw [hK]; exact ex_t R.ex h1), fun l hl => by
    have g := Gr.alloc R (o := .lst xs) hl
    exact q _ _ _ g (.lst upd_same (dqall_ex g.reg h2))⟩
/-- isinstance(x, T) of data -/
def tyD : PyData → String
  | .none => "NoneType"
  | .bool _ => "bool"
  | .int _ => "int"
  | .str _ => "str"
  | .list _ => "list"
  | .tuple _ => "tuple"
  | .dict _ => "dict"
end
end Z
/-! enumerate(t), any(t), t a tuple -/
namespace PySem
open Sem (wp)
open Builtin
/-- the two objects that enumerate of a tuple lays -/
theorem zmk_enumT (u : Addr) (its : Array Value) (n : Nat) (dct : Option Addr) (sl : Array (Option Value)) :
    Meets (Builtin.«enumerate.__new__» ⟨[.type "enumerate", .ref u], []⟩) (fun _ R s => s.heap.get? u = some { cls := .type "tuple", dict := dct, data := .seq its n, slots := sl } ∧
      R (.ok (.ret (.ref (s.heap.push { cls := .type "tuple_iterator", data := .fields #[.ref u, .int 0 0] }).objs.size)))
        { s with heap := (s.heap.push { cls := .type "tuple_iterator", data := .fields #[.ref u, .int 0 0] }).push { cls := .type "enumerate", data := .fields #[.none, .bool false, .ref s.heap.objs.size, rawInt 0, .none, .none] } }) :=
  .of_wp fun prog w A R s h => by
    obtain ⟨hp, g, d, tk, os⟩ := s
    obtain ⟨hl, h⟩ := h
    have hsub := sub_enumerate
    have hT : Heap.IsTuple (Shared.heap ⟨hp, g, d, tk, os⟩) u its := ⟨_, hl, rfl, n, rfl⟩
    wp_walk using wpAny_loadPart' hl
    refine wpAny_stack_any fun st => wpAny_pure ?_
    split
    · rename_i c _ _ _ _ _
      cases (c == Value.type "enumerate")
      all_goals
        wp_walk using wpAny_loadPart' hl, wpAny_pyIter_tuple hT
        exact ⟨_, rfl, h⟩
    · wp_walk using wpAny_loadPart' hl, wpAny_pyIter_tuple hT
      exact ⟨_, rfl, h⟩
section
variable {prog : Program} {w : World} {A : Around} {E : Value → Shared → Prop} {s : Shared}
theorem zcall_enumT {u : Addr} {its : Array Value} {Q : Value → Shared → Prop} (hT : s.heap.IsTuple u its)
    (h : ∀ h', IsEnum h' (s.heap.objs.size + 1) s.heap.objs.size 0 .none → h'.IsTupleIter s.heap.objs.size u 0 → (∀ b o, s.heap.get? b = some o → h'.get? b = some o) → Q (.ref (s.heap.objs.size + 1)) { s with heap := h' }) :
    wpAny (model prog w) A (call (.type "enumerate") [.ref u]) Q E s := by
  obtain ⟨⟨c, dct, dt, sl⟩, hl, hc, n, hd⟩ := hT
  replace hc : c = .type "tuple" := hc
  replace hd : dt = .seq its n := hd
  subst hc hd
  refine callType_new F.called_enumerate (by decide) (F.typeCall_enumerate_1 _) (F.newCall_enumerate_1 _) (fun obj => F.args_object_init_2 obj _) F.entry_enumerate_new (zmk_enumT u its n dct sl) ⟨hl, ?_⟩
  let h1 := s.heap.push { cls := .type "tuple_iterator", data := .fields #[.ref u, .int 0 0] }
  have hz : h1.objs.size = s.heap.objs.size + 1 := Heap.size_push ..
  show _ ∧ _
  have he : IsEnum (h1.push { cls := .type "enumerate", data := .fields #[.none, .bool false, .ref s.heap.objs.size, rawInt 0, .none, .none] }) (s.heap.objs.size + 1) s.heap.objs.size 0 .none := by
    have q := Heap.get?_push_size h1 (o := { cls := .type "enumerate", data := .fields #[.none, .bool false, .ref s.heap.objs.size, rawInt 0, .none, .none] }) rfl
    rw [hz] at q
    exact q
  have hz' : (s.heap.push { cls := .type "tuple_iterator", data := .fields #[.ref u, .int 0 0] }).objs.size = s.heap.objs.size + 1 := hz
  rw [hz']
  exact ⟨⟨_, he, rfl⟩, h _ he ⟨_, Heap.get?_push_of_some _ (Heap.get?_push_size _ rfl), rfl, rfl⟩ fun b o x => Heap.get?_push_of_some _ (Heap.get?_push_of_some _ x)⟩
end
end PySem
namespace Z
open PySem PySem.Spec PyProof.Rows L2 Evl
/-- the tuple at a as it stands at each turn, each item in a new pair -/
def IteT (K : PySem.W.Frag) (a : Addr) : It :=
  ⟨fun i H => ∃ (xs : List V) (x : V), SqT K H a xs ∧ xs[i]? = some x, fun i H v H' => ∃ T x, v = .ref T ∧ H T = none ∧ H' = upd H T (.tup [.int (i : Nat), x]) ∧ ∀ xs, SqT K H a xs → xs[i]? = some x, fun i H => ∃ xs : List V, SqT K H a xs ∧ xs.length = i⟩
theorem turn_enumT {P : Program} {w : World} {K : PySem.W.Frag} {elts : List Expr} {kk : Nat} {tpos : Pos} (a e it : Addr) :
    Turn P w K (.Tuple elts kk tpos) (IteT K a) [e, it] e (fun i h => (∃ old, IsEnum h e it ((i : Nat) : Int) old) ∧ h.IsTupleIter it a i ∧ e ≠ it ∧ a ≠ it ∧ a ≠ e) where
  mem := List.mem_cons_self
  obj := fun i h st b hb => by
    obtain ⟨⟨old, he⟩, ⟨o, ho, hc, hd⟩, _⟩ := st
    rcases List.mem_cons.mp hb with z | z
    · subst z
      exact ⟨_, he, fun v q => nomatch q⟩
    · have z : b = it := by simpa using z
      subst z
      exact ⟨o, ho, fun v q => by rw [hd] at q; cases q⟩
  keep := fun i h h' st k => by
    obtain ⟨⟨old, he⟩, hi, hne⟩ := st
    exact ⟨⟨old, k e List.mem_cons_self _ he⟩, hi.at fun o q => k it (by simp) o q, hne⟩
  item := by
    intro X hP hw hK hc i pins s σ H E I hf st hg
    subst hP hw hK
    obtain ⟨⟨old, he⟩, hit, hne, hai, hae⟩ := st
    obtain ⟨xs, x, hq, hx⟩ := hg
    obtain ⟨its, rv, p, hz⟩ := I.tuple hq
    obtain ⟨u, hu, ru⟩ := rv.get hx
    have hel : e < s.heap.objs.size := Heap.lt_size he
    have hil : it < s.heap.objs.size := by obtain ⟨_, q, _⟩ := hit; exact Heap.lt_size q
    have hui : i < its.length := (List.getElem?_eq_some_iff.mp hu).1
    have hef : e ∉ [it, a] := by
      intro z
      rcases List.mem_cons.mp z with z | z
      · exact hne z
      · exact hae (by simpa using z : e = a).symm
    refine wpAny_pyNext_enum_itemD (Draws.tuple (A := X.A.in1) (I.ok.hd hc) it a hai its.toArray) he ⟨hit, p⟩ (by simpa using hui) hne hef fun y h' tk hy ho st' hT hsz hk => ?_
    have ey : y = u := by
      have q : its[i]? = some y := by simpa using hy
      rw [hu] at q
      exact (Option.some.inj q).symm
    subst ey
    refine ⟨_, rfl, wpAny_letOwnedTupleGo_enum (s := { s with heap := h', toks := tk + 1 }) ho fun h'' he' sb => ?_⟩
    have nT : s.heap.objs.size ≠ e := Nat.ne_of_gt hel
    have hT2 : h''.get? s.heap.objs.size = some { cls := .type "tuple", data := .seq #[.int i tk, y] } := (sb.2 _ nT).trans hT
    have new : ObjOk X.prog X.w (upd H s.heap.objs.size (.tup [.int (i : Nat), x])) h'' s.heap.objs.size (.tup [.int (i : Nat), x]) :=
      ⟨by show 2 ≤ sizeLine; decide, [.int i tk, y], .cons ⟨_, rfl⟩ (.cons ru .nil), ⟨_, hT2, rfl, _, rfl⟩⟩
    have I1 : Inv X pins σ (upd H s.heap.objs.size (.tup [.int (i : Nat), x])) { s with heap := h'', toks := tk + 1 } :=
      I.turnedNew (ch := [e, it]) (fun b ob hb q => (sb.2 b (fun z => hb (by simp [z]))).trans (hk b ob (fun z => hb (by simp [z])) (fun z => hb (by simp [z])) q)) hf (Nat.le_refl _) new
    refine ⟨.ref s.heap.objs.size, _, I1, rfl, ⟨_, x, rfl, I.hok.fresh (Nat.le_refl _), rfl, fun ys hy => by rw [I.tuple_inj hy hq]; exact hx⟩, ⟨⟨y, ?_⟩, st'.1.at fun o q => (sb.2 it (Ne.symm hne)).trans q, hne, hai, hae⟩, fun b hb => ?_⟩
    · have e1 : ((i + 1 : Nat) : Int) = (i : Int) + 1 := by omega
      rw [e1]; exact he'
    · have hb' : b < s.heap.objs.size := by
        rcases List.mem_cons.mp hb with z | z
        · rw [z]; exact hel
        · rw [show b = it by simpa using z]; exact hil
      rw [upd_ne (Nat.ne_of_lt hb')]
      exact (hf b hb).1
  done := by
    intro X hP hw hK hc i pins s σ H E I hf st hg
    subst hP hw hK
    obtain ⟨⟨old, he⟩, hit, hne, hai, hae⟩ := st
    obtain ⟨xs, hq, hx⟩ := hg
    obtain ⟨its, rv, p, hz⟩ := I.tuple hq
    obtain ⟨f0, f1, f2, f3, f4, f5⟩ := hf it (by simp)
    have hl := rv.length
    have hn : i = its.toArray.size := by
      rw [List.size_toArray, ← hl]
      exact hx.symm
    subst hn
    exact wpAny_pyNext_enum_endD (Draws.tuple (A := X.A.in1) (I.ok.hd hc) it a hai its.toArray) he ⟨hit, p⟩ fun h' eb => ⟨rfl, I.turned (t' := s.toks) (fun b o hb q => eb b o hb q) f0 f1 f3 f4 f5⟩
  self := fun A i s Q E st h => by
    obtain ⟨⟨_, he⟩, _⟩ := st
    exact wpAny_pyIter_enum he h

def iEnumT (K : PySem.W.Frag) (ta : TA) : TI := fun σ H R => ta σ H fun vs H1 => ∃ a xs, vs = [.ref a] ∧ SqT K H1 a xs ∧ R (IteT K a) H1
theorem pi_enumT {X : Cx} {e : Expr} {ta : TA} {p pos tpos : Pos} {elts : List Expr} {kk : Nat} (hg : Gl X "enumerate") (hm : X.mg "enumerate" = none) (ha : PA X [e] ta) (hs : starEach [e] X.env = [(false, eval e X.env)] := by rfl) :
    PI X (.Tuple elts kk tpos) (.Call (.Name "enumerate" p) [e] [] pos) (iEnumT X.K ta) := by
  refine ⟨fun pins s σ H R I h => ?_⟩
  refine Call_ (ld_blt I hg hm boot_enumerate (PyProof.Rows.callWith_type1 (thn (ha.run pos pins s σ H _ I h) fun us s1 ⟨vs, H1, I1, r1, q1⟩ => ?_) hs rfl))
  obtain ⟨a, xs, ex, hq, q⟩ := q1
  subst ex
  cases r1 with
  | cons r rr =>
    cases rr
    cases r
    obtain ⟨its, rv, p', hz⟩ := I1.tuple hq
    have hal : a < s1.heap.objs.size := by obtain ⟨_, e, _⟩ := id p'; exact Heap.lt_size e
    refine zcall_enumT p' fun h' he hit hk => wpAny_pyIter_enum he ?_
    have I2 : Inv X pins σ H1 { s1 with heap := h' } := I1.kept (t' := s1.toks) hk
    refine ⟨s1.heap.objs.size + 1, [s1.heap.objs.size + 1, s1.heap.objs.size], _, _, H1, rfl, I2, turn_enumT a (s1.heap.objs.size + 1) s1.heap.objs.size, ⟨⟨.none, he⟩, hit, Nat.succ_ne_self _, Nat.ne_of_lt hal, Nat.ne_of_lt (Nat.lt_succ_of_lt hal)⟩, fun b hb => ?_, q⟩
    have hle : s1.heap.objs.size ≤ b := by
      rcases List.mem_cons.mp hb with z | z
      · rw [z]; exact Nat.le_succ _
      · have : b = s1.heap.objs.size := by simpa using z
        rw [this]; exact Nat.le_refl _
    exact I1.fpOk hle (I1.hok.fresh hle)
theorem walk_enumT {K : PySem.W.Frag} {a : Addr} {xs : List V} : Walk (IteT K a) xs.length (fun H => SqT K H a xs) (YPair (fun i => some (.int (i : Nat))) (fun i => xs[i]?)) := by
  refine ⟨fun i _ hi q => ⟨xs, xs[i], q, by simp [hi]⟩, fun _ q => ⟨xs, q, rfl⟩, fun i H v H' _ q y => ?_⟩
  obtain ⟨T, x, h1, h2, h3, h4⟩ := y
  exact ⟨T, .int (i : Nat), x, h1, h2, h3, rfl, h4 xs q⟩
theorem walk_zipT {K : PySem.W.Frag} {a b : Addr} {xs ys : List V} {n : Nat} (hn : n = min xs.length ys.length) : Walk (RZ.ItzT K a b) n (fun H => SqT K H a xs ∧ SqT K H b ys) (YPair (fun i => xs[i]?) (fun i => ys[i]?)) := by
  subst hn
  refine ⟨fun i _ hi q => ?_, fun _ q => ⟨xs, ys, q.1, q.2, by omega⟩, fun i H v H' _ q y => ?_⟩
  · have h1 : i < xs.length := by omega
    have h2 : i < ys.length := by omega
    exact ⟨xs, ys, xs[i], ys[i], q.1, q.2, by simp [h1], by simp [h2]⟩
  · obtain ⟨T, x, z, h1, h2, h3, h4, h5⟩ := y
    exact ⟨T, x, z, h1, h2, h3, h4 xs q.1, h5 ys q.2⟩
/-! any(t) of a tuple of numbers -/
theorem iter_anyT {prog : Program} {w : World} {A : Around} {E : Value → Shared → Prop} {s : Shared} {l : Addr} {items : Array Value} {Q : Value → Shared → Prop} (hl : s.heap.IsTuple l items)
    (h : ∀ s₂ : Shared, s₂ = { s with heap := s.heap.push { cls := .type "tuple_iterator", data := .fields #[.ref l, .int 0 0] } } →
      (s₂.heap.IsTupleIter s.heap.objs.size l 0 ∧ s₂.heap.IsTuple l items) → l ≠ s.heap.objs.size → Q (.ref s.heap.objs.size) s₂) : wpAny (model prog w) A (pyIter (.ref l)) Q E s := by
  have hlt : l < s.heap.objs.size := by obtain ⟨_, e, _⟩ := id hl; exact Heap.lt_size e
  exact wpAny_pyIter_tuple hl (h _ rfl ⟨⟨_, Heap.get?_push_size _ rfl, rfl, rfl⟩, hl.push _⟩ (Nat.ne_of_lt hlt))
theorem truth_ints {prog : Program} {w : World} {A : Around} {ns : List Int} {its : List Value} (r : Vals (ns.map V.int) its) :
    TruthOf prog w A (fun i v => its.toArray[i]? = some v) (fun i => ns.getD i 0 != 0) := fun i v s Q E hv hq => by
  have hv' : its[i]? = some v := by simpa using hv
  have hi : i < ns.length := by
    have q := r.length
    have q2 := (List.getElem?_eq_some_iff.mp hv').1
    rw [List.length_map] at q
    omega
  obtain ⟨u, hu, ru⟩ := r.get (show (ns.map V.int)[i]? = some (V.int ns[i]) by rw [List.getElem?_map, List.getElem?_eq_getElem hi]; rfl)
  rw [hv'] at hu
  cases hu
  obtain ⟨t, rfl⟩ := ru
  have e : ns.getD i 0 = ns[i] := by simp [hi]
  have hq' : Q (ns.getD i 0 != 0) s := hq
  rw [e] at hq'
  exact PyProof.Rows.truthy_int hq'
def rAnyT (K : PySem.W.Frag) : List V → Hp → VK → Prop := fun vs H Q => ∃ (a : Addr) (ns : List Int), vs = [V.ref a] ∧ SqT K H a (ns.map V.int) ∧ Q (.bl (ns.any fun n => n != 0)) H
theorem any_rangeI : ∀ ns : List Int, (List.range ns.length).any (fun i => ns.getD i 0 != 0) = ns.any fun n => n != 0
  | [] => rfl
  | b :: bs => by
    rw [List.length_cons, List.range_succ_eq_map, List.any_cons, List.any_map, List.any_cons, ← any_rangeI bs]
    rfl
theorem cr_anyT {X : Cx} (hc : X.calm = true) : CallR X (.builtin "any") (rAnyT X.K) := by
  intro pins s σ H vs us Q I r h
  obtain ⟨a, ns, rfl, hs, q⟩ := h
  obtain ⟨its, rv, hl, _⟩ := I.tuple hs
  rw [Vals.ref1 r]
  refine call_any_walk (iter_anyT hl fun s₂ e2 st hne => ?_)
  subst e2
  refine ⟨_, _, _, _, _, _, _, rfl, Walks.tuple (A := X.A.in1) (I.ok.hd hc) _ a hne its.toArray, st, truth_ints rv, fun h' tk hk => ?_⟩
  refine ⟨.bl _, H, I.kept fun b o eo => hk b o (fun hmem => ?_) (Heap.get?_push_of_some _ eo), ?_, q⟩
  · rcases List.mem_cons.mp hmem with e1 | hmem
    · exact absurd (e1 ▸ Heap.lt_size eo) (Nat.lt_irrefl _)
    · cases hmem
  · show Value.bool _ = Value.bool _
    have q := rv.length
    rw [List.length_map] at q
    rw [← any_rangeI, List.size_toArray, ← q]
end Z
namespace Z
open PySem PySem.Spec PyProof.Rows L2 Evl
/-! ### defs: where they stand, what they promise of data -/
def Dn (P : Program) (w : World) (K : PySem.W.Frag) (mg : Str → Option Value) (base : Heap) (CX : CXT) (k : Nat) (x : Str) (ps : List Str) (sp : Sp) : Prop :=
  ∃ f fd, FnOk P w K mg base CX k f fd ps sp ∧ mg x = some (.ref f) ∧ PySem.W.keepIn K (.ref f) = true ∧ Binds K fd ps []
theorem pe_cd {X : Cx} {x : Str} {ps : List Str} {sp : Sp} {k k' : Nat} {e : Expr} {es : List Expr} {t : TA} {p pos : Pos} (D : Dn X.prog X.w X.K X.mg X.base CX0 k x ps sp) (hr : Room k' X.A) (hk : k ≤ k') (hg : Gl X x) (ha : PA X (e :: es) t)
    (hdb : (x == ("__debug__" : Str)) = false := by decide) (he : starEach (e :: es) X.env = (false, eval e X.env) :: starEach es X.env := by rfl) (hpl : (backTo pos (starEach es X.env)).any (·.1) = false := by rfl) :
    PE X (.Call (.Name x p) (e :: es) [] pos) (tCall sp [] E0 t) := by
  obtain ⟨f, fd, F, m, kp, b⟩ := D
  exact pe_call F (hr.mono hk) hg m kp b .nil pass0 ha hdb he hpl
/-- a def of data: F of the arguments' data and of the result's; nothing that stood is changed -/
def SpD (K : PySem.W.Frag) (F : List PyData → PyData → Prop) : Sp := fun vs A Q _ => ∃ H ds d, Reg .non H A ∧ DqAll K H vs ds ∧ F ds d ∧ ∀ v A' H', Gr .non A H A' H' → Dq K H' v d → Q v A'
section
variable {K : PySem.W.Frag} {p : Me} {σ : L2.St} {H H' A A' : Hp} {te ta tb tc tl ti : TE} {tt : TT} {tu tz : TS} {D : Ends} {d dx dy dz : PyData} {ds es : List PyData}
theorem d_call {F : List PyData → PyData → Prop} {E : XK} {ta : TA} (h : EvS K p ta σ H ds) (hF : F ds d) : EvD K p (tCall (SpD K F) [] E ta) σ H d := fun A R Q q => h A R _ fun vs A1 H1 g1 k1 => by
  have R1 := g1.to R
  rw [List.append_nil]
  exact ⟨H1, ds, d, R1.nil, k1, hF, fun v A2 H2 g2 k2 => q v A2 H2 (g1.trans (g2.pure R1)) k2⟩
theorem spD_len {F : List PyData → PyData → Prop} {n : Nat} {vs : List V} {A : Hp} {Q : VK} {E : XK} (h : SpD K F vs A Q E) (hl : ∀ ds d, F ds d → ds.length = n) : vs.length = n := by
  obtain ⟨H, ds, d, _, k, f, _⟩ := h
  rw [dqall_len k, hl ds d f]
/-! ### names of the built-ins, none bound by the module -/
structure Bs (mg : Str → Option Value) : Prop where
  isinstance : mg "isinstance" = none
  len : mg "len" = none
  all : mg "all" = none
  any : mg "any" = none
  tuple : mg "tuple" = none
  list : mg "list" = none
  int : mg "int" = none
  bool : mg "bool" = none
  abs : mg "abs" = none
  range : mg "range" = none
  zip : mg "zip" = none
  enumerate : mg "enumerate" = none
  sum : mg "sum" = none
  max : mg "max" = none
  min : mg "min" = none
theorem pty {X : Cx} {x : Str} {T : String} {p : Pos} (hg : Gl X x) (hm : X.mg x = none) (hv : bootBuiltins x = some (.type T)) (hn : x ≠ "__name__" := by decide) (hd : (x == ("__debug__" : Str)) = false := by decide) : PE X (.Name x p) (tC (.ty T)) :=
  pe_bltn hg hm hv rfl hn hd
/-! ### isinstance of data and a built-in type -/
theorem tyx_of {v : V} (R : Reg p H A) (h : Dq K H v d) (hd : ∀ kvs, d ≠ .dict kvs) : TyX K A v (.type (tyD d)) := by
  cases h with
  | non => exact .base .non
  | bl b => exact .base (.bl b)
  | int i => exact .base (.int i)
  | str x => exact .base (.str x)
  | lst h _ => exact .base (.lst (R.ex _ _ h))
  | tup h _ =>
    rcases h with (h | ⟨o, h⟩) | ⟨o, its, n, h, c, _⟩
    · exact .base (.tup (R.ex _ _ h))
    · exact .fTuple (R.ex _ _ h)
    · exact .kTuple h c
theorem d_isi {T : String} {b : Bool} (h : EvD K p te σ H d) (hk : kitB (tyD d) T = some b) : EvD K p (tCB (rIsi K) (tCons te (tCons (tC (.ty T)) tNil))) σ H (.bool b) := fun A R Q q => h A R _ fun v A1 H1 g1 k1 => by
  refine ⟨v, .ty T, .type (tyD d), .type T, b, rfl, .ty T, tyx_of (g1.to R) k1 (fun kvs e => ?_), kit_ty hk, q _ A1 H1 g1 (.bl b)⟩
  subst e
  cases k1
/-! ### scalars compared -/
theorem o_eqI {i j : Int} : OpD K p rEq (.int i) (.int j) (.bool (decide (i = j))) := fun x y H A hx hy R Q q => by
  cases hx; cases hy
  refine ⟨rfl, ?_⟩
  have e : decide (V.int i = V.int j) = decide (i = j) := by
    by_cases c : i = j
    · subst c; simp
    · simp [c]
  rw [e]
  exact q _ A H R.refl (.bl _)
theorem o_neI {i j : Int} : OpD K p rNe (.int i) (.int j) (.bool (!decide (i = j))) := fun x y H A hx hy R Q q => by
  cases hx; cases hy
  refine ⟨rfl, ?_⟩
  have e : decide (V.int i = V.int j) = decide (i = j) := by
    by_cases c : i = j
    · subst c; simp
    · simp [c]
  rw [e]
  exact q _ A H R.refl (.bl _)
theorem c_int1 {i : Int} : CaD K p (fun xs H Q => (∃ i, xs = [V.int i] ∧ Q (.int i) H) ∨ ∃ k, xs = [V.bl k] ∧ Q (.int (if k then 1 else 0)) H) [.int i] (.int i) := fun vs H A h R Q q => by
  obtain ⟨v, rfl, k⟩ := dqall_one h
  cases k
  exact .inl ⟨i, rfl, q _ A H R.refl (.int i)⟩
theorem c_intB {b : Bool} : CaD K p (fun xs H Q => (∃ i, xs = [V.int i] ∧ Q (.int i) H) ∨ ∃ k, xs = [V.bl k] ∧ Q (.int (if k then 1 else 0)) H) [.bool b] (.int (if b then 1 else 0)) := fun vs H A h R Q q => by
  obtain ⟨v, rfl, k⟩ := dqall_one h
  cases k
  exact .inr ⟨b, rfl, q _ A H R.refl (.int _)⟩
theorem c_anyT {ns : List Int} : CaD K p (rAnyT K) [.tuple (ns.map .int)] (.bool (ns.any fun n => n != 0)) := fun vs H A h R Q q => by
  obtain ⟨v, rfl, k⟩ := dqall_one h
  obtain ⟨a, xs, rfl, h1, h2⟩ := dq_inv_t k
  have := dq_ints h2
  subst this
  exact ⟨a, ns, rfl, ex_t R.ex h1, q _ A H R.refl (.bl _)⟩
theorem u_neg {i : Int} : UnD K p (rU fun i => .int (-i)) (.int i) (.int (-i)) := fun x H A hx R Q q => by
  cases hx
  exact ⟨i, rfl, q _ A H R.refl (.int _)⟩
theorem dqall_append {xs ys : List V} (a1 : DqAll K H xs ds) (a2 : DqAll K H ys es) : DqAll K H (xs ++ ys) (ds ++ es) := by
  induction ds generalizing xs with
  | nil => cases a1; exact a2
  | cons c cs ih => cases a1 with | cons b1 b2 => exact .cons b1 (ih b2)
theorem o_cat (hl : ds.length + es.length ≤ 100000) : OpD K p rCat (.list ds) (.list es) (.list (ds ++ es)) := fun x y H A hx hy R Q q => by
  obtain ⟨a, xs, rfl, h1, h2⟩ := dq_inv_l hx
  obtain ⟨b, ys, rfl, h3, h4⟩ := dq_inv_l hy
  refine ⟨a, b, xs, ys, rfl, rfl, R.ex _ _ h1, R.ex _ _ h3, sz_of (by rw [dqall_len h2, dqall_len h4]; exact hl), fun l hn => ?_⟩
  have g := Gr.alloc R (o := .lst (xs ++ ys)) hn
  refine q _ _ _ g (.lst upd_same ?_)
  exact dqall_append (dqall_ex g.reg h2) (dqall_ex g.reg h4)
theorem dqall_set {xs : List V} {v : V} (h : DqAll K H xs ds) (k : Dq K H v d) (j : Nat) : DqAll K H (xs.set j v) (ds.set j d) := by
  induction ds generalizing xs j with
  | nil => cases h; exact .nil
  | cons c cs ih =>
    cases h with | cons a b =>
    cases j with
    | zero => exact .cons k b
    | succ j => exact .cons a (ih b j)
/-! ### a list of one's own: q holds xs, which stand for ds -/
theorem d_ixOwn {i : Nat} {q : Addr} {xs : List V} {z : Int} (hs : σ[i]? = some (some (.ref q))) (ho : p.own q = some (.lst xs)) (hx : DqAll K H xs ds) (hi : EvD K p ti σ H (.int z)) (e : atI ds z = some d) : EvD K p (tOp (rIx K) (tVar i) ti) σ H d := fun A R Q k =>
  ⟨.ref q, hs, hi A R _ fun y A1 H1 g1 k1 => by
    cases k1
    have R1 := g1.to R
    obtain ⟨v, e1, kv⟩ := dqall_at (dqall_ex g1.reg hx) e
    exact .inl ⟨q, xs, z, v, rfl, rfl, sq_of (R1.own _ _ ho), e1, k v A1 H1 g1 kv⟩⟩
theorem d_lenOwn {X : Cx} {i : Nat} {q : Addr} {xs : List V} (hs : σ[i]? = some (some (.ref q))) (ho : p.own q = some (.lst xs)) (hx : DqAll K H xs ds) :
    EvD K p (tCB (fun xs H Q => ∃ q ys, xs = [.ref q] ∧ (SqL X.K H q ys ∨ SqT X.K H q ys) ∧ Q (.int ys.length) H) (tCons (tVar i) tNil)) σ H (.int ds.length) := fun A R Q k => by
  refine ⟨.ref q, hs, q, xs, rfl, .inl (sq_of (R.own _ _ ho)), ?_⟩
  rw [dqall_len hx]
  exact k _ A H R.refl (.int _)
/-- q[z] = e -/
theorem s_setOwn {i : Nat} {q : Addr} {xs : List V} {z : Int} {j : Nat} (hs : σ[i]? = some (some (.ref q))) (ho : p.own q = some (.lst xs)) (h : EvD K p te σ H d) (hi : ∀ H', Ex H H' → EvD K p ti σ H' (.int z)) (hj : ixN xs.length z = some j) (R : Reg p H A)
    (k : ∀ v A' H', Gr p A H A' H' → Dq K H' v d → Reg ⟨p.pool, upd p.own q (.lst (xs.set j v))⟩ H' (upd A' q (.lst (xs.set j v))) → D.nx σ (upd A' q (.lst (xs.set j v)))) : tAsg te (gSub (tVar i) ti rSetL) D σ A :=
  h A R _ fun v A1 H1 g1 k1 => ⟨.ref q, hs, hi H1 g1.reg A1 (g1.to R) _ fun y A2 H2 g2 k2 => by
    cases k2
    have g := g1.trans g2
    have R2 := g.to R
    exact ⟨q, xs, z, j, rfl, rfl, R2.own _ _ ho, hj, k v A2 H2 g (dq_ex g2.reg _ _ k1) (R2.put (R2.offO q _ ho).2 (R2.offO q _ ho).1)⟩⟩
/-- q.append(e) -/
theorem s_appOwn {i : Nat} {q : Addr} {xs : List V} (hs : σ[i]? = some (some (.ref q))) (ho : p.own q = some (.lst xs)) (h : EvD K p te σ H d) (hz : xs.length < 100000) (R : Reg p H A)
    (k : ∀ v A' H', Gr p A H A' H' → Dq K H' v d → Reg ⟨p.pool, upd p.own q (.lst (xs ++ [v]))⟩ H' (upd A' q (.lst (xs ++ [v]))) → D.nx σ (upd A' q (.lst (xs ++ [v])))) : tDrop (tBM K "list" rAppend (tVar i) (tCons te tNil)) D σ A :=
  ⟨.ref q, hs, .inl ⟨rfl, xs, sq_of (R.own _ _ ho)⟩, h A R _ fun v A1 H1 g1 k1 => by
    have R1 := g1.to R
    exact ⟨q, xs, v, rfl, rfl, R1.own _ _ ho, sz_lt hz, k v A1 H1 g1 k1 (R1.put (R1.offO q _ ho).2 (R1.offO q _ ho).1)⟩⟩
/-- a new list that is one's own -/
theorem q_newOwn {i : Nat} {ta : TA} (h : EvS K p ta σ H ds) (hl : ds.length ≤ 100000) (R : Reg p H A)
    (k : ∀ q xs A' H', Gr p A H A' H' → p.own q = none → A q = none → DqAll K H' xs ds → Reg ⟨p.pool, upd p.own q (.lst xs)⟩ H' A' → A' q = some (.lst xs) → tz D (σ.set i (some (.ref q))) A') : tSeq (tAsg (tLst ta) (gName i)) tz D σ A :=
  h A R _ fun vs A1 H1 g1 k1 => ⟨by rw [dqall_len k1]; exact sz_of hl, fun l hn => by
    have R1 := g1.to R
    have hnp : p.pool ≠ some l := fun z => by
      obtain ⟨a, b, e, _⟩ := R1.pool l z
      rw [hn] at e; cases e
    have hno : p.own l = none := by
      cases e : p.own l with
      | none => rfl
      | some o => have := R1.own _ _ e; rw [hn] at this; cases this
    have hnA : A l = none := by
      cases e : A l with
      | none => rfl
      | some o => obtain ⟨o', e'⟩ := g1.dom l o e; rw [hn] at e'; cases e'
    have hnH : H1 l = none := fresh_back R1.ex hn
    exact k l vs _ H1 (g1.trans (Gr.allocM R1 hn)) hno hnA k1 (R1.put hnp hnH) upd_same⟩
end
end Z
namespace Z
open PySem PySem.Spec PyProof.Rows L2 Evl
/-! ### what may be a list or a tuple, walked -/
def iSeq (K : PySem.W.Frag) (tl : TE) : TI := fun σ H R => tl σ H fun x H1 => ∃ a, x = .ref a ∧ (((∃ xs, SqL K H1 a xs) ∧ R (Itl K a) H1) ∨ ((∃ xs, SqT K H1 a xs) ∧ R (Itt K a) H1))
theorem pi_seq {X : Cx} {tg l : Expr} {tl : TE} (hl : PE X l tl) : PI X tg l (iSeq X.K tl) := by
  constructor
  intro pins s σ H R I h
  refine thn (hl.run pins s σ H _ I h) ?_
  rintro v s1 ⟨x, H1, I1, r1, a, rfl, q1⟩
  cases r1
  have fin : ∀ b ∈ [s1.heap.objs.size], FpOk X pins H1 b := fun b hb => by
    rw [show b = s1.heap.objs.size by simpa using hb]
    exact I1.fpOk (Nat.le_refl _) (I1.hok.fresh (Nat.le_refl _))
  rcases q1 with ⟨⟨xs, hq⟩, q⟩ | ⟨⟨xs, hq⟩, q⟩
  · obtain ⟨its, rv, p, hz⟩ := I1.list hq
    exact wpAny_pyIter_list p.isList ⟨_, [_], _, _, H1, rfl, I1.kept (t' := s1.toks) fun b o e => Heap.get?_push_of_some _ e, turn_list a _, ⟨_, Heap.get?_push_size _ rfl, rfl, rfl⟩, fin, q⟩
  · obtain ⟨its, rv, p, hz⟩ := I1.tuple hq
    exact wpAny_pyIter_tuple (show s1.heap.IsTuple a its.toArray from p) ⟨_, [_], _, _, H1, rfl, I1.kept (t' := s1.toks) fun b o e => Heap.get?_push_of_some _ e, turn_tuple a _, ⟨_, Heap.get?_push_size _ rfl, rfl, rfl⟩, fin, q⟩
section
variable {K : PySem.W.Frag} {p : Me} {σ : L2.St} {H H' A A' : Hp} {te ta tb tc tl ti : TE} {tt : TT} {tu tz : TS} {D : Ends} {d dx dy dz : PyData} {ds es : List PyData}
def IsSeq (d : PyData) (ds : List PyData) : Prop := d = .list ds ∨ d = .tuple ds
theorem s_forQ {j : Nat} (h : EvD K p tl σ H d) (hd0 : IsSeq d ds) (R : Reg p H A) (I : Iv) (h0 : ∀ A1 H1, Gr p A H A1 H1 → I 0 σ A1 H1 p.own)
    (hs : ∀ H1, Ex H H1 → ∀ i d v σ' A' H' w, ds[i]? = some d → I i σ' A' H' w → Ex H1 H' → Reg ⟨p.pool, w⟩ H' A' → Dq K H' v d → tu { D with nx := Nx p (I (i + 1)) H1, ct := Nx p (I (i + 1)) H1, bk := D.nx } (σ'.set j (some v)) A')
    (hd : ∀ σ' A' H' w, I ds.length σ' A' H' w → Ex H H' → Reg ⟨p.pool, w⟩ H' A' → D.nx σ' A') : tFor (iSeq K tl) (gName j) tu D σ A := by
  rcases hd0 with rfl | rfl
  · have q := s_forL (tu := tu) (D := D) (j := j) (K := K) h R I h0 hs hd
    exact h A R _ fun v A1 H1 g1 k1 => by
      obtain ⟨a, xs, rfl, sq, el⟩ := dq_inv_l k1
      have R1 := g1.to R
      have ln := dqall_len el
      refine ⟨a, rfl, .inl ⟨⟨xs, sq_of (R1.ex _ _ sq)⟩, loop_w (walk_list (K := K) (a := a) (xs := xs)) I R1 (fun H' A' w e r => sq_of ((e.trans r.ex) _ _ sq)) (h0 A1 H1 g1) ?_ ?_⟩⟩
      · rintro i x σ' A' A2 H' w hi hI e r ⟨rfl, hx⟩
        have hi' : i < ds.length := by omega
        obtain ⟨v, hv, kv⟩ := dqall_get el (List.getElem?_eq_getElem hi')
        rw [hx] at hv
        cases hv
        exact hs H1 g1.reg i _ x σ' A2 H' w (List.getElem?_eq_getElem hi') hI e r (dq_ex e _ _ kv)
      · intro σ' A' H' w hI e r
        rw [ln] at hI
        exact hd σ' A' H' w hI (g1.reg.trans e) r
  · exact h A R _ fun v A1 H1 g1 k1 => by
      obtain ⟨a, xs, rfl, sq, el⟩ := dq_inv_t k1
      have R1 := g1.to R
      have ln := dqall_len el
      refine ⟨a, rfl, .inr ⟨⟨xs, ex_t R1.ex sq⟩, loop_w (walk_tup (K := K) (a := a) (xs := xs)) I R1 (fun H' A' w e r => ex_t (e.trans r.ex) sq) (h0 A1 H1 g1) ?_ ?_⟩⟩
      · rintro i x σ' A' A2 H' w hi hI e r ⟨rfl, hx⟩
        have hi' : i < ds.length := by omega
        obtain ⟨v, hv, kv⟩ := dqall_get el (List.getElem?_eq_getElem hi')
        rw [hx] at hv
        cases hv
        exact hs H1 g1.reg i _ x σ' A2 H' w (List.getElem?_eq_getElem hi') hI e r (dq_ex e _ _ kv)
      · intro σ' A' H' w hI e r
        rw [ln] at hI
        exact hd σ' A' H' w hI (g1.reg.trans e) r
theorem d_lcQ {j : Nat} {vs : List Nat} (f : PyData → Bool) (v : PyData → PyData) (h : EvD K p tl σ H d) (hd0 : IsSeq d ds) (hz : ds.length ≤ 60000) (hw : ∀ x, wipe ((wipe σ vs).set j (some x)) vs = wipe σ vs)
    (ht : ∀ c ∈ ds, ∀ x H1, Ex H H1 → Dq K H1 x c → EvB p tt ((wipe σ vs).set j (some x)) H1 (f c)) (he : ∀ c ∈ ds, ∀ x H1, Ex H H1 → Dq K H1 x c → f c = true → EvD K p te ((wipe σ vs).set j (some x)) H1 (v c)) :
    EvD K p (tLc (iSeq K tl) (gName j) tt te vs) σ H (.list ((ds.filter f).map v)) := by
  rcases hd0 with rfl | rfl
  · exact fun A R Q q => h A R _ fun x A1 H1 g1 k1 => by
      obtain ⟨a, xs, rfl, sq, el⟩ := dq_inv_l k1
      have h1 : EvD K p (fun _ A Q => Q (.ref a) A) σ H1 (.list ds) := fun A R Q q => q _ A H1 R.refl (.lst sq el)
      have q2 := d_lcL (tl := fun _ A Q => Q (.ref a) A) (K := K) (p := p) (j := j) (vs := vs) (te := te) (tt := tt) f v h1 hz hw (fun c hc x H2 e k => ht c hc x H2 (g1.reg.trans e) k) (fun c hc x H2 e k => he c hc x H2 (g1.reg.trans e) k)
      have q3 := q2 A1 (g1.to R) Q fun v A2 H2 g2 k2 => q v A2 H2 (g1.trans g2) k2
      obtain ⟨a', e, hx, q4⟩ := q3
      exact ⟨a', e, .inl ⟨hx, q4⟩⟩
  · exact fun A R Q q => h A R _ fun x A1 H1 g1 k1 => by
      obtain ⟨a, xs, rfl, sq, el⟩ := dq_inv_t k1
      have h1 : EvD K p (fun _ A Q => Q (.ref a) A) σ H1 (.tuple ds) := fun A R Q q => q _ A H1 R.refl (.tup sq el)
      have q2 := d_lcT (tl := fun _ A Q => Q (.ref a) A) (K := K) (p := p) (j := j) (vs := vs) (te := te) (tt := tt) f v h1 hz hw (fun c hc x H2 e k => ht c hc x H2 (g1.reg.trans e) k) (fun c hc x H2 e k => he c hc x H2 (g1.reg.trans e) k)
      have q3 := q2 A1 (g1.to R) Q fun v A2 H2 g2 k2 => q v A2 H2 (g1.trans g2) k2
      obtain ⟨a', e, hx, q4⟩ := q3
      exact ⟨a', e, .inr ⟨hx, q4⟩⟩
theorem c_tupleQ {X : Cx} (hK : X.K = K) (hd0 : IsSeq d ds) : CaD K p (fun xs H Q => ∃ q ys, xs = [.ref q] ∧ ((SqL X.K H q ys ∧ ∀ l, H l = none → Q (.ref l) (upd H l (.tup ys))) ∨ (SqT X.K H q ys ∧ Q (.ref q) H))) [d] (.tuple ds) := by
  rcases hd0 with rfl | rfl
  · exact c_tuple hK
  · exact fun vs H A h R Q q => by
      obtain ⟨v, rfl, k⟩ := dqall_one h
      obtain ⟨a, xs, rfl, h1, h2⟩ := dq_inv_t k
      exact ⟨a, xs, rfl, .inr ⟨by rw [hK]; exact ex_t R.ex h1, q _ A H R.refl k⟩⟩
/-! ### for i, x in enumerate(t) -/
theorem gtup2 {a b : Nat} {T : Addr} {x y : V} {A : Hp} {Q : L2.St → Hp → Prop} (h : A T = some (.tup [x, y])) (q : Q ((σ.set a (some x)).set b (some y)) A) : gTup K 2 (gCons (gName a) (gCons (gName b) gNil)) (.ref T) σ A Q :=
  ⟨T, [x, y], rfl, st_of h, rfl, x, [y], rfl, y, [], rfl, rfl, q⟩
theorem s_forE {a b : Nat} {ta : TA} (h : EvS K p ta σ H [.tuple ds]) (R : Reg p H A) (I : Iv) (h0 : ∀ A1 H1, Gr p A H A1 H1 → I 0 σ A1 H1 p.own)
    (hs : ∀ H1, Ex H H1 → ∀ (i : Nat) d v σ' A' A2 H' w, ds[i]? = some d → I i σ' A' H' w → Ex H1 H' → Gr ⟨p.pool, w⟩ A' H' A2 H' → Reg ⟨p.pool, w⟩ H' A2 → Dq K H' v d → tu { D with nx := Nx p (I (i + 1)) H1, ct := Nx p (I (i + 1)) H1, bk := D.nx } ((σ'.set a (some (.int i))).set b (some v)) A2)
    (hd : ∀ σ' A' H' w, I ds.length σ' A' H' w → Ex H H' → Reg ⟨p.pool, w⟩ H' A' → D.nx σ' A') : tFor (iEnumT K ta) (gTup K 2 (gCons (gName a) (gCons (gName b) gNil))) tu D σ A := h A R _ fun us A1 H1 g1 k1 => by
  obtain ⟨v0, rfl, k1x⟩ := dqall_one k1
  obtain ⟨t, xs, rfl, sq, el⟩ := dq_inv_t k1x
  have R1 := g1.to R
  have ln := dqall_len el
  refine ⟨t, xs, rfl, ex_t R1.ex sq, loop_w (walk_enumT (K := K) (a := t) (xs := xs)) I R1 (fun H' A' w e r => ex_t (e.trans r.ex) sq) (h0 A1 H1 g1) ?_ ?_⟩
  · rintro i x σ' A' A2 H' w hi hI e r ⟨T, y1, y2, rfl, nT, rfl, e1, e2⟩
    cases e1
    have hi' : i < ds.length := by omega
    obtain ⟨v, hv, kv⟩ := dqall_get el (List.getElem?_eq_getElem hi')
    cases (show xs[i]? = some y2 from e2).symm.trans hv
    have g := Gr.allocM r (o := .tup [.int (i : Int), y2]) nT
    refine gtup2 upd_same ?_
    exact hs H1 g1.reg i _ y2 σ' A' _ H' w (List.getElem?_eq_getElem hi') hI e g (g.to r) (dq_ex e _ _ kv)
  · intro σ' A' H' w hI e r
    rw [ln] at hI
    exact hd σ' A' H' w hI (g1.reg.trans e) r
/-! ### zip -/
/-- [te for x, y in zip(s, t)], s and t tuples -/
theorem d_lcZ {a b : Nat} {vs : List Nat} {ta : TA} {n : Nat} (v : Nat → PyData) (h : EvS K p ta σ H [.tuple ds, .tuple es]) (hn : n = min ds.length es.length) (hz : n ≤ 60000) (hw : ∀ x y, wipe (((wipe σ vs).set a (some x)).set b (some y)) vs = wipe σ vs)
    (he : ∀ i c e, ds[i]? = some c → es[i]? = some e → ∀ x y H1, Ex H H1 → Dq K H1 x c → Dq K H1 y e → EvD K p te (((wipe σ vs).set a (some x)).set b (some y)) H1 (v i)) :
    EvD K p (tLc (RZ.iZipA K ta) (gTup K 2 (gCons (gName a) (gCons (gName b) gNil))) tYes te vs) σ H (.list ((List.range n).map v)) := fun A R Q q => h A R _ fun us A1 H1 g1 k1 => by
  obtain ⟨u1, u2, rfl, k1, k2⟩ := dqall_two k1
  obtain ⟨t, xs, rfl, sq, el⟩ := dq_inv_t k1
  obtain ⟨t2, ys, rfl, sq2, el2⟩ := dq_inv_t k2
  have R1 := g1.to R
  have ln := dqall_len el
  have ln2 := dqall_len el2
  refine ⟨t, t2, xs, ys, rfl, .inr ⟨ex_t R1.ex sq, ex_t R1.ex sq2, fun Dl hD => lc_w (K := K) (p := p) (H1 := H1) (walk_zipT (K := K) (a := t) (b := t2) (xs := xs) (ys := ys) (n := n) (by rw [hn, ln, ln2])) R1 hD hz (fun _ => true) v (fun H' A' e r => ⟨ex_t (e.trans r.ex) sq, ex_t (e.trans r.ex) sq2⟩) ?_ ?_ ?_⟩⟩
  · rintro i x A' A2 H' hi e r ⟨T, y1, y2, rfl, nT, rfl, e1, e2⟩
    have hi1 : i < ds.length := by omega
    have hi2 : i < es.length := by omega
    obtain ⟨w1, hv, kv⟩ := dqall_get el (List.getElem?_eq_getElem hi1)
    cases (show xs[i]? = some y1 from e1).symm.trans hv
    obtain ⟨w2, hv, kv2⟩ := dqall_get el2 (List.getElem?_eq_getElem hi2)
    cases (show ys[i]? = some y2 from e2).symm.trans hv
    have g := Gr.allocM r (o := .tup [y1, y2]) nT
    refine gtup2 upd_same ⟨hw _ _, H', g, b_yes, fun _ => ?_⟩
    exact he i _ _ (List.getElem?_eq_getElem hi1) (List.getElem?_eq_getElem hi2) y1 y2 H' (g1.reg.trans e) (dq_ex e _ _ kv) (dq_ex e _ _ kv2)
  · rintro x σ A Q Q' hq ⟨a, zs, e1, e2, e3, z1, r1, e4, z2, r2, e5, e6, q⟩
    exact ⟨a, zs, e1, e2, e3, z1, r1, e4, z2, r2, e5, e6, hq _ _ q⟩
  · intro A' H' zs g n' e k
    rw [List.filter_eq_self.mpr (fun _ _ => rfl)] at k
    exact done_lc R1 hD g n' e k fun v A2 H2 g2 k2 => q v A2 H2 (g1.trans g2) k2
/-- for x, y in zip(s, t), s and t lists of one length -/
theorem s_forZ {a b : Nat} {ta : TA} (h : EvS K p ta σ H [.list ds, .list es]) (hl : ds.length = es.length) (R : Reg p H A) (I : Iv) (h0 : ∀ A1 H1, Gr p A H A1 H1 → I 0 σ A1 H1 p.own)
    (hs : ∀ H1, Ex H H1 → ∀ (i : Nat) d e v u σ' A' A2 H' w, ds[i]? = some d → es[i]? = some e → I i σ' A' H' w → Ex H1 H' → Gr ⟨p.pool, w⟩ A' H' A2 H' → Reg ⟨p.pool, w⟩ H' A2 → Dq K H' v d → Dq K H' u e → tu { D with nx := Nx p (I (i + 1)) H1, ct := Nx p (I (i + 1)) H1, bk := D.nx } ((σ'.set a (some v)).set b (some u)) A2)
    (hd : ∀ σ' A' H' w, I ds.length σ' A' H' w → Ex H H' → Reg ⟨p.pool, w⟩ H' A' → D.nx σ' A') : tFor (RZ.iZipA K ta) (gTup K 2 (gCons (gName a) (gCons (gName b) gNil))) tu D σ A := h A R _ fun us A1 H1 g1 k1 => by
  obtain ⟨u1, u2, rfl, k1, k2⟩ := dqall_two k1
  obtain ⟨t, xs, rfl, sq, el⟩ := dq_inv_l k1
  obtain ⟨t2, ys, rfl, sq2, el2⟩ := dq_inv_l k2
  have R1 := g1.to R
  have ln := dqall_len el
  have ln2 := dqall_len el2
  refine ⟨t, t2, xs, ys, rfl, .inl ⟨sq_of (R1.ex _ _ sq), sq_of (R1.ex _ _ sq2), loop_w (walk_zip (K := K) (a := t) (b := t2) (xs := xs) (ys := ys) (n := ds.length) (by omega)) I R1 (fun H' A' w e r => ⟨sq_of ((e.trans r.ex) _ _ sq), sq_of ((e.trans r.ex) _ _ sq2)⟩) (h0 A1 H1 g1) ?_ (fun σ' A' H' w hI e r => hd σ' A' H' w hI (g1.reg.trans e) r)⟩⟩
  · rintro i x σ' A' A2 H' w hi hI e r ⟨T, y1, y2, rfl, nT, rfl, e1, e2⟩
    have hi2 : i < es.length := by omega
    obtain ⟨w1, hv, kv⟩ := dqall_get el (List.getElem?_eq_getElem hi)
    cases (show xs[i]? = some y1 from e1).symm.trans hv
    obtain ⟨w2, hv, kv2⟩ := dqall_get el2 (List.getElem?_eq_getElem hi2)
    cases (show ys[i]? = some y2 from e2).symm.trans hv
    have g := Gr.allocM r (o := .tup [y1, y2]) nT
    refine gtup2 upd_same ?_
    exact hs H1 g1.reg i _ _ y1 y2 σ' A' _ H' w (List.getElem?_eq_getElem hi) (List.getElem?_eq_getElem hi2) hI e g (g.to r) (dq_ex e _ _ kv) (dq_ex e _ _ kv2)
/-! ### lcm, [x] * n -/
def rLcm : List V → Hp → VK → Prop := fun vs H Q => ∃ a b : Int, vs = [.int a, .int b] ∧ a.natAbs < 2 ^ 13000 ∧ b.natAbs < 2 ^ 13000 ∧ Q (.int ((Nat.lcm a.natAbs b.natAbs : Nat) : Int)) H
end
end Z
namespace Z
open PySem PySem.Spec PyProof.Rows L2 Evl
theorem log2_30 {n : Nat} (h : n < 2 ^ 13000) : n.log2 / 30 + 1 ≤ 450 := by
  have : n.log2 < 13000 := PySem.Flt.log2_lt_of (by decide) h
  omega
theorem cr_lcm {X : Cx} : CallR X (.builtin "math.lcm") rLcm := by
  intro pins s σ H vs us Q I r h
  obtain ⟨a, b, rfl, ha, hb, q⟩ := h
  obtain ⟨t, u, rfl⟩ := Vals.int2 r
  have h1 : 1 < 2 ^ 13000 := Nat.one_lt_two_pow (by decide)
  have l1 := log2_30 (show max 1 a.natAbs < 2 ^ 13000 from Nat.max_lt.mpr ⟨h1, ha⟩)
  have l2 := log2_30 (show max a.natAbs b.natAbs < 2 ^ 13000 from Nat.max_lt.mpr ⟨ha, hb⟩)
  have e1 : Nat.lcm 1 a.natAbs = a.natAbs := Nat.lcm_one_left _
  have hs : (((Nat.lcm 1 a.natAbs).lcm b.natAbs : Nat) : Int).natAbs.log2 < bitsLine := by
    rw [e1]
    have l : a.natAbs.lcm b.natAbs < 2 ^ 26000 := by
      have l0 : a.natAbs.lcm b.natAbs ≤ a.natAbs * b.natAbs := by
        by_cases z : a.natAbs * b.natAbs = 0
        · rcases Nat.mul_eq_zero.mp z with z | z <;> rw [z] <;> simp
        · exact Nat.le_of_dvd (Nat.pos_of_ne_zero z) (Nat.lcm_dvd_mul _ _)
      refine Nat.lt_of_le_of_lt l0 ?_
      have e : (2 : Nat) ^ 26000 = 2 ^ 13000 * 2 ^ 13000 := by rw [← Nat.pow_add]
      rw [e]
      exact Nat.mul_lt_mul'' ha hb
    have := PySem.Flt.log2_lt_of (by decide) l
    have b0 : (26000 : Nat) ≤ bitsLine := by decide
    show (a.natAbs.lcm b.natAbs).log2 < bitsLine
    omega
  refine call_function_meets PySem.W.MGF.kind_lcm PySem.W.MGF.plain_lcm PySem.W.MGF.entry_lcm (PySem.W.MGF.args_lcm _ _) (PySem.W.mg_run_lcm a t b u (by omega) (by omega) hs).meets ?_
  rw [e1]
  exact ⟨.int _, H, I.tok _, ⟨_, rfl⟩, q⟩
section
variable {K : PySem.W.Frag} {p : Me} {σ : L2.St} {H H' A A' : Hp} {te ta tb tc tl ti : TE} {tt : TT} {tu tz : TS} {D : Ends} {d dx dy dz : PyData} {ds es : List PyData}
theorem c_lcm {i j : Int} (hi : i.natAbs < 2 ^ 13000) (hj : j.natAbs < 2 ^ 13000) : CaD K p rLcm [.int i, .int j] (.int ((Nat.lcm i.natAbs j.natAbs : Nat) : Int)) := fun vs H A h R Q q => by
  obtain ⟨v, w, rfl, k1, k2⟩ := dqall_two h
  cases k1; cases k2
  exact ⟨i, j, rfl, hi, hj, q _ A H R.refl (.int _)⟩
theorem flat_one {v : V} : ∀ n : Nat, (List.replicate n [v]).flatten = List.replicate n v
  | 0 => rfl
  | n + 1 => by rw [List.replicate_succ, List.flatten_cons, flat_one n, List.replicate_succ]; rfl
theorem dq_rep {G : Hp} {v : V} (h : Dq K G v d) : ∀ n : Nat, DqAll K G (List.replicate n v) (List.replicate n d)
  | 0 => .nil
  | n + 1 => .cons h (dq_rep h n)
theorem o_rep1 {n : Nat} (hn : n ≤ 60000) : OpD K p rRep (.list [d]) (.int n) (.list (List.replicate n d)) := fun x y H A hx hy R Q q => by
  cases hy
  obtain ⟨a, xs, rfl, h1, h2⟩ := dq_inv_l hx
  obtain ⟨v, rfl, kv⟩ := dqall_one h2
  refine ⟨a, n, [v], rfl, rfl, R.ex _ _ h1, by omega, by omega, sz_of (by simpa using Nat.le_trans hn (by decide)), fun l hl => ?_⟩
  have e : (List.replicate ((n : Int).toNat) [v]).flatten = List.replicate n v := by
    rw [Int.toNat_natCast]
    exact flat_one n
  rw [e]
  have g := Gr.alloc R (o := .lst (List.replicate n v)) hl
  exact q _ _ _ g (.lst upd_same (dq_rep (dq_ex g.reg _ _ kv) n))
theorem inV_ints {i : Int} : ∀ ns : List Int, inV (.int i) (ns.map V.int) = decide (i ∈ ns)
  | [] => rfl
  | n :: ns => by
    have ih := inV_ints (i := i) ns
    unfold inV at ih ⊢
    rw [List.map_cons, List.any_cons, ih]
    have e : eqV (V.int n) (V.int i) = decide (n = i) := by
      unfold eqV
      by_cases c : n = i
      · subst c; simp
      · simp [c]
    rw [e]
    by_cases c : n = i
    · subst c; simp
    · have c' : ¬ i = n := fun z => c z.symm
      simp [c, c']
theorem flat_ints : ∀ ns : List Int, (ns.map V.int).all flatV = true
  | [] => rfl
  | n :: ns => by rw [List.map_cons, List.all_cons, flat_ints ns]; rfl
theorem o_notIn {i : Int} {ns : List Int} : OpD K p (rIn K true) (.int i) (.list (ns.map .int)) (.bool (!decide (i ∈ ns))) := fun x y H A hx hy R Q q => by
  cases hx
  obtain ⟨a, xs, rfl, h1, h2⟩ := dq_inv_l hy
  have := dq_ints h2
  subst this
  refine ⟨a, _, rfl, .inl (sq_of (R.ex _ _ h1)), rfl, flat_ints ns, ?_⟩
  show Q (.bl (!inV (.int i) (ns.map V.int))) A
  rw [inV_ints]
  exact q _ A H R.refl (.bl _)
end
end Z
namespace Z
open PySem PySem.Spec PyProof.Rows L2 Evl
abbrev FnP (K : PySem.W.Frag) (x : Str) (st : Stmt) (f : Addr) (fd : FuncData) : Prop := FunD K x x (defArgs st) (defBody st) (defScope st) [] [] f fd
/-- the def st stands under the name x -/
def St (K : PySem.W.Frag) (mg : Str → Option Value) (x : Str) (st : Stmt) (ps : List Str) : Prop := ∃ f fd, FnP K x st f fd ∧ mg x = some (.ref f) ∧ Binds K fd ps []
theorem dn_of {P : Program} {w : World} {K : PySem.W.Frag} {mg : Str → Option Value} {base : Heap} {x : Str} {st : Stmt} {N ps : List Str} {sp : Sp} (k : Nat) (Hx : St K mg x st ps) (S : FnScope N ps (defScope st)) (len : ∀ vs H Q E, sp vs H Q E → vs.length = ps.length)
    (hbody : ∀ (f : Addr) (cdv : Value) (A : Around) (outer : List Env) (s : Shared) (H : Hp) (vs : List V) (Q : VK) (E : XK), Room k (A.deeper (envOfC x (defScope st) s.heap.objs.size f cdv)) → sp vs H Q E →
      ∃ t, PSs (cxOf CX0 P w K mg base N x (defScope st) f cdv A outer s H E).nox (defBody st) t ∧ t { nx := fun _ H' => Q .non H', rt := Q } (start N vs) H) : Dn P w K mg base CX0 (k + 1) x ps sp := by
  obtain ⟨f, fd, F, m, b⟩ := Hx
  refine ⟨f, fd, F.ok S len fun cdv A outer s H vs Q E hr h => ?_, m, F.kp, b⟩
  obtain ⟨t, h1, h2⟩ := hbody f cdv A outer s H vs Q E hr h
  exact ⟨t, h1.nox, h2⟩
/-- a def of data: what its body does, told of data -/
def Bd (K : PySem.W.Frag) (N : List Str) (t : TS) (F : List PyData → PyData → Prop) : Prop := ∀ vs H A ds d (Q : VK), Reg .non H A → DqAll K H vs ds → F ds d → (∀ v A' H', Gr .non A H A' H' → Dq K H' v d → Q v A') → t { nx := fun _ H' => Q .non H', rt := Q } (start N vs) A
theorem dn_data {P : Program} {w : World} {K : PySem.W.Frag} {mg : Str → Option Value} {base : Heap} {x : Str} {st : Stmt} {N ps : List Str} {F : List PyData → PyData → Prop} (k : Nat) (Hx : St K mg x st ps) (S : FnScope N ps (defScope st)) (hl : ∀ ds d, F ds d → ds.length = ps.length)
    (ht : ∀ (f : Addr) (cdv : Value) (A : Around) (outer : List Env) (s : Shared) (H : Hp) (E : XK), Room k (A.deeper (envOfC x (defScope st) s.heap.objs.size f cdv)) → ∃ t, PSs (cxOf CX0 P w K mg base N x (defScope st) f cdv A outer s H E).nox (defBody st) t ∧ Bd K N t F) : Dn P w K mg base CX0 (k + 1) x ps (SpD K F) :=
  dn_of k Hx S (fun vs H Q E h => spD_len h hl) fun f cdv A outer s H vs Q E hr h => by
    obtain ⟨H0, ds, d, R, k0, hF, q⟩ := h
    obtain ⟨t, h1, h2⟩ := ht f cdv A outer s H E hr
    exact ⟨t, h1, h2 vs H0 H ds d Q R k0 hF q⟩
end Z
/-! the pool: a list of two numbers that draws change -/
namespace Z
open PySem PySem.Spec PyProof.Rows L2 Evl
theorem ix_K {X : Cx} {K : PySem.W.Frag} (h : X.K = K) : IxR X (rIx K) := h ▸ ix_seq
theorem own_same {f : Hp} {q : Addr} {o : HO} : (Me.mk none (upd f q o)).own q = some o := upd_same
def poolS (K : PySem.W.Frag) : Sp := fun vs A Q _ => ∃ (H : Hp) (a : Addr) (ns : List Int) (k : Nat), Reg .non H A ∧ vs = [.ref a, .int (k : Nat)] ∧ SqL K H a (ns.map V.int) ∧ k < 1000000 ∧
  ∀ (q : Addr) (a b : Int) (A' H' : Hp), Gr .non A H A' H' → A q = none → H' q = none → A' q = some (.lst [.int a, .int b]) → 0 ≤ a → 0 ≤ b → b < 2147483647 → Q (.ref q) A'
def takeS (K : PySem.W.Frag) : Sp := fun vs A Q _ => ∃ (H : Hp) (q : Addr) (own : Hp) (m : Int), vs = [.ref q, .int m] ∧ Reg ⟨some q, own⟩ H A ∧ 0 < m ∧ m < 1073741824 ∧
  ∀ (r : Int) (A' H' : Hp), Gr ⟨some q, own⟩ A H A' H' → 0 ≤ r → r < m → Q (.int r) A'
section
variable {K : PySem.W.Frag} {p : Me} {σ : L2.St} {H H' A A' : Hp} {te ta tb tc tl ti : TE} {tt : TT} {tu tz : TS} {D : Ends} {d dx dy dz : PyData} {ds es : List PyData}
theorem Reg.poolAsOwn {q : Addr} {own : Hp} {a b : Int} (R : Reg ⟨some q, own⟩ H A) (h : A q = some (.lst [.int a, .int b])) : Reg ⟨none, upd (fun _ => none) q (.lst [.int a, .int b])⟩ H A := by
  refine ⟨R.ex, (fun q h => nomatch h), (fun q h => nomatch h), fun x o e => ?_, fun x o e => ?_⟩
  · by_cases c : x = q
    · subst c
      have e' : upd (fun _ => none) x (.lst [.int a, .int b]) x = some o := e
      rw [upd_same] at e'
      rw [h]; exact e'
    · have e' : upd (fun _ => none) q (.lst [.int a, .int b]) x = some o := e
      rw [upd_ne c] at e'
      cases e'
  · by_cases c : x = q
    · subst c
      exact ⟨R.off x rfl, (fun z => nomatch z)⟩
    · have e' : upd (fun _ => none) q (.lst [.int a, .int b]) x = some o := e
      rw [upd_ne c] at e'
      cases e'
theorem Gr.toPool {q : Addr} {w own : Hp} {A1 H1 : Hp} {a b : Int} (g : Gr ⟨none, w⟩ A H A1 H1) (hH : H1 q = none) (hA : ∃ o, A1 q = some o) (h0 : 0 ≤ a) (h1 : 0 ≤ b) (h2 : b < 2147483647) : Gr ⟨some q, own⟩ A H (upd A1 q (.lst [.int a, .int b])) H1 := by
  refine ⟨fun x o n h => ?_, fun x o h => ?_, fun x hx => ?_, g.reg, fun x o h => ?_, g.new⟩
  · have c : x ≠ q := fun z => n (congrArg some z.symm)
    rw [upd_ne c]
    exact g.act x o (fun z => nomatch z) h
  · by_cases c : x = q
    · subst c; exact ⟨_, upd_same⟩
    · rw [upd_ne c]; exact g.dom x o h
  · cases hx
    exact ⟨a, b, upd_same, h0, h1, h2⟩
  · rw [upd_ne (ne_of_none h hH)]
    exact g.sub x o h
theorem o_mod {i j : Int} (h : 0 < j) : OpD K p (rI (fun _ j => 0 < j) fun i j => .int (i % j)) (.int i) (.int j) (.int (i % j)) := o_I (f := fun i j => i % j) h
theorem o_fdiv {i j : Int} (h : 0 < j) (h2 : j < 1073741824) : OpD K p (rI CDiv fun i j => .int (i / j)) (.int i) (.int j) (.int (i / j)) := o_I (C := CDiv) (f := fun i j => i / j) ⟨h, h2⟩
theorem o_mul {i j : Int} (h : CMul i j) : OpD K p (rI CMul fun i j => .int (i * j)) (.int i) (.int j) (.int (i * j)) := o_I (f := fun i j => i * j) h
theorem o_add {i j : Int} : OpD K p (rI0 fun i j => .int (i + j)) (.int i) (.int j) (.int (i + j)) := o_I0 (f := fun i j => i + j)
theorem o_sub {i j : Int} : OpD K p (rI0 fun i j => .int (i - j)) (.int i) (.int j) (.int (i - j)) := o_I0 (f := fun i j => i - j)
theorem o_lt {i j : Int} : OpD K p (rI0 fun i j => .bl (decide (i < j))) (.int i) (.int j) (.bool (decide (i < j))) := o_B0 (f := fun i j => decide (i < j))
theorem o_gt {i j : Int} : OpD K p (rI0 fun i j => .bl (decide (j < i))) (.int i) (.int j) (.bool (decide (j < i))) := o_B0 (f := fun i j => decide (j < i))
theorem o_ge {i j : Int} : OpD K p (rI0 fun i j => .bl (decide (j ≤ i))) (.int i) (.int j) (.bool (decide (j ≤ i))) := o_B0 (f := fun i j => decide (j ≤ i))
end
section
variable {K : PySem.W.Frag} {p : Me} {σ : L2.St} {H H' A A' : Hp} {te : TE}
theorem d_mods {x m : Int} (h : EvD K p te σ H (.int (x % m))) (hm : 0 < m) : EvG p te σ H fun v _ => ∃ b : Int, v = .int b ∧ 0 ≤ b ∧ b < m := fun A R Q q => h A R Q fun v A' H' g k => by
  cases k
  exact q _ A' H' g ⟨_, rfl, Int.emod_nonneg _ (by omega), Int.emod_lt_of_pos _ hm⟩
end
theorem ite01 {P : Prop} [Decidable P] : (0 : Int) ≤ (if P then 1 else 0) := by split <;> decide
theorem ite01m {i : Int} {P : Prop} [Decidable P] : CMul i (if P then 1 else 0) := .inr (by split <;> decide)
theorem s_par {K : PySem.W.Frag} {p : Me} {σ : L2.St} {H A : Hp} {ta : TA} {d e : PyData} {D : Ends} {i j : Nat} (h : EvS K p ta σ H [d, e]) (R : Reg p H A) (k : ∀ x y A' H', Gr p A H A' H' → Dq K H' x d → Dq K H' y e → D.nx ((σ.set i (some x)).set j (some y)) A') : tPar i j ta D σ A :=
  h A R _ fun vs A1 H1 g1 k1 => by
    obtain ⟨x, y, rfl, kx, ky⟩ := dqall_two k1
    exact ⟨x, y, rfl, k x y A1 H1 g1 kx ky⟩
theorem q_par {K : PySem.W.Frag} {p : Me} {σ : L2.St} {H A : Hp} {ta : TA} {tz : TS} {d e : PyData} {D : Ends} {i j : Nat} (h : EvS K p ta σ H [d, e]) (R : Reg p H A) (k : ∀ x y A' H', Gr p A H A' H' → Dq K H' x d → Dq K H' y e → tz D ((σ.set i (some x)).set j (some y)) A') : tSeq (tPar i j ta) tz D σ A := s_par (D := { D with nx := tz D }) h R k
theorem s_retNew {K : PySem.W.Frag} {p : Me} {σ : L2.St} {H A : Hp} {ta : TA} {ds : List PyData} {D : Ends} (h : EvS K p ta σ H ds) (hl : ds.length ≤ 100000) (R : Reg p H A) (k : ∀ l vs A' H', Gr p A H A' H' → DqAll K H' vs ds → A' l = none → H' l = none → A l = none → D.rt (.ref l) (upd A' l (.lst vs))) : tRet (tLst ta) D σ A :=
  h A R _ fun vs A1 H1 g1 k1 => ⟨by rw [dqall_len k1]; exact sz_of hl, fun l hn => by
    have R1 := g1.to R
    refine k l vs A1 H1 g1 k1 hn (fresh_back R1.ex hn) ?_
    cases e : A l with
    | none => rfl
    | some o => obtain ⟨o', e'⟩ := g1.dom l o e; rw [hn] at e'; cases e'⟩
abbrev N_take : List Str := ["_law_pool_here", "_law_wide", "_law_result"]
section
variable {P : Program} {w : World} {K : PySem.W.Frag} {mg : Str → Option Value} {base : Heap}
abbrev tPool0 (K : PySem.W.Frag) (i : Int) : TE := tOp (rIx K) (tVar 0) (tC (.int i))
/-- what _law_take's body does -/
theorem take_run {q : Addr} {own : Hp} {m : Int} {H A : Hp} {Q : VK} (R : Reg ⟨some q, own⟩ H A) (hm : 0 < m) (hm2 : m < 1073741824) (k : ∀ (r : Int) (A' H' : Hp), Gr ⟨some q, own⟩ A H A' H' → 0 ≤ r → r < m → Q (.int r) A') :
    (tSeq (tIfS (tTest (tOp (rI0 fun i j => .bl (decide (j < i))) (tPool0 K 0) (tC (.int 0))))
      (tSeq (tAsg (tOp (rI (fun _ j => 0 < j) fun i j => .int (i % j)) (tCB (fun xs H Q => (∃ i, xs = [V.int i] ∧ Q (.int i) H) ∨ ∃ k, xs = [V.bl k] ∧ Q (.int (if k then 1 else 0)) H) (tCons (tPool0 K 0) tNil)) (tVar 1)) (gName 2))
        (tSeq (tAsg (tOp (rI CDiv fun i j => .int (i / j)) (tPool0 K 0) (tVar 1)) (gSub (tVar 0) (tC (.int 0)) rSetL)) (tRet (tVar 2)))) tNext)
      (tSeq (tAsg (tOp (rI (fun _ j => 0 < j) fun i j => .int (i % j)) (tCB (fun xs H Q => (∃ i, xs = [V.int i] ∧ Q (.int i) H) ∨ ∃ k, xs = [V.bl k] ∧ Q (.int (if k then 1 else 0)) H) (tCons (tOp (rI0 fun i j => .int (i + j)) (tOp (rI CMul fun i j => .int (i * j)) (tPool0 K 1) (tC (.int 48271))) (tC (.int 12345))) tNil)) (tC (.int 2147483647))) (gSub (tVar 0) (tC (.int 1)) rSetL))
        (tRet (tOp (rI (fun _ j => 0 < j) fun i j => .int (i % j)) (tOp (rI CDiv fun i j => .int (i / j)) (tOp (rI (fun _ j => 0 < j) fun i j => .int (i % j)) (tCB (fun xs H Q => (∃ i, xs = [V.int i] ∧ Q (.int i) H) ∨ ∃ k, xs = [V.bl k] ∧ Q (.int (if k then 1 else 0)) H) (tCons (tOp (rI CMul fun i j => .int (i * j)) (tPool0 K 1) (tPool0 K 1)) tNil)) (tC (.int 2147483629))) (tC (.int 64))) (tVar 1)))))
      { nx := fun _ H' => Q .non H', rt := Q } (start N_take [.ref q, .int m]) A := by
  obtain ⟨a, b, hq, ha, hb, hb2⟩ := R.pool q rfl
  have R0 := R.poolAsOwn hq
  have hx : DqAll K H [V.int a, V.int b] [PyData.int a, PyData.int b] := .cons (.int a) (.cons (.int b) .nil)
  have ix0 : ∀ {σ : L2.St} {H2 : Hp}, σ[0]? = some (some (.ref q)) → Evl.Ex H H2 → EvD K ⟨none, upd (fun _ => none) q (.lst [.int a, .int b])⟩ (tPool0 K 0) σ H2 (.int a) := fun h e => d_ixOwn h own_same (dqall_ex e hx) d_int rfl
  have ix1 : ∀ {σ : L2.St} {H2 : Hp}, σ[0]? = some (some (.ref q)) → Evl.Ex H H2 → EvD K ⟨none, upd (fun _ => none) q (.lst [.int a, .int b])⟩ (tPool0 K 1) σ H2 (.int b) := fun h e => d_ixOwn h own_same (dqall_ex e hx) d_int rfl
  refine q_when (b_test (d_op (K := K) (ix0 rfl (Evl.Ex.refl H)) d_int o_gt)) R0 (fun hc A1 H1 g1 => ?_) fun hc A1 H1 g1 => ?_
  · refine q_asg (d_op (K := K) (d_cb (s_cons (ix0 rfl g1.reg) s_nil) c_int1) (d_var rfl (.int m)) (o_mod hm)) (g1.to R0) fun v2 A2 H2 g2 k2 => ?_
    cases k2
    have g12 := g1.trans g2
    refine s_setOwn (K := K) (xs := [.int a, .int b]) (z := 0) (j := 0) (d := .int (a / m)) rfl own_same (d_op (ix0 rfl g12.reg) (d_var rfl (.int m)) (o_fdiv hm hm2)) (fun H' e => d_int) rfl (g12.to R0) fun v5 A4 H4 g4 k5 R4 => ?_
    cases k5
    have gp : Gr ⟨some q, own⟩ A H (upd A4 q (.lst [.int (a / m), .int b])) H4 := Gr.toPool (g12.trans g4) (R4.offO q _ upd_same).1 ⟨_, (g12.trans g4).act q _ (fun z => nomatch z) hq⟩ (Int.ediv_nonneg ha (by omega)) hb hb2
    exact ⟨.int (a % m), rfl, k _ _ _ gp (Int.emod_nonneg _ (by omega)) (Int.emod_lt_of_pos _ hm)⟩
  · refine s_setOwn (K := K) (xs := [.int a, .int b]) (z := 1) (j := 1) (d := .int ((b * 48271 + 12345) % 2147483647)) rfl own_same (d_op (d_cb (s_cons (d_op (d_op (ix1 rfl g1.reg) d_int (o_mul (.inr (by decide)))) d_int o_add) s_nil) c_int1) d_int (o_mod (by decide))) (fun H' e => d_int) rfl (g1.to R0) fun v5 A4 H4 g4 k5 R4 => ?_
    cases k5
    have c0 : 0 ≤ (b * 48271 + 12345) % 2147483647 := Int.emod_nonneg _ (by decide)
    have c1 : (b * 48271 + 12345) % 2147483647 < 2147483647 := Int.emod_lt_of_pos _ (by decide)
    generalize hc' : (b * 48271 + 12345) % 2147483647 = c at *
    have hy : DqAll K H4 [V.int a, V.int c] [PyData.int a, PyData.int c] := .cons (.int a) (.cons (.int c) .nil)
    have ix1' : ∀ {σ : L2.St} {H2 : Hp}, σ[0]? = some (some (.ref q)) → Evl.Ex H4 H2 → EvD K ⟨none, upd (upd (fun _ => none) q (.lst [.int a, .int b])) q (.lst [.int a, .int c])⟩ (tPool0 K 1) σ H2 (.int c) := fun h e => d_ixOwn h own_same (dqall_ex e hy) d_int rfl
    refine Z.s_ret (d_op (K := K) (d_op (d_op (d_cb (s_cons (d_op (ix1' rfl (Evl.Ex.refl _)) (ix1' rfl (Evl.Ex.refl _)) (o_mul (.inl ⟨by omega, by omega⟩))) s_nil) c_int1) d_int (o_mod (by decide))) d_int (o_fdiv (by decide) (by decide))) (d_var rfl (.int m)) (o_mod hm)) R4 fun v6 A6 H6 g6 k6 => ?_
    cases k6
    have gp : Gr ⟨some q, own⟩ A H (upd A4 q (.lst [.int a, .int c])) H4 := Gr.toPool (g1.trans g4) (R4.offO q _ upd_same).1 ⟨_, (g1.trans g4).act q _ (fun z => nomatch z) hq⟩ ha c0 c1
    have g6' : Gr ⟨some q, own⟩ (upd A4 q (.lst [.int a, .int c])) H4 A6 H6 := by
      have pl := gp.pool
      refine ⟨fun x o n h => g6.act x o (fun z => nomatch z) h, g6.dom, fun x hx => ?_, g6.reg, g6.sub, g6.new⟩
      obtain ⟨i, j, e, r⟩ := pl x hx
      exact ⟨i, j, g6.act x _ (fun z => nomatch z) e, r⟩
    exact k _ _ _ (gp.trans g6') (Int.emod_nonneg _ (by omega)) (Int.emod_lt_of_pos _ hm)
end
end Z
namespace Z
open PySem PySem.Spec PyProof.Rows L2 Evl
section
variable {K : PySem.W.Frag} {p : Me} {σ : L2.St} {H H' A A' : Hp} {te ta tb tc tl ti : TE} {tt : TT} {tu tz : TS} {D : Ends} {d dx dy dz : PyData} {ds es : List PyData}
theorem upd_id {q : Addr} {o : HO} (h : A q = some o) : upd A q o = A := by
  funext a
  by_cases c : a = q
  · subst c; rw [upd_same, h]
  · rw [upd_ne c]
/-- a comprehension over a list whose result is one's own -/
theorem lcL_own {j : Nat} {vs : List Nat} (f : PyData → Bool) (v : PyData → PyData) (h : EvD K p tl σ H (.list ds)) (hz : ds.length ≤ 60000) (hw : ∀ x, wipe ((wipe σ vs).set j (some x)) vs = wipe σ vs)
    (ht : ∀ c ∈ ds, ∀ x H1, Ex H H1 → Dq K H1 x c → EvB p tt ((wipe σ vs).set j (some x)) H1 (f c)) (he : ∀ c ∈ ds, ∀ x H1, Ex H H1 → Dq K H1 x c → f c = true → EvD K p te ((wipe σ vs).set j (some x)) H1 (v c)) (R : Reg p H A) {Q : VK}
    (q : ∀ (l : Addr) xs A' H', Gr p A H A' H' → A l = none → Reg ⟨p.pool, upd p.own l (.lst xs)⟩ H' A' → DqAll K H' xs ((ds.filter f).map v) → Q (.ref l) A') : tLc (iList K tl) (gName j) tt te vs σ A Q := h A R _ fun x A1 H1 g1 k1 => by
  obtain ⟨a, xs, rfl, sq, el⟩ := dq_inv_l k1
  have R1 := g1.to R
  have ln := dqall_len el
  refine ⟨a, rfl, ⟨xs, sq_of (R1.ex _ _ sq)⟩, fun Dl hD => lc_w (K := K) (p := p) (H1 := H1) (walk_list (K := K) (a := a) (xs := xs)) R1 hD (by omega) (fun i => f (ds.getD i .none)) (fun i => v (ds.getD i .none)) (fun H' A' e r => sq_of ((e.trans r.ex) _ _ sq)) ?_ name_mono ?_⟩
  · rintro i x A' A2 H' hi e r ⟨rfl, hx⟩
    have hi' : i < ds.length := by omega
    have hd : ds.getD i .none = ds[i] := by simp [hi']
    obtain ⟨y, hv, kv⟩ := dqall_get el (List.getElem?_eq_getElem hi')
    rw [hx] at hv
    cases hv
    have hm : ds[i] ∈ ds := List.getElem_mem hi'
    refine ⟨hw x, H', r.refl, ?_, ?_⟩
    · rw [hd]; exact ht _ hm x H' (g1.reg.trans e) (dq_ex e _ _ kv)
    · rw [hd]; exact he _ hm x H' (g1.reg.trans e) (dq_ex e _ _ kv)
  · intro A' H' ys g n e k
    rw [ln, filter_range_map] at k
    have np : p.pool ≠ some Dl := fun z => by
      obtain ⟨a, b, h, _⟩ := R1.pool Dl z
      rw [hD] at h
      cases h
    have nA : A Dl = none := by
      cases q : A Dl with
      | none => rfl
      | some o => obtain ⟨o', e'⟩ := g1.dom Dl o q; rw [hD] at e'; cases e'
    have r := (g.to R1).put (o := .lst ys) np n
    rw [upd_id e] at r
    exact q Dl ys A' H' (g1.trans g) nA r k
/-- q[z1], q[z2] = e1, e2 -/
theorem s_swapOwn {i : Nat} {q : Addr} {xs : List V} {z1 z2 : Int} {j1 j2 : Nat} {d1 d2 : PyData} {e1 e2 t1 t2 : TE} (hp0 : p.pool = none) (hs : σ[i]? = some (some (.ref q))) (ho : p.own q = some (.lst xs)) (h1 : EvD K p e1 σ H d1) (h2 : EvD K p e2 σ H d2)
    (hi1 : ∀ p' H', Ex H H' → EvD K p' t1 σ H' (.int z1)) (hi2 : ∀ p' H', Ex H H' → EvD K p' t2 σ H' (.int z2)) (hj1 : ixN xs.length z1 = some j1) (hj2 : ixN xs.length z2 = some j2) (R : Reg p H A)
    (k : ∀ x y A' H', Dq K H' x d1 → Dq K H' y d2 → Ex H H' → Reg ⟨none, upd (upd p.own q (.lst (xs.set j1 x))) q (.lst ((xs.set j1 x).set j2 y))⟩ H' A' → (∀ A0 H0, A0 q = none → Gr .non A0 H0 A H → Gr .non A0 H0 A' H') → D.nx σ A') :
    tAsg (tTup (tCons e1 (tCons e2 tNil))) (gTup K 2 (gCons (gSub (tVar i) t1 rSetL) (gCons (gSub (tVar i) t2 rSetL) gNil))) D σ A := by
  have hev := s_cons h1 (s_cons h2 s_nil)
  generalize tCons e1 (tCons e2 tNil) = ta at hev ⊢
  refine hev A R _ fun vs A1 H1 g1 k1 => ?_
  obtain ⟨x, y, rfl, kx, ky⟩ := dqall_two k1
  refine ⟨sz_of (by show 2 ≤ 100000; decide), fun l hn => ?_⟩
  have R1 := g1.to R
  have gT := Gr.allocM R1 (o := .tup [x, y]) hn
  have g1T := g1.trans gT
  have RT := gT.to R1
  refine ⟨l, [x, y], rfl, st_of upd_same, rfl, x, [y], rfl, .ref q, hs, hi1 p H1 g1.reg _ RT _ fun z A2 H2 g2 k2 => ?_⟩
  cases k2
  have R2 := g2.to RT
  refine ⟨q, xs, z1, j1, rfl, rfl, R2.own _ _ ho, hj1, y, [], rfl, .ref q, hs, ?_⟩
  have R3 := R2.put (o := .lst (xs.set j1 x)) (R2.offO q _ ho).2 (R2.offO q _ ho).1
  refine hi2 _ H2 (g1.reg.trans g2.reg) _ R3 _ fun z' A4 H4 g4 k4 => ?_
  cases k4
  have R4 := g4.to R3
  refine ⟨q, xs.set j1 x, z2, j2, rfl, rfl, R4.own _ _ upd_same, by rw [List.length_set]; exact hj2, rfl, ?_⟩
  have e24 := g2.reg.trans g4.reg
  have R5 := R4.put (o := .lst ((xs.set j1 x).set j2 y)) (R4.offO q _ upd_same).2 (R4.offO q _ upd_same).1
  refine k x y _ H4 (dq_ex e24 _ _ kx) (dq_ex e24 _ _ ky) (g1.reg.trans e24) ?_ fun A0 H0 n0 g0 => ?_
  · have e : (Me.mk p.pool (upd (upd p.own q (.lst (xs.set j1 x))) q (.lst ((xs.set j1 x).set j2 y)))) = ⟨none, upd (upd p.own q (.lst (xs.set j1 x))) q (.lst ((xs.set j1 x).set j2 y))⟩ := by rw [hp0]
    rw [← e]
    exact R5
  · have ga : Gr .non A0 H0 A2 H2 := (g0.trans (g1T.as hp0)).trans (g2.as hp0)
    have gb : Gr .non A0 H0 (upd A2 q (.lst (xs.set j1 x))) H2 := Gr.mut ga n0 (R2.offO q _ ho).1 (fun z => nomatch z)
    exact Gr.mut (gb.trans (g4.as hp0)) n0 (R4.offO q _ upd_same).1 (fun z => nomatch z)
end
end Z
namespace Z
open PySem PySem.Spec PyProof.Rows L2 Evl
section
variable {K : PySem.W.Frag} {p : Me} {σ : L2.St} {H H' A A' : Hp} {te ta tb tc tl ti : TE} {tt : TT} {tu tz : TS} {D : Ends} {d dx dy dz : PyData} {ds es : List PyData}
theorem q_tup2 {a b : Nat} {e1 e2 : TE} {d1 d2 : PyData} (h1 : EvD K p e1 σ H d1) (h2 : EvD K p e2 σ H d2) (R : Reg p H A) (k : ∀ x y A' H', Gr p A H A' H' → Dq K H' x d1 → Dq K H' y d2 → tz D ((σ.set a (some x)).set b (some y)) A') :
    tSeq (tAsg (tTup (tCons e1 (tCons e2 tNil))) (gTup K 2 (gCons (gName a) (gCons (gName b) gNil)))) tz D σ A := by
  have hev := s_cons h1 (s_cons h2 s_nil)
  generalize tCons e1 (tCons e2 tNil) = ta at hev ⊢
  refine hev A R _ fun vs A1 H1 g1 k1 => ?_
  obtain ⟨x, y, rfl, kx, ky⟩ := dqall_two k1
  refine ⟨sz_of (by show 2 ≤ 100000; decide), fun l hn => ?_⟩
  exact gtup2 upd_same (k x y _ H1 (g1.trans (Gr.allocM (g1.to R) hn)) kx ky)
theorem lay_ints : ∀ r : List Int, PyData.canLayAll0 (r.map PyData.int) = true ∧ PyData.depthAll (r.map PyData.int) = 0
  | [] => ⟨rfl, rfl⟩
  | n :: r => by
    obtain ⟨h1, h2⟩ := lay_ints r
    refine ⟨h1, ?_⟩
    show max (PyData.depth (.int n)) (PyData.depthAll (r.map PyData.int)) = 0
    rw [h2]; rfl
theorem shaped_ints (r : List Int) : SeqAt.shaped (.list (r.map PyData.int)) = true := by
  obtain ⟨h1, h2⟩ := lay_ints r
  show (PyData.canLayAll0 (r.map PyData.int) && decide (PyData.depthAll (r.map PyData.int) + 1 ≤ 64)) = true
  rw [h1, h2]; rfl
theorem lay_rows : ∀ rs : List (List Int), PyData.canLayAll0 (rs.map fun r => .tuple (r.map PyData.int)) = true ∧ PyData.depthAll (rs.map fun r => .tuple (r.map PyData.int)) ≤ 1
  | [] => ⟨rfl, Nat.zero_le _⟩
  | r :: rs => by
    obtain ⟨h1, h2⟩ := lay_rows rs
    obtain ⟨h3, h4⟩ := lay_ints r
    refine ⟨?_, ?_⟩
    · show (PyData.canLayAll0 (r.map PyData.int) && PyData.canLayAll0 (rs.map fun r => .tuple (r.map PyData.int))) = true
      rw [h1, h3]; rfl
    · show max (PyData.depthAll (r.map PyData.int) + 1) (PyData.depthAll (rs.map fun r => .tuple (r.map PyData.int))) ≤ 1
      rw [h4]; omega
theorem shaped_rows (rs : List (List Int)) : SeqAt.shaped (.list (rs.map fun r => .tuple (r.map PyData.int))) = true := by
  obtain ⟨h1, h2⟩ := lay_rows rs
  show (PyData.canLayAll0 (rs.map fun r => .tuple (r.map PyData.int)) && decide (PyData.depthAll (rs.map fun r => .tuple (r.map PyData.int)) + 1 ≤ 64)) = true
  rw [h1]
  show decide _ = true
  exact decide_eq_true (by omega)
theorem shaped_nil : SeqAt.shaped (.list []) = true := rfl
theorem eqv_nil : ∀ ds : List PyData, PyData.eqv (.list ds) (.list []) = ds.isEmpty
  | [] => by simp [PyData.eqv, PyData.eqvAll]
  | d :: ds => by simp [PyData.eqv, PyData.eqvAll]
theorem q_asgQ {i : Nat} (h : te σ A fun x A' => tz D (σ.set i (some x)) A') : tSeq (tAsg te (gName i)) tz D σ A := h
theorem c_lenTK : CaD K p (fun xs H Q => ∃ q ys, xs = [.ref q] ∧ (SqL K H q ys ∨ SqT K H q ys) ∧ Q (.int ys.length) H) [.tuple ds] (.int ds.length) := fun vs H A h R Q q => by
  obtain ⟨v, rfl, k⟩ := dqall_one h
  obtain ⟨a, xs, rfl, h1, h2⟩ := dq_inv_t k
  rw [← dqall_len h2] at q
  exact ⟨a, xs, rfl, .inr (ex_t R.ex h1), q _ A H R.refl (.int _)⟩
theorem c_lenLK : CaD K p (fun xs H Q => ∃ q ys, xs = [.ref q] ∧ (SqL K H q ys ∨ SqT K H q ys) ∧ Q (.int ys.length) H) [.list ds] (.int ds.length) := fun vs H A h R Q q => by
  obtain ⟨v, rfl, k⟩ := dqall_one h
  obtain ⟨a, xs, rfl, h1, h2⟩ := dq_inv_l k
  rw [← dqall_len h2] at q
  exact ⟨a, xs, rfl, .inl (sq_of (R.ex _ _ h1)), q _ A H R.refl (.int _)⟩
theorem d_lenOwnK {i : Nat} {q : Addr} {xs : List V} (hs : σ[i]? = some (some (.ref q))) (ho : p.own q = some (.lst xs)) (hx : DqAll K H xs ds) :
    EvD K p (tCB (fun xs H Q => ∃ q ys, xs = [.ref q] ∧ (SqL K H q ys ∨ SqT K H q ys) ∧ Q (.int ys.length) H) (tCons (tVar i) tNil)) σ H (.int ds.length) := fun A R Q k => by
  refine ⟨.ref q, hs, q, xs, rfl, .inl (sq_of (R.own _ _ ho)), ?_⟩
  rw [dqall_len hx]
  exact k _ A H R.refl (.int _)
theorem call_list_ofK {X : Cx} {K : PySem.W.Frag} (h : X.K = K) : CallR X (.type "list") (fun xs H Q => ∃ q ys, xs = [.ref q] ∧ (SqL K H q ys ∨ SqT K H q ys) ∧ ∀ l, H l = none → Q (.ref l) (upd H l (.lst ys))) := h ▸ call_list_of
theorem call_tuple_ofK {X : Cx} {K : PySem.W.Frag} (h : X.K = K) : CallR X (.type "tuple") (fun xs H Q => ∃ q ys, xs = [.ref q] ∧ ((SqL K H q ys ∧ ∀ l, H l = none → Q (.ref l) (upd H l (.tup ys))) ∨ (SqT K H q ys ∧ Q (.ref q) H))) := h ▸ call_tuple_of
theorem c_listTK : CaD K p (fun xs H Q => ∃ q ys, xs = [.ref q] ∧ (SqL K H q ys ∨ SqT K H q ys) ∧ ∀ l, H l = none → Q (.ref l) (upd H l (.lst ys))) [.tuple ds] (.list ds) := fun vs H A h R Q q => by
  obtain ⟨v, rfl, k⟩ := dqall_one h
  obtain ⟨a, xs, rfl, h1, h2⟩ := dq_inv_t k
  exact ⟨a, xs, rfl, .inr (ex_t R.ex h1), fun l hl => by
    have g := Gr.alloc R (o := .lst xs) hl
    exact q _ _ _ g (.lst upd_same (dqall_ex g.reg h2))⟩
theorem sql_ex {a : Addr} {xs : List V} (e : Ex H H') (h : SqL K H a xs) : SqL K H' a xs := by
  rcases h with (h | ⟨o, h⟩) | h
  · exact .inl (.inl (e _ _ h))
  · exact .inl (.inr ⟨o, e _ _ h⟩)
  · exact .inr h
theorem d_lenS {i : Nat} {a : Addr} {ns : List Int} (hs : σ[i]? = some (some (.ref a))) (hq : SqL K H a (ns.map V.int)) : EvD K p (tCB (fun xs H Q => ∃ q ys, xs = [.ref q] ∧ (SqL K H q ys ∨ SqT K H q ys) ∧ Q (.int ys.length) H) (tCons (tVar i) tNil)) σ H (.int ns.length) := fun A R Q k => by
  refine ⟨.ref a, hs, a, ns.map V.int, rfl, .inl (sql_ex R.ex hq), ?_⟩
  rw [List.length_map]
  exact k _ A H R.refl (.int _)
theorem d_ixS {i : Nat} {a : Addr} {ns : List Int} {z n : Int} (hs : σ[i]? = some (some (.ref a))) (hq : SqL K H a (ns.map V.int)) (hi : EvD K p ti σ H (.int z)) (e : atI (ns.map V.int) z = some (.int n)) : EvD K p (tOp (rIx K) (tVar i) ti) σ H (.int n) := fun A R Q k =>
  ⟨.ref a, hs, hi A R _ fun y A1 H1 g1 k1 => by
    cases k1
    have R1 := g1.to R
    exact .inl ⟨a, ns.map V.int, z, .int n, rfl, rfl, sql_ex (g1.reg.trans R1.ex) hq, e, k _ A1 H1 g1 (.int n)⟩⟩
end
end Z
/-! what laws do: draws from the pool, rows put together -/
namespace Z
open PySem PySem.Spec PyProof.Rows L2 Evl
section
variable {K : PySem.W.Frag} {p : Me} {σ : L2.St} {H H' A A' : Hp} {te ta tb tc tl ti : TE} {tt : TT} {tu tz : TS} {D : Ends} {d dx dy dz : PyData} {ds es : List PyData}
theorem take_ev {i : Nat} {q : Addr} {own : Hp} {m : Int} (hs : σ[i]? = some (some (.ref q))) (hm : 0 < m) (hm2 : m < 1073741824) :
    EvG ⟨some q, own⟩ (tCall (takeS K) [] E0 (tCons (tVar i) (tCons (tC (.int m)) tNil))) σ H fun v _ => ∃ r : Int, v = .int r ∧ 0 ≤ r ∧ r < m := fun A R Q k =>
  ⟨.ref q, hs, H, q, own, m, rfl, R, hm, hm2, fun r A' H' g h0 h1 => k _ A' H' g ⟨r, rfl, h0, h1⟩⟩
/-- x, q = e, [] -/
theorem q_tupNew {a b : Nat} {e1 : TE} {P : V → Prop} (h1 : EvG p e1 σ H fun v _ => P v) (R : Reg p H A)
    (k : ∀ v q A' H', P v → Gr p A H A' H' → H' q = none → Reg ⟨p.pool, upd p.own q (.lst [])⟩ H' A' → tz D ((σ.set a (some v)).set b (some (.ref q))) A') :
    tSeq (tAsg (tTup (tCons e1 (tCons (tLst tNil) tNil))) (gTup K 2 (gCons (gName a) (gCons (gName b) gNil)))) tz D σ A :=
  h1 A R _ fun v A1 H1 g1 k1 => ⟨sz_of (by show 0 ≤ 100000; decide), fun l hn => ⟨sz_of (by show 2 ≤ 100000; decide), fun T hT => by
    have R1 := g1.to R
    have g2 := Gr.allocM R1 (o := .lst []) hn
    have R2 := g2.to R1
    have hnp : p.pool ≠ some l := fun z => by
      obtain ⟨a, b, e, _⟩ := R1.pool l z
      rw [hn] at e; cases e
    have hnH : H1 l = none := fresh_back R1.ex hn
    have g3 := Gr.allocM R2 (o := .tup [v, .ref l]) hT
    have r3 := (g3.to R2).put (o := .lst []) hnp hnH
    have hl3 : upd (upd A1 l (.lst [])) T (.tup [v, .ref l]) l = some (.lst []) := by
      have c : l ≠ T := fun z => by rw [← z, upd_same] at hT; cases hT
      rw [upd_ne c, upd_same]
    rw [upd_id hl3] at r3
    exact gtup2 upd_same (k v l _ H1 k1 ((g1.trans g2).trans g3) hnH r3)⟩⟩
/-- what was one's own is known from here on; nothing changes any more -/
theorem Reg.settle {q : Addr} {o : HO} (R : Reg p H A) (h : p.own q = some o) : Reg .non (upd H q o) A := by
  have e := R.own q o h
  refine ⟨fun x y hx => ?_, (fun q h => nomatch h), (fun q h => nomatch h), (fun q o h => nomatch h), (fun q o h => nomatch h)⟩
  by_cases c : x = q
  · subst c
    rw [upd_same] at hx
    rw [e]; exact hx
  · rw [upd_ne c] at hx
    exact R.ex x y hx
theorem dqall_ints {G : Hp} : ∀ r : List Int, DqAll K G (r.map V.int) (r.map .int)
  | [] => .nil
  | c :: r => .cons (.int c) (dqall_ints r)
/-- [te for j in range(n)], te some int of which Pc holds -/
theorem lcR_any {j : Nat} {vs : List Nat} {ta : TA} {n : Int} {Pc : Int → Prop} (h : EvS K p ta σ H [.int n]) (h0 : 0 ≤ n) (hz : n ≤ 60000) (hw : ∀ x, wipe ((wipe σ vs).set j (some x)) vs = wipe σ vs)
    (he : ∀ (i : Nat) H1, Ex H H1 → EvG p te ((wipe σ vs).set j (some (.int i))) H1 fun v _ => ∃ c : Int, v = .int c ∧ Pc c) :
    EvG p (tLc (iRng1 ta) (gName j) tYes te vs) σ H fun v H' => ∃ r : List Int, (r.length : Int) = n ∧ (∀ c ∈ r, Pc c) ∧ Dq K H' v (.list (r.map .int)) := fun A R Q q => h A R _ fun us A1 H1 g1 k1 => by
  cases k1 with | cons c1 c2 =>
  cases c2
  cases c1
  have R1 := g1.to R
  refine ⟨_, rfl, by omega, by omega, fun Dl hD => ?_⟩
  have nh : H1 Dl = none := fresh_back R1.ex hD
  have np : p.pool ≠ some Dl := fun z => by
    obtain ⟨a, b, h, _⟩ := R1.pool Dl z
    rw [hD] at h
    cases h
  refine lc_it (walk_range (lo := 0) (n := n.toNat)) (fun i A' => ∃ (H' : Hp) (r : List Int), Gr p A1 H1 A' H' ∧ H' Dl = none ∧ A' Dl = some (.lst (r.map V.int)) ∧ r.length = i ∧ ∀ c ∈ r, Pc c) ⟨H1, [], Gr.allocM R1 hD, nh, upd_same, rfl, (fun c h => nomatch h)⟩ (fun i A' _ _ => trivial) ?_ ?_
  · rintro i x A' A2 hi ⟨H', r, g2, m2, e2, l2, p2⟩ ⟨rfl, rfl⟩
    have e0 : (0 : Int) + (i : Int) = (i : Int) := Int.zero_add _
    refine ⟨hw _, ?_⟩
    dsimp only
    rw [e0]
    have R2 := g2.to R1
    show te _ A2 fun y A5 => _
    refine he i H' (g1.reg.trans g2.reg) A2 R2 _ fun z A5 H5 g5 ⟨c, hc, pc⟩ => ?_
    subst hc
    have new5 : H5 Dl = none := by
      cases q : H5 Dl with
      | none => rfl
      | some o =>
        have := g5.new Dl _ o e2 q
        rw [m2] at this
        cases this
    refine ⟨r.map V.int, g5.act Dl _ np e2, sz_lt (by rw [List.length_map]; omega), H5, r ++ [c], ?_, new5, ?_, by rw [List.length_append, l2]; rfl, fun b hb => ?_⟩
    · exact Gr.mut (g2.trans g5) hD new5 np
    · rw [upd_same, List.map_append]; rfl
    · rcases List.mem_append.mp hb with hb | hb
      · exact p2 b hb
      · have : b = c := by simpa using hb
        rw [this]; exact pc
  · rintro A' ⟨H', r, g2, m2, e2, l2, p2⟩
    have g3 := g2.know hD m2 e2
    exact q _ _ _ (g1.trans g3) ⟨r, by omega, p2, Dq.lst upd_same (dqall_ints r)⟩
theorem c_max2 {i j : Int} : CaD K p (fun xs H Q => ∃ i j, xs = [.int i, .int j] ∧ Q (.int (if j > i then j else i)) H) [.int i, .int j] (.int (if j > i then j else i)) := fun vs H A h R Q q => by
  obtain ⟨v, w, rfl, k1, k2⟩ := dqall_two h
  cases k1; cases k2
  exact ⟨i, j, rfl, q _ A H R.refl (.int _)⟩
theorem c_min2 {i j : Int} : CaD K p (fun xs H Q => ∃ i j, xs = [.int i, .int j] ∧ Q (.int (if j < i then j else i)) H) [.int i, .int j] (.int (if j < i then j else i)) := fun vs H A h R Q q => by
  obtain ⟨v, w, rfl, k1, k2⟩ := dqall_two h
  cases k1; cases k2
  exact ⟨i, j, rfl, q _ A H R.refl (.int _)⟩
theorem s_appOwnG {i : Nat} {q : Addr} {xs : List V} {P : V → Hp → Prop} (hs : σ[i]? = some (some (.ref q))) (ho : p.own q = some (.lst xs)) (h : EvG p te σ H P) (hz : xs.length < 100000) (R : Reg p H A)
    (k : ∀ v A' H', Gr p A H A' H' → P v H' → Reg ⟨p.pool, upd p.own q (.lst (xs ++ [v]))⟩ H' (upd A' q (.lst (xs ++ [v]))) → D.nx σ (upd A' q (.lst (xs ++ [v])))) : tDrop (tBM K "list" rAppend (tVar i) (tCons te tNil)) D σ A :=
  ⟨.ref q, hs, .inl ⟨rfl, xs, sq_of (R.own _ _ ho)⟩, h A R _ fun v A1 H1 g1 k1 => by
    have R1 := g1.to R
    exact ⟨q, xs, v, rfl, rfl, R1.own _ _ ho, sz_lt hz, k v A1 H1 g1 k1 (R1.put (R1.offO q _ ho).2 (R1.offO q _ ho).1)⟩⟩
theorem tup_any {P : List Int → Prop} (h : EvG p te σ H fun v H' => ∃ r : List Int, P r ∧ Dq K H' v (.list (r.map .int))) :
    EvG p (tCB (fun xs H Q => ∃ q ys, xs = [.ref q] ∧ ((SqL K H q ys ∧ ∀ l, H l = none → Q (.ref l) (upd H l (.tup ys))) ∨ (SqT K H q ys ∧ Q (.ref q) H))) (tCons te tNil)) σ H fun v H' => ∃ r : List Int, P r ∧ Dq K H' v (.tuple (r.map .int)) := fun A R Q k => h A R _ fun v A1 H1 g1 ⟨r, hr, kr⟩ => by
  obtain ⟨a, xs, rfl, h1, h2⟩ := dq_inv_l kr
  have R1 := g1.to R
  exact ⟨a, xs, rfl, .inl ⟨sq_of (R1.ex _ _ h1), fun l hl => by
    have g := Gr.alloc R1 (o := .tup xs) hl
    exact k _ _ _ (g1.trans g) ⟨r, hr, .tup (st_of upd_same) (dqall_ex g.reg h2)⟩⟩⟩
/-- [e, ..][_law_take(pool, m)] -/
theorem pick_any {i : Nat} {q : Addr} {own : Hp} {m : Int} {ta : TA} {Pc : Int → Prop} (hs : σ[i]? = some (some (.ref q))) (hm : 0 < m) (hm2 : m < 1073741824) (h : EvS K ⟨some q, own⟩ ta σ H ds) (hl : ds.length ≤ 100000) (ha : ∀ r : Int, 0 ≤ r → r < m → ∃ c : Int, atI ds r = some (.int c) ∧ Pc c) :
    EvG ⟨some q, own⟩ (tOp (rIx K) (tLst ta) (tCall (takeS K) [] E0 (tCons (tVar i) (tCons (tC (.int m)) tNil)))) σ H fun v _ => ∃ c : Int, v = .int c ∧ Pc c := fun A R Q k =>
  d_lst h hl A R _ fun lv A1 H1 g1 k1 => take_ev (K := K) (H := H1) hs hm hm2 A1 (g1.to R) _ fun v A2 H2 g2 ⟨r, hr, h0, h1⟩ => by
    subst hr
    obtain ⟨c, e, pc⟩ := ha r h0 h1
    exact o_ixL e lv (.int r) H2 A2 (dq_ex g2.reg _ _ k1) (.int r) (g2.to (g1.to R)) Q fun v A' H' g k4 => k v A' H' ((g1.trans g2).trans g) ⟨c, by cases k4; rfl, pc⟩
end
end Z
namespace Q42
open PySem PySem.Spec PyProof.Rows L2 Z
def top (i : Nat) : Stmt := PySem.Challenge.pw_freshplaces_k42_kernels.main.body.getD i (.Pass ⟨0, 0, 0, 0⟩)
section
variable {P : Program} {w : World} {K : PySem.W.Frag} {mg : Str → Option Value} {base : Heap}
/-! rows as data -/
abbrev R (r : List Int) : PyData := .tuple (r.map .int)
abbrev L (r : List Int) : PyData := .list (r.map .int)
abbrev LR (rs : List (List Int)) : PyData := .list (rs.map R)
/-! is_whole -/
abbrev s_is_whole : Stmt := top 5
abbrev N_is_whole : List Str := ["value"]
theorem sc_is_whole : FnScope N_is_whole ["value"] (defScope s_is_whole) := ⟨rfl, rfl, rfl, by decide +kernel, rfl, by decide +kernel, by decide +kernel⟩
def F_is_whole : List PyData → PyData → Prop := fun ds d => ∃ n : Int, ds = [.int n] ∧ d = .bool true
theorem dn_is_whole (Hx : St K mg "is_whole" s_is_whole ["value"]) (B : Bs mg) : Dn P w K mg base CX0 1 "is_whole" ["value"] (SpD K F_is_whole) := by
  refine dn_data 0 Hx sc_is_whole (fun ds d h => by obtain ⟨n, rfl, _⟩ := h; rfl) fun f cdv A outer s H E hr => ⟨_, pss_one (ps_ret (pe_and (pe_callB call_isi (by rfl) B.isinstance (by decide +kernel) (pa_cons (pv 0) (pa_cons (pty (by rfl) B.int (by rfl)) pa_nil))) (pe_one (pe_not (pe_callB call_isi (by rfl) B.isinstance (by decide +kernel) (pa_cons (pv 0) (pa_cons (pty (by rfl) B.bool (by rfl)) pa_nil))))))), ?_⟩
  intro vs H A ds d Q R hk hF q
  obtain ⟨n, rfl, rfl⟩ := hF
  obtain ⟨v, rfl, k⟩ := dqall_one hk
  exact Z.s_ret (d_andV (K := K) (a := true) (b := true) (d_isi (d_var rfl k) rfl) fun _ => d_notV (a := false) (d_isi (d_var rfl k) rfl)) R q
/-! is_row -/
abbrev s_is_row : Stmt := top 7
abbrev N_is_row : List Str := ["value", "width", "number"]
theorem sc_is_row : FnScope N_is_row ["value", "width"] (defScope s_is_row) := ⟨rfl, rfl, rfl, by decide +kernel, rfl, by decide +kernel, by decide +kernel⟩
def F_is_row : List PyData → PyData → Prop := fun ds d => ∃ r : List Int, r.length ≤ 60000 ∧ ds = [R r, .int (r.length : Nat)] ∧ d = .bool true
theorem all_true : ∀ r : List Int, ((List.filter (fun _ => true) (r.map PyData.int)).map fun _ => PyData.bool true) = (r.map fun _ => true).map PyData.bool
  | [] => rfl
  | _ :: r => by rw [List.map_cons, List.filter_cons, if_pos rfl, List.map_cons, all_true r]; rfl
theorem all_id : ∀ r : List Int, ((r.map fun _ => true).all id) = true
  | [] => rfl
  | _ :: r => by rw [List.map_cons, List.all_cons, all_id r]; rfl
theorem mem_ints {c : PyData} {r : List Int} (h : c ∈ r.map PyData.int) : ∃ n : Int, n ∈ r ∧ c = .int n := by
  obtain ⟨n, h1, rfl⟩ := List.mem_map.mp h
  exact ⟨n, h1, rfl⟩
theorem dn_is_row (Hx : St K mg "is_row" s_is_row ["value", "width"]) (B : Bs mg) (D1 : Dn P w K mg base CX0 1 "is_whole" ["value"] (SpD K F_is_whole)) : Dn P w K mg base CX0 2 "is_row" ["value", "width"] (SpD K F_is_row) := by
  refine dn_data 1 Hx sc_is_row (fun ds d h => by obtain ⟨n, _, rfl, _⟩ := h; rfl) fun f cdv A outer s H E hr => ⟨_, (pss_one (ps_ret (pe_and (pe_callB call_isi (by rfl) B.isinstance (by decide +kernel) (pa_cons (pv 0) (pa_cons (pty (by rfl) B.tuple (by rfl)) pa_nil))) (pe_and (pe_cmpR op_eq (pe_callB call_len_seq (by rfl) B.len (by decide +kernel) (pa_cons (pv 0) pa_nil)) (pv 1) (nomark _)) (pe_one (pe_callB (cr_all rfl) (by rfl) B.all (by decide +kernel) (pa_cons (pe_lc (own := [("number", 2)]) (g := gName 2) (tt := tYes) rfl sc_is_row.nd (pi_tup (pv 0)) (blkOk_by (N := N_is_row) (sc := defScope s_is_row) (by decide +kernel)) (fun _ _ _ _ _ => (pg_name (i := 2) sc_is_row.nd rfl (Or.inl rfl))) (fun _ _ _ _ _ => pts_nil) (fun _ _ _ _ _ => (pe_cd D1 hr (by decide) rfl (pa_cons (pv 2) pa_nil)))) pa_nil))))))), ?_⟩
  intro vs H A ds d Q R hk hF q
  obtain ⟨r, hl, rfl, rfl⟩ := hF
  obtain ⟨v, u, rfl, k1, k2⟩ := dqall_two hk
  refine Z.s_ret (d_andV (K := K) (a := true) (b := true) (d_isi (d_var rfl k1) rfl) fun _ => d_andV (a := true) (b := true) (d_op (d_cb (s_cons (d_var rfl k1) s_nil) (c_lenT rfl)) (d_var rfl k2) ?_) fun _ => ?_) R q
  · have e := o_eqI (K := K) (p := .non) (i := (r.map PyData.int).length) (j := (r.length : Nat))
    rw [show decide (((r.map PyData.int).length : Int) = (r.length : Nat)) = true by simp] at e
    exact e
  · have e := c_all (K := K) (p := .non) (bs := r.map fun _ => true)
    rw [all_id] at e
    refine d_cb (s_cons ?_ s_nil) e
    have g := d_lcT (K := K) (p := .non) (σ := start N_is_row [v, u]) (H := H) (j := 2) (vs := [2]) (tt := tYes) (te := tCall (SpD K F_is_whole) [] E0 (tCons (tVar 2) tNil)) (tl := tVar 0) (ds := r.map .int) (fun _ => true) (fun _ => .bool true) (d_var rfl k1) (by simpa using hl) (fun x => rfl) (fun c hc x H1 e k => b_yes) (fun c hc x H1 e k _ => by
      obtain ⟨n, _, rfl⟩ := mem_ints hc
      exact d_call (s_cons (d_var rfl k) s_nil) ⟨n, rfl, rfl⟩)
    rw [all_true] at g
    exact g
/-! check_rows -/
abbrev s_check_rows : Stmt := top 8
abbrev N_check_rows : List Str := ["rows", "width", "row"]
theorem sc_check_rows : FnScope N_check_rows ["rows", "width"] (defScope s_check_rows) := ⟨rfl, rfl, rfl, by decide +kernel, rfl, by decide +kernel, by decide +kernel⟩
def F_check_rows : List PyData → PyData → Prop := fun ds d => ∃ (rs : List (List Int)) (n : Nat), n ≤ 60000 ∧ (∀ r ∈ rs, r.length = n) ∧ ds = [LR rs, .int n] ∧ d = .none
theorem at_rows {rs : List (List Int)} {i : Nat} {d : PyData} (h : (rs.map R)[i]? = some d) : ∃ r, rs[i]? = some r ∧ r ∈ rs ∧ d = R r := by
  rw [List.getElem?_map] at h
  cases e : rs[i]? with
  | none => rw [e] at h; cases h
  | some r =>
    rw [e] at h
    cases h
    exact ⟨r, rfl, List.mem_of_getElem? e, rfl⟩
theorem dn_check_rows (Hx : St K mg "check_rows" s_check_rows ["rows", "width"]) (B : Bs mg) (D1 : Dn P w K mg base CX0 2 "is_row" ["value", "width"] (SpD K F_is_row)) : Dn P w K mg base CX0 3 "check_rows" ["rows", "width"] (SpD K F_check_rows) := by
  refine dn_data 2 Hx sc_check_rows (fun ds d h => by obtain ⟨r, n, _, _, rfl, _⟩ := h; rfl) fun f cdv A outer s H E hr => ⟨_, (pss_one (ps_for PassesOwn.never rfl (pi_list (pv 0)) (pg_name (i := 2) sc_check_rows.nd rfl (Or.inl rfl)) (pss_one (ps_if (pt_not (pt_val (pe_cd D1 hr (by decide) rfl (pa_cons (pv 2) (pa_cons (pv 1) pa_nil))))) (pss_one ps_never) pss_nil)))), ?_⟩
  intro vs H A ds d Q R hk hF q
  obtain ⟨rs, n, hn, hl, rfl, rfl⟩ := hF
  obtain ⟨v, u, rfl, k1, k2⟩ := dqall_two hk
  refine s_forL (K := K) (ds := rs.map Q42.R) (d_var rfl k1) R (fun _ σ' A' H' w => (∃ y, σ' = [some v, some u, y]) ∧ w = Me.non.own ∧ Gr .non A H A' H') (fun _ _ g => ⟨⟨_, rfl⟩, rfl, g⟩) ?_ ?_
  · rintro H1 e1 i d x σ' A' H' w hi ⟨⟨y, rfl⟩, rfl, g0⟩ e r kx
    obtain ⟨ro, h1, h2, rfl⟩ := at_rows hi
    have hro := hl ro h2
    exact Z.s_if (b := false) (b_not (b := true) (b_test (d_call (s_cons (d_var rfl kx) (s_cons (d_var rfl (dq_ex (e1.trans e) _ _ k2)) s_nil)) ⟨ro, by omega, by rw [hro], rfl⟩))) r (fun h => nomatch h) fun _ A2 H2 g => ⟨H2, _, ⟨⟨_, rfl⟩, rfl, g0.trans g⟩, e.trans g.reg, g.to r⟩
  · rintro σ' A' H' w ⟨⟨y, rfl⟩, rfl, g⟩ e r
    exact q _ _ _ g .non
/-! _first_place -/
def lead : List Int → Nat
  | [] => 0
  | n :: r => if n = 0 then lead r + 1 else 0
theorem lead_at : ∀ {r : List Int} {i : Nat} {n : Int}, (∀ j, j < i → r[j]? = some 0) → r[i]? = some n → n ≠ 0 → lead r = i
  | [], i, n, _, h, _ => by simp at h
  | m :: r, 0, n, _, h, hn => by
    cases h
    exact if_neg hn
  | m :: r, i + 1, n, h0, h, hn => by
    have e : m = 0 := by simpa using h0 0 (Nat.succ_pos _)
    have ih := lead_at (r := r) (i := i) (n := n) (fun j hj => by simpa using h0 (j + 1) (Nat.succ_lt_succ hj)) (by simpa using h) hn
    show (if m = 0 then lead r + 1 else 0) = i + 1
    rw [if_pos e, ih]
theorem lead_all : ∀ {r : List Int}, (∀ j, j < r.length → r[j]? = some 0) → lead r = r.length
  | [], _ => rfl
  | m :: r, h0 => by
    have e : m = 0 := by simpa using h0 0 (Nat.succ_pos _)
    have ih := lead_all (r := r) fun j hj => by simpa using h0 (j + 1) (by simpa using hj)
    show (if m = 0 then lead r + 1 else 0) = r.length + 1
    rw [if_pos e, ih]
theorem lead_zero : ∀ {r : List Int} {j : Nat}, j < lead r → r[j]? = some 0
  | [], j, h => by simp [lead] at h
  | m :: r, j, h => by
    by_cases e : m = 0
    · have h' : j < lead r + 1 := by simpa [lead, e] using h
      cases j with
      | zero => simp [e]
      | succ j => simpa using lead_zero (r := r) (Nat.lt_of_succ_lt_succ h')
    · simp [lead, e] at h
theorem lead_le : ∀ r : List Int, lead r ≤ r.length
  | [] => Nat.le_refl _
  | m :: r => by
    have := lead_le r
    by_cases e : m = 0 <;> simp [lead, e]
    exact this
theorem at_ints {r : List Int} {i : Nat} {d : PyData} (h : (r.map PyData.int)[i]? = some d) : ∃ n, r[i]? = some n ∧ d = .int n := by
  rw [List.getElem?_map] at h
  cases e : r[i]? with
  | none => rw [e] at h; cases h
  | some n =>
    rw [e] at h
    cases h
    exact ⟨n, rfl, rfl⟩
abbrev s__first_place : Stmt := top 14
abbrev N__first_place : List Str := ["row", "place", "number"]
theorem sc__first_place : FnScope N__first_place ["row"] (defScope s__first_place) := ⟨rfl, rfl, rfl, by decide +kernel, rfl, by decide +kernel, by decide +kernel⟩
def F__first_place : List PyData → PyData → Prop := fun ds d => ∃ r : List Int, ds = [R r] ∧ d = .int (lead r : Nat)
theorem dn__first_place (Hx : St K mg "_first_place" s__first_place ["row"]) (B : Bs mg) : Dn P w K mg base CX0 1 "_first_place" ["row"] (SpD K F__first_place) := by
  refine dn_data 0 Hx sc__first_place (fun ds d h => by obtain ⟨r, rfl, _⟩ := h; rfl) fun f cdv A outer s H E hr => ⟨_, (pss_cons (ps_for PassesOwn.never rfl (pi_enumT (by rfl) B.enumerate (pa_cons (pv 0) pa_nil)) (pg_tup rfl (pgs_cons (pg_name (i := 1) sc__first_place.nd rfl (Or.inl rfl)) (pgs_cons (pg_name (i := 2) sc__first_place.nd rfl (Or.inl rfl)) pgs_nil))) (pss_one (ps_if (pt_cmpR op_ne (pv 2) pe_int (nomark _)) (pss_one (ps_ret (pv 1))) pss_nil)))
    (pss_one (ps_ret (pe_callB call_len_seq (by rfl) B.len (by decide +kernel) (pa_cons (pv 0) pa_nil))))), ?_⟩
  intro vs H A ds d Q R hk hF q
  obtain ⟨r, rfl, rfl⟩ := hF
  obtain ⟨v, rfl, k1⟩ := dqall_one hk
  refine s_forE (K := K) (ds := r.map .int) (s_cons (d_var rfl k1) s_nil) R (fun i σ' A' H' w => (∃ y z, σ' = [some v, y, z]) ∧ w = Me.non.own ∧ Gr .non A H A' H' ∧ ∀ j, j < i → r[j]? = some 0) (fun _ _ g => ⟨⟨_, _, rfl⟩, rfl, g, fun j h => absurd h (Nat.not_lt_zero _)⟩) ?_ ?_
  · rintro H1 e1 i d x σ' A' A2 H' w hi ⟨⟨y, z, rfl⟩, rfl, g0, h0⟩ e g ra kx
    obtain ⟨n, h1, rfl⟩ := at_ints hi
    have ht : EvB .non (tTest (tOp rNe (tVar 2) (tC (.int 0)))) [some v, some (.int (i : Int)), some x] H' (!decide (n = 0)) := b_test (d_op (K := K) (d_var rfl kx) d_int o_neI)
    refine Z.s_if ht ra (fun hb A3 H3 g3 => ?_) fun hb A3 H3 g3 => ⟨H3, _, ⟨⟨_, _, rfl⟩, rfl, (g0.trans g).trans g3, fun j hj => ?_⟩, e.trans g3.reg, g3.to ra⟩
    · have hn : n ≠ 0 := by simpa using hb
      refine Z.s_ret (d_var (K := K) rfl (.int _)) (g3.to ra) fun v4 A4 H4 g4 k4 => q _ _ _ (((g0.trans g).trans g3).trans g4) ?_
      rw [lead_at h0 h1 hn]
      exact k4
    · have hn : n = 0 := by simpa using hb
      subst hn
      rcases Nat.lt_or_eq_of_le (Nat.le_of_lt_succ hj) with c | c
      · exact h0 j c
      · subst c; exact h1
  · rintro σ' A' H' w ⟨⟨y, z, rfl⟩, rfl, g, h0⟩ e ra
    refine Z.s_ret (d_cb (K := K) (s_cons (d_var rfl (dq_ex e _ _ k1)) s_nil) (c_lenT rfl)) ra fun v4 A4 H4 g4 k4 => q _ _ _ (g.trans g4) ?_
    rw [List.length_map] at h0
    rw [lead_all h0]
    rw [List.length_map] at k4
    exact k4
end
end Q42
namespace Q42
open PySem PySem.Spec PyProof.Rows L2 Z
/-! ### the common factor -/
def content (r : List Int) : Nat := r.foldl (fun g n => Nat.gcd g n.natAbs) 0
def thin (r : List Int) : List Int := if (content r : Int) < 2 then r else r.map fun n => n / (content r : Int)
theorem take_more {α : Type} : ∀ {l : List α} {i : Nat} {x : α}, l[i]? = some x → l.take (i + 1) = l.take i ++ [x]
  | [], i, x, h => by simp at h
  | a :: l, 0, x, h => by cases h; rfl
  | a :: l, i + 1, x, h => by
    have ih := take_more (l := l) (i := i) (x := x) (by simpa using h)
    rw [List.take_succ_cons, ih, List.take_succ_cons]
    rfl
theorem content_more {r : List Int} {i : Nat} {n : Int} (h : r[i]? = some n) : content (r.take (i + 1)) = Nat.gcd (content (r.take i)) n.natAbs := by
  unfold content
  rw [take_more h, List.foldl_append]
  rfl
theorem content_go : ∀ (r : List Int) (g : Nat), (r.foldl (fun g n => Nat.gcd g n.natAbs) g ∣ g) ∧ ∀ n ∈ r, r.foldl (fun g n => Nat.gcd g n.natAbs) g ∣ n.natAbs
  | [], g => ⟨Nat.dvd_refl _, fun n h => by cases h⟩
  | m :: r, g => by
    obtain ⟨h1, h2⟩ := content_go r (Nat.gcd g m.natAbs)
    refine ⟨Nat.dvd_trans h1 (Nat.gcd_dvd_left _ _), fun n hn => ?_⟩
    rcases List.mem_cons.mp hn with e | hn
    · rw [e]; exact Nat.dvd_trans h1 (Nat.gcd_dvd_right _ _)
    · exact h2 n hn
theorem content_dvd {r : List Int} {n : Int} (h : n ∈ r) : content r ∣ n.natAbs := (content_go r 0).2 n h
theorem content_dvdI {r : List Int} {n : Int} (h : n ∈ r) : (content r : Int) ∣ n := Int.natAbs_dvd_natAbs.mp (by rw [Int.natAbs_natCast]; exact content_dvd h)
theorem content_zero : ∀ {r : List Int}, (∀ n ∈ r, n = 0) → content r = 0
  | [], _ => rfl
  | m :: r, h => by
    have e : m = 0 := h m (List.mem_cons_self ..)
    have ih := content_zero (r := r) fun n hn => h n (List.mem_cons_of_mem _ hn)
    unfold content at ih ⊢
    rw [List.foldl_cons, e]
    exact ih
/-- all numbers have at most b bits -/
def Sm (b : Nat) (r : List Int) : Prop := ∀ n ∈ r, n.natAbs < 2 ^ b
theorem Sm.mono {a b : Nat} {r : List Int} (h : Sm a r) (l : a ≤ b) : Sm b r := fun n hn => Nat.lt_of_lt_of_le (h n hn) (Nat.pow_le_pow_right (by decide) l)
theorem content_lt {b : Nat} {r : List Int} (h : Sm b r) : content r < 2 ^ b := by
  by_cases c : ∀ n ∈ r, n = 0
  · rw [content_zero c]; exact Nat.two_pow_pos b
  · obtain ⟨n, hn, h0⟩ : ∃ n, n ∈ r ∧ n ≠ 0 := Classical.byContradiction fun z => c fun n hn => Classical.byContradiction fun z2 => z ⟨n, hn, z2⟩
    exact Nat.lt_of_le_of_lt (Nat.le_of_dvd (Int.natAbs_pos.mpr h0) (content_dvd hn)) (h n hn)
theorem div_le (n : Int) (g : Nat) : (n / (g : Int)).natAbs ≤ n.natAbs := Int.natAbs_ediv_le_natAbs n g
theorem sm_thin {b : Nat} {r : List Int} (h : Sm b r) : Sm b (thin r) := by
  unfold thin
  split
  · exact h
  · intro n hn
    obtain ⟨m, hm, rfl⟩ := List.mem_map.mp hn
    exact Nat.lt_of_le_of_lt (div_le _ _) (h m hm)
theorem thin_len (r : List Int) : (thin r).length = r.length := by
  unfold thin
  split
  · rfl
  · rw [List.length_map]
def onI (f : Int → PyData) : PyData → PyData
  | .int n => f n
  | d => d
theorem map_onI (f : Int → PyData) : ∀ r : List Int, (List.filter (fun _ => true) (r.map PyData.int)).map (onI f) = r.map f
  | [] => rfl
  | _ :: r => by
    have ih := map_onI f r
    rw [List.map_cons, List.filter_cons, if_pos rfl, List.map_cons, ih]
    rfl
section
variable {P : Program} {w : World} {K : PySem.W.Frag} {mg : Str → Option Value} {base : Heap}
abbrev s_without_factor : Stmt := top 16
abbrev N_without_factor : List Str := ["numbers", "common", "number"]
theorem sc_without_factor : FnScope N_without_factor ["numbers"] (defScope s_without_factor) := ⟨rfl, rfl, rfl, by decide +kernel, rfl, by decide +kernel, by decide +kernel⟩
def F_without_factor : List PyData → PyData → Prop := fun ds d => ∃ (x : PyData) (r : List Int), ds = [x] ∧ IsSeq x (r.map .int) ∧ r.length ≤ 60000 ∧ Sm 9000 r ∧ d = R (thin r)
theorem dn_without_factor (Hx : St K mg "without_factor" s_without_factor ["numbers"]) (B : Bs mg) (m_gcd : mg "gcd" = some (.builtin "math.gcd")) : Dn P w K mg base CX0 1 "without_factor" ["numbers"] (SpD K F_without_factor) := by
  refine dn_data 0 Hx sc_without_factor (fun ds d h => by obtain ⟨x, r, rfl, _⟩ := h; rfl) fun f cdv A outer s H E hr => ⟨_, (pss_cons (ps_set (i := 1) sc_without_factor.nd rfl (Or.inr rfl) pe_int)
    (pss_cons (ps_for PassesOwn.never rfl (pi_seq (pv 0)) (pg_name (i := 2) sc_without_factor.nd rfl (Or.inl rfl)) (pss_one (ps_set (i := 1) sc_without_factor.nd rfl (Or.inr rfl) (pe_callBfun cr_gcd rfl m_gcd (pa_cons (pv 1) (pa_cons (pv 2) pa_nil))))))
    (pss_cons (ps_if (pt_cmpR op_lt (pv 1) pe_int (nomark _)) (pss_one (ps_ret (pe_callTy call_tuple_of (by rfl) B.tuple (by decide +kernel) (pa_cons (pv 0) pa_nil)))) pss_nil)
    (pss_one (ps_ret (pe_callTy call_tuple_of (by rfl) B.tuple (by decide +kernel) (pa_cons (pe_lc (own := [("number", 2)]) (g := gName 2) (tt := tYes) rfl sc_without_factor.nd (pi_seq (pv 0)) (blkOk_by (N := N_without_factor) (sc := defScope s_without_factor) (by decide +kernel)) (fun _ _ _ _ _ => (pg_name (i := 2) sc_without_factor.nd rfl (Or.inl rfl))) (fun _ _ _ _ _ => pts_nil) (fun _ _ _ _ _ => (pe_op op_fdivW (pv 2) (pv 1)))) pa_nil))))))), ?_⟩
  intro vs H A ds d Q R hk hF q
  obtain ⟨x, r, rfl, hx, hlr, hs, rfl⟩ := hF
  obtain ⟨v, rfl, k1⟩ := dqall_one hk
  refine q_asg (P := fun v H' => Dq K H' v (.int 0)) (d_int (K := K)) R fun u A1 H1 g1 ku => ?_
  cases ku
  have kx1 := dq_ex g1.reg _ _ k1
  refine s_forQ (K := K) (ds := r.map .int) (d_var rfl kx1) hx (g1.to R) (fun i σ' A' H' w => (∃ y, σ' = [some v, some (.int (content (r.take i) : Nat)), y]) ∧ w = Me.non.own ∧ Gr .non A H A' H') (fun _ _ g => ⟨⟨_, rfl⟩, rfl, g1.trans g⟩) ?_ ?_
  · rintro H2 e1 i d x' σ' A' H' w hi ⟨⟨y, rfl⟩, rfl, g0⟩ e ra kx
    obtain ⟨n, h1, rfl⟩ := at_ints hi
    refine Z.s_asg (d_cb (K := K) (s_cons (d_var rfl (.int _)) (s_cons (d_var rfl kx) s_nil)) c_gcd) ra fun v4 A4 H4 g4 k4 => ⟨H4, _, ⟨⟨some x', ?_⟩, rfl, g0.trans g4⟩, e.trans g4.reg, g4.to ra⟩
    cases k4
    rw [content_more h1]
    rfl
  · rintro σ' A' H' w ⟨⟨y, rfl⟩, rfl, g⟩ e ra
    rw [List.length_map, List.take_length]
    have kx' := dq_ex e _ _ kx1
    have ht : EvB .non (tTest (tOp (rI0 fun i j => .bl (decide (i < j))) (tVar 1) (tC (.int 2)))) [some v, some (.int (content r : Nat)), y] H' (decide ((content r : Int) < 2)) := b_test (d_op (K := K) (d_var rfl (.int _)) d_int (o_B0 (f := fun i j => decide (i < j))))
    refine q_when ht ra (fun hb A3 H3 g3 => ?_) fun hb A3 H3 g3 => ?_
    · have hc : (content r : Int) < 2 := by simpa using hb
      refine Z.s_ret (d_cb (K := K) (s_cons (d_var rfl (dq_ex g3.reg _ _ kx')) s_nil) (c_tupleQ rfl hx)) (g3.to ra) fun v4 A4 H4 g4 k4 => q _ _ _ ((g.trans g3).trans g4) ?_
      unfold thin
      rw [if_pos hc]
      exact k4
    · have hc : ¬ (content r : Int) < 2 := by simpa using hb
      have hq := d_lcQ (K := K) (p := .non) (σ := [some v, some (.int (content r : Nat)), y]) (H := H3) (j := 2) (vs := [2]) (tl := tVar 0) (tt := tYes) (te := tOp (rI CDivW fun i j => .int (i / j)) (tVar 2) (tVar 1)) (ds := r.map .int) (fun _ => true) (onI fun n => .int (n / (content r : Int))) (d_var rfl (dq_ex g3.reg _ _ kx')) hx (by simpa using hlr) (fun x => rfl) (fun c hc x H1 e k => b_yes) (fun c hc' x H1 e k _ => by
        obtain ⟨n, hn, rfl⟩ := mem_ints hc'
        exact d_op (d_var rfl k) (d_var rfl (.int _)) (o_I (f := fun i j => i / j) (wide_div (b := 9000) (by omega) (by rw [Int.natAbs_natCast]; exact content_lt hs) (by decide) (by decide))))
      rw [map_onI] at hq
      refine Z.s_ret (d_cb (K := K) (s_cons hq s_nil) (c_tupleQ rfl (.inl rfl))) (g3.to ra) fun v4 A4 H4 g4 k4 => q _ _ _ ((g.trans g3).trans g4) ?_
      unfold thin
      rw [if_neg hc]
      show Dq K H4 v4 (.tuple ((r.map fun n => n / (content r : Int)).map .int))
      rw [List.map_map]
      exact k4
end
end Q42
namespace Q42
open PySem PySem.Spec PyProof.Rows L2 Z
theorem ixN_nat {n p : Nat} (h : p < n) : ixN n (p : Int) = some p := by
  unfold ixN
  simp [h]
theorem atI_nat {α : Type} {xs : List α} {p : Nat} {x : α} (h : xs[p]? = some x) : atI xs (p : Int) = some x := by
  have hp : p < xs.length := (List.getElem?_eq_some_iff.mp h).1
  unfold atI
  rw [ixN_nat hp]
  exact h
theorem getD_at {r : List Int} {p : Nat} (h : p < r.length) : r[p]? = some (r.getD p 0) := by
  simp [h]
theorem atI_ints {r : List Int} {p : Nat} (h : p < r.length) : atI (r.map PyData.int) (p : Int) = some (.int (r.getD p 0)) := atI_nat (by rw [List.getElem?_map, getD_at h]; rfl)
theorem sm_getD {b : Nat} {r : List Int} (h : Sm b r) (p : Nat) : (r.getD p 0).natAbs < 2 ^ b := by
  by_cases c : p < r.length
  · exact h _ (List.mem_of_getElem? (getD_at c))
  · simp [c]
    exact Nat.two_pow_pos b
theorem dqall_three {K : PySem.W.Frag} {H : Hp} {vs : List V} {a b c : PyData} (h : DqAll K H vs [a, b, c]) : ∃ x y z, vs = [x, y, z] ∧ Dq K H x a ∧ Dq K H y b ∧ Dq K H z c := by
  cases h with | cons h1 h =>
  obtain ⟨y, z, rfl, h2, h3⟩ := dqall_two h
  exact ⟨_, y, z, rfl, h1, h2, h3⟩
theorem dqall_four {K : PySem.W.Frag} {H : Hp} {vs : List V} {a b c d : PyData} (h : DqAll K H vs [a, b, c, d]) : ∃ x y z u, vs = [x, y, z, u] ∧ Dq K H x a ∧ Dq K H y b ∧ Dq K H z c ∧ Dq K H u d := by
  cases h with | cons h1 h =>
  obtain ⟨y, z, u, rfl, h2, h3, h4⟩ := dqall_three h
  exact ⟨_, y, z, u, rfl, h1, h2, h3, h4⟩
/-! _leading_above_zero -/
def above (r : List Int) (p : Nat) : List Int := if r.getD p 0 > 0 then r else r.map fun n => -n
theorem above_len (r : List Int) (p : Nat) : (above r p).length = r.length := by
  unfold above
  split
  · rfl
  · rw [List.length_map]
theorem sm_above {b : Nat} {r : List Int} {p : Nat} (h : Sm b r) : Sm b (above r p) := by
  unfold above
  split
  · exact h
  · intro n hn
    obtain ⟨m, hm, rfl⟩ := List.mem_map.mp hn
    rw [Int.natAbs_neg]
    exact h m hm
section
variable {P : Program} {w : World} {K : PySem.W.Frag} {mg : Str → Option Value} {base : Heap}
abbrev s__leading_above_zero : Stmt := top 17
abbrev N__leading_above_zero : List Str := ["row", "place", "number"]
theorem sc__leading_above_zero : FnScope N__leading_above_zero ["row", "place"] (defScope s__leading_above_zero) := ⟨rfl, rfl, rfl, by decide +kernel, rfl, by decide +kernel, by decide +kernel⟩
def F__leading_above_zero : List PyData → PyData → Prop := fun ds d => ∃ (r : List Int) (p : Nat), ds = [R r, .int (p : Nat)] ∧ p < r.length ∧ r.length ≤ 60000 ∧ d = R (above r p)
theorem dn__leading_above_zero (Hx : St K mg "_leading_above_zero" s__leading_above_zero ["row", "place"]) (B : Bs mg) : Dn P w K mg base CX0 1 "_leading_above_zero" ["row", "place"] (SpD K F__leading_above_zero) := by
  refine dn_data 0 Hx sc__leading_above_zero (fun ds d h => by obtain ⟨x, r, rfl, _⟩ := h; rfl) fun f cdv A outer s H E hr => ⟨_, (pss_cons (ps_if (pt_cmpR op_gt (pe_ix ix_seq (pv 0) (pv 1) (fun _ _ => rfl)) pe_int (nomark _)) (pss_one (ps_ret (pv 0))) pss_nil)
    (pss_one (ps_ret (pe_callTy call_tuple_of (by rfl) B.tuple (by decide +kernel) (pa_cons (pe_lc (own := [("number", 2)]) (g := gName 2) (tt := tYes) rfl sc__leading_above_zero.nd (pi_tup (pv 0)) (blkOk_by (N := N__leading_above_zero) (sc := defScope s__leading_above_zero) (by decide +kernel)) (fun _ _ _ _ _ => (pg_name (i := 2) sc__leading_above_zero.nd rfl (Or.inl rfl))) (fun _ _ _ _ _ => pts_nil) (fun _ _ _ _ _ => (pe_un un_neg (pv 2)))) pa_nil))))), ?_⟩
  intro vs H A ds d Q R hk hF q
  obtain ⟨r, p, rfl, hp, hlr, rfl⟩ := hF
  obtain ⟨v, u, rfl, k1, k2⟩ := dqall_two hk
  refine q_when (b_test (d_op (K := K) (d_op (d_var rfl k1) (d_var rfl k2) (o_ixT (atI_ints hp))) d_int (o_B0 (f := fun i j => decide (j < i))))) R (fun hb A3 H3 g3 => ?_) fun hb A3 H3 g3 => ?_
  · have hc : r.getD p 0 > 0 := by simpa using hb
    refine Z.s_ret (d_var (K := K) rfl (dq_ex g3.reg _ _ k1)) (g3.to R) fun v4 A4 H4 g4 k4 => q _ _ _ (g3.trans g4) ?_
    unfold above
    rw [if_pos hc]
    exact k4
  · have hc : ¬ r.getD p 0 > 0 := by simpa using hb
    have hq := d_lcT (K := K) (p := .non) (σ := start N__leading_above_zero [v, u]) (H := H3) (j := 2) (vs := [2]) (tl := tVar 0) (tt := tYes) (te := tUn (rU fun i => .int (-i)) (tVar 2)) (ds := r.map .int) (fun _ => true) (onI fun n => .int (-n)) (d_var rfl (dq_ex g3.reg _ _ k1)) (by simpa using hlr) (fun x => rfl) (fun c hc x H1 e k => b_yes) (fun c hc' x H1 e k _ => by
      obtain ⟨n, hn, rfl⟩ := mem_ints hc'
      exact d_un (d_var rfl k) u_neg)
    rw [map_onI] at hq
    refine Z.s_ret (d_cb (K := K) (s_cons hq s_nil) (c_tupleQ rfl (.inl rfl))) (g3.to R) fun v4 A4 H4 g4 k4 => q _ _ _ (g3.trans g4) ?_
    unfold above
    rw [if_neg hc]
    show Dq K H4 v4 (.tuple ((r.map fun n => -n).map .int))
    rw [List.map_map]
    exact k4
/-! _cleared -/
def comb (r o : List Int) (f c : Int) : List Int := (List.range r.length).map fun i => r.getD i 0 * f - c * o.getD i 0
def clear (r o : List Int) (p : Nat) : List Int := if r.getD p 0 = 0 then r else thin (comb r o (o.getD p 0) (r.getD p 0))
theorem comb_len (r o : List Int) (f c : Int) : (comb r o f c).length = r.length := by
  unfold comb
  rw [List.length_map, List.length_range]
theorem clear_len (r o : List Int) (p : Nat) : (clear r o p).length = r.length := by
  unfold clear
  split
  · rfl
  · rw [thin_len, comb_len]
theorem sm_comb {a b : Nat} {r o : List Int} {p : Nat} (ha : Sm a r) (hb : Sm b o) : Sm (a + b + 1) (comb r o (o.getD p 0) (r.getD p 0)) := by
  intro n hn
  obtain ⟨i, _, rfl⟩ := List.mem_map.mp hn
  have h1 := Nat.mul_lt_mul'' (sm_getD ha i) (sm_getD hb p)
  have h2 := Nat.mul_lt_mul'' (sm_getD ha p) (sm_getD hb i)
  have e : (2 : Nat) ^ (a + b + 1) = 2 ^ a * 2 ^ b + 2 ^ a * 2 ^ b := by rw [Nat.pow_succ, Nat.pow_add]; omega
  have h3 := Int.natAbs_sub_le (r.getD i 0 * o.getD p 0) (r.getD p 0 * o.getD i 0)
  rw [Int.natAbs_mul, Int.natAbs_mul] at h3
  rw [e]
  omega
theorem sm_clear {a b : Nat} {r o : List Int} {p : Nat} (ha : Sm a r) (hb : Sm b o) : Sm (a + b + 1) (clear r o p) := by
  unfold clear
  split
  · exact ha.mono (by omega)
  · exact sm_thin (sm_comb ha hb)
abbrev s__cleared : Stmt := top 15
abbrev N__cleared : List Str := ["row", "one", "place", "factor", "number", "other"]
theorem sc__cleared : FnScope N__cleared ["row", "one", "place"] (defScope s__cleared) := ⟨rfl, rfl, rfl, by decide +kernel, rfl, by decide +kernel, by decide +kernel⟩
def F__cleared : List PyData → PyData → Prop := fun ds d => ∃ (r o : List Int) (p a b : Nat), ds = [R r, R o, .int (p : Nat)] ∧ o.length = r.length ∧ p < r.length ∧ r.length ≤ 60000 ∧ Sm a r ∧ Sm b o ∧ a + b + 1 ≤ 9000 ∧ d = R (clear r o p)
theorem wide_mulS {i j : Int} {a b : Nat} (ha : i.natAbs < 2 ^ a) (hb : j.natAbs < 2 ^ b) (h : a + b + 1 ≤ 9000) : CMulW i j :=
  wide_mul (a := a + 1) (b := b + 1) (Nat.lt_of_lt_of_le ha (Nat.pow_le_pow_right (by decide) (by omega))) (Nat.lt_of_lt_of_le hb (Nat.pow_le_pow_right (by decide) (by omega))) (by omega) (by omega) (by omega)
theorem dn__cleared (Hx : St K mg "_cleared" s__cleared ["row", "one", "place"]) (B : Bs mg) (D1 : Dn P w K mg base CX0 1 "without_factor" ["numbers"] (SpD K F_without_factor)) : Dn P w K mg base CX0 2 "_cleared" ["row", "one", "place"] (SpD K F__cleared) := by
  refine dn_data 1 Hx sc__cleared (fun ds d h => by obtain ⟨x, r, _, _, _, rfl, _⟩ := h; rfl) fun f cdv A outer s H E hr => ⟨_, (pss_cons (ps_if (pt_cmpR op_eq (pe_ix ix_seq (pv 0) (pv 2) (fun _ _ => rfl)) pe_int (nomark _)) (pss_one (ps_ret (pv 0))) pss_nil)
    (pss_cons (ps_set (i := 3) sc__cleared.nd rfl (Or.inr rfl) (pe_ix ix_seq (pv 1) (pv 2) (fun _ _ => rfl)))
    (pss_one (ps_ret (pe_cd D1 hr (by decide) rfl (pa_cons (pe_lc (own := [("number", 4), ("other", 5)]) (g := gTup K 2 (gCons (gName 4) (gCons (gName 5) gNil))) (tt := tYes) rfl sc__cleared.nd (RZ.pi_zipA (by rfl) B.zip (pa_cons (pv 0) (pa_cons (pv 1) pa_nil))) (blkOk_by (N := N__cleared) (sc := defScope s__cleared) (by decide +kernel)) (fun _ _ _ _ _ => (pg_tup rfl (pgs_cons (pg_name (i := 4) sc__cleared.nd rfl (Or.inl rfl)) (pgs_cons (pg_name (i := 5) sc__cleared.nd rfl (Or.inl rfl)) pgs_nil)))) (fun _ _ _ _ _ => pts_nil) (fun _ _ _ _ _ => (pe_op op_sub (pe_op op_mulW (pv 4) (pv 3)) (pe_op op_mulW (pe_ix (ix_K (K := K) rfl) (pv 0) (pv 2) (fun _ _ => rfl)) (pv 5))))) pa_nil)))))), ?_⟩
  intro vs H A ds d Q R hk hF q
  obtain ⟨r, o, p, a, b, rfl, hro, hp, hlr, ha, hb, hab, rfl⟩ := hF
  obtain ⟨v, v2, v3, rfl, k1, k2, k3⟩ := dqall_three hk
  refine q_when (b_test (d_op (K := K) (d_op (d_var rfl k1) (d_var rfl k3) (o_ixT (atI_ints hp))) d_int o_eqI)) R (fun hb A3 H3 g3 => ?_) fun hb' A3 H3 g3 => ?_
  · have hc : r.getD p 0 = 0 := by simpa using hb
    refine Z.s_ret (d_var (K := K) rfl (dq_ex g3.reg _ _ k1)) (g3.to R) fun v4 A4 H4 g4 k4 => q _ _ _ (g3.trans g4) ?_
    unfold clear
    rw [if_pos hc]
    exact k4
  · have hc : ¬ r.getD p 0 = 0 := by simpa using hb'
    have e3 := g3.reg
    refine q_asg (d_op (K := K) (d_var rfl (dq_ex e3 _ _ k2)) (d_var rfl (dq_ex e3 _ _ k3)) (o_ixT (atI_ints (by omega)))) (g3.to R) fun v4 A4 H4 g4 k4 => ?_
    cases k4
    have e4 := e3.trans g4.reg
    have k1' := dq_ex e4 _ _ k1
    have k2' := dq_ex e4 _ _ k2
    have hq := d_lcZ (K := K) (p := .non) (σ := [some v, some v2, some v3, some (.int (o.getD p 0)), none, none]) (H := H4) (a := 4) (b := 5) (vs := [4, 5]) (ta := tCons (tVar 0) (tCons (tVar 1) tNil)) (n := r.length) (ds := r.map .int) (es := o.map .int)
      (te := tOp (rI0 fun i j => .int (i - j)) (tOp (rI CMulW fun i j => .int (i * j)) (tVar 4) (tVar 3)) (tOp (rI CMulW fun i j => .int (i * j)) (tOp (rIx K) (tVar 0) (tVar 2)) (tVar 5)))
      (fun i => .int (r.getD i 0 * o.getD p 0 - r.getD p 0 * o.getD i 0)) (s_cons (d_var rfl k1') (s_cons (d_var rfl k2') s_nil)) (by simp [hro]) hlr (fun x y => rfl) (fun i c e' hc he x y H1 e kx ky => by
        obtain ⟨n, hn, rfl⟩ := at_ints hc
        obtain ⟨m, hm, rfl⟩ := at_ints he
        have en : r.getD i 0 = n := by simp [List.getD, hn]
        have em : o.getD i 0 = m := by simp [List.getD, hm]
        rw [en, em]
        exact d_op (d_op (d_var rfl kx) (d_var rfl (.int _)) (o_I (f := fun i j => i * j) (wide_mulS (ha n (List.mem_of_getElem? hn)) (sm_getD hb p) hab)))
          (d_op (d_op (d_var rfl (dq_ex e _ _ k1')) (d_var rfl (dq_ex (e4.trans e) _ _ k3)) (o_ixT (atI_ints hp))) (d_var rfl ky) (o_I (f := fun i j => i * j) (wide_mulS (sm_getD ha p) (hb m (List.mem_of_getElem? hm)) hab))) (o_I0 (f := fun i j => i - j)))
    refine Z.s_ret (d_call (K := K) (s_cons hq s_nil) ⟨_, comb r o (o.getD p 0) (r.getD p 0), rfl, .inl ?_, ?_, (sm_comb ha hb).mono hab, rfl⟩) (g4.to (g3.to R)) fun v5 A5 H5 g5 k5 => q _ _ _ ((g3.trans g4).trans g5) ?_
    · unfold comb
      rw [List.map_map]
      rfl
    · rw [comb_len]; exact hlr
    · unfold clear
      rw [if_neg hc]
      exact k5
end
end Q42
namespace Q42
open PySem PySem.Spec PyProof.Rows L2 Z
/-! product -/
def dot (r o : List Int) : Int := ((List.range r.length).map fun i => r.getD i 0 * o.getD i 0).sum
def rest (r : List Int) (fs : List (List Int)) : List Int := fs.foldl (fun r o => clear r o (lead o)) r
theorem rest_len : ∀ (fs : List (List Int)) (r : List Int), (rest r fs).length = r.length
  | [], r => rfl
  | o :: fs, r => by
    show (rest (clear r o (lead o)) fs).length = _
    rw [rest_len fs, clear_len]
theorem rest_more {r : List Int} {fs : List (List Int)} {i : Nat} {o : List Int} (h : fs[i]? = some o) : rest r (fs.take (i + 1)) = clear (rest r (fs.take i)) o (lead o) := by
  unfold rest
  rw [take_more h, List.foldl_append]
  rfl
theorem sm_rest {b : Nat} : ∀ (fs : List (List Int)) (r : List Int) (a : Nat), Sm a r → (∀ o ∈ fs, Sm b o) → Sm (a + fs.length * (b + 1)) (rest r fs)
  | [], r, a, h, _ => h.mono (by omega)
  | o :: fs, r, a, h, hf => by
    have ih := sm_rest fs (clear r o (lead o)) (a + b + 1) (sm_clear h (hf o (List.mem_cons_self ..))) fun x hx => hf x (List.mem_cons_of_mem _ hx)
    have e : a + (o :: fs).length * (b + 1) = a + b + 1 + fs.length * (b + 1) := by
      rw [List.length_cons, Nat.succ_mul]; omega
    rw [e]
    exact ih
section
variable {P : Program} {w : World} {K : PySem.W.Frag} {mg : Str → Option Value} {base : Heap}
abbrev s_product : Stmt := top 11
abbrev N_product : List Str := ["one", "other", "number", "factor"]
theorem sc_product : FnScope N_product ["one", "other"] (defScope s_product) := ⟨rfl, rfl, rfl, by decide +kernel, rfl, by decide +kernel, by decide +kernel⟩
def F_product : List PyData → PyData → Prop := fun ds d => ∃ (r o : List Int) (a b : Nat), ds = [R r, R o] ∧ o.length = r.length ∧ r.length ≤ 60000 ∧ Sm a r ∧ Sm b o ∧ a + b + 1 ≤ 9000 ∧ d = .int (dot r o)
theorem dn_product (Hx : St K mg "product" s_product ["one", "other"]) (B : Bs mg) : Dn P w K mg base CX0 1 "product" ["one", "other"] (SpD K F_product) := by
  refine dn_data 0 Hx sc_product (fun ds d h => by obtain ⟨x, r, _, _, rfl, _⟩ := h; rfl) fun f cdv A outer s H E hr => ⟨_, (pss_one (ps_ret (pe_callB (cr_sum rfl) (by rfl) B.sum (by decide +kernel) (pa_cons (pe_lc (own := [("number", 2), ("factor", 3)]) (g := gTup K 2 (gCons (gName 2) (gCons (gName 3) gNil))) (tt := tYes) rfl sc_product.nd (RZ.pi_zipA (by rfl) B.zip (pa_cons (pv 0) (pa_cons (pv 1) pa_nil))) (blkOk_by (N := N_product) (sc := defScope s_product) (by decide +kernel)) (fun _ _ _ _ _ => (pg_tup rfl (pgs_cons (pg_name (i := 2) sc_product.nd rfl (Or.inl rfl)) (pgs_cons (pg_name (i := 3) sc_product.nd rfl (Or.inl rfl)) pgs_nil)))) (fun _ _ _ _ _ => pts_nil) (fun _ _ _ _ _ => (pe_op op_mulW (pv 2) (pv 3)))) pa_nil)))), ?_⟩
  intro vs H A ds d Q R hk hF q
  obtain ⟨r, o, a, b, rfl, hro, hlr, ha, hb, hab, rfl⟩ := hF
  obtain ⟨v, v2, rfl, k1, k2⟩ := dqall_two hk
  have hq := d_lcZ (K := K) (p := .non) (σ := start N_product [v, v2]) (H := H) (a := 2) (b := 3) (vs := [2, 3]) (ta := tCons (tVar 0) (tCons (tVar 1) tNil)) (n := r.length) (ds := r.map .int) (es := o.map .int)
      (te := tOp (rI CMulW fun i j => .int (i * j)) (tVar 2) (tVar 3))
      (fun i => .int (r.getD i 0 * o.getD i 0)) (s_cons (d_var rfl k1) (s_cons (d_var rfl k2) s_nil)) (by simp [hro]) hlr (fun x y => rfl) (fun i c e' hc he x y H1 e kx ky => by
        obtain ⟨n, hn, rfl⟩ := at_ints hc
        obtain ⟨m, hm, rfl⟩ := at_ints he
        have en : r.getD i 0 = n := by simp [List.getD, hn]
        have em : o.getD i 0 = m := by simp [List.getD, hm]
        rw [en, em]
        exact d_op (d_var rfl kx) (d_var rfl ky) (o_I (f := fun i j => i * j) (wide_mulS (ha n (List.mem_of_getElem? hn)) (hb m (List.mem_of_getElem? hm)) hab)))
  have e : ((List.range r.length).map fun i => PyData.int (r.getD i 0 * o.getD i 0)) = ((List.range r.length).map fun i => r.getD i 0 * o.getD i 0).map PyData.int := by
    rw [List.map_map]; rfl
  rw [e] at hq
  exact Z.s_ret (d_cb (K := K) (s_cons hq s_nil) c_sum) R q
/-! remainder -/
abbrev s_remainder : Stmt := top 12
abbrev N_remainder : List Str := ["row", "found", "rest", "one"]
theorem sc_remainder : FnScope N_remainder ["row", "found"] (defScope s_remainder) := ⟨rfl, rfl, rfl, by decide +kernel, rfl, by decide +kernel, by decide +kernel⟩
/-- found rows: as long as the row, not zero, at most b bits -/
def Fd (n b : Nat) (fs : List (List Int)) : Prop := ∀ o ∈ fs, o.length = n ∧ lead o < n ∧ Sm b o
def F_remainder : List PyData → PyData → Prop := fun ds d => ∃ (r : List Int) (fs : List (List Int)) (a b : Nat), ds = [R r, LR fs] ∧ r.length ≤ 60000 ∧ Sm a r ∧ Fd r.length b fs ∧ a + fs.length * (b + 1) ≤ 9000 ∧ d = R (rest r fs)
theorem dn_remainder (Hx : St K mg "remainder" s_remainder ["row", "found"]) (B : Bs mg) (D1 : Dn P w K mg base CX0 1 "_first_place" ["row"] (SpD K F__first_place)) (D2 : Dn P w K mg base CX0 2 "_cleared" ["row", "one", "place"] (SpD K F__cleared)) : Dn P w K mg base CX0 3 "remainder" ["row", "found"] (SpD K F_remainder) := by
  refine dn_data 2 Hx sc_remainder (fun ds d h => by obtain ⟨x, r, _, _, rfl, _⟩ := h; rfl) fun f cdv A outer s H E hr => ⟨_, (pss_cons (ps_set (i := 2) sc_remainder.nd rfl (Or.inl rfl) (pv 0))
    (pss_cons (ps_for PassesOwn.never rfl (pi_list (pv 1)) (pg_name (i := 3) sc_remainder.nd rfl (Or.inl rfl)) (pss_one (ps_set (i := 2) sc_remainder.nd rfl (Or.inl rfl) (pe_cd D2 hr (by decide) rfl (pa_cons (pv 2) (pa_cons (pv 3) (pa_cons (pe_cd D1 hr (by decide) rfl (pa_cons (pv 3) pa_nil)) pa_nil)))))))
    (pss_one (ps_ret (pv 2))))), ?_⟩
  intro vs H A ds d Q R hk hF q
  obtain ⟨r, fs, a, b, rfl, hlr, ha, hf, hab, rfl⟩ := hF
  obtain ⟨v, v2, rfl, k1, k2⟩ := dqall_two hk
  refine q_asg (d_var (K := K) rfl k1) R fun u A1 H1 g1 ku => ?_
  have kf := dq_ex g1.reg _ _ k2
  refine s_forL (K := K) (ds := fs.map Q42.R) (d_var rfl kf) (g1.to R) (fun i σ' A' H' w => (∃ z y, σ' = [some v, some v2, some z, y] ∧ Dq K H' z (Q42.R (rest r (fs.take i)))) ∧ w = Me.non.own ∧ Gr .non A H A' H') (fun _ _ g => ⟨⟨_, _, rfl, dq_ex g.reg _ _ ku⟩, rfl, g1.trans g⟩) ?_ ?_
  · rintro H2 e1 i d x σ' A' H' w hi ⟨⟨z, y, rfl, kz⟩, rfl, g0⟩ e ra kx
    obtain ⟨o, h1, h2, rfl⟩ := at_rows hi
    obtain ⟨f1, f2, f3⟩ := hf o h2
    have hi' : i < fs.length := (List.getElem?_eq_some_iff.mp h1).1
    have sr := sm_rest (b := b) (fs.take i) r a ha fun x hx => (hf x (List.mem_of_mem_take hx)).2.2
    rw [List.length_take, Nat.min_eq_left (Nat.le_of_lt hi')] at sr
    have hm : a + i * (b + 1) + b + 1 ≤ 9000 := by
      have := Nat.mul_le_mul_right (b + 1) (Nat.succ_le_of_lt hi')
      rw [Nat.succ_mul] at this
      omega
    refine Z.s_asg (d_call (K := K) (s_cons (d_var rfl kz) (s_cons (d_var rfl kx) (s_cons (d_call (s_cons (d_var rfl kx) s_nil) ⟨o, rfl, rfl⟩) s_nil))) ⟨rest r (fs.take i), o, lead o, a + i * (b + 1), b, rfl, ?_, ?_, ?_, sr, f3, hm, rfl⟩) ra fun v4 A4 H4 g4 k4 => ⟨H4, _, ⟨⟨v4, some x, rfl, ?_⟩, rfl, g0.trans g4⟩, e.trans g4.reg, g4.to ra⟩
    · rw [rest_len]; exact f1
    · rw [rest_len]; exact f2
    · rw [rest_len]; exact hlr
    · rw [rest_more h1]; exact k4
  · rintro σ' A' H' w ⟨⟨z, y, rfl, kz⟩, rfl, g⟩ e ra
    rw [List.length_map, List.take_length] at kz
    exact Z.s_ret (d_var (K := K) rfl kz) ra fun v4 A4 H4 g4 k4 => q _ _ _ (g.trans g4) k4
end
end Q42
namespace Q42
open PySem PySem.Spec PyProof.Rows L2 Z
def ofI : PyData → Int
  | .int n => n
  | _ => 0
def unR : PyData → List Int
  | .tuple ds => ds.map ofI
  | _ => []
theorem unR_R (r : List Int) : unR (R r) = r := by
  show (r.map PyData.int).map ofI = r
  rw [List.map_map]
  exact List.map_id r
theorem rows_lc (f : List Int → Bool) (g : List Int → PyData) : ∀ fs : List (List Int), ((fs.map R).filter fun c => f (unR c)).map (fun c => g (unR c)) = (fs.filter f).map g
  | [] => rfl
  | x :: fs => by
    have ih := rows_lc f g fs
    rw [List.map_cons, List.filter_cons, List.filter_cons, unR_R]
    cases e : f x
    · exact ih
    · rw [if_pos rfl, if_pos rfl, List.map_cons, List.map_cons, unR_R, ih]
theorem rows_lc1 (g : List Int → PyData) (fs : List (List Int)) : ((fs.map R).filter fun _ => true).map (fun c => g (unR c)) = fs.map g := by
  have h := rows_lc (fun _ => true) g fs
  rw [List.filter_eq_self.mpr (fun _ _ => rfl)] at h ⊢
  rw [List.filter_eq_self.mpr (fun _ _ => rfl)] at h
  exact h
theorem mem_rows {c : PyData} {fs : List (List Int)} (h : c ∈ fs.map R) : ∃ r, r ∈ fs ∧ c = R r := by
  obtain ⟨n, h1, rfl⟩ := List.mem_map.mp h
  exact ⟨n, h1, rfl⟩
theorem lead_lt : ∀ {r : List Int}, (r.any fun n => n != 0) = true → lead r < r.length
  | [], h => by simp at h
  | m :: r, h => by
    by_cases e : m = 0
    · rw [List.any_cons, e] at h
      have ih := lead_lt (r := r) (by simpa using h)
      simp [lead, e]
      exact ih
    · simp [lead, e]
/-! _with_row -/
def withRow (fs : List (List Int)) (r : List Int) : List (List Int) :=
  if ((rest r fs).any fun n => n != 0) = true then
    (((fs.map fun x => clear x (above (thin (rest r fs)) (lead (rest r fs))) (lead (rest r fs))).filter fun x => decide (lead x < lead (rest r fs))) ++ [above (thin (rest r fs)) (lead (rest r fs))])
      ++ ((fs.map fun x => clear x (above (thin (rest r fs)) (lead (rest r fs))) (lead (rest r fs))).filter fun x => decide (lead (rest r fs) < lead x))
  else fs
section
variable {P : Program} {w : World} {K : PySem.W.Frag} {mg : Str → Option Value} {base : Heap}
abbrev s__with_row : Stmt := top 13
abbrev N__with_row : List Str := ["found", "row", "rest", "place", "one", "others", "ahead", "behind", "other"]
theorem sc__with_row : FnScope N__with_row ["found", "row"] (defScope s__with_row) := ⟨rfl, rfl, rfl, by decide +kernel, rfl, by decide +kernel, by decide +kernel⟩
def F__with_row : List PyData → PyData → Prop := fun ds d => ∃ (r : List Int) (fs : List (List Int)) (a b : Nat), ds = [LR fs, R r] ∧ r.length ≤ 60000 ∧ fs.length ≤ 1000 ∧ Sm a r ∧ Fd r.length b fs ∧ a + fs.length * (b + 1) + b + 1 ≤ 9000 ∧ d = LR (withRow fs r)
theorem dn__with_row (Hx : St K mg "_with_row" s__with_row ["found", "row"]) (B : Bs mg) (D1 : Dn P w K mg base CX0 1 "_first_place" ["row"] (SpD K F__first_place)) (D2 : Dn P w K mg base CX0 2 "_cleared" ["row", "one", "place"] (SpD K F__cleared))
    (D3 : Dn P w K mg base CX0 3 "remainder" ["row", "found"] (SpD K F_remainder)) (D4 : Dn P w K mg base CX0 1 "without_factor" ["numbers"] (SpD K F_without_factor)) (D5 : Dn P w K mg base CX0 1 "_leading_above_zero" ["row", "place"] (SpD K F__leading_above_zero)) :
    Dn P w K mg base CX0 4 "_with_row" ["found", "row"] (SpD K F__with_row) := by
  refine dn_data 3 Hx sc__with_row (fun ds d h => by obtain ⟨x, r, _, _, rfl, _⟩ := h; rfl) fun f cdv A outer s H E hr => ⟨_, (pss_cons (ps_set (i := 2) sc__with_row.nd rfl (Or.inl rfl) (pe_cd D3 hr (by decide) rfl (pa_cons (pv 1) (pa_cons (pv 0) pa_nil))))
    (pss_cons (ps_if (pt_not (pt_val (pe_callB (cr_anyT rfl) (by rfl) B.any (by decide +kernel) (pa_cons (pv 2) pa_nil)))) (pss_one (ps_ret (pv 0))) pss_nil)
    (pss_cons (ps_set (i := 3) sc__with_row.nd rfl (Or.inr rfl) (pe_cd D1 hr (by decide) rfl (pa_cons (pv 2) pa_nil)))
    (pss_cons (ps_set (i := 4) sc__with_row.nd rfl (Or.inr rfl) (pe_cd D5 hr (by decide) rfl (pa_cons (pe_cd D4 hr (by decide) rfl (pa_cons (pv 2) pa_nil)) (pa_cons (pv 3) pa_nil))))
    (pss_cons (ps_setLc (i := 5) (own := [("other", 8)]) (g := gName 8) (tt := tYes) rfl sc__with_row.nd rfl rfl (sw_true rfl rfl rfl (by decide +kernel)) (pi_list (pv 0)) (blkOk_by (N := N__with_row) (sc := defScope s__with_row) (by decide +kernel)) (fun _ _ _ _ _ => (pg_name (i := 8) sc__with_row.nd rfl (Or.inl rfl))) (fun _ _ _ _ _ => pts_nil) (fun _ _ _ _ _ => (pe_cd D2 hr (by decide) rfl (pa_cons (pv 8) (pa_cons (pv 4) (pa_cons (pv 3) pa_nil))))))
    (pss_cons (ps_setLc (i := 6) (own := [("other", 8)]) (g := gName 8) rfl sc__with_row.nd rfl rfl (sw_true rfl rfl rfl (by decide +kernel)) (pi_list (pv 5)) (blkOk_by (N := N__with_row) (sc := defScope s__with_row) (by decide +kernel)) (fun _ _ _ _ _ => (pg_name (i := 8) sc__with_row.nd rfl (Or.inl rfl))) (fun _ _ _ _ _ => (pts_one (pt_cmpR op_lt (pe_cd D1 hr (by decide) rfl (pa_cons (pv 8) pa_nil)) (pv 3) (nomark _)))) (fun _ _ _ _ _ => (pv 8)))
    (pss_cons (ps_setLc (i := 7) (own := [("other", 8)]) (g := gName 8) rfl sc__with_row.nd rfl rfl (sw_true rfl rfl rfl (by decide +kernel)) (pi_list (pv 5)) (blkOk_by (N := N__with_row) (sc := defScope s__with_row) (by decide +kernel)) (fun _ _ _ _ _ => (pg_name (i := 8) sc__with_row.nd rfl (Or.inl rfl))) (fun _ _ _ _ _ => (pts_one (pt_cmpR op_gt (pe_cd D1 hr (by decide) rfl (pa_cons (pv 8) pa_nil)) (pv 3) (nomark _)))) (fun _ _ _ _ _ => (pv 8)))
    (pss_one (ps_ret (pe_op op_cat (pe_op op_cat (pv 6) (pe_lst (pa_cons (pv 4) pa_nil))) (pv 7))))))))))), ?_⟩
  intro vs H A ds d Q R hk hF q
  obtain ⟨r, fs, a, b, rfl, hlr, hlf, ha, hf, hab, rfl⟩ := hF
  obtain ⟨v, v2, rfl, k1, k2⟩ := dqall_two hk
  have hfb : ∀ o ∈ fs, Sm b o := fun o h => (hf o h).2.2
  have st := sm_rest fs r a ha hfb
  have hlt := rest_len fs r
  -- rest = remainder(row, found)
  refine q_asg (d_call (K := K) (s_cons (d_var rfl k2) (s_cons (d_var rfl k1) s_nil)) ⟨r, fs, a, b, rfl, hlr, ha, hf, by omega, rfl⟩) R fun z A1 H1 g1 kz => ?_
  have R1 := g1.to R
  have kf1 := dq_ex g1.reg _ _ k1
  refine q_when (b_not (b_test (d_cb (K := K) (s_cons (d_var rfl kz) s_nil) c_anyT))) R1 (fun hb A2 H2 g2 => ?_) fun hb A2 H2 g2 => ?_
  · have hc : ¬ ((rest r fs).any fun n => n != 0) = true := by
      rw [Bool.not_eq_true]
      simpa using hb
    refine Z.s_ret (d_var (K := K) rfl (dq_ex g2.reg _ _ kf1)) (g2.to R1) fun v4 A4 H4 g4 k4 => q _ _ _ ((g1.trans g2).trans g4) ?_
    unfold withRow
    rw [if_neg hc]
    exact k4
  have hc : ((rest r fs).any fun n => n != 0) = true := by
    cases e : (rest r fs).any fun n => n != 0
    · rw [e] at hb; cases hb
    · rfl
  have hp : lead (rest r fs) < r.length := by
    have := lead_lt hc
    omega
  have R2 := g2.to R1
  unfold withRow at q
  rw [if_pos hc] at q
  generalize ht : rest r fs = t at *
  -- place = _first_place(rest)
  refine q_asg (d_call (K := K) (s_cons (d_var rfl (dq_ex g2.reg _ _ kz)) s_nil) ⟨t, rfl, rfl⟩) R2 fun y A3 H3 g3 ky => ?_
  cases ky
  have R3 := g3.to R2
  have e23 := g2.reg.trans g3.reg
  -- one = _leading_above_zero(_without_factor(rest), place)
  have l1 : (thin t).length = r.length := by rw [thin_len, hlt]
  refine q_asg (d_call (K := K) (F := F__leading_above_zero) (s_cons (d_call (F := F_without_factor) (s_cons (d_var rfl (dq_ex e23 _ _ kz)) s_nil) ⟨_, t, rfl, .inr rfl, by omega, st.mono (by omega), rfl⟩) (s_cons (d_var rfl (.int _)) s_nil)) ⟨thin t, lead t, rfl, by omega, by omega, rfl⟩) R3 fun o A4 H4 g4 ko => ?_
  have R4 := g4.to R3
  have lo : (above (thin t) (lead t)).length = r.length := by rw [above_len, l1]
  have so : Sm (a + fs.length * (b + 1)) (above (thin t) (lead t)) := sm_above (sm_thin st)
  generalize ho : above (thin t) (lead t) = one at *
  -- others
  have kf4 := dq_ex (e23.trans g4.reg) _ _ kf1
  have h5 := d_lcL (K := K) (p := .non) (σ := [some v, some v2, some z, some (.int (lead t : Nat)), some o, none, none, none, none]) (H := H4) (j := 8) (vs := [8]) (tl := tVar 0) (tt := tYes) (te := tCall (SpD K F__cleared) [] E0 (tCons (tVar 8) (tCons (tVar 4) (tCons (tVar 3) tNil)))) (ds := fs.map Q42.R) (fun _ => true) (fun c => Q42.R (clear (unR c) one (lead t))) (d_var rfl kf4) (by rw [List.length_map]; omega) (fun x => rfl) (fun c hc x H1 e k => b_yes) (fun c hc' x H1 e k _ => by
      obtain ⟨n, hn, rfl⟩ := mem_rows hc'
      obtain ⟨f1, f2, f3⟩ := hf n hn
      rw [unR_R]
      exact d_call (s_cons (d_var rfl k) (s_cons (d_var rfl (dq_ex e _ _ ko)) (s_cons (d_var rfl (.int _)) s_nil))) ⟨n, one, lead t, b, a + fs.length * (b + 1), rfl, by omega, by omega, by omega, f3, so, by omega, rfl⟩)
  rw [rows_lc1 fun x => Q42.R (clear x one (lead t))] at h5
  refine q_asg h5 R4 fun y5 A5 H5 g5 k5 => ?_
  have R5 := g5.to R4
  have e5 : (fs.map fun x => Q42.R (clear x one (lead t))) = (fs.map fun x => clear x one (lead t)).map Q42.R := by
    rw [List.map_map]; rfl
  rw [e5] at k5
  have los : (fs.map fun x => clear x one (lead t)).length ≤ 1000 := by rw [List.length_map]; exact hlf
  generalize hos : (fs.map fun x => clear x one (lead t)) = os at *
  -- ahead
  have h6 := d_lcL (K := K) (p := .non) (σ := [some v, some v2, some z, some (.int (lead t : Nat)), some o, some y5, none, none, none]) (H := H5) (j := 8) (vs := [8]) (tl := tVar 5) (tt := tTest (tOp (rI0 fun i j => .bl (decide (i < j))) (tCall (SpD K F__first_place) [] E0 (tCons (tVar 8) tNil)) (tVar 3))) (te := tVar 8) (ds := os.map Q42.R) (fun c => decide (lead (unR c) < lead t)) (fun c => Q42.R (unR c)) (d_var rfl k5) (by rw [List.length_map]; omega) (fun x => rfl) (fun c hc x H1 e k => by
      obtain ⟨n, hn, rfl⟩ := mem_rows hc
      rw [unR_R]
      have := b_test (d_op (K := K) (p := .non) (d_call (F := F__first_place) (E := E0) (s_cons (d_var (i := 8) (σ := (wipe [some v, some v2, some z, some (.int (lead t : Nat)), some o, some y5, none, none, none] [8]).set 8 (some x)) rfl k) s_nil) ⟨n, rfl, rfl⟩) (d_var (i := 3) rfl (.int (lead t : Nat))) (o_B0 (f := fun i j => decide (i < j))))
      refine this.is ?_
      simp) (fun c hc' x H1 e k _ => by
      obtain ⟨n, hn, rfl⟩ := mem_rows hc'
      rw [unR_R]
      exact d_var rfl k)
  rw [rows_lc (fun x => decide (lead x < lead t)) Q42.R] at h6
  refine q_asg h6 R5 fun y6 A6 H6 g6 k6 => ?_
  have R6 := g6.to R5
  -- behind
  have h7 := d_lcL (K := K) (p := .non) (σ := [some v, some v2, some z, some (.int (lead t : Nat)), some o, some y5, some y6, none, none]) (H := H6) (j := 8) (vs := [8]) (tl := tVar 5) (tt := tTest (tOp (rI0 fun i j => .bl (decide (j < i))) (tCall (SpD K F__first_place) [] E0 (tCons (tVar 8) tNil)) (tVar 3))) (te := tVar 8) (ds := os.map Q42.R) (fun c => decide (lead t < lead (unR c))) (fun c => Q42.R (unR c)) (d_var rfl (dq_ex g6.reg _ _ k5)) (by rw [List.length_map]; omega) (fun x => rfl) (fun c hc x H1 e k => by
      obtain ⟨n, hn, rfl⟩ := mem_rows hc
      rw [unR_R]
      have := b_test (d_op (K := K) (p := .non) (d_call (F := F__first_place) (E := E0) (s_cons (d_var (i := 8) (σ := (wipe [some v, some v2, some z, some (.int (lead t : Nat)), some o, some y5, some y6, none, none] [8]).set 8 (some x)) rfl k) s_nil) ⟨n, rfl, rfl⟩) (d_var (i := 3) rfl (.int (lead t : Nat))) (o_B0 (f := fun i j => decide (j < i))))
      refine this.is ?_
      simp) (fun c hc' x H1 e k _ => by
      obtain ⟨n, hn, rfl⟩ := mem_rows hc'
      rw [unR_R]
      exact d_var rfl k)
  rw [rows_lc (fun x => decide (lead t < lead x)) Q42.R] at h7
  refine q_asg h7 R6 fun y7 A7 H7 g7 k7 => ?_
  have R7 := g7.to R6
  have n6 := List.length_filter_le (fun x => decide (lead x < lead t)) os
  have n7 := List.length_filter_le (fun x => decide (lead t < lead x)) os
  have e47 := (g5.reg.trans g6.reg).trans g7.reg
  refine Z.s_ret (d_op (K := K) (d_op (d_var rfl (dq_ex g7.reg _ _ k6)) (d_lst (s_cons (d_var rfl (dq_ex e47 _ _ ko)) s_nil) (Nat.le_add_left 1 99999)) (o_cat (by rw [List.length_map]; show _ + 1 ≤ 100000; omega))) (d_var rfl k7) (o_cat (by rw [List.length_append, List.length_map, List.length_map]; show _ + 1 + _ ≤ 100000; omega))) R7 fun v8 A8 H8 g8 k8 => q _ _ _ ((((((((g1.trans g2).trans g3).trans g4).trans g5).trans g6).trans g7)).trans g8) ?_
  show Dq K H8 v8 (.list (((_ ++ [one]) ++ _).map Q42.R))
  rw [List.map_append, List.map_append]
  exact k8
/-! ### rows found have their promised form -/
end
end Q42
/-! the mathematics: rows as functions, spans, reduced rows -/
namespace Q42
/-- the number at place i, 0 beyond the end -/
abbrev vec (r : List Int) : Nat → Int := fun i => r.getD i 0
theorem vec_beyond {r : List Int} {i : Nat} (h : r.length ≤ i) : vec r i = 0 := by
  simp [vec, List.getD, List.getElem?_eq_none h]
theorem vec_lead_zero {r : List Int} {j : Nat} (h : j < lead r) : vec r j = 0 := by
  simp [vec, List.getD, lead_zero h]
theorem vec_lead_ne {r : List Int} (h : lead r < r.length) : vec r (lead r) ≠ 0 := by
  intro z
  have h2 : ∀ {r : List Int}, lead r < r.length → ∃ n, r[lead r]? = some n ∧ n ≠ 0 := by
    intro r
    induction r with
    | nil => intro h; simp [lead] at h
    | cons m r ih =>
      intro h
      by_cases e : m = 0
      · have h' : lead r < r.length := by simpa [lead, e] using h
        obtain ⟨n, h1, h2⟩ := ih h'
        exact ⟨n, by simpa [lead, e] using h1, h2⟩
      · exact ⟨m, by simp [lead, e], e⟩
  obtain ⟨n, h3, h4⟩ := h2 h
  simp [vec, List.getD, h3] at z
  exact h4 z
theorem lead_is {r : List Int} {p : Nat} (h0 : ∀ j, j < p → vec r j = 0) (h : vec r p ≠ 0) : lead r = p := by
  have hp : p < r.length := by
    by_cases c : p < r.length
    · exact c
    · exact absurd (vec_beyond (Nat.le_of_not_lt c)) h
  refine lead_at (n := vec r p) (fun j hj => ?_) (getD_at hp) h
  have := getD_at (r := r) (p := j) (Nat.lt_trans hj hp)
  rw [this]
  exact congrArg some (h0 j hj)
theorem vec_map {r : List Int} {f : Int → Int} (h : f 0 = 0) (i : Nat) : vec (r.map f) i = f (vec r i) := by
  by_cases c : i < r.length
  · simp [vec, List.getD, c]
  · rw [vec_beyond (by simpa using c), vec_beyond (by simpa using c), h]
theorem thin_vec (r : List Int) : ∃ g : Int, 0 < g ∧ ∀ i, vec r i = g * vec (thin r) i := by
  unfold thin
  split
  · exact ⟨1, by decide, fun i => (Int.one_mul _).symm⟩
  · rename_i c
    refine ⟨(content r : Int), by omega, fun i => ?_⟩
    rw [vec_map (f := fun n => n / (content r : Int)) (Int.zero_ediv _)]
    by_cases c : i < r.length
    · exact (Int.mul_ediv_cancel' (content_dvdI (List.mem_of_getElem? (getD_at c)))).symm
    · rw [vec_beyond (Nat.le_of_not_lt c)]; simp
theorem comb_vec {r o : List Int} (h : o.length ≤ r.length) (f c : Int) (i : Nat) : vec (comb r o f c) i = vec r i * f - c * vec o i := by
  by_cases hi : i < r.length
  · simp [vec, comb, List.getD, hi]
  · rw [vec_beyond (by rw [comb_len]; omega), vec_beyond (r := r) (by omega), vec_beyond (r := o) (by omega)]; simp
theorem above_vec (r : List Int) {p : Nat} (hp : vec r p ≠ 0) : ∃ e : Int, e ≠ 0 ∧ (∀ i, vec (above r p) i = e * vec r i) ∧ 0 < vec (above r p) p := by
  unfold above
  split
  · rename_i h
    exact ⟨1, by decide, fun i => (Int.one_mul _).symm, h⟩
  · rename_i h
    have e : ∀ i, vec (r.map fun n => -n) i = -vec r i := fun i => vec_map (f := fun n => -n) rfl i
    refine ⟨-1, by decide, fun i => by rw [e]; omega, ?_⟩
    rw [e]
    have : ¬ vec r p > 0 := h
    omega
/-- clearing: o*c - c*o, some positive part taken out -/
theorem clear_vec {r o : List Int} {p : Nat} (h : o.length ≤ r.length) (ho : 0 < vec o p) : ∃ g : Int, 0 < g ∧ ∀ i, vec r i * vec o p - vec r p * vec o i = g * vec (clear r o p) i := by
  unfold clear
  split
  · rename_i z
    refine ⟨vec o p, ho, fun i => ?_⟩
    have z' : vec r p = 0 := z
    rw [z']
    grind
  · obtain ⟨g, g0, hg⟩ := thin_vec (comb r o (o.getD p 0) (r.getD p 0))
    exact ⟨g, g0, fun i => by rw [← hg i, comb_vec h]⟩
/-! ### spans -/
inductive In (S : List (List Int)) : (Nat → Int) → Prop
  | zero : In S fun _ => 0
  | row {r : List Int} (h : r ∈ S) : In S (vec r)
  | add {u v : Nat → Int} (hu : In S u) (hv : In S v) : In S fun i => u i + v i
  | smul (c : Int) {v : Nat → Int} (hv : In S v) : In S fun i => c * v i
  | unscale {c : Int} {v : Nat → Int} (hc : c ≠ 0) (hv : In S fun i => c * v i) : In S v
theorem In.of {S : List (List Int)} {u v : Nat → Int} (h : In S u) (e : ∀ i, u i = v i) : In S v := (funext e : u = v) ▸ h
theorem In.trans {S T : List (List Int)} {v : Nat → Int} (h : In S v) (k : ∀ r ∈ S, In T (vec r)) : In T v := by
  induction h with
  | zero => exact .zero
  | row h => exact k _ h
  | add _ _ a b => exact .add a b
  | smul c _ a => exact .smul c a
  | unscale hc _ a => exact .unscale hc a
theorem In.lin {S : List (List Int)} {u v : Nat → Int} (a b : Int) (hu : In S u) (hv : In S v) : In S fun i => a * u i + b * v i := .add (.smul a hu) (.smul b hv)
theorem In.of_mul {S : List (List Int)} {u v : Nat → Int} {c : Int} (hc : c ≠ 0) (h : In S u) (e : ∀ i, u i = c * v i) : In S v := .unscale hc (h.of e)
theorem In.mono {S T : List (List Int)} {v : Nat → Int} (h : In S v) (k : ∀ r ∈ S, r ∈ T) : In T v := h.trans fun r hr => .row (k r hr)
/-- both clearing ways -/
theorem in_clear {S : List (List Int)} {r o : List Int} {p : Nat} (h : o.length ≤ r.length) (ho : 0 < vec o p) (hr : In S (vec r)) (hq : In S (vec o)) : In S (vec (clear r o p)) := by
  obtain ⟨g, g0, hg⟩ := clear_vec h ho
  exact .of_mul (c := g) (by omega) (In.lin (vec o p) (-vec r p) hr hq) fun i => by rw [← hg i]; grind
theorem in_unclear {S : List (List Int)} {r o : List Int} {p : Nat} (h : o.length ≤ r.length) (ho : 0 < vec o p) (hr : In S (vec (clear r o p))) (hq : In S (vec o)) : In S (vec r) := by
  obtain ⟨g, g0, hg⟩ := clear_vec h ho
  exact .of_mul (c := vec o p) (by omega) (In.lin g (vec r p) hr hq) fun i => by have := hg i; grind
/-! ### reduced rows -/
structure Rr (n : Nat) (fs : List (List Int)) : Prop where
  len : ∀ o ∈ fs, o.length = n
  nz : ∀ o ∈ fs, lead o < n
  pos : ∀ o ∈ fs, 0 < vec o (lead o)
  srt : fs.Pairwise fun x y => lead x < lead y
  zero : ∀ x ∈ fs, ∀ y ∈ fs, lead x ≠ lead y → vec y (lead x) = 0
theorem rest_zero {n : Nat} {fs : List (List Int)} (h : Rr n fs) : ∀ (l dn : List (List Int)) (r : List Int), (∀ o ∈ l, o ∈ fs) → (∀ o ∈ dn, o ∈ fs) → r.length = n → (∀ o ∈ dn, vec r (lead o) = 0) → ∀ o, o ∈ dn ∨ o ∈ l → vec (rest r l) (lead o) = 0
  | [], dn, r, _, _, _, hz, o, ho => hz o (ho.resolve_right fun q => by cases q)
  | x :: l, dn, r, hl, hd, hr, hz, o, ho => by
    show vec (rest (clear r x (lead x)) l) (lead o) = 0
    have hx := hl x (List.mem_cons_self ..)
    obtain ⟨g, g0, hg⟩ := clear_vec (r := r) (o := x) (p := lead x) (by rw [h.len x hx, hr]; exact Nat.le_refl _) (h.pos x hx)
    refine rest_zero h l (x :: dn) (clear r x (lead x)) (fun o q => hl o (List.mem_cons_of_mem _ q)) (fun o q => (List.mem_cons.mp q).elim (fun e => e ▸ hx) (hd o)) (by rw [clear_len, hr]) (fun y hy => ?_) o ?_
    · have gy := hg (lead y)
      have key : vec r (lead y) * vec x (lead x) - vec r (lead x) * vec x (lead y) = 0 := by
        by_cases c : lead y = lead x
        · rw [c]; grind
        · rcases List.mem_cons.mp hy with e | hy
          · exact absurd (congrArg lead e) c
          · rw [hz y hy, h.zero y (hd y hy) x hx c]; simp
      rw [key] at gy
      rcases Int.mul_eq_zero.mp gy.symm with q | q
      · omega
      · exact q
    · rcases ho with q | q
      · exact .inl (List.mem_cons_of_mem _ q)
      · rcases List.mem_cons.mp q with q | q
        · exact .inl (q ▸ List.mem_cons_self ..)
        · exact .inr q
theorem in_rest {n : Nat} {S fs : List (List Int)} (h : Rr n fs) : ∀ (l : List (List Int)) (r : List Int), (∀ o ∈ l, o ∈ fs) → r.length = n → (∀ o ∈ fs, In S (vec o)) → (In S (vec r) ↔ In S (vec (rest r l)))
  | [], r, _, _, _ => Iff.rfl
  | x :: l, r, hl, hr, hS => by
    have hx := hl x (List.mem_cons_self ..)
    have hle : x.length ≤ r.length := by rw [h.len x hx, hr]; exact Nat.le_refl _
    have ih := in_rest h l (clear r x (lead x)) (fun o q => hl o (List.mem_cons_of_mem _ q)) (by rw [clear_len, hr]) hS
    exact Iff.trans ⟨fun q => in_clear hle (h.pos x hx) q (hS x hx), fun q => in_unclear hle (h.pos x hx) q (hS x hx)⟩ ih
theorem filter_two {α : Type} (f : α → Nat) (p : Nat) : ∀ l : List α, (∀ x ∈ l, f x ≠ p) → (l.filter fun x => decide (f x < p)).length + (l.filter fun x => decide (p < f x)).length = l.length
  | [], _ => rfl
  | x :: l, h => by
    have ih := filter_two f p l fun y hy => h y (List.mem_cons_of_mem _ hy)
    have hx := h x (List.mem_cons_self ..)
    by_cases c : f x < p
    · have c2 : ¬ p < f x := by omega
      simp [List.filter_cons, c, c2]
      omega
    · have c2 : p < f x := by omega
      simp [List.filter_cons, c, c2]
      omega
section
variable {n : Nat} {fs : List (List Int)} {r : List Int}
/-- the new row -/
structure New (n : Nat) (fs : List (List Int)) (r one : List Int) (p : Nat) : Prop where
  len : one.length = n
  lead : lead one = p
  lt : p < n
  pos : 0 < vec one p
  off : ∀ o ∈ fs, vec one (Q42.lead o) = 0
  ne : ∀ o ∈ fs, Q42.lead o ≠ p
theorem new_row (h : Rr n fs) (hr : r.length = n) (hc : ((rest r fs).any fun n => n != 0) = true) : New n fs r (above (thin (rest r fs)) (lead (rest r fs))) (lead (rest r fs)) := by
  have z := rest_zero h fs [] r (fun o q => q) (fun o q => by cases q) hr (fun o q => by cases q)
  have ln := rest_len fs r
  have lt := lead_lt hc
  have ne := vec_lead_ne lt
  generalize rest r fs = t at *
  obtain ⟨g, g0, hg⟩ := thin_vec t
  have ne2 : vec (thin t) (lead t) ≠ 0 := fun q => ne (by rw [hg, q]; simp)
  obtain ⟨e, e0, he, hp⟩ := above_vec (thin t) ne2
  have tz : ∀ i, vec t i = 0 → vec (thin t) i = 0 := fun i q => by
    rw [hg] at q
    rcases Int.mul_eq_zero.mp q with q | q
    · omega
    · exact q
  refine ⟨by rw [above_len, thin_len, ln, hr], lead_is (fun j hj => ?_) (by omega), by omega, hp, fun o ho => ?_, fun o ho q => ?_⟩
  · rw [he, tz j (vec_lead_zero hj)]; simp
  · rw [he, tz _ (z o (.inr ho))]; simp
  · exact ne (q ▸ z o (.inr ho))
theorem clear_other (h : Rr n fs) {one x : List Int} {p : Nat} (N : New n fs r one p) (hx : x ∈ fs) :
    lead (clear x one p) = lead x ∧ 0 < vec (clear x one p) (lead x) ∧ vec (clear x one p) p = 0 ∧ ∀ y ∈ fs, lead y ≠ lead x → vec (clear x one p) (lead y) = 0 := by
  obtain ⟨g, g0, hg⟩ := clear_vec (r := x) (o := one) (p := p) (by rw [N.len, h.len x hx]; exact Nat.le_refl _) N.pos
  have zz : ∀ i, vec x i * vec one p - vec x p * vec one i = 0 → vec (clear x one p) i = 0 := fun i q => by
    have := hg i
    rw [q] at this
    rcases Int.mul_eq_zero.mp this.symm with q | q
    · omega
    · exact q
  have hpos : 0 < vec (clear x one p) (lead x) := by
    have := hg (lead x)
    rw [N.off x hx] at this
    have h1 := Int.mul_pos (h.pos x hx) N.pos
    have h2 : 0 < g * vec (clear x one p) (lead x) := by rw [← this]; omega
    exact Int.pos_of_mul_pos_right h2 g0 
  refine ⟨lead_is (fun j hj => zz j ?_) (by omega), hpos, zz p (by grind), fun y hy hne => zz _ ?_⟩
  · rw [vec_lead_zero hj]
    by_cases c : vec x p = 0
    · rw [c]; simp
    · have c2 : lead x ≤ p := Nat.le_of_not_lt fun q => c (vec_lead_zero q)
      have : vec one j = 0 := vec_lead_zero (by rw [N.lead]; omega)
      rw [this]; simp
  · rw [h.zero y hy x hx hne, N.off y hy]; simp
theorem rr_with (h : Rr n fs) (hr : r.length = n) : Rr n (withRow fs r) ∧ (∀ S, (∀ o ∈ fs, In S (vec o)) → In S (vec r) → ∀ o ∈ withRow fs r, In S (vec o)) ∧ (∀ S, (∀ o ∈ withRow fs r, In S (vec o)) → In S (vec r) ∧ ∀ o ∈ fs, In S (vec o)) ∧
    ((withRow fs r).length = fs.length ∧ withRow fs r = fs ∨ (withRow fs r).length = fs.length + 1) := by
  unfold withRow
  split
  · rename_i hc
    have N := new_row h hr hc
    have NE := (above_vec (thin (rest r fs)) (p := lead (rest r fs)) (fun q => by
      obtain ⟨g, g0, hg⟩ := thin_vec (rest r fs)
      exact vec_lead_ne (lead_lt hc) (by rw [hg, q]; simp)))
    have T := thin_vec (rest r fs)
    have IR := fun S => in_rest (S := S) h fs r (fun o q => q) hr
    generalize rest r fs = t at *
    generalize above (thin t) (lead t) = one at *
    generalize lead t = p at *
    have C := fun x (hx : x ∈ fs) => clear_other h N hx
    have mem : ∀ y, y ∈ (((fs.map fun x => clear x one p).filter fun x => decide (lead x < p)) ++ [one]) ++ ((fs.map fun x => clear x one p).filter fun x => decide (p < lead x)) → y = one ∨ ∃ x ∈ fs, y = clear x one p := by
      intro y hy
      rcases List.mem_append.mp hy with hy | hy
      · rcases List.mem_append.mp hy with hy | hy
        · obtain ⟨x, hx, rfl⟩ := List.mem_map.mp ((List.mem_filter.mp hy).1)
          exact .inr ⟨x, hx, rfl⟩
        · exact .inl (by simpa using hy)
      · obtain ⟨x, hx, rfl⟩ := List.mem_map.mp ((List.mem_filter.mp hy).1)
        exact .inr ⟨x, hx, rfl⟩
    have mem1 : ∀ x ∈ fs, clear x one p ∈ (((fs.map fun x => clear x one p).filter fun x => decide (lead x < p)) ++ [one]) ++ ((fs.map fun x => clear x one p).filter fun x => decide (p < lead x)) := by
      intro x hx
      have hm : clear x one p ∈ fs.map fun x => clear x one p := List.mem_map.mpr ⟨x, hx, rfl⟩
      have hne := N.ne x hx
      have hl := (C x hx).1
      by_cases c : lead x < p
      · exact List.mem_append.mpr (.inl (List.mem_append.mpr (.inl (List.mem_filter.mpr ⟨hm, by rw [hl]; simpa using c⟩))))
      · exact List.mem_append.mpr (.inr (List.mem_filter.mpr ⟨hm, by rw [hl]; simp; omega⟩))
    have mem2 : one ∈ (((fs.map fun x => clear x one p).filter fun x => decide (lead x < p)) ++ [one]) ++ ((fs.map fun x => clear x one p).filter fun x => decide (p < lead x)) := by simp
    have os : (fs.map fun x => clear x one p).Pairwise fun x y => lead x < lead y := by
      rw [List.pairwise_map]
      refine List.Pairwise.imp_of_mem (fun {a b} ha hb hab => ?_) h.srt
      rw [(C a ha).1, (C b hb).1]
      exact hab
    have le : ∀ x ∈ fs, one.length ≤ x.length := fun x hx => by rw [N.len, h.len x hx]; exact Nat.le_refl _
    refine ⟨⟨fun y hy => ?_, fun y hy => ?_, fun y hy => ?_, ?_, fun y hy z hz hyz => ?_⟩, fun S hS hSr y hy => ?_, fun S hS => ?_, .inr ?_⟩
    · rcases mem y hy with rfl | ⟨x, hx, rfl⟩
      · exact N.len
      · rw [clear_len, h.len x hx]
    · rcases mem y hy with rfl | ⟨x, hx, rfl⟩
      · rw [N.lead]; exact N.lt
      · rw [(C x hx).1]; exact h.nz x hx
    · rcases mem y hy with rfl | ⟨x, hx, rfl⟩
      · rw [N.lead]; exact N.pos
      · rw [(C x hx).1]; exact (C x hx).2.1
    · rw [List.pairwise_append, List.pairwise_append]
      refine ⟨⟨os.filter _, List.pairwise_singleton _ _, fun a ha b hb => ?_⟩, os.filter _, fun a ha b hb => ?_⟩
      · have e : b = one := by simpa using hb
        rw [e, N.lead]
        simpa using (List.mem_filter.mp ha).2
      · have hb2 : p < lead b := by simpa using (List.mem_filter.mp hb).2
        rcases List.mem_append.mp ha with ha | ha
        · have : lead a < p := by simpa using (List.mem_filter.mp ha).2
          omega
        · have e : a = one := by simpa using ha
          rw [e, N.lead]
          exact hb2
    · rcases mem y hy with rfl | ⟨x, hx, rfl⟩
      · rcases mem z hz with rfl | ⟨x2, hx2, rfl⟩
        · exact absurd rfl hyz
        · rw [N.lead]; exact (C x2 hx2).2.2.1
      · rw [(C x hx).1]
        rcases mem z hz with rfl | ⟨x2, hx2, rfl⟩
        · exact N.off x hx
        · rw [(C x hx).1, (C x2 hx2).1] at hyz
          exact (C x2 hx2).2.2.2 x hx hyz
    · have ht : In S (vec t) := (IR S hS).mp hSr
      obtain ⟨g, g0, hg⟩ := T
      obtain ⟨e, e0, he, _⟩ := NE
      have h1 : In S (vec one) := (In.smul e (In.of_mul (c := g) (by omega) ht hg)).of fun i => (he i).symm
      rcases mem y hy with rfl | ⟨x, hx, rfl⟩
      · exact h1
      · exact in_clear (le x hx) N.pos (hS x hx) h1
    · have h1 := hS one mem2
      have hf : ∀ o ∈ fs, In S (vec o) := fun x hx => in_unclear (le x hx) N.pos (hS _ (mem1 x hx)) h1
      obtain ⟨g, g0, hg⟩ := T
      obtain ⟨e, e0, he, _⟩ := NE
      have h2 : In S (vec (thin t)) := In.of_mul (c := e) e0 h1 he
      have ht : In S (vec t) := (In.smul g h2).of fun i => (hg i).symm
      exact ⟨(IR S hf).mpr ht, hf⟩
    · have fl := filter_two lead p (fs.map fun x => clear x one p) (fun y hy => by
        obtain ⟨x, hx, rfl⟩ := List.mem_map.mp hy
        rw [(C x hx).1]
        exact N.ne x hx)
      rw [List.length_map] at fl
      rw [List.length_append, List.length_append, List.length_singleton]
      omega
  · rename_i hc
    refine ⟨h, fun S hS _ => hS, fun S hS => ⟨?_, hS⟩, .inl ⟨rfl, rfl⟩⟩
    have hz : ∀ i, vec (rest r fs) i = 0 := fun i => by
      by_cases c : i < (rest r fs).length
      · have hm := List.mem_of_getElem? (getD_at c)
        by_cases e : (rest r fs).getD i 0 = 0
        · exact e
        · exact absurd (List.any_eq_true.mpr ⟨_, hm, by simpa using e⟩) hc
      · exact vec_beyond (Nat.le_of_not_lt c)
    exact (in_rest h fs r (fun o q => q) hr hS).mpr (In.zero.of fun i => (hz i).symm)
end
end Q42
namespace Z
open PySem PySem.Spec PyProof.Rows L2
section
variable {K : PySem.W.Frag} {p : Me} {σ : L2.St} {H H' A A' : Hp} {te ta tb tc tl ti : TE} {tt : TT} {tu tz : TS} {D : Ends} {d dx dy dz : PyData} {ds es : List PyData}
/-- [d] * n, one's own -/
theorem q_repOwn {i n : Nat} {tx tn : TE} (hx : EvD K p tx σ H (.list [d])) (hn : EvD K p tn σ H (.int (n : Nat))) (hz : n ≤ 60000) (R : Reg p H A)
    (k : ∀ q xs A' H', Gr p A H A' H' → p.own q = none → A q = none → DqAll K H' xs (List.replicate n d) → Reg ⟨p.pool, upd p.own q (.lst xs)⟩ H' A' → A' q = some (.lst xs) → tz D (σ.set i (some (.ref q))) A') : tSeq (tAsg (tOp rRep tx tn) (gName i)) tz D σ A :=
  hx A R _ fun x A1 H1 g1 k1 => EvD.mono g1.reg hn A1 (g1.to R) _ fun y A2 H2 g2 k2 => by
    cases k2
    have R2 := g2.to (g1.to R)
    obtain ⟨a, xs, rfl, h1, h2⟩ := dq_inv_l (dq_ex g2.reg _ _ k1)
    obtain ⟨v, rfl, kv⟩ := dqall_one h2
    refine ⟨a, n, [v], rfl, rfl, R2.ex _ _ h1, by omega, by omega, Evl.sz_of (by simpa using Nat.le_trans hz (by decide)), fun l hl => ?_⟩
    have e : (List.replicate ((n : Int).toNat) [v]).flatten = List.replicate n v := by
      rw [Int.toNat_natCast]
      exact flat_one n
    rw [e]
    have g12 := g1.trans g2
    have hnp : p.pool ≠ some l := fun z => by
      obtain ⟨a, b, e, _⟩ := R2.pool l z
      rw [hl] at e; cases e
    have hno : p.own l = none := by
      cases e : p.own l with
      | none => rfl
      | some o => have := R2.own _ _ e; rw [hl] at this; cases this
    have hnA : A l = none := by
      cases e : A l with
      | none => rfl
      | some o => obtain ⟨o', e'⟩ := g12.dom l o e; rw [hl] at e'; cases e'
    have hnH : H2 l = none := Evl.fresh_back R2.ex hl
    exact k l _ _ H2 (g12.trans (Gr.allocM R2 hl)) hno hnA (dq_rep kv n) (R2.put hnp hnH) upd_same
end
end Z
namespace Q42
open PySem PySem.Spec PyProof.Rows L2 Z
def redM (rows : List (List Int)) : List (List Int) := rows.foldl withRow []
theorem red_more {rows : List (List Int)} {i : Nat} {r : List Int} (h : rows[i]? = some r) : redM (rows.take (i + 1)) = withRow (redM (rows.take i)) r := by
  unfold redM
  rw [take_more h, List.foldl_append]
  rfl
/-- bits of k found rows -/
def Bb (a : Nat) : Nat → Nat
  | 0 => 0
  | k + 1 => a + k * (Bb a k + 1) + Bb a k + 1
theorem bb_step (a k : Nat) : Bb a k ≤ Bb a (k + 1) := by
  show Bb a k ≤ a + k * (Bb a k + 1) + Bb a k + 1
  omega
theorem bb_mono (a : Nat) {j k : Nat} (h : j ≤ k) : Bb a j ≤ Bb a k := by
  induction h with
  | refl => exact Nat.le_refl _
  | step _ ih => exact Nat.le_trans ih (bb_step a _)
theorem sm_with {a b : Nat} {r : List Int} {fs : List (List Int)} (h : Sm a r) (hf : ∀ o ∈ fs, Sm b o) : ∀ o ∈ withRow fs r, Sm (a + fs.length * (b + 1) + b + 1) o := by
  intro o ho
  have h1 : Sm (a + fs.length * (b + 1)) (above (thin (rest r fs)) (lead (rest r fs))) := sm_above (sm_thin (sm_rest fs r a h hf))
  have h2 : ∀ x ∈ fs, Sm (a + fs.length * (b + 1) + b + 1) (clear x (above (thin (rest r fs)) (lead (rest r fs))) (lead (rest r fs))) := fun x hx => (sm_clear (hf x hx) h1).mono (by omega)
  unfold withRow at ho
  split at ho
  · rcases List.mem_append.mp ho with ho | ho
    · rcases List.mem_append.mp ho with ho | ho
      · obtain ⟨x, hx, rfl⟩ := List.mem_map.mp (List.mem_filter.mp ho).1
        exact h2 x hx
      · have e : o = above (thin (rest r fs)) (lead (rest r fs)) := by simpa using ho
        rw [e]
        exact h1.mono (by omega)
    · obtain ⟨x, hx, rfl⟩ := List.mem_map.mp (List.mem_filter.mp ho).1
      exact h2 x hx
  · exact (hf o ho).mono (by omega)
/-- what the rows found so far keep -/
structure Kp (n a : Nat) (rows fs : List (List Int)) : Prop where
  rr : Rr n fs
  sm : ∀ o ∈ fs, Sm (Bb a fs.length) o
  le : fs.length ≤ rows.length
  into : ∀ S, (∀ o ∈ rows, In S (vec o)) → ∀ o ∈ fs, In S (vec o)
  back : ∀ S, (∀ o ∈ fs, In S (vec o)) → ∀ o ∈ rows, In S (vec o)
theorem kp_nil (n a : Nat) : Kp n a [] [] := ⟨⟨(fun _ h => nomatch h), (fun _ h => nomatch h), (fun _ h => nomatch h), .nil, (fun _ h => nomatch h)⟩, (fun _ h => nomatch h), Nat.le_refl _, (fun _ _ _ h => nomatch h), (fun _ _ _ h => nomatch h)⟩
theorem kp_more {n a : Nat} {rows fs : List (List Int)} {r : List Int} (h : Kp n a rows fs) (hr : r.length = n) (hs : Sm a r) : Kp n a (rows ++ [r]) (withRow fs r) := by
  obtain ⟨w1, w2, w3, w4⟩ := rr_with h.rr hr
  refine ⟨w1, fun o ho => ?_, ?_, fun S hS => ?_, fun S hS o ho => ?_⟩
  · rcases w4 with ⟨_, e⟩ | e
    · rw [e] at ho ⊢
      exact h.sm o ho
    · rw [e]
      exact sm_with hs h.sm o ho
  · rw [List.length_append, List.length_singleton]
    have := h.le
    rcases w4 with ⟨e, _⟩ | e <;> omega
  · exact w2 S (h.into S fun o ho => hS o (List.mem_append.mpr (.inl ho))) (hS r (by simp))
  · obtain ⟨q1, q2⟩ := w3 S hS
    rcases List.mem_append.mp ho with ho | ho
    · exact h.back S q2 o ho
    · have e : o = r := by simpa using ho
      rw [e]
      exact q1
/-- rows of one length and size -/
def Ok (n a : Nat) (rows : List (List Int)) : Prop := ∀ r ∈ rows, r.length = n ∧ Sm a r
theorem kp_all {n a : Nat} {rows : List (List Int)} (h : Ok n a rows) : ∀ i, i ≤ rows.length → Kp n a (rows.take i) (redM (rows.take i))
  | 0, _ => kp_nil n a
  | i + 1, hi => by
    have hi' : i < rows.length := hi
    have e := List.getElem?_eq_getElem hi'
    obtain ⟨h1, h2⟩ := h _ (List.mem_of_getElem? e)
    rw [take_more e, ← take_more e, red_more e, take_more e]
    exact kp_more (kp_all h i (Nat.le_of_lt hi)) h1 h2
section
variable {P : Program} {w : World} {K : PySem.W.Frag} {mg : Str → Option Value} {base : Heap}
abbrev s_reduced : Stmt := top 9
abbrev N_reduced : List Str := ["rows", "width", "found", "row"]
theorem sc_reduced : FnScope N_reduced ["rows", "width"] (defScope s_reduced) := ⟨rfl, rfl, rfl, by decide +kernel, rfl, by decide +kernel, by decide +kernel⟩
def F_reduced : List PyData → PyData → Prop := fun ds d => ∃ (rows : List (List Int)) (n a : Nat), ds = [LR rows, .int (n : Nat)] ∧ n ≤ 60000 ∧ rows.length ≤ 1000 ∧ Ok n a rows ∧ Bb a rows.length ≤ 9000 ∧ d = LR (redM rows)
theorem dn_reduced (Hx : St K mg "reduced" s_reduced ["rows", "width"]) (B : Bs mg) (D1 : Dn P w K mg base CX0 3 "check_rows" ["rows", "width"] (SpD K F_check_rows)) (D2 : Dn P w K mg base CX0 4 "_with_row" ["found", "row"] (SpD K F__with_row)) :
    Dn P w K mg base CX0 5 "reduced" ["rows", "width"] (SpD K F_reduced) := by
  refine dn_data 4 Hx sc_reduced (fun ds d h => by obtain ⟨x, r, _, rfl, _⟩ := h; rfl) fun f cdv A outer s H E hr => ⟨_, (pss_cons (ps_expr (pe_cd D1 hr (by decide) rfl (pa_cons (pv 0) (pa_cons (pv 1) pa_nil))))
    (pss_cons (ps_set (i := 2) sc_reduced.nd rfl (Or.inl rfl) (pe_lst pa_nil))
    (pss_cons (ps_for PassesOwn.never rfl (pi_list (pv 0)) (pg_name (i := 3) sc_reduced.nd rfl (Or.inl rfl)) (pss_one (ps_set (i := 2) sc_reduced.nd rfl (Or.inl rfl) (pe_cd D2 hr (by decide) rfl (pa_cons (pv 2) (pa_cons (pv 3) pa_nil))))))
    (pss_one (ps_ret (pv 2)))))), ?_⟩
  intro vs H A ds d Q R hk hF q
  obtain ⟨rows, n, a, rfl, hn, hl, hok, hB, rfl⟩ := hF
  obtain ⟨v, v2, rfl, k1, k2⟩ := dqall_two hk
  refine q_drop (d_call (K := K) (F := F_check_rows) (s_cons (d_var rfl k1) (s_cons (d_var rfl k2) s_nil)) ⟨rows, n, hn, fun r h => (hok r h).1, rfl, rfl⟩) R fun u A1 H1 g1 ku => ?_
  refine q_asg (d_lst (K := K) s_nil (Nat.zero_le _)) (g1.to R) fun z A2 H2 g2 kz => ?_
  have g12 := g1.trans g2
  refine s_forL (K := K) (ds := rows.map Q42.R) (d_var rfl (dq_ex g12.reg _ _ k1)) (g12.to R) (fun i σ' A' H' w => (∃ z y, σ' = [some v, some v2, some z, y] ∧ Dq K H' z (LR (redM (rows.take i)))) ∧ w = Me.non.own ∧ Gr .non A H A' H') (fun _ _ g => ⟨⟨_, _, rfl, dq_ex g.reg _ _ kz⟩, rfl, g12.trans g⟩) ?_ ?_
  · rintro H3 e1 i d x σ' A' H' w hi ⟨⟨z, y, rfl, kz⟩, rfl, g0⟩ e ra kx
    obtain ⟨o, h1, h2, rfl⟩ := at_rows hi
    obtain ⟨f1, f2⟩ := hok o h2
    have hi' : i < rows.length := (List.getElem?_eq_some_iff.mp h1).1
    have kp := kp_all hok i (Nat.le_of_lt hi')
    have le := kp.le
    rw [List.length_take, Nat.min_eq_left (Nat.le_of_lt hi')] at le
    have hm : Bb a ((redM (rows.take i)).length + 1) ≤ 9000 := Nat.le_trans (bb_mono a (by omega)) hB
    refine Z.s_asg (d_call (K := K) (F := F__with_row) (s_cons (d_var rfl kz) (s_cons (d_var rfl kx) s_nil)) ⟨o, redM (rows.take i), a, Bb a (redM (rows.take i)).length, rfl, by omega, by omega, f2, fun y hy => ⟨by rw [kp.rr.len y hy, f1], by rw [f1]; exact kp.rr.nz y hy, kp.sm y hy⟩, hm, rfl⟩) ra fun v4 A4 H4 g4 k4 => ⟨H4, _, ⟨⟨v4, some x, rfl, ?_⟩, rfl, g0.trans g4⟩, e.trans g4.reg, g4.to ra⟩
    rw [red_more h1]
    exact k4
  · rintro σ' A' H' w ⟨⟨z, y, rfl, kz⟩, rfl, g⟩ e ra
    rw [List.length_map, List.take_length] at kz
    exact Z.s_ret (d_var (K := K) rfl kz) ra fun v4 A4 H4 g4 k4 => q _ _ _ (g.trans g4) k4
end
end Q42
namespace Q42
open PySem PySem.Spec PyProof.Rows L2 Z
def scl (fs : List (List Int)) : Nat := fs.foldl (fun s r => Nat.lcm s (r.getD (lead r) 0).natAbs) 1
def kVal (fs : List (List Int)) (free : Nat) (r : List Int) : Int := -(r.getD free 0) * ((scl fs : Int) / r.getD (lead r) 0)
def kNums (fs : List (List Int)) (free n : Nat) (l : List (List Int)) : List Int := l.foldl (fun acc r => acc.set (lead r) (kVal fs free r)) ((List.replicate n 0).set free (scl fs))
def kRow (fs : List (List Int)) (free n : Nat) : List Int := thin (kNums fs free n fs)
def leads (fs : List (List Int)) : List Int := fs.map fun r => (lead r : Int)
def kern (rows : List (List Int)) (n : Nat) : List (List Int) := ((List.range n).filter fun (j : Nat) => !decide ((j : Int) ∈ leads (redM rows))).map fun j => kRow (redM rows) j n
theorem scl_more {fs : List (List Int)} {i : Nat} {r : List Int} (h : fs[i]? = some r) : scl (fs.take (i + 1)) = Nat.lcm (scl (fs.take i)) (r.getD (lead r) 0).natAbs := by
  unfold scl
  rw [take_more h, List.foldl_append]
  rfl
theorem lcm_lt {x y a b : Nat} (hx : x < 2 ^ a) (hy : y < 2 ^ b) : Nat.lcm x y < 2 ^ (a + b) := by
  by_cases z : x * y = 0
  · have : Nat.lcm x y = 0 := by
      rcases Nat.mul_eq_zero.mp z with z | z <;> rw [z] <;> simp
    rw [this]; exact Nat.two_pow_pos _
  · refine Nat.lt_of_le_of_lt (Nat.le_of_dvd (Nat.pos_of_ne_zero z) (Nat.lcm_dvd_mul x y)) ?_
    rw [Nat.pow_add]
    exact Nat.mul_lt_mul'' hx hy
theorem scl_go {b : Nat} : ∀ (fs : List (List Int)) (s c : Nat), s < 2 ^ c → (∀ o ∈ fs, Sm b o) → fs.foldl (fun s r => Nat.lcm s (r.getD (lead r) 0).natAbs) s < 2 ^ (c + fs.length * b)
  | [], s, c, h, _ => by simpa using h
  | r :: fs, s, c, h, hf => by
    have ih := scl_go fs (Nat.lcm s (r.getD (lead r) 0).natAbs) (c + b) (lcm_lt h (sm_getD (hf r (List.mem_cons_self ..)) _)) fun o ho => hf o (List.mem_cons_of_mem _ ho)
    have e : c + (r :: fs).length * b = c + b + fs.length * b := by rw [List.length_cons, Nat.succ_mul]; omega
    rw [e]
    exact ih
theorem scl_lt {b : Nat} {fs : List (List Int)} (hf : ∀ o ∈ fs, Sm b o) : scl fs < 2 ^ (fs.length * b + 1) := by
  have := scl_go fs 1 1 (by decide) hf
  rw [Nat.add_comm] at this
  exact this
theorem kNums_more {fs l : List (List Int)} {free n i : Nat} {r : List Int} (h : l[i]? = some r) : kNums fs free n (l.take (i + 1)) = (kNums fs free n (l.take i)).set (lead r) (kVal fs free r) := by
  unfold kNums
  rw [take_more h, List.foldl_append]
  rfl
theorem kNums_len (fs : List (List Int)) (free n : Nat) (l : List (List Int)) : (kNums fs free n l).length = n := by
  unfold kNums
  have : ∀ (l : List (List Int)) (acc : List Int), (l.foldl (fun acc r => acc.set (lead r) (kVal fs free r)) acc).length = acc.length := by
    intro l
    induction l with
    | nil => intro acc; rfl
    | cons r l ih => intro acc; rw [List.foldl_cons, ih, List.length_set]
  rw [this, List.length_set, List.length_replicate]
theorem sm_set {b : Nat} {r : List Int} {x : Int} {j : Nat} (h : Sm b r) (hx : x.natAbs < 2 ^ b) : Sm b (r.set j x) := fun n hn => by
  rcases List.mem_or_eq_of_mem_set hn with q | q
  · exact h n q
  · rw [q]; exact hx
theorem sm_kVal {b : Nat} {fs : List (List Int)} {free : Nat} {r : List Int} (hf : ∀ o ∈ fs, Sm b o) (hr : Sm b r) : (kVal fs free r).natAbs < 2 ^ (b + (fs.length * b + 1)) := by
  unfold kVal
  rw [Int.natAbs_mul, Int.natAbs_neg, Nat.pow_add]
  refine Nat.mul_lt_mul'' (sm_getD hr free) (Nat.lt_of_le_of_lt (Int.natAbs_ediv_le_natAbs _ _) ?_)
  rw [Int.natAbs_natCast]
  exact scl_lt hf
theorem sm_kNums {b : Nat} {fs : List (List Int)} {free n : Nat} (hf : ∀ o ∈ fs, Sm b o) : ∀ l : List (List Int), (∀ o ∈ l, Sm b o) → Sm (b + (fs.length * b + 1)) (kNums fs free n l) := by
  have : ∀ (l : List (List Int)) (acc : List Int), (∀ o ∈ l, Sm b o) → Sm (b + (fs.length * b + 1)) acc → Sm (b + (fs.length * b + 1)) (l.foldl (fun acc r => acc.set (lead r) (kVal fs free r)) acc) := by
    intro l
    induction l with
    | nil => intro acc _ h; exact h
    | cons r l ih => intro acc hl h; exact ih _ (fun o ho => hl o (List.mem_cons_of_mem _ ho)) (sm_set h (sm_kVal hf (hl r (List.mem_cons_self ..))))
  intro l hl
  refine this l _ hl (sm_set (fun n hn => ?_) ?_)
  · rw [(List.mem_replicate.mp hn).2]; exact Nat.two_pow_pos _
  · rw [Int.natAbs_natCast]
    exact Nat.lt_of_lt_of_le (scl_lt hf) (Nat.pow_le_pow_right (by decide) (by omega))
theorem at_leads {fs : List (List Int)} {i : Nat} {r : List Int} {e : PyData} (h : fs[i]? = some r) (he : ((leads fs).map PyData.int)[i]? = some e) : e = .int (lead r : Nat) := by
  unfold leads at he
  rw [List.getElem?_map, List.getElem?_map, h] at he
  cases he
  rfl
section
variable {P : Program} {w : World} {K : PySem.W.Frag} {mg : Str → Option Value} {base : Heap}
abbrev s__kernel_row : Stmt := top 18
abbrev N__kernel_row : List Str := ["found", "leading", "free", "width", "scale", "row", "place", "numbers"]
theorem sc__kernel_row : FnScope N__kernel_row ["found", "leading", "free", "width"] (defScope s__kernel_row) := ⟨rfl, rfl, rfl, by decide +kernel, rfl, by decide +kernel, by decide +kernel⟩
def F__kernel_row : List PyData → PyData → Prop := fun ds d => ∃ (fs : List (List Int)) (free n b : Nat), ds = [LR fs, L (leads fs), .int (free : Nat), .int (n : Nat)] ∧ n ≤ 60000 ∧ free < n ∧ Rr n fs ∧ (∀ o ∈ fs, Sm b o) ∧ b + (fs.length * b + 1) + 1 ≤ 9000 ∧ d = R (kRow fs free n)
theorem dn__kernel_row (Hx : St K mg "_kernel_row" s__kernel_row ["found", "leading", "free", "width"]) (B : Bs mg) (m_lcm : mg "lcm" = some (.builtin "math.lcm")) (D1 : Dn P w K mg base CX0 1 "without_factor" ["numbers"] (SpD K F_without_factor)) :
    Dn P w K mg base CX0 2 "_kernel_row" ["found", "leading", "free", "width"] (SpD K F__kernel_row) := by
  refine dn_data 1 Hx sc__kernel_row (fun ds d h => by obtain ⟨x, r, _, _, rfl, _⟩ := h; rfl) fun f cdv A outer s H E hr => ⟨_, (pss_cons (ps_set (i := 4) sc__kernel_row.nd rfl (Or.inl rfl) pe_int)
    (pss_cons (ps_for PassesOwn.never rfl (RZ.pi_zipA (by rfl) B.zip (pa_cons (pv 0) (pa_cons (pv 1) pa_nil))) (pg_tup rfl (pgs_cons (pg_name (i := 5) sc__kernel_row.nd rfl (Or.inl rfl)) (pgs_cons (pg_name (i := 6) sc__kernel_row.nd rfl (Or.inl rfl)) pgs_nil))) (pss_one (ps_set (i := 4) sc__kernel_row.nd rfl (Or.inl rfl) (pe_callBfun cr_lcm rfl m_lcm (pa_cons (pv 4) (pa_cons (pe_ix ix_seq (pv 5) (pv 6) (fun _ _ => rfl)) pa_nil))))))
    (pss_cons (ps_set (i := 7) sc__kernel_row.nd rfl (Or.inl rfl) (pe_op op_rep (pe_lst (pa_cons pe_int pa_nil)) (pv 3)))
    (pss_cons (ps_asg (pv 4) (pg_sub (pv 7) (pv 2) set_list))
    (pss_cons (ps_for PassesOwn.never rfl (RZ.pi_zipA (by rfl) B.zip (pa_cons (pv 0) (pa_cons (pv 1) pa_nil))) (pg_tup rfl (pgs_cons (pg_name (i := 5) sc__kernel_row.nd rfl (Or.inl rfl)) (pgs_cons (pg_name (i := 6) sc__kernel_row.nd rfl (Or.inl rfl)) pgs_nil))) (pss_one (ps_asg (pe_op op_mulW (pe_un un_neg (pe_ix ix_seq (pv 5) (pv 2) (fun _ _ => rfl))) (pe_op op_fdivW (pv 4) (pe_ix ix_seq (pv 5) (pv 6) (fun _ _ => rfl)))) (pg_sub (pv 7) (pv 6) set_list))))
    (pss_one (ps_ret (pe_cd D1 hr (by decide) rfl (pa_cons (pv 7) pa_nil))))))))), ?_⟩
  intro vs H A ds d Q R hk hF q
  obtain ⟨fs, free, n, b, rfl, hn, hfree, hrr, hsm, hb, rfl⟩ := hF
  obtain ⟨v, v2, v3, v4, rfl, k1, k2, k3, k4⟩ := dqall_four hk
  cases k3
  cases k4
  have ll : (leads fs).length = fs.length := List.length_map _
  have lds : (fs.map Q42.R).length = ((leads fs).map PyData.int).length := by rw [List.length_map, List.length_map, ll]
  refine q_asg (P := fun v H' => Dq K H' v (.int 1)) (d_int (K := K)) R fun u A1 H1 g1 ku => ?_
  cases ku
  have R1 := g1.to R
  refine s_forZ (K := K) (ds := fs.map Q42.R) (es := (leads fs).map .int) (s_cons (d_var rfl (dq_ex g1.reg _ _ k1)) (s_cons (d_var rfl (dq_ex g1.reg _ _ k2)) s_nil)) lds R1
    (fun i σ' A' H' w => (∃ y z, σ' = [some v, some v2, some (.int (free : Nat)), some (.int (n : Nat)), some (.int (scl (fs.take i) : Nat)), y, z, none]) ∧ w = Me.non.own ∧ Gr .non A H A' H') (fun _ _ g => ⟨⟨_, _, rfl⟩, rfl, g1.trans g⟩) ?_ ?_
  · rintro H2 e1 i d e x y σ' A' A2 H' w hd he ⟨⟨_, _, rfl⟩, rfl, g0⟩ ex g ra kx ky
    obtain ⟨r, h1, h2, rfl⟩ := at_rows hd
    have ee := at_leads h1 he
    subst ee
    have hi' : i < fs.length := (List.getElem?_eq_some_iff.mp h1).1
    have hl : lead r < r.length := by rw [hrr.len r h2]; exact hrr.nz r h2
    have sc := scl_lt (b := b) (fs := fs.take i) fun o ho => hsm o (List.mem_of_mem_take ho)
    rw [List.length_take, Nat.min_eq_left (Nat.le_of_lt hi')] at sc
    have hib : i * b ≤ fs.length * b := Nat.mul_le_mul_right b (Nat.le_of_lt hi')
    refine Z.s_asg (d_cb (K := K) (s_cons (d_var rfl (.int _)) (s_cons (d_op (d_var rfl kx) (d_var rfl ky) (o_ixT (atI_ints hl))) s_nil)) (c_lcm ?_ ?_)) ra fun v4 A4 H4 g4 k4 => ⟨H4, _, ⟨⟨some x, some y, ?_⟩, rfl, (g0.trans g).trans g4⟩, ex.trans g4.reg, g4.to ra⟩
    · rw [Int.natAbs_natCast]
      exact Nat.lt_of_lt_of_le sc (Nat.pow_le_pow_right (by decide) (by omega))
    · exact Nat.lt_of_lt_of_le (sm_getD (hsm r h2) _) (Nat.pow_le_pow_right (by decide) (by omega))
    · cases k4
      rw [scl_more h1]
      rfl
  rintro σ' A2 H2 w ⟨⟨y, z, rfl⟩, rfl, g2⟩ e2 R2
  rw [List.length_map, List.take_length]
  have k1' := dq_ex e2 _ _ (dq_ex g1.reg _ _ k1)
  have k2' := dq_ex e2 _ _ (dq_ex g1.reg _ _ k2)
  refine q_repOwn (K := K) (d := .int 0) (n := n) (d_lst (s_cons d_int s_nil) (Nat.le_add_left 1 99999)) (d_var rfl (.int _)) hn R2 fun q' xs A3 H3 g3 ho hA2 kxs R3 hA3 => ?_
  have hA : A q' = none := by
    cases e : A q' with
    | none => rfl
    | some o => obtain ⟨o', e'⟩ := g2.dom q' o e; rw [hA2] at e'; cases e'
  have lx : xs.length = n := by rw [dqall_len kxs, List.length_replicate]
  refine s_setOwn (K := K) (xs := xs) (z := (free : Nat)) (j := free) (d := .int (scl fs : Nat)) rfl upd_same (d_var rfl (.int _)) (fun H' e => d_var rfl (.int _)) (by rw [lx]; exact ixN_nat hfree) R3 fun v5 A4 H4 g4 k5 R4 => ?_
  have g4' : Gr .non A H (upd A4 q' (.lst (xs.set free v5))) H4 := Gr.mut ((g2.trans g3).trans (g4.as rfl)) hA (R4.offO q' _ upd_same).1 (fun z => nomatch z)
  have e34 := g3.reg.trans g4.reg
  refine s_forZ (K := K) (ds := fs.map Q42.R) (es := (leads fs).map .int) (s_cons (d_var rfl (dq_ex e34 _ _ k1')) (s_cons (d_var rfl (dq_ex e34 _ _ k2')) s_nil)) lds R4
    (fun i σ' A' H' w => ∃ ys, (∃ y z, σ' = [some v, some v2, some (.int (free : Nat)), some (.int (n : Nat)), some (.int (scl fs : Nat)), y, z, some (.ref q')]) ∧ w q' = some (.lst ys) ∧ DqAll K H' ys ((kNums fs free n (fs.take i)).map .int) ∧ Gr .non A H A' H')
    (fun A' H' g => ⟨_, ⟨_, _, rfl⟩, upd_same, ?_, g4'.trans (g.as rfl)⟩) ?_ ?_
  · have := dqall_set (dqall_ex (g4.reg.trans g.reg) kxs) (dq_ex g.reg _ _ k5) free
    have e : ((kNums fs free n (fs.take 0)).map PyData.int) = (List.replicate n (PyData.int 0)).set free (.int (scl fs : Nat)) := by
      show ((List.replicate n 0).set free ((scl fs : Nat) : Int)).map PyData.int = _
      rw [List.map_set, List.map_replicate]
    rw [e]
    exact this
  · rintro H5 e1 i d e x y σ' A' A5 H' w hd he ⟨ys, ⟨_, _, rfl⟩, hw, kys, g0⟩ ex g ra kx ky
    obtain ⟨r, h1, h2, rfl⟩ := at_rows hd
    have ee := at_leads h1 he
    subst ee
    have hrl := hrr.len r h2
    have hl : lead r < n := hrr.nz r h2
    have hp : 0 < r.getD (lead r) 0 := hrr.pos r h2
    have ly : ys.length = n := by rw [dqall_len kys, List.length_map, kNums_len]
    have sc := scl_lt (b := b) (fs := fs) hsm
    have hd9 : b + 1 ≤ 9000 := by omega
    refine s_setOwn (K := K) (xs := ys) (z := (lead r : Nat)) (j := lead r) (d := .int (kVal fs free r)) rfl hw (d_op (d_un (d_op (d_var rfl kx) (d_var rfl (.int _)) (o_ixT (atI_ints (by omega)))) u_neg) (d_op (d_var rfl (.int _)) (d_op (d_var rfl kx) (d_var rfl ky) (o_ixT (atI_ints (by omega)))) (o_I (f := fun i j => i / j) (wide_div (b := b + 1) hp (Nat.lt_of_lt_of_le (sm_getD (hsm r h2) _) (Nat.pow_le_pow_right (by decide) (by omega))) (by omega) hd9))) (o_I (f := fun i j => i * j) (wide_mulS (a := b) (b := fs.length * b + 1) ?_ ?_ hb)))
      (fun H' e => d_var rfl (dq_ex e _ _ ky)) (by rw [ly]; exact ixN_nat hl) ra fun v6 A6 H6 g6 k6 R6 => ⟨H6, _, ⟨_, ⟨some x, some y, rfl⟩, upd_same, ?_, ?_⟩, ex.trans g6.reg, R6⟩
    · rw [Int.natAbs_neg]; exact sm_getD (hsm r h2) _
    · refine Nat.lt_of_le_of_lt (Int.natAbs_ediv_le_natAbs _ _) ?_
      rw [Int.natAbs_natCast]
      exact sc
    · rw [kNums_more h1, List.map_set]
      exact dqall_set (dqall_ex g6.reg kys) k6 _
    · exact Gr.mut ((g0.trans (g.as rfl)).trans (g6.as rfl)) hA (R6.offO q' _ upd_same).1 (fun z => nomatch z)
  · rintro σ' A' H' w ⟨ys, ⟨_, _, rfl⟩, hw, kys, g0⟩ ex ra
    rw [List.length_map, List.take_length] at kys
    have mH := (ra.offO q' _ hw).1
    have aA := ra.own q' _ hw
    have gk := g0.know hA mH aA
    refine Z.s_ret (d_call (K := K) (p := .non) (F := F_without_factor) (s_cons (d_var rfl (.lst upd_same (dqall_ex (Evl.Ex.new mH) kys))) s_nil) ⟨_, kNums fs free n fs, rfl, .inl rfl, by rw [kNums_len]; exact hn, (sm_kNums hsm fs hsm).mono (by omega), rfl⟩) (gk.to R) fun v7 A7 H7 g7 k7 => q _ _ _ (gk.trans g7) k7
end
end Q42
namespace Q42
open PySem PySem.Spec PyProof.Rows L2 Z
theorem op_notInK {X : Cx} {K : PySem.W.Frag} (h : X.K = K) : OpR X (compareOp .NotIn) (rIn K true) := h ▸ op_notIn_seq
section
variable {P : Program} {w : World} {K : PySem.W.Frag} {mg : Str → Option Value} {base : Heap}
abbrev s_kernel : Stmt := top 10
abbrev N_kernel : List Str := ["rows", "width", "found", "leading", "row", "place"]
theorem sc_kernel : FnScope N_kernel ["rows", "width"] (defScope s_kernel) := ⟨rfl, rfl, rfl, by decide +kernel, rfl, by decide +kernel, by decide +kernel⟩
def F_kernel : List PyData → PyData → Prop := fun ds d => ∃ (rows : List (List Int)) (n a : Nat), ds = [LR rows, .int (n : Nat)] ∧ n ≤ 60000 ∧ rows.length ≤ 1000 ∧ Ok n a rows ∧ Bb a rows.length + (rows.length * Bb a rows.length + 1) + 1 ≤ 9000 ∧ d = LR (kern rows n)
theorem dn_kernel (Hx : St K mg "kernel" s_kernel ["rows", "width"]) (B : Bs mg) (D1 : Dn P w K mg base CX0 5 "reduced" ["rows", "width"] (SpD K F_reduced)) (D2 : Dn P w K mg base CX0 1 "_first_place" ["row"] (SpD K F__first_place))
    (D3 : Dn P w K mg base CX0 2 "_kernel_row" ["found", "leading", "free", "width"] (SpD K F__kernel_row)) : Dn P w K mg base CX0 6 "kernel" ["rows", "width"] (SpD K F_kernel) := by
  refine dn_data 5 Hx sc_kernel (fun ds d h => by obtain ⟨x, r, _, rfl, _⟩ := h; rfl) fun f cdv A outer s H E hr => ⟨_, (pss_cons (ps_set (i := 2) sc_kernel.nd rfl (Or.inr rfl) (pe_cd D1 hr (by decide) rfl (pa_cons (pv 0) (pa_cons (pv 1) pa_nil))))
    (pss_cons (ps_set (i := 3) sc_kernel.nd rfl (Or.inr rfl) (pe_lc (own := [("row", 4)]) (g := gName 4) (tt := tYes) rfl sc_kernel.nd (pi_list (pv 2)) (blkOk_by (N := N_kernel) (sc := defScope s_kernel) (by decide +kernel)) (fun _ _ _ _ _ => (pg_name (i := 4) sc_kernel.nd rfl (Or.inl rfl))) (fun _ _ _ _ _ => pts_nil) (fun _ _ _ _ _ => (pe_cd D2 hr (by decide) rfl (pa_cons (pv 4) pa_nil)))))
    (pss_one (ps_ret (pe_lc (own := [("place", 5)]) (g := gName 5) rfl sc_kernel.nd (pi_range1 (by rfl) B.range (pa_cons (pv 1) pa_nil)) (blkOk_by (N := N_kernel) (sc := defScope s_kernel) (by decide +kernel)) (fun _ _ _ _ _ => (pg_name (i := 5) sc_kernel.nd rfl (Or.inl rfl))) (fun _ _ _ _ _ => (pts_one (pt_cmpR (op_notInK (K := K) rfl) (pv 5) (pv 3) rfl))) (fun _ _ _ _ _ => (pe_cd D3 hr (by decide) rfl (pa_cons (pv 2) (pa_cons (pv 3) (pa_cons (pv 5) (pa_cons (pv 1) pa_nil))))))))))), ?_⟩
  intro vs H A ds d Q R hk hF q
  obtain ⟨rows, n, a, rfl, hn, hl, hok, hB, rfl⟩ := hF
  obtain ⟨v, v2, rfl, k1, k2⟩ := dqall_two hk
  have kp := kp_all hok rows.length (Nat.le_refl _)
  rw [List.take_length] at kp
  have le := kp.le
  have mono := bb_mono a le
  refine q_asg (d_call (K := K) (F := F_reduced) (s_cons (d_var rfl k1) (s_cons (d_var rfl k2) s_nil)) ⟨rows, n, a, rfl, hn, hl, hok, by omega, rfl⟩) R fun z A1 H1 g1 kz => ?_
  have R1 := g1.to R
  have hq := d_lcL (K := K) (p := .non) (σ := [some v, some v2, some z, none, none, none]) (H := H1) (j := 4) (vs := [4]) (tl := tVar 2) (tt := tYes) (te := tCall (SpD K F__first_place) [] E0 (tCons (tVar 4) tNil)) (ds := (redM rows).map Q42.R) (fun _ => true) (fun c => .int (lead (unR c) : Nat)) (d_var rfl kz) (by rw [List.length_map]; omega) (fun x => rfl) (fun c hc x H1 e k => b_yes) (fun c hc' x H1 e k _ => by
      obtain ⟨r, hn, rfl⟩ := mem_rows hc'
      rw [unR_R]
      exact d_call (s_cons (d_var rfl k) s_nil) ⟨r, rfl, rfl⟩)
  rw [rows_lc1 fun x => .int (lead x : Nat)] at hq
  have e : ((redM rows).map fun x => PyData.int (lead x : Nat)) = (leads (redM rows)).map .int := by
    unfold leads
    rw [List.map_map]; rfl
  rw [e] at hq
  refine q_asg hq R1 fun y A2 H2 g2 ky => ?_
  have R2 := g2.to R1
  have kz2 := dq_ex g2.reg _ _ kz
  have kw := dq_ex (g1.reg.trans g2.reg) _ _ k2
  cases kw
  have h3 := d_lcR (K := K) (p := .non) (σ := [some v, some (.int (n : Nat)), some z, some y, none, none]) (H := H2) (j := 5) (vs := [5]) (ta := tCons (tVar 1) tNil) (tt := tTest (tOp (rIn K true) (tVar 5) (tVar 3))) (te := tCall (SpD K F__kernel_row) [] E0 (tCons (tVar 2) (tCons (tVar 3) (tCons (tVar 5) (tCons (tVar 1) tNil))))) (n := n) (fun j => !decide ((j : Int) ∈ leads (redM rows))) (fun j => Q42.R (kRow (redM rows) j n)) (s_cons (d_var rfl (.int _)) s_nil) (by omega) (fun x => rfl)
    (fun i hi H1 e => b_test (d_op (d_var rfl (.int _)) (d_var rfl (dq_ex e _ _ ky)) o_notIn))
    (fun i hi H1 e hf => d_call (s_cons (d_var rfl (dq_ex e _ _ kz2)) (s_cons (d_var rfl (dq_ex e _ _ ky)) (s_cons (d_var rfl (.int _)) (s_cons (d_var rfl (.int _)) s_nil)))) ⟨redM rows, i, n, Bb a rows.length, rfl, hn, by omega, kp.rr, fun o ho => (kp.sm o ho).mono mono, by
      have := Nat.mul_le_mul_right (Bb a rows.length) le
      omega, rfl⟩)
  refine Z.s_ret h3 R2 fun v7 A7 H7 g7 k7 => q _ _ _ ((g1.trans g2).trans g7) ?_
  unfold kern
  show Dq K H7 v7 (.list ((List.map _ _).map Q42.R))
  rw [List.map_map]
  exact k7
end
end Q42
namespace Q42
open PySem PySem.Spec PyProof.Rows L2 Z
section
variable {P : Program} {w : World} {K : PySem.W.Frag} {mg : Str → Option Value} {base : Heap}
abbrev s__law_take : Stmt := top 21
theorem sc__law_take : FnScope N_take ["_law_pool_here", "_law_wide"] (defScope s__law_take) := ⟨rfl, rfl, rfl, by decide +kernel, rfl, by decide +kernel, by decide +kernel⟩
theorem dn__law_take (Hx : St K mg "_law_take" s__law_take ["_law_pool_here", "_law_wide"]) (B : Bs mg) : Dn P w K mg base CX0 1 "_law_take" ["_law_pool_here", "_law_wide"] (takeS K) := by
  refine dn_of 0 Hx sc__law_take (fun vs H Q E h => by obtain ⟨_, _, _, _, rfl, _⟩ := h; rfl) fun f cdv A outer s H vs Q E hr h => ⟨_, (pss_cons (ps_if (pt_cmpR op_gt (pe_ix (ix_K (K := K) rfl) (pv 0) pe_int (fun _ _ => rfl)) pe_int (nomark _)) (pss_cons (ps_set (i := 2) sc__law_take.nd rfl (Or.inl rfl) (pe_op op_mod (pe_callTy call_int1 (by rfl) B.int (by decide +kernel) (pa_cons (pe_ix (ix_K (K := K) rfl) (pv 0) pe_int (fun _ _ => rfl)) pa_nil)) (pv 1)))
    (pss_cons (ps_asg (pe_op op_fdiv (pe_ix (ix_K (K := K) rfl) (pv 0) pe_int (fun _ _ => rfl)) (pv 1)) (pg_sub (pv 0) pe_int set_list))
    (pss_one (ps_ret (pv 2))))) pss_nil)
    (pss_cons (ps_asg (pe_op op_mod (pe_callTy call_int1 (by rfl) B.int (by decide +kernel) (pa_cons (pe_op op_add (pe_op op_mul (pe_ix (ix_K (K := K) rfl) (pv 0) pe_int (fun _ _ => rfl)) pe_int) pe_int) pa_nil)) pe_int) (pg_sub (pv 0) pe_int set_list))
    (pss_one (ps_ret (pe_op op_mod (pe_op op_fdiv (pe_op op_mod (pe_callTy call_int1 (by rfl) B.int (by decide +kernel) (pa_cons (pe_op op_mul (pe_ix (ix_K (K := K) rfl) (pv 0) pe_int (fun _ _ => rfl)) (pe_ix (ix_K (K := K) rfl) (pv 0) pe_int (fun _ _ => rfl))) pa_nil)) pe_int) pe_int) (pv 1)))))), ?_⟩
  obtain ⟨H0, q, own, m, rfl, R, h1, h2, k⟩ := h
  exact take_run R h1 h2 k
abbrev s__law_pool : Stmt := top 20
abbrev N__law_pool : List Str := ["_law_script", "_law_k", "_law_cell", "_law_heavy", "_law_blend", "_law_seed"]
theorem sc__law_pool : FnScope N__law_pool ["_law_script", "_law_k"] (defScope s__law_pool) := ⟨rfl, rfl, rfl, by decide +kernel, rfl, by decide +kernel, by decide +kernel⟩
theorem dn__law_pool (Hx : St K mg "_law_pool" s__law_pool ["_law_script", "_law_k"]) (B : Bs mg) : Dn P w K mg base CX0 1 "_law_pool" ["_law_script", "_law_k"] (poolS K) := by
  refine dn_of 0 Hx sc__law_pool (fun vs H Q E h => by obtain ⟨_, _, _, _, _, rfl, _⟩ := h; rfl) fun f cdv A outer s H vs Q E hr h => ⟨_, (pss_cons (ps_set (i := 2) sc__law_pool.nd rfl (Or.inl rfl) pe_int)
    (pss_cons (ps_if (pt_cmpR op_lt (pv 1) (pe_callB call_len_seq (by rfl) B.len (by decide +kernel) (pa_cons (pv 0) pa_nil)) (nomark _)) (pss_one (ps_set (i := 2) sc__law_pool.nd rfl (Or.inl rfl) (pe_ix (ix_K (K := K) rfl) (pv 0) (pv 1) (fun _ _ => rfl)))) pss_nil)
    (pss_cons (ps_set (i := 3) sc__law_pool.nd rfl (Or.inl rfl) (pe_callB call_abs (by rfl) B.abs (by decide +kernel) (pa_cons (pv 2) pa_nil)))
    (pss_cons (ps_set (i := 4) sc__law_pool.nd rfl (Or.inl rfl) (pe_op op_mod (pe_op op_mul (pe_callTy call_int1 (by rfl) B.int (by decide +kernel) (pa_cons (pe_op op_add (pe_op op_mod (pe_callTy call_int1 (by rfl) B.int (by decide +kernel) (pa_cons (pv 2) pa_nil)) pe_int) (pe_op op_mul pe_int (pe_op op_add (pv 1) pe_int))) pa_nil)) (pe_op op_add (pv 1) pe_int)) pe_int))
    (pss_cons (ps_set (i := 5) sc__law_pool.nd rfl (Or.inl rfl) (pe_op op_mod (pe_op op_mul (pe_op op_mod (pe_callTy call_int1 (by rfl) B.int (by decide +kernel) (pa_cons (pe_op op_mul (pv 4) (pv 4)) pa_nil)) pe_int) pe_int) pe_int))
    (pss_one (ps_ret (pe_lst (pa_cons (pe_op op_mul (pv 3) (pe_callTy call_int1 (by rfl) B.int (by decide +kernel) (pa_cons (pe_cmpR op_ge (pv 3) (pe_op op_pow pe_int pe_int) (nomark _)) pa_nil))) (pa_cons (pv 5) pa_nil)))))))))), ?_⟩
  obtain ⟨H0, sa, ns, k, R, rfl, k1, hk8, q⟩ := h
  refine q_asg (P := fun v H' => Dq K H' v (.int 0)) (d_int (K := K)) R fun u A1 H1 g1 ku => ?_
  cases ku
  have R1 := g1.to R
  have hl : ∀ {c : Int}, (0 : Int) ≤ (if c < 0 then -c else c) * (if decide ((10 : Int) ^ (18 : Int).toNat ≤ (if c < 0 then -c else c)) then 1 else 0) := fun {c} => by
    refine Int.mul_nonneg (by split <;> omega) ite01
  refine q_when (b_test (d_op (K := K) (d_var rfl (.int _)) (d_lenS rfl (sql_ex g1.reg k1)) o_lt)) R1
    (fun hb A2 H2 g2 => Z.s_asg (d_ixS (K := K) rfl (sql_ex (g1.reg.trans g2.reg) k1) (d_var rfl (.int _)) (n := ns.getD k 0) (atI_nat (by rw [List.getElem?_map, getD_at (by simpa using hb)]; rfl))) (g2.to R1) fun v3 A4 H4 g3 k3 => ?a) (fun hb A4 H4 g2 => ?b)
  case' a => cases k3; have gg := (g1.trans g2).trans g3
  case' b => have gg := g1.trans g2
  all_goals
    have R4 := gg.to R
    refine q_asg (d_cb (K := K) (s_cons (d_var rfl (.int _)) s_nil) c_abs) R4 fun v5 A5 H5 g5 k5 => ?_
    cases k5
    have R5 := g5.to R4
    refine q_asg (d_mods (d_op (K := K) (d_op (d_cb (s_cons (d_op (d_op (d_cb (s_cons (d_var rfl (.int _)) s_nil) c_int1) d_int (o_mod (by decide))) (d_op d_int (d_op (d_var rfl (.int _)) d_int o_add) (o_mul (.inl (by decide)))) o_add) s_nil) c_int1) (d_op (d_var rfl (.int _)) d_int o_add) (o_mul (.inr ⟨by omega, by omega⟩))) d_int (o_mod (by decide))) (by decide)) R5 fun v6 A6 H6 g6 k6 => ?_
    obtain ⟨b, rfl, b0, b1⟩ := k6
    have R6 := g6.to R5
    refine q_asg (d_mods (d_op (K := K) (d_op (d_op (d_cb (s_cons (d_op (d_var rfl (.int b)) (d_var rfl (.int b)) (o_mul (.inl ⟨by omega, by omega⟩))) s_nil) c_int1) d_int (o_mod (by decide))) d_int (o_mul (.inr (by decide)))) d_int (o_mod (by decide))) (by decide)) R6 fun v7 A7 H7 g7 k7 => ?_
    obtain ⟨sd, rfl, s0, s1⟩ := k7
    have R7 := g7.to R6
    refine s_retNew (K := K) (s_cons (d_op (d_var rfl (.int _)) (d_cb (s_cons (d_op (d_var rfl (.int _)) (d_op d_int d_int (o_I (C := CPow) (f := fun i j => i ^ j.toNat) ⟨by decide, by decide, by decide⟩)) o_ge) s_nil) c_intB) (o_mul ite01m)) (s_cons (d_var rfl (.int sd)) s_nil)) (by show 2 ≤ 100000; decide) R7 fun l vs A8 H8 g8 k8 n1 n2 n3 => ?_
    obtain ⟨x, y, rfl, kx, ky⟩ := dqall_two k8
    cases kx
    cases ky
    have g08 := (((gg.trans g5).trans g6).trans g7).trans g8
    refine q l _ _ _ H8 (g08.trans (Gr.allocM (g08.to R) n1)) ?_ n2 upd_same hl s0 s1
    cases e : H l with
    | none => rfl
    | some o => obtain ⟨o', e'⟩ := g08.dom l o e; rw [n1] at e'; cases e'
end
end Q42
namespace Q42
open PySem PySem.Spec PyProof.Rows L2 Z
section
variable {P : Program} {w : World} {K : PySem.W.Frag} {mg : Str → Option Value} {base : Heap}
abbrev s__law_thin : Stmt := top 22
abbrev N__law_thin : List Str := ["_law_row", "_law_most", "_law_value", "_law_one", "_law_other"]
theorem sc__law_thin : FnScope N__law_thin ["_law_row"] (defScope s__law_thin) := ⟨rfl, rfl, rfl, by decide +kernel, rfl, by decide +kernel, by decide +kernel⟩
def F__law_thin : List PyData → PyData → Prop := fun ds d => ∃ r : List Int, ds = [L r] ∧ r.length ≤ 60000 ∧ Sm 9000 r ∧ d = L (thin r)
theorem dn__law_thin (Hx : St K mg "_law_thin" s__law_thin ["_law_row"]) (B : Bs mg) : Dn P w K mg base CX0 1 "_law_thin" ["_law_row"] (SpD K F__law_thin) := by
  refine dn_data 0 Hx sc__law_thin (fun ds d h => by obtain ⟨x, rfl, _⟩ := h; rfl) fun f cdv A outer s H E hr => ⟨_, (pss_cons (ps_set (i := 1) sc__law_thin.nd rfl (Or.inr rfl) pe_int)
    (pss_cons (ps_for PassesOwn.never rfl (pi_list (pv 0)) (pg_name (i := 2) sc__law_thin.nd rfl (Or.inl rfl)) (pss_cons (ps_par (i := 3) (j := 4) (by rfl) sc__law_thin.nd rfl rfl (by decide) rfl rfl (pa_cons (pv 1) (pa_cons (pe_callB call_abs (by rfl) B.abs (by decide +kernel) (pa_cons (pv 2) pa_nil)) pa_nil)) (by rfl))
    (pss_cons (ps_while PassesOwn.never (pt_cmpR op_ne (pv 4) pe_int (nomark _)) (pss_one (ps_par (i := 3) (j := 4) (by rfl) sc__law_thin.nd rfl rfl (by decide) rfl rfl (pa_cons (pv 4) (pa_cons (pe_op op_mod (pe_callTy call_int1 (by rfl) B.int (by decide +kernel) (pa_cons (pv 3) pa_nil)) (pv 4)) pa_nil)) (by rfl))))
    (pss_one (ps_set (i := 1) sc__law_thin.nd rfl (Or.inr rfl) (pv 3))))))
    (pss_one (ps_ret (pe_ifExp (pt_cmpR op_gt (pv 1) pe_int (nomark _)) (pe_lc (own := [("_law_value", 2)]) (g := gName 2) (tt := tYes) rfl sc__law_thin.nd (pi_list (pv 0)) (blkOk_by (N := N__law_thin) (sc := defScope s__law_thin) (by decide +kernel)) (fun _ _ _ _ _ => (pg_name (i := 2) sc__law_thin.nd rfl (Or.inl rfl))) (fun _ _ _ _ _ => pts_nil) (fun _ _ _ _ _ => (pe_op op_fdivW (pv 2) (pv 1)))) (pv 0)))))), ?_⟩
  intro vs H A ds d Q R hk hF q
  obtain ⟨r, rfl, hlr, hs, rfl⟩ := hF
  obtain ⟨v, rfl, k1⟩ := dqall_one hk
  refine q_asg (P := fun v H' => Dq K H' v (.int 0)) (d_int (K := K)) R fun u A1 H1 g1 ku => ?_
  cases ku
  have kx1 := dq_ex g1.reg _ _ k1
  refine s_forL (K := K) (ds := r.map .int) (d_var rfl kx1) (g1.to R) (fun i σ' A' H' w => (∃ x y z, σ' = [some v, some (.int (content (r.take i) : Nat)), x, y, z]) ∧ w = Me.non.own ∧ Gr .non A H A' H') (fun _ _ g => ⟨⟨_, _, _, rfl⟩, rfl, g1.trans g⟩) ?_ ?_
  · rintro H2 e1 i d x' σ' A' H' w hi ⟨⟨x, y, z, rfl⟩, rfl, g0⟩ e ra kx
    obtain ⟨n, h1, rfl⟩ := at_ints hi
    refine q_par (s_cons (K := K) (d_var rfl (.int _)) (s_cons (d_cb (s_cons (d_var rfl kx) s_nil) c_abs) s_nil)) ra fun a b A3 H3 g3 ka kb => ?_
    cases ka
    cases kb
    have eb : (if n < 0 then -n else n) = ((n.natAbs : Nat) : Int) := by split <;> omega
    rw [eb]
    refine s_while (fun m σ' A' H' w => (∃ a b : Nat, Nat.gcd a b = content (r.take (i + 1)) ∧ m = b ∧ σ' = [some v, some (.int (content (r.take i) : Nat)), some x', some (.int (a : Nat)), some (.int (b : Nat))]) ∧ w = Me.non.own ∧ Gr .non A H A' H') n.natAbs ⟨⟨_, _, (content_more h1).symm, rfl, rfl⟩, rfl, g0.trans g3⟩ (g3.to ra) ?_
    rintro m σ' A4 H4 w ⟨⟨a, b, hg, rfl, rfl⟩, rfl, g4⟩ e4 R4
    refine ⟨_, b_test (d_op (K := K) (d_var rfl (.int _)) d_int o_neI), fun hb A5 H5 g5 => ⟨_, fun _ _ h => h, ?_⟩, fun hb A5 H5 g5 => ?_⟩
    · have b0 : 0 < m := by
        have : ¬ ((m : Int) = 0) := by simpa using hb
        omega
      refine s_par (s_cons (K := K) (d_var rfl (.int (m : Nat))) (s_cons (d_op (d_cb (s_cons (d_var rfl (.int (a : Nat))) s_nil) c_int1) (d_var rfl (.int (m : Nat))) (o_mod (by omega))) s_nil)) (g5.to R4) fun x2 y2 A6 H6 g6 kx2 ky2 => ?_
      cases kx2
      cases ky2
      refine ⟨a % m, Nat.mod_lt _ b0, H6, _, ⟨⟨m, a % m, ?_, rfl, rfl⟩, rfl, (g4.trans g5).trans g6⟩, (e4.trans g5.reg).trans g6.reg, g6.to (g5.to R4)⟩
      rw [← hg, Nat.gcd_comm m, ← Nat.gcd_rec, Nat.gcd_comm]
    · have b0 : m = 0 := by
        have : (m : Int) = 0 := by simpa using hb
        omega
      subst b0
      rw [Nat.gcd_zero_right] at hg
      subst hg
      exact Z.s_asg (d_var (K := K) rfl (.int _)) (g5.to R4) fun v6 A6 H6 g6 k6 => ⟨H6, _, ⟨⟨_, _, _, by cases k6; rfl⟩, rfl, (g4.trans g5).trans g6⟩, ((e.trans g3.reg).trans (e4.trans g5.reg)).trans g6.reg, g6.to (g5.to R4)⟩
  · rintro σ' A' H' w ⟨⟨x, y, z, rfl⟩, rfl, g⟩ e ra
    rw [List.length_map, List.take_length]
    have kx' := dq_ex e _ _ kx1
    have ht : EvB .non (tTest (tOp (rI0 fun i j => .bl (decide (j < i))) (tVar 1) (tC (.int 1)))) [some v, some (.int (content r : Nat)), x, y, z] H' (decide (1 < (content r : Int))) := b_test (d_op (K := K) (d_var rfl (.int _)) d_int o_gt)
    refine Z.s_ret (d_if (K := K) (d := L (thin r)) ht (fun hb => ?_) (fun hb => ?_)) ra fun v4 A4 H4 g4 k4 => q _ _ _ (g.trans g4) k4
    · have hc : ¬ (content r : Int) < 2 := by
        have : 1 < (content r : Int) := by simpa using hb
        omega
      have hq := d_lcL (K := K) (p := .non) (σ := [some v, some (.int (content r : Nat)), x, y, z]) (H := H') (j := 2) (vs := [2]) (tl := tVar 0) (tt := tYes) (te := tOp (rI CDivW fun i j => .int (i / j)) (tVar 2) (tVar 1)) (ds := r.map .int) (fun _ => true) (onI fun n => .int (n / (content r : Int))) (d_var rfl kx') (by simpa using hlr) (fun x => rfl) (fun c hc x H1 e k => b_yes) (fun c hc' x H1 e k _ => by
        obtain ⟨n, hn, rfl⟩ := mem_ints hc'
        exact d_op (d_var rfl k) (d_var rfl (.int _)) (o_I (f := fun i j => i / j) (wide_div (b := 9000) (by omega) (by rw [Int.natAbs_natCast]; exact content_lt hs) (by decide) (by decide))))
      rw [map_onI] at hq
      unfold thin
      rw [if_neg hc]
      show EvD K .non _ _ H' (.list ((r.map fun n => n / (content r : Int)).map .int))
      rw [List.map_map]
      exact hq
    · have hc : (content r : Int) < 2 := by
        have : ¬ 1 < (content r : Int) := by simpa using hb
        omega
      unfold thin
      rw [if_pos hc]
      exact d_var rfl kx'
end
end Q42
/-! leads of a span, their number -/
namespace Q42
def Lead (S : List (List Int)) (j : Nat) : Prop := ∃ v, In S v ∧ v j ≠ 0 ∧ ∀ i, i < j → v i = 0
open Classical in
noncomputable def cnt (S : List (List Int)) : Nat → Nat
  | 0 => 0
  | n + 1 => cnt S n + if Lead S n then 1 else 0
theorem cnt_yes {S : List (List Int)} {n : Nat} (h : Lead S n) : cnt S (n + 1) = cnt S n + 1 := by
  show cnt S n + @ite Nat (Lead S n) (Classical.propDecidable _) 1 0 = _
  rw [if_pos h]
theorem cnt_no {S : List (List Int)} {n : Nat} (h : ¬ Lead S n) : cnt S (n + 1) = cnt S n := by
  show cnt S n + @ite Nat (Lead S n) (Classical.propDecidable _) 1 0 = _
  rw [if_neg h]; rfl
theorem cnt_congr {S T : List (List Int)} {n : Nat} (h : ∀ j, j < n → (Lead S j ↔ Lead T j)) : cnt S n = cnt T n := by
  induction n with
  | zero => rfl
  | succ n ih =>
    have e := ih fun j hj => h j (Nat.lt_succ_of_lt hj)
    by_cases c : Lead S n
    · rw [cnt_yes c, cnt_yes ((h n (Nat.lt_succ_self n)).mp c), e]
    · rw [cnt_no c, cnt_no (fun q => c ((h n (Nat.lt_succ_self n)).mpr q)), e]
theorem cnt_none {S : List (List Int)} {n : Nat} (h : ∀ j, j < n → ¬ Lead S j) : cnt S n = 0 := by
  induction n with
  | zero => rfl
  | succ n ih => rw [cnt_no (h n (Nat.lt_succ_self n)), ih fun j hj => h j (Nat.lt_succ_of_lt hj)]
theorem cnt_stay {S : List (List Int)} {m n : Nat} (h : ∀ j, m ≤ j → j < n → ¬ Lead S j) (hm : m ≤ n) : cnt S n = cnt S m := by
  induction n with
  | zero => rw [Nat.le_zero.mp hm]
  | succ n ih =>
    by_cases c : m = n + 1
    · rw [c]
    · rw [cnt_no (h n (by omega) (by omega))]
      exact ih (fun j h1 h2 => h j h1 (by omega)) (by omega)
theorem cnt_insert {S T : List (List Int)} {a n : Nat} (h : ∀ j, j < n → (Lead S j ↔ j = a ∨ Lead T j)) (ha : a < n) (hT : ¬ Lead T a) : cnt S n = cnt T n + 1 := by
  induction n with
  | zero => omega
  | succ n ih =>
    by_cases c : a = n
    · subst c
      have e : cnt S a = cnt T a := cnt_congr fun j hj => by
        have := h j (Nat.lt_succ_of_lt hj)
        constructor
        · intro q; exact (this.mp q).resolve_left (by omega)
        · intro q; exact this.mpr (.inr q)
      rw [cnt_yes ((h a (Nat.lt_succ_self a)).mpr (.inl rfl)), cnt_no hT, e]
    · have e := ih (fun j hj => h j (Nat.lt_succ_of_lt hj)) (by omega)
      by_cases d : Lead T n
      · rw [cnt_yes ((h n (Nat.lt_succ_self n)).mpr (.inr d)), cnt_yes d, e]
      · rw [cnt_no (fun q => ((h n (Nat.lt_succ_self n)).mp q).elim (fun z => c z.symm) d), cnt_no d, e]
theorem in_nil {v : Nat → Int} (h : In [] v) (i : Nat) : v i = 0 := by
  induction h with
  | zero => rfl
  | row h => cases h
  | add _ _ a b => show _ + _ = (0 : Int); rw [a, b]; rfl
  | smul c _ a => show c * _ = (0 : Int); rw [a]; simp
  | unscale hc _ a => exact (Int.mul_eq_zero.mp a).resolve_left hc
theorem in_low {S : List (List Int)} {v : Nat → Int} {i : Nat} (hS : ∀ x ∈ S, vec x i = 0) (h : In S v) : v i = 0 := by
  induction h with
  | zero => rfl
  | row h => exact hS _ h
  | add _ _ a b => show _ + _ = (0 : Int); rw [a, b]; rfl
  | smul c _ a => show c * _ = (0 : Int); rw [a]; simp
  | unscale hc _ a => exact (Int.mul_eq_zero.mp a).resolve_left hc
/-- a column is cleared by f -/
theorem elim_in {X X' : List (List Int)} {f : List Int} {a : Nat} (hX : ∀ x ∈ X, x = f ∨ ∃ x' ∈ X', ∃ c : Int, ∀ i, vec f a * vec x i - vec x a * vec f i = c * vec x' i) {v : Nat → Int} (h : In X v) :
    In X' fun i => vec f a * v i - v a * vec f i := by
  induction h with
  | zero => exact In.zero.of fun i => by simp
  | row h =>
    rcases hX _ h with e | ⟨x', h1, c, h2⟩
    · rw [e]; exact In.zero.of fun i => by grind
    · exact (In.smul c (.row h1)).of fun i => (h2 i).symm
  | add _ _ p q => exact (In.add p q).of fun i => by grind
  | smul c _ p => exact (In.smul c p).of fun i => by grind
  | unscale hc _ p => exact In.of_mul hc p fun i => by grind
theorem elim_zero {X X' : List (List Int)} {f : List Int} {a : Nat} (hf : vec f a ≠ 0) (hX : ∀ x ∈ X, x = f ∨ ∃ x' ∈ X', ∃ c : Int, ∀ i, vec f a * vec x i - vec x a * vec f i = c * vec x' i) {v : Nat → Int} (h : In X v) (hv : v a = 0) : In X' v :=
  In.of_mul hf (elim_in hX h) fun i => by rw [hv]; simp
/-! reduced rows: the leads of their span are their leads -/
theorem lead_of {n : Nat} {fs : List (List Int)} (h : Rr n fs) : ∀ (l : List (List Int)) (v : Nat → Int) (j : Nat), (∀ x ∈ l, x ∈ fs) → (l.Pairwise fun x y => lead x < lead y) → In l v → v j ≠ 0 → (∀ i, i < j → v i = 0) → ∃ x ∈ l, lead x = j
  | [], v, j, _, _, hv, hj, _ => absurd (in_nil hv j) hj
  | r :: l, v, j, hl, hp, hv, hj, h0 => by
    have hr := hl r (List.mem_cons_self ..)
    by_cases c : lead r = j
    · exact ⟨r, List.mem_cons_self .., c⟩
    · have hd := h.pos r hr
      obtain ⟨hp1, hp2⟩ := List.pairwise_cons.mp hp
      have w := elim_in (X := r :: l) (X' := l) (f := r) (a := lead r) (fun x hx => by
        rcases List.mem_cons.mp hx with e | hx
        · exact .inl e
        · refine .inr ⟨x, hx, vec r (lead r), fun i => ?_⟩
          have := hp1 x hx
          rw [h.zero r hr x (hl x (List.mem_cons_of_mem _ hx)) (by omega)]
          simp) hv
      have same : ∀ i, i ≤ j → vec r (lead r) * v i - v (lead r) * vec r i = vec r (lead r) * v i := fun i hi => by
        by_cases c2 : lead r < j
        · rw [h0 _ c2]; simp
        · rw [show vec r i = 0 from vec_lead_zero (by omega)]; simp
      obtain ⟨x, hx, e⟩ := lead_of h l _ j (fun x hx => hl x (List.mem_cons_of_mem _ hx)) hp2 w (by
        show vec r (lead r) * v j - v (lead r) * vec r j ≠ 0
        rw [same j (Nat.le_refl j)]
        exact Int.mul_ne_zero (by omega) hj) (fun i hi => by
        show vec r (lead r) * v i - v (lead r) * vec r i = 0
        rw [same i (Nat.le_of_lt hi), h0 i hi]; simp)
      exact ⟨x, List.mem_cons_of_mem _ hx, e⟩
theorem lead_iff {n : Nat} {fs : List (List Int)} (h : Rr n fs) (j : Nat) : Lead fs j ↔ ∃ x ∈ fs, lead x = j := by
  constructor
  · rintro ⟨v, h1, h2, h3⟩
    exact lead_of h fs v j (fun x q => q) h.srt h1 h2 h3
  · rintro ⟨x, hx, rfl⟩
    have := h.pos x hx
    exact ⟨vec x, .row hx, by omega, fun i hi => vec_lead_zero hi⟩
/-- how many of range n are in a list without repeats -/
theorem count_in : ∀ (l : List Nat) (n : Nat), l.Nodup → (∀ x ∈ l, x < n) → ((List.range n).filter fun j => decide (j ∈ l)).length = l.length
  | l, 0, _, h => by
    cases l with
    | nil => rfl
    | cons x l => exact absurd (h x (List.mem_cons_self ..)) (Nat.not_lt_zero x)
  | l, n + 1, hn, h => by
    rw [List.range_succ, List.filter_append, List.length_append]
    by_cases c : n ∈ l
    · have ih := count_in (l.erase n) n (hn.erase n) fun x hx => by
        have h1 := h x (List.mem_of_mem_erase hx)
        have h2 : x ≠ n := fun e => by
          rw [e] at hx
          exact (List.Nodup.not_mem_erase hn) hx
        omega
      have e : ((List.range n).filter fun j => decide (j ∈ l)) = (List.range n).filter fun j => decide (j ∈ l.erase n) := by
        refine List.filter_congr fun j hj => ?_
        have hj' : j ≠ n := Nat.ne_of_lt (List.mem_range.mp hj)
        exact decide_eq_decide.mpr (List.mem_erase_of_ne hj').symm
      have le := List.length_erase_of_mem c
      have pos := List.length_pos_of_mem c
      rw [e, ih, le]
      simp [c]
      omega
    · have ih := count_in l n hn fun x hx => by
        have h1 := h x hx
        have h2 : x ≠ n := fun e => c (e ▸ hx)
        omega
      rw [ih]
      simp [c]
theorem cnt_filter {S : List (List Int)} {l : List Nat} {n : Nat} (h : ∀ j, j < n → (Lead S j ↔ j ∈ l)) : cnt S n = ((List.range n).filter fun j => decide (j ∈ l)).length := by
  induction n with
  | zero => rfl
  | succ n ih =>
    have e := ih fun j hj => h j (Nat.lt_succ_of_lt hj)
    have hn := h n (Nat.lt_succ_self n)
    rw [List.range_succ, List.filter_append, List.length_append]
    by_cases c : n ∈ l
    · rw [cnt_yes (hn.mpr c), e]; simp [c]
    · rw [cnt_no (fun q => c (hn.mp q)), e]; simp [c]
theorem srt_nodup : ∀ {fs : List (List Int)}, (fs.Pairwise fun x y => lead x < lead y) → (fs.map lead).Nodup
  | [], _ => .nil
  | r :: fs, h => by
    obtain ⟨h1, h2⟩ := List.pairwise_cons.mp h
    refine List.nodup_cons.mpr ⟨fun q => ?_, srt_nodup h2⟩
    obtain ⟨x, hx, e⟩ := List.mem_map.mp q
    have := h1 x hx
    omega
theorem cnt_rr {n : Nat} {fs : List (List Int)} (h : Rr n fs) : cnt fs n = fs.length := by
  have hl : ∀ j, j < n → (Lead fs j ↔ j ∈ fs.map lead) := fun j _ => by
    rw [lead_iff h, List.mem_map]
  rw [cnt_filter hl, count_in (fs.map lead) n (srt_nodup h.srt) (fun x hx => by
    obtain ⟨y, hy, rfl⟩ := List.mem_map.mp hx
    exact h.nz y hy), List.length_map]
theorem span_red {n a : Nat} {rows : List (List Int)} (h : Ok n a rows) (v : Nat → Int) : In rows v ↔ In (redM rows) v := by
  have k := kp_all h rows.length (Nat.le_refl _)
  rw [List.take_length] at k
  exact ⟨fun q => q.trans (k.back _ fun o ho => .row ho), fun q => q.trans (k.into _ fun o ho => .row ho)⟩
theorem cnt_rows {n a : Nat} {rows : List (List Int)} (h : Ok n a rows) : cnt rows n = (redM rows).length := by
  have k := kp_all h rows.length (Nat.le_refl _)
  rw [List.take_length] at k
  rw [← cnt_rr k.rr]
  refine cnt_congr fun j _ => ?_
  unfold Lead
  constructor
  · rintro ⟨v, h1, h2⟩; exact ⟨v, (span_red h v).mp h1, h2⟩
  · rintro ⟨v, h1, h2⟩; exact ⟨v, (span_red h v).mpr h1, h2⟩
end Q42
/-! rows with places of their own; the kernel's rows -/
namespace Q42
theorem piv {n : Nat} : ∀ (k : Nat) (J : List Nat) (ρ : Nat → List Int) (a : Nat), n - a = k → a ≤ n → J.Nodup → (∀ j ∈ J, (ρ j).length = n) → (∀ j ∈ J, vec (ρ j) j ≠ 0) → (∀ i ∈ J, ∀ j ∈ J, i ≠ j → vec (ρ i) j = 0) → (∀ j ∈ J, ∀ i, i < a → vec (ρ j) i = 0) → cnt (J.map ρ) n = J.length
  | 0, J, ρ, a, hk, ha, _, hl, hp, _, h0 => by
    have e : J = [] := by
      cases J with
      | nil => rfl
      | cons j J =>
        have hj : j ∈ j :: J := List.mem_cons_self ..
        have h1 := hp j hj
        by_cases c : j < a
        · exact absurd (h0 j hj j c) h1
        · exact absurd (vec_beyond (by rw [hl j hj]; omega)) h1
    subst e
    exact cnt_none fun j _ => fun ⟨v, h1, h2, _⟩ => h2 (in_nil h1 j)
  | k + 1, J, ρ, a, hk, ha, hn, hl, hp, hz, h0 => by
    by_cases c : ∃ j0, j0 ∈ J ∧ vec (ρ j0) a ≠ 0
    · obtain ⟨j0, hj0, hf⟩ := c
      let ρ' : Nat → List Int := fun j => comb (ρ j) (ρ j0) ((ρ j0).getD a 0) ((ρ j).getD a 0)
      have hv : ∀ j ∈ J, ∀ i, vec (ρ' j) i = vec (ρ j) i * vec (ρ j0) a - vec (ρ j) a * vec (ρ j0) i := fun j hj i => comb_vec (by rw [hl j hj, hl j0 hj0]; exact Nat.le_refl _) _ _ i
      have mem : ∀ j, j ∈ J.erase j0 → j ∈ J ∧ j ≠ j0 := fun j hj => ⟨List.mem_of_mem_erase hj, fun e => List.Nodup.not_mem_erase hn (e ▸ hj)⟩
      have ih := piv (n := n) k (J.erase j0) ρ' (a + 1) (by omega) (by omega) (hn.erase j0) (fun j hj => by
          show (comb _ _ _ _).length = n
          rw [comb_len, hl j (mem j hj).1]) (fun j hj => by
          obtain ⟨h1, h2⟩ := mem j hj
          rw [hv j h1, hz j0 hj0 j h1 (Ne.symm h2)]
          have := Int.mul_ne_zero (hp j h1) hf
          simpa using this) (fun i hi j hj hij => by
          obtain ⟨h1, h2⟩ := mem i hi
          obtain ⟨h3, h4⟩ := mem j hj
          rw [hv i h1, hz i h1 j h3 hij, hz j0 hj0 j h3 (Ne.symm h4)]
          simp) (fun j hj i hi => by
          obtain ⟨h1, h2⟩ := mem j hj
          rw [hv j h1]
          by_cases e : i = a
          · rw [e]; grind
          · rw [h0 j h1 i (by omega), h0 j0 hj0 i (by omega)]; simp)
      have low : ∀ j ∈ J.erase j0, vec (ρ' j) a = 0 := fun j hj => by
        rw [hv j (mem j hj).1]; grind
      have up : ∀ v, In ((J.erase j0).map ρ') v → In (J.map ρ) v := fun v h => h.trans fun r hr => by
        obtain ⟨j, hj, rfl⟩ := List.mem_map.mp hr
        obtain ⟨h1, h2⟩ := mem j hj
        exact (In.lin (vec (ρ j0) a) (-vec (ρ j) a) (.row (List.mem_map.mpr ⟨j, h1, rfl⟩)) (.row (List.mem_map.mpr ⟨j0, hj0, rfl⟩))).of fun i => by
          rw [hv j h1]; grind
      rw [cnt_insert (S := J.map ρ) (T := (J.erase j0).map ρ') (a := a) (n := n) ?_ (by omega) ?_, ih, List.length_erase_of_mem hj0]
      · have := List.length_pos_of_mem hj0
        omega
      · intro j _
        constructor
        · rintro ⟨v, h1, h2, h3⟩
          by_cases e : j = a
          · exact .inl e
          · refine .inr ?_
            have lowv : ∀ i, i < a → v i = 0 := fun i hi => in_low (fun x hx => by
              obtain ⟨j, hj, rfl⟩ := List.mem_map.mp hx
              exact h0 j hj i hi) h1
            have hja : a < j := by
              by_cases q : j < a
              · exact absurd (lowv j q) h2
              · omega
            refine ⟨v, elim_zero (X := J.map ρ) (f := ρ j0) (a := a) hf (fun x hx => ?_) h1 (h3 a hja), h2, h3⟩
            obtain ⟨j, hj, rfl⟩ := List.mem_map.mp hx
            by_cases q : j = j0
            · exact .inl (by rw [q])
            · exact .inr ⟨ρ' j, List.mem_map.mpr ⟨j, (List.mem_erase_of_ne q).mpr hj, rfl⟩, 1, fun i => by rw [hv j hj]; grind⟩
        · rintro (e | ⟨v, h1, h2, h3⟩)
          · rw [e]
            exact ⟨vec (ρ j0), .row (List.mem_map.mpr ⟨j0, hj0, rfl⟩), hf, fun i hi => h0 j0 hj0 i hi⟩
          · exact ⟨v, up v h1, h2, h3⟩
      · rintro ⟨v, h1, h2, _⟩
        exact h2 (in_low (fun x hx => by
          obtain ⟨j, hj, rfl⟩ := List.mem_map.mp hx
          exact low j hj) h1)
    · exact piv (n := n) k J ρ (a + 1) (by omega) (by omega) hn hl hp hz fun j hj i hi => by
        by_cases e : i = a
        · rw [e]
          exact Classical.byContradiction fun q => c ⟨j, hj, q⟩
        · exact h0 j hj i (by omega)
/-! the kernel's rows -/
theorem vec_set {r : List Int} {p : Nat} {x : Int} (i : Nat) (hp : p < r.length) : vec (r.set p x) i = if p = i then x else vec r i := by
  by_cases c : p = i
  · subst c
    simp [vec, List.getD, hp]
  · simp [vec, List.getD, c, List.getElem?_set]
theorem fold_at {fs : List (List Int)} {j n : Nat} : ∀ (l : List (List Int)) (acc : List Int), acc.length = n → (∀ x ∈ l, lead x < n) → (l.Pairwise fun x y => lead x < lead y) →
    (∀ x ∈ l, vec (l.foldl (fun acc r => acc.set (lead r) (kVal fs j r)) acc) (lead x) = kVal fs j x) ∧ ∀ i, (∀ x ∈ l, lead x ≠ i) → vec (l.foldl (fun acc r => acc.set (lead r) (kVal fs j r)) acc) i = vec acc i
  | [], acc, _, _, _ => ⟨(fun x h => nomatch h), fun i _ => rfl⟩
  | r :: l, acc, ha, hl, hp => by
    obtain ⟨p1, p2⟩ := List.pairwise_cons.mp hp
    have hr := hl r (List.mem_cons_self ..)
    obtain ⟨h1, h2⟩ := fold_at l (acc.set (lead r) (kVal fs j r)) (by rw [List.length_set, ha]) (fun x hx => hl x (List.mem_cons_of_mem _ hx)) p2
    refine ⟨fun x hx => ?_, fun i hi => ?_⟩
    · rcases List.mem_cons.mp hx with e | hx
      · rw [e, List.foldl_cons, h2 (lead r) (fun y hy => by have := p1 y hy; omega), vec_set _ (by rw [ha]; exact hr), if_pos rfl]
      · exact h1 x hx
    · rw [List.foldl_cons, h2 i (fun y hy => hi y (List.mem_cons_of_mem _ hy)), vec_set _ (by rw [ha]; exact hr), if_neg (hi r (List.mem_cons_self ..))]
theorem scl_dvd : ∀ (l : List (List Int)) (s : Nat), s ∣ l.foldl (fun s r => Nat.lcm s (r.getD (lead r) 0).natAbs) s ∧ ∀ x ∈ l, (x.getD (lead x) 0).natAbs ∣ l.foldl (fun s r => Nat.lcm s (r.getD (lead r) 0).natAbs) s
  | [], s => ⟨Nat.dvd_refl s, (fun x h => nomatch h)⟩
  | r :: l, s => by
    obtain ⟨h1, h2⟩ := scl_dvd l (Nat.lcm s (r.getD (lead r) 0).natAbs)
    refine ⟨Nat.dvd_trans (Nat.dvd_lcm_left _ _) h1, fun x hx => ?_⟩
    rcases List.mem_cons.mp hx with e | hx
    · rw [e]; exact Nat.dvd_trans (Nat.dvd_lcm_right _ _) h1
    · exact h2 x hx
theorem scl_ne : ∀ (l : List (List Int)) (s : Nat), s ≠ 0 → (∀ x ∈ l, 0 < vec x (lead x)) → l.foldl (fun s r => Nat.lcm s (r.getD (lead r) 0).natAbs) s ≠ 0
  | [], s, h, _ => h
  | r :: l, s, h, hp => scl_ne l _ (Nat.lcm_ne_zero h (by
      have : 0 < r.getD (lead r) 0 := hp r (List.mem_cons_self ..)
      omega)) fun x hx => hp x (List.mem_cons_of_mem _ hx)
section
variable {n : Nat} {fs : List (List Int)} (h : Rr n fs)
include h
theorem nums_lead {j : Nat} {x : List Int} (hx : x ∈ fs) : vec (kNums fs j n fs) (lead x) = -(vec x j) * ((scl fs : Int) / vec x (lead x)) :=
  (fold_at (fs := fs) (j := j) (n := n) fs _ (by simp) h.nz h.srt).1 x hx
theorem nums_free {j : Nat} (hj : j < n) (hf : ∀ x ∈ fs, lead x ≠ j) : vec (kNums fs j n fs) j = (scl fs : Int) := by
  have := (fold_at (fs := fs) (j := j) (n := n) fs ((List.replicate n 0).set j (scl fs)) (by simp) h.nz h.srt).2 j hf
  refine this.trans ?_
  rw [vec_set _ (by simpa using hj), if_pos rfl]
theorem nums_other {j i : Nat} (hj : j < n) (hi : i ≠ j) (hf : ∀ x ∈ fs, lead x ≠ i) : vec (kNums fs j n fs) i = 0 := by
  have := (fold_at (fs := fs) (j := j) (n := n) fs ((List.replicate n 0).set j (scl fs)) (by simp) h.nz h.srt).2 i hf
  refine this.trans ?_
  rw [vec_set _ (by simpa using hj), if_neg (Ne.symm hi)]
  simp [vec, List.getD, List.getElem?_replicate]
  split <;> rfl
end
def sumF (f : Nat → Int) : Nat → Int
  | 0 => 0
  | n + 1 => sumF f n + f n
theorem sum_range (f : Nat → Int) : ∀ n, ((List.range n).map f).sum = sumF f n
  | 0 => rfl
  | n + 1 => by rw [List.range_succ, List.map_append, List.sum_append, sum_range f n]; simp [sumF]
theorem sumF_zero {f : Nat → Int} : ∀ {n : Nat}, (∀ i, i < n → f i = 0) → sumF f n = 0
  | 0, _ => rfl
  | n + 1, h => by
    show sumF f n + f n = 0
    rw [sumF_zero fun i hi => h i (Nat.lt_succ_of_lt hi), h n (Nat.lt_succ_self n)]; rfl
theorem sumF_one {f : Nat → Int} {a : Nat} : ∀ {n : Nat}, a < n → (∀ i, i < n → i ≠ a → f i = 0) → sumF f n = f a
  | 0, h, _ => absurd h (Nat.not_lt_zero _)
  | n + 1, ha, h => by
    show sumF f n + f n = f a
    by_cases c : a = n
    · rw [c, sumF_zero fun i hi => h i (Nat.lt_succ_of_lt hi) (by omega)]; simp
    · rw [sumF_one (n := n) (by omega) fun i hi => h i (Nat.lt_succ_of_lt hi), h n (Nat.lt_succ_self n) (Ne.symm c)]; simp
theorem sumF_two {f : Nat → Int} {a b : Nat} (hab : a ≠ b) : ∀ {n : Nat}, a < n → b < n → (∀ i, i < n → i ≠ a → i ≠ b → f i = 0) → sumF f n = f a + f b
  | 0, h, _, _ => absurd h (Nat.not_lt_zero _)
  | n + 1, ha, hb, h => by
    show sumF f n + f n = f a + f b
    by_cases c : a = n
    · rw [sumF_one (n := n) (a := b) (by omega) fun i hi h2 => h i (Nat.lt_succ_of_lt hi) (by omega) h2, c]; omega
    · by_cases d : b = n
      · rw [sumF_one (n := n) (a := a) (by omega) fun i hi h2 => h i (Nat.lt_succ_of_lt hi) h2 (by omega), d]
      · rw [sumF_two hab (n := n) (by omega) (by omega) fun i hi => h i (Nat.lt_succ_of_lt hi), h n (Nat.lt_succ_self n) (Ne.symm c) (Ne.symm d)]; simp
theorem sumF_congr {f g : Nat → Int} : ∀ {n : Nat}, (∀ i, i < n → f i = g i) → sumF f n = sumF g n
  | 0, _ => rfl
  | n + 1, h => by
    show sumF f n + f n = sumF g n + g n
    rw [sumF_congr fun i hi => h i (Nat.lt_succ_of_lt hi), h n (Nat.lt_succ_self n)]
theorem sumF_lin (a b : Int) (f g : Nat → Int) : ∀ n, sumF (fun i => a * f i + b * g i) n = a * sumF f n + b * sumF g n
  | 0 => by simp [sumF]
  | n + 1 => by
    show sumF _ n + (a * f n + b * g n) = a * (sumF f n + f n) + b * (sumF g n + g n)
    rw [sumF_lin a b f g n]; grind
theorem in_dot {S : List (List Int)} {t : Nat → Int} {n : Nat} (hS : ∀ x ∈ S, sumF (fun i => t i * vec x i) n = 0) {v : Nat → Int} (h : In S v) : sumF (fun i => t i * v i) n = 0 := by
  induction h with
  | zero => exact sumF_zero fun i _ => by simp
  | row h => exact hS _ h
  | @add u v _ _ a b =>
    have := sumF_lin 1 1 (fun i => t i * u i) (fun i => t i * v i) n
    rw [a, b] at this
    refine Eq.trans (sumF_congr fun i _ => ?_) this
    grind
  | @smul c v _ a =>
    have := sumF_lin c 0 (fun i => t i * v i) (fun i => t i * v i) n
    rw [a] at this
    refine Eq.trans (sumF_congr fun i _ => ?_) (this.trans (by simp))
    grind
  | @unscale c v hc _ a =>
    have := sumF_lin c 0 (fun i => t i * v i) (fun i => t i * v i) n
    have e : c * sumF (fun i => t i * v i) n = 0 := by
      have e2 : sumF (fun i => t i * (c * v i)) n = c * sumF (fun i => t i * v i) n + 0 * sumF (fun i => t i * v i) n := Eq.trans (sumF_congr fun i _ => by grind) this
      have e3 : sumF (fun i => t i * (c * v i)) n = 0 := a
      rw [e3] at e2
      simpa using e2.symm
    exact (Int.mul_eq_zero.mp e).resolve_left hc
theorem kRow_dot {n : Nat} {fs : List (List Int)} (h : Rr n fs) {j : Nat} (hj : j < n) (hf : ∀ x ∈ fs, lead x ≠ j) {x : List Int} (hx : x ∈ fs) : sumF (fun i => vec (kRow fs j n) i * vec x i) n = 0 := by
  obtain ⟨g, g0, hg⟩ := thin_vec (kNums fs j n fs)
  have two : sumF (fun i => vec (kNums fs j n fs) i * vec x i) n = vec (kNums fs j n fs) j * vec x j + vec (kNums fs j n fs) (lead x) * vec x (lead x) := by
    refine sumF_two (Ne.symm (hf x hx)) hj (h.nz x hx) fun i hi h1 h2 => ?_
    by_cases c : ∃ y ∈ fs, lead y = i
    · obtain ⟨y, hy, rfl⟩ := c
      rw [h.zero y hy x hx h2]; simp
    · rw [nums_other h hj h1 fun y hy e => c ⟨y, hy, e⟩]; simp
  rw [nums_free h hj hf, nums_lead h hx] at two
  have hd : vec x (lead x) ∣ (scl fs : Int) := Int.natAbs_dvd_natAbs.mp (by rw [Int.natAbs_natCast]; exact (scl_dvd fs 1).2 x hx)
  have e0 : ((scl fs : Int) / vec x (lead x)) * vec x (lead x) = (scl fs : Int) := Int.ediv_mul_cancel hd
  have z : sumF (fun i => vec (kNums fs j n fs) i * vec x i) n = 0 := by
    rw [two, Int.mul_assoc, e0]; grind
  have e1 : sumF (fun i => vec (kNums fs j n fs) i * vec x i) n = g * sumF (fun i => vec (kRow fs j n) i * vec x i) n := by
    have := sumF_lin g 0 (fun i => vec (kRow fs j n) i * vec x i) (fun i => vec (kRow fs j n) i * vec x i) n
    refine Eq.trans (sumF_congr fun i _ => ?_) (this.trans (by simp))
    have q : vec (kNums fs j n fs) i = g * vec (kRow fs j n) i := hg i
    rw [q]; grind
  rw [z] at e1
  rcases Int.mul_eq_zero.mp e1.symm with q | q
  · omega
  · exact q
section
variable {n a : Nat} {rows : List (List Int)}
def frees (rows : List (List Int)) (n : Nat) : List Nat := (List.range n).filter fun (j : Nat) => !decide ((j : Int) ∈ leads (redM rows))
theorem mem_frees {j : Nat} (h : j ∈ frees rows n) : j < n ∧ ∀ x ∈ redM rows, lead x ≠ j := by
  obtain ⟨h1, h2⟩ := List.mem_filter.mp h
  refine ⟨List.mem_range.mp h1, fun x hx e => ?_⟩
  have : (j : Int) ∈ leads (redM rows) := List.mem_map.mpr ⟨x, hx, by rw [e]⟩
  simp [this] at h2
theorem kern_len (hok : Ok n a rows) : (kern rows n).length + cnt rows n = n := by
  have k := kp_all hok rows.length (Nat.le_refl _)
  rw [List.take_length] at k
  have c := count_in ((redM rows).map lead) n (srt_nodup k.rr.srt) (fun x hx => by
    obtain ⟨y, hy, rfl⟩ := List.mem_map.mp hx
    exact k.rr.nz y hy)
  have e : ∀ j : Nat, decide ((j : Int) ∈ leads (redM rows)) = decide (j ∈ (redM rows).map lead) := fun j => decide_eq_decide.mpr (by
    unfold leads
    rw [List.mem_map, List.mem_map]
    constructor
    · rintro ⟨x, hx, e⟩; exact ⟨x, hx, by omega⟩
    · rintro ⟨x, hx, e⟩; exact ⟨x, hx, by omega⟩)
  rw [cnt_rows hok]
  unfold kern
  rw [List.length_map]
  have both : ∀ (f : Nat → Bool) (l : List Nat), (l.filter fun j => !f j).length + (l.filter f).length = l.length := by
    intro f l
    induction l with
    | nil => rfl
    | cons x l ih => cases q : f x <;> simp [List.filter_cons, q] <;> omega
  have b := both (fun j => decide ((j : Int) ∈ leads (redM rows))) (List.range n)
  rw [List.length_range] at b
  have c2 : ((List.range n).filter fun (j : Nat) => decide ((j : Int) ∈ leads (redM rows))).length = (redM rows).length := by
    rw [List.length_map] at c
    rw [← c]
    exact congrArg List.length (List.filter_congr fun j _ => e j)
  rw [c2] at b
  exact b
theorem kern_cnt (hok : Ok n a rows) : cnt (kern rows n) n = (kern rows n).length := by
  have k := kp_all hok rows.length (Nat.le_refl _)
  rw [List.take_length] at k
  have hr := k.rr
  have e : kern rows n = (frees rows n).map fun j => kRow (redM rows) j n := rfl
  have sc : (scl (redM rows) : Int) ≠ 0 := by
    have := scl_ne (redM rows) 1 (by decide) hr.pos
    unfold scl
    omega
  rw [e, List.length_map]
  have tz : ∀ j i, vec (kNums (redM rows) j n (redM rows)) i = 0 ↔ vec (kRow (redM rows) j n) i = 0 := fun j i => by
    obtain ⟨g, g0, hg⟩ := thin_vec (kNums (redM rows) j n (redM rows))
    have q : vec (kNums (redM rows) j n (redM rows)) i = g * vec (kRow (redM rows) j n) i := hg i
    rw [q]
    constructor
    · intro z; exact (Int.mul_eq_zero.mp z).resolve_left (by omega)
    · intro z; rw [z]; simp
  refine piv n (frees rows n) _ 0 rfl (Nat.zero_le n) ((List.nodup_range).filter _) (fun j hj => ?_) (fun j hj z => ?_) (fun i hi j hj hij => ?_) (fun j hj i hi => absurd hi (Nat.not_lt_zero i))
  · show (thin (kNums _ _ _ _)).length = n
    rw [thin_len, kNums_len]
  · obtain ⟨h1, h2⟩ := mem_frees hj
    have := (tz j j).mpr z
    rw [nums_free hr h1 h2] at this
    exact sc this
  · obtain ⟨h1, h2⟩ := mem_frees hi
    obtain ⟨h3, h4⟩ := mem_frees hj
    exact (tz i j).mp (nums_other hr h1 (Ne.symm hij) h4)
theorem kern_dot (hok : Ok n a rows) {t : List Int} (ht : t ∈ kern rows n) {r : List Int} (hr : r ∈ rows) : t.length = n ∧ dot t r = 0 := by
  have k := kp_all hok rows.length (Nat.le_refl _)
  rw [List.take_length] at k
  obtain ⟨j, hj, rfl⟩ := List.mem_map.mp ht
  obtain ⟨h1, h2⟩ := mem_frees hj
  have l : (kRow (redM rows) j n).length = n := by
    show (thin (kNums _ _ _ _)).length = n
    rw [thin_len, kNums_len]
  refine ⟨l, ?_⟩
  unfold dot
  rw [sum_range, l]
  exact in_dot (t := vec (kRow (redM rows) j n)) (fun x hx => kRow_dot k.rr h1 h2 hx) (k.back _ (fun o ho => .row ho) r hr)
theorem kern_rows {t : List Int} (ht : t ∈ kern rows n) : t.length = n := by
  obtain ⟨j, hj, rfl⟩ := List.mem_map.mp ht
  show (thin (kNums _ _ _ _)).length = n
  rw [thin_len, kNums_len]
end
end Q42
/-! the law's elimination: what it keeps -/
namespace Q42
def lin (f x : List Int) (a n : Nat) : List Int := (List.range n).map fun i => f.getD a 0 * x.getD i 0 - x.getD a 0 * f.getD i 0
theorem lin_len (f x : List Int) (a n : Nat) : (lin f x a n).length = n := by
  unfold lin
  rw [List.length_map, List.length_range]
theorem lin_vec {f x : List Int} {a n : Nat} (hf : f.length = n) (hx : x.length = n) (i : Nat) : vec (lin f x a n) i = vec f a * vec x i - vec x a * vec f i := by
  by_cases c : i < n
  · simp [vec, lin, List.getD, c]
  · rw [vec_beyond (r := lin f x a n) (i := i) (by rw [lin_len]; omega), vec_beyond (r := x) (i := i) (by omega), vec_beyond (r := f) (i := i) (by omega)]; simp
theorem sm_lin {b : Nat} {f x : List Int} {a n : Nat} (hf : Sm b f) (hx : Sm b x) : Sm (b + b + 1) (lin f x a n) := by
  intro m hm
  obtain ⟨i, _, rfl⟩ := List.mem_map.mp hm
  have h1 := Nat.mul_lt_mul'' (sm_getD hf a) (sm_getD hx i)
  have h2 := Nat.mul_lt_mul'' (sm_getD hx a) (sm_getD hf i)
  have e : (2 : Nat) ^ (b + b + 1) = 2 ^ b * 2 ^ b + 2 ^ b * 2 ^ b := by rw [Nat.pow_succ, Nat.pow_add]; omega
  have h3 := Int.natAbs_sub_le (f.getD a 0 * x.getD i 0) (x.getD a 0 * f.getD i 0)
  rw [Int.natAbs_mul, Int.natAbs_mul] at h3
  rw [e]
  omega
/-- bits behind t columns cleared -/
def Eb (e t : Nat) : Nat := (e + 1) * 2 ^ t - 1
theorem eb_step (e t : Nat) : Eb e t + Eb e t + 1 = Eb e (t + 1) := by
  unfold Eb
  have h : 0 < (e + 1) * 2 ^ t := Nat.mul_pos (Nat.succ_pos e) (Nat.two_pow_pos t)
  have h2 : (e + 1) * 2 ^ (t + 1) = (e + 1) * 2 ^ t * 2 := by rw [Nat.pow_succ, Nat.mul_assoc]
  rw [h2]
  omega
theorem eb_mono (e : Nat) {s t : Nat} (h : s ≤ t) : Eb e s ≤ Eb e t := by
  unfold Eb
  have := Nat.mul_le_mul_left (e + 1) (Nat.pow_le_pow_right (n := 2) (by decide) h)
  omega
/-- rows of index at least t -/
def From (l : List (List Int)) (t : Nat) : List (List Int) := l.drop t
theorem mem_from {l : List (List Int)} {t : Nat} {x : List Int} : x ∈ From l t ↔ ∃ i, t ≤ i ∧ l[i]? = some x := by
  unfold From
  rw [List.mem_iff_getElem?]
  constructor
  · rintro ⟨i, h⟩
    rw [List.getElem?_drop] at h
    exact ⟨t + i, by omega, h⟩
  · rintro ⟨i, h1, h2⟩
    refine ⟨i - t, ?_⟩
    rw [List.getElem?_drop, show t + (i - t) = i by omega]
    exact h2
structure MI (rows : List (List Int)) (n e m : Nat) (l : List (List Int)) (t a : Nat) : Prop where
  len : l.length = m
  ok : ∀ x ∈ l, x.length = n ∧ Sm (Eb e t) x
  tm : t ≤ m
  cnt : cnt rows a = t
  into : ∀ v, In rows v → (∀ i, i < a → v i = 0) → In (From l t) v
  back : ∀ x ∈ From l t, In rows (vec x) ∧ ∀ i, i < a → vec x i = 0
theorem mi_start {rows : List (List Int)} {n e : Nat} (h : ∀ x ∈ rows, x.length = n ∧ Sm e x) : MI rows n e rows.length rows 0 0 :=
  ⟨rfl, fun x hx => ⟨(h x hx).1, (h x hx).2.mono (by unfold Eb; omega)⟩, Nat.zero_le _, rfl, fun v hv _ => hv, fun x hx => ⟨.row hx, fun i hi => absurd hi (Nat.not_lt_zero i)⟩⟩
theorem mi_no {rows : List (List Int)} {n e m : Nat} {l : List (List Int)} {t a : Nat} (h : MI rows n e m l t a) (hz : ∀ x ∈ From l t, vec x a = 0) : MI rows n e m l t (a + 1) := by
  refine ⟨h.len, h.ok, h.tm, ?_, fun v hv hz0 => h.into v hv fun i hi => hz0 i (by omega), fun x hx => ⟨(h.back x hx).1, fun i hi => ?_⟩⟩
  · rw [cnt_no ?_, h.cnt]
    rintro ⟨v, h1, h2, h3⟩
    exact h2 (in_low hz (h.into v h1 h3))
  · by_cases c : i = a
    · rw [c]; exact hz x hx
    · exact (h.back x hx).2 i (by omega)
theorem mi_end {rows : List (List Int)} {n e m : Nat} {l : List (List Int)} {t a w : Nat} (h : MI rows n e m l t a) (ha : a ≤ w) (hw : ¬ (a < w ∧ t < m)) : cnt rows w = t := by
  by_cases c : a < w
  · have ht : t = m := by have := h.tm; omega
    have en : From l t = [] := by
      unfold From
      rw [List.drop_eq_nil_iff, h.len, ht]; exact Nat.le_refl m
    rw [cnt_stay (m := a) (n := w) ?_ ha, h.cnt]
    rintro j h1 h2 ⟨v, h3, h4, h5⟩
    have := h.into v h3 fun i hi => h5 i (by omega)
    rw [en] at this
    exact h4 (in_nil this j)
  · have : a = w := by omega
    rw [← this]; exact h.cnt
theorem mi_piv {rows : List (List Int)} {n e m : Nat} {l l1 l2 : List (List Int)} {t a g : Nat} {f lt : List Int} (h : MI rows n e m l t a) (hg : t ≤ g) (hf : l[g]? = some f) (hl : l[t]? = some lt) (hfa : vec f a ≠ 0)
    (h1 : l1 = (l.set t f).set g lt) (len2 : l2.length = m) (same : ∀ i, i ≤ t → l2[i]? = l1[i]?) (new : ∀ i x, t < i → l1[i]? = some x → l2[i]? = some (thin (lin f x a n))) : MI rows n e m l2 (t + 1) (a + 1) := by
  have hgm : g < l.length := (List.getElem?_eq_some_iff.mp hf).1
  have htm : t < l.length := (List.getElem?_eq_some_iff.mp hl).1
  have get1 : ∀ i, l1[i]? = if g = i then some lt else if t = i then some f else l[i]? := fun i => by
    rw [h1, List.getElem?_set, List.length_set]
    by_cases c : g = i
    · rw [if_pos c, if_pos c, if_pos (by omega)]
    · rw [if_neg c, if_neg c, List.getElem?_set]
      by_cases d : t = i
      · rw [if_pos d, if_pos d, if_pos (by omega)]
      · rw [if_neg d, if_neg d]
  have hfo := h.ok f (List.mem_of_getElem? hf)
  have hlo := h.ok lt (List.mem_of_getElem? hl)
  have mem1 : ∀ i x, l1[i]? = some x → x ∈ l ∧ (t ≤ i → x ∈ From l t) := fun i x hx => by
    rw [get1] at hx
    by_cases c : g = i
    · rw [if_pos c] at hx; cases hx
      exact ⟨List.mem_of_getElem? hl, fun _ => mem_from.mpr ⟨t, Nat.le_refl t, hl⟩⟩
    · rw [if_neg c] at hx
      by_cases d : t = i
      · rw [if_pos d] at hx; cases hx
        exact ⟨List.mem_of_getElem? hf, fun _ => mem_from.mpr ⟨g, hg, hf⟩⟩
      · rw [if_neg d] at hx
        exact ⟨List.mem_of_getElem? hx, fun q => mem_from.mpr ⟨i, q, hx⟩⟩
  have len1 : l1.length = m := by rw [h1, List.length_set, List.length_set, h.len]
  have hfF : f ∈ From l t := mem_from.mpr ⟨g, hg, hf⟩
  have all2 : ∀ x2 ∈ From l2 (t + 1), ∃ x, x ∈ From l t ∧ x ∈ l ∧ x2 = thin (lin f x a n) := fun x2 hx => by
    obtain ⟨i, hi, e⟩ := mem_from.mp hx
    have il : i < l1.length := by
      have := (List.getElem?_eq_some_iff.mp e).1
      omega
    have e1 := List.getElem?_eq_getElem il
    have e2 := new i _ hi e1
    rw [e] at e2
    obtain ⟨q1, q2⟩ := mem1 i _ e1
    exact ⟨_, q2 (by omega), q1, Option.some.inj e2⟩
  refine ⟨len2, fun x2 hx2 => ?_, by have := h.len; omega, ?_, fun v hv hz => ?_, fun x2 hx2 => ?_⟩
  · obtain ⟨i, hi⟩ := List.mem_iff_getElem?.mp hx2
    have il : i < l1.length := by
      have := (List.getElem?_eq_some_iff.mp hi).1
      omega
    have e1 := List.getElem?_eq_getElem il
    obtain ⟨q1, q2⟩ := h.ok _ (mem1 i _ e1).1
    by_cases c : t < i
    · have e2 := new i _ c e1
      rw [hi] at e2
      cases e2
      refine ⟨by rw [thin_len, lin_len], ?_⟩
      rw [← eb_step]
      exact sm_thin (sm_lin hfo.2 q2)
    · have e2 := same i (by omega)
      rw [hi, e1] at e2
      cases e2
      exact ⟨q1, q2.mono (eb_mono e (Nat.le_succ t))⟩
  · rw [cnt_yes ⟨vec f, (h.back f hfF).1, hfa, (h.back f hfF).2⟩, h.cnt]
  · refine elim_zero (X := From l t) (f := f) (a := a) hfa (fun x hx => ?_) (h.into v hv fun i hi => hz i (by omega)) (hz a (by omega))
    obtain ⟨i, hi, e⟩ := mem_from.mp hx
    have key : ∀ i', t < i' → l1[i']? = some x → ∃ x' ∈ From l2 (t + 1), ∃ c : Int, ∀ i, vec f a * vec x i - vec x a * vec f i = c * vec x' i := fun i' hi' e' => by
      obtain ⟨c, c0, hc⟩ := thin_vec (lin f x a n)
      have hxo := h.ok x (mem1 i' x e').1
      exact ⟨_, mem_from.mpr ⟨i', hi', new i' x hi' e'⟩, c, fun j => by rw [← hc j, lin_vec hfo.1 hxo.1]⟩
    by_cases c : g = i
    · subst c
      rw [hf] at e; cases e
      exact .inl rfl
    · by_cases d : t = i
      · subst d
        rw [hl] at e; cases e
        exact .inr (key g (by omega) (by rw [get1, if_pos rfl]))
      · exact .inr (key i (by omega) (by rw [get1, if_neg c, if_neg d]; exact e))
  · obtain ⟨x, q1, q2, rfl⟩ := all2 x2 hx2
    obtain ⟨c, c0, hc⟩ := thin_vec (lin f x a n)
    have hxo := h.ok x q2
    obtain ⟨b1, b2⟩ := h.back x q1
    obtain ⟨b3, b4⟩ := h.back f hfF
    have lv := fun i => lin_vec (a := a) hfo.1 hxo.1 i
    refine ⟨In.of_mul (c := c) (by omega) (In.lin (vec f a) (-vec x a) b1 b3) fun i => by rw [← hc i, lv i]; grind, fun i hi => ?_⟩
    have z : vec (lin f x a n) i = 0 := by
      rw [lv i]
      by_cases q : i = a
      · rw [q]; grind
      · rw [b2 i (by omega), b4 i (by omega)]; simp
    rw [hc i] at z
    exact (Int.mul_eq_zero.mp z).resolve_left (by omega)
/-- one row after another replaced -/
def curL (G : List Int → List Int) (l1 : List (List Int)) (b : Nat) : Nat → List (List Int)
  | 0 => l1
  | i + 1 => (curL G l1 b i).set (b + i) (G (l1.getD (b + i) []))
theorem curL_len (G : List Int → List Int) (l1 : List (List Int)) (b : Nat) : ∀ i, (curL G l1 b i).length = l1.length
  | 0 => rfl
  | i + 1 => by
    show ((curL G l1 b i).set _ _).length = _
    rw [List.length_set, curL_len]
theorem curL_same (G : List Int → List Int) (l1 : List (List Int)) (b : Nat) : ∀ i j, j < b ∨ b + i ≤ j → (curL G l1 b i)[j]? = l1[j]?
  | 0, j, _ => rfl
  | i + 1, j, h => by
    show ((curL G l1 b i).set _ _)[j]? = _
    rw [List.getElem?_set, if_neg (by omega)]
    exact curL_same G l1 b i j (by omega)
theorem curL_new (G : List Int → List Int) (l1 : List (List Int)) (b : Nat) : ∀ i j x, b ≤ j → j < b + i → l1[j]? = some x → (curL G l1 b i)[j]? = some (G x)
  | 0, j, x, h1, h2, _ => by omega
  | i + 1, j, x, h1, h2, hx => by
    show ((curL G l1 b i).set _ _)[j]? = _
    have jl := (List.getElem?_eq_some_iff.mp hx).1
    rw [List.getElem?_set]
    by_cases c : b + i = j
    · rw [if_pos c, if_pos (by rw [curL_len]; omega), c]
      simp [List.getD, hx]
    · rw [if_neg c]
      exact curL_new G l1 b i j x h1 (by omega) hx
end Q42
namespace Q42
open PySem PySem.Spec PyProof.Rows L2 Z
theorem getD_lists {l : List (List Int)} {i : Nat} (h : i < l.length) : l[i]? = some (l.getD i []) := by simp [List.getD, h]
theorem atI_lists {l : List (List Int)} {i : Nat} (h : i < l.length) : atI (l.map L) (i : Int) = some (L (l.getD i [])) := atI_nat (by rw [List.getElem?_map, getD_lists h]; rfl)
theorem atI_rows {l : List (List Int)} {i : Nat} (h : i < l.length) : atI (l.map R) (i : Int) = some (R (l.getD i [])) := atI_nat (by rw [List.getElem?_map, getD_lists h]; rfl)
theorem bne0 (x : Int) : (!decide (x = 0)) = (x != 0) := by by_cases c : x = 0 <;> simp [c]
theorem rep14 {v : V} : start ["_law_rows", "_law_left", "_law_total", "_law_at", "_law_wide", "_law_good", "_law_first", "_law_one", "_law_times", "_law_other", "_law_lower", "_law_row", "_law_value", "_law_to"] [v] = [some v, none, none, none, none, none, none, none, none, none, none, none, none, none] := rfl
section
variable {P : Program} {w : World} {K : PySem.W.Frag} {mg : Str → Option Value} {base : Heap}
abbrev s__law_rank : Stmt := top 23
abbrev N__law_rank : List Str := ["_law_rows", "_law_left", "_law_total", "_law_at", "_law_wide", "_law_good", "_law_first", "_law_one", "_law_times", "_law_other", "_law_lower", "_law_row", "_law_value", "_law_to"]
theorem sc__law_rank : FnScope N__law_rank ["_law_rows"] (defScope s__law_rank) := ⟨rfl, rfl, rfl, by decide +kernel, rfl, by decide +kernel, by decide +kernel⟩
def F__law_rank : List PyData → PyData → Prop := fun ds d => ∃ (rows : List (List Int)) (n e : Nat), ds = [LR rows] ∧ n ≤ 60000 ∧ rows.length ≤ 1000 ∧ (∀ r ∈ rows, r.length = n ∧ Sm e r) ∧ Eb e (rows.length - 1) ≤ 9000 ∧ d = .int (cnt rows n : Nat)
theorem dn__law_rank (Hx : St K mg "_law_rank" s__law_rank ["_law_rows"]) (B : Bs mg) (D1 : Dn P w K mg base CX0 1 "_law_thin" ["_law_row"] (SpD K F__law_thin)) : Dn P w K mg base CX0 2 "_law_rank" ["_law_rows"] (SpD K F__law_rank) := by
  refine dn_data 1 Hx sc__law_rank (fun ds d h => by obtain ⟨x, _, _, rfl, _⟩ := h; rfl) fun f cdv A outer s H E hr => ⟨_, (pss_cons (ps_set (i := 1) sc__law_rank.nd rfl (Or.inr rfl) (pe_lc (own := [("_law_row", 11)]) (g := gName 11) (tt := tYes) rfl sc__law_rank.nd (pi_list (pv 0)) (blkOk_by (N := N__law_rank) (sc := defScope s__law_rank) (by decide +kernel)) (fun _ _ _ _ _ => (pg_name (i := 11) sc__law_rank.nd rfl (Or.inl rfl))) (fun _ _ _ _ _ => pts_nil) (fun _ _ _ _ _ => (pe_callTy (call_list_ofK (K := K) rfl) (by rfl) B.list (by decide +kernel) (pa_cons (pv 11) pa_nil)))))
    (pss_cons (ps_asg (pe_tup (pa_cons pe_int (pa_cons pe_int pa_nil))) (pg_tup rfl (pgs_cons (pg_name (i := 2) sc__law_rank.nd rfl (Or.inl rfl)) (pgs_cons (pg_name (i := 3) sc__law_rank.nd rfl (Or.inr rfl)) pgs_nil))))
    (pss_cons (ps_set (i := 4) sc__law_rank.nd rfl (Or.inl rfl) (pe_ifExp (pt_cmpR (op_neD (Nat.lt_of_le_of_lt (Nat.add_le_add_left (by decide : 64 ≤ 64) _) hr.units)) (pv 0) (pe_lst pa_nil) (nomark _)) (pe_callB call_len_seq (by rfl) B.len (by decide +kernel) (pa_cons (pe_ix (ix_K (K := K) rfl) (pv 0) pe_int (fun _ _ => rfl)) pa_nil)) pe_int))
    (pss_cons (ps_while PassesOwn.never (PW.pt (pw_and (pt_cmpR op_lt (pv 3) (pv 4) (nomark _)) (pw_and1 (pt_cmpR op_lt (pv 2) (pe_callB call_len_seq (by rfl) B.len (by decide +kernel) (pa_cons (pv 1) pa_nil)) (nomark _))))) (pss_cons (ps_setLc (i := 5) (own := [("_law_one", 7)]) (g := gName 7) rfl sc__law_rank.nd rfl rfl (sw_true rfl rfl rfl (by decide +kernel)) (pi_range2 (by rfl) B.range (pa_cons (pv 2) (pa_cons (pe_callB call_len_seq (by rfl) B.len (by decide +kernel) (pa_cons (pv 1) pa_nil)) pa_nil))) (blkOk_by (N := N__law_rank) (sc := defScope s__law_rank) (by decide +kernel)) (fun _ _ _ _ _ => (pg_name (i := 7) sc__law_rank.nd rfl (Or.inl rfl))) (fun _ _ _ _ _ => (pts_one (pt_cmpR op_ne (pe_ix (ix_K (K := K) rfl) (pe_ix (ix_K (K := K) rfl) (pv 1) (pv 7) (fun _ _ => rfl)) (pv 3) (fun _ _ => rfl)) pe_int (nomark _)))) (fun _ _ _ _ _ => (pv 7)))
    (pss_cons (ps_if (pt_cmpR (op_neD (Nat.lt_of_le_of_lt (Nat.add_le_add_left (by decide : 64 ≤ 64) _) hr.units)) (pv 5) (pe_lst pa_nil) (nomark _)) (pss_cons (ps_asg (pe_tup (pa_cons (pe_ix (ix_K (K := K) rfl) (pv 1) (pe_ix (ix_K (K := K) rfl) (pv 5) pe_int (fun _ _ => rfl)) (fun _ _ => rfl)) (pa_cons (pe_ix (ix_K (K := K) rfl) (pv 1) (pv 2) (fun _ _ => rfl)) pa_nil))) (pg_tup rfl (pgs_cons (pg_sub (pv 1) (pv 2) set_list) (pgs_cons (pg_sub (pv 1) (pe_ix (ix_K (K := K) rfl) (pv 5) pe_int (fun _ _ => rfl)) set_list) pgs_nil))))
    (pss_cons (ps_set (i := 6) sc__law_rank.nd rfl (Or.inr rfl) (pe_ix (ix_K (K := K) rfl) (pv 1) (pv 2) (fun _ _ => rfl)))
    (pss_cons (ps_for PassesOwn.never rfl (pi_range2 (by rfl) B.range (pa_cons (pe_op op_add (pv 2) pe_int) (pa_cons (pe_callB call_len_seq (by rfl) B.len (by decide +kernel) (pa_cons (pv 1) pa_nil)) pa_nil))) (pg_name (i := 7) sc__law_rank.nd rfl (Or.inl rfl)) (pss_cons (ps_set (i := 8) sc__law_rank.nd rfl (Or.inr rfl) (pe_ix (ix_K (K := K) rfl) (pe_ix (ix_K (K := K) rfl) (pv 1) (pv 7) (fun _ _ => rfl)) (pv 3) (fun _ _ => rfl)))
    (pss_cons (ps_set (i := 9) sc__law_rank.nd rfl (Or.inr rfl) (pe_ix (ix_K (K := K) rfl) (pv 1) (pv 7) (fun _ _ => rfl)))
    (pss_cons (ps_set (i := 10) sc__law_rank.nd rfl (Or.inr rfl) (pe_lc (own := [("_law_value", 12)]) (g := gName 12) (tt := tYes) rfl sc__law_rank.nd (pi_list (pv 6)) (blkOk_by (N := N__law_rank) (sc := defScope s__law_rank) (by decide +kernel)) (fun _ _ _ _ _ => (pg_name (i := 12) sc__law_rank.nd rfl (Or.inl rfl))) (fun _ _ _ _ _ => pts_nil) (fun _ _ _ _ _ => (pe_op op_mulW (pv 8) (pv 12)))))
    (pss_one (ps_asg (pe_cd D1 hr (by decide) rfl (pa_cons (pe_lc (own := [("_law_to", 13)]) (g := gName 13) (tt := tYes) rfl sc__law_rank.nd (pi_range1 (by rfl) B.range (pa_cons (pv 4) pa_nil)) (blkOk_by (N := N__law_rank) (sc := defScope s__law_rank) (by decide +kernel)) (fun _ _ _ _ _ => (pg_name (i := 13) sc__law_rank.nd rfl (Or.inl rfl))) (fun _ _ _ _ _ => pts_nil) (fun _ _ _ _ _ => (pe_op op_sub (pe_op op_mulW (pe_ix (ix_K (K := K) rfl) (pv 6) (pv 3) (fun _ _ => rfl)) (pe_ix (ix_K (K := K) rfl) (pv 9) (pv 13) (fun _ _ => rfl))) (pe_ix (ix_K (K := K) rfl) (pv 10) (pv 13) (fun _ _ => rfl))))) pa_nil)) (pg_sub (pv 1) (pv 7) set_list)))))))
    (pss_one (ps_set (i := 2) sc__law_rank.nd rfl (Or.inl rfl) (pe_op op_add (pv 2) pe_int)))))) pss_nil)
    (pss_one (ps_set (i := 3) sc__law_rank.nd rfl (Or.inr rfl) (pe_op op_add (pv 3) pe_int))))))
    (pss_one (ps_ret (pv 2))))))), ?_⟩
  intro vs H A ds d Q R hk hF q
  obtain ⟨rows, n, e, rfl, hn, hm, hok, hE, rfl⟩ := hF
  obtain ⟨v, rfl, k1⟩ := dqall_one hk
  rw [rep14]
  -- left
  refine q_asgQ ?_
  refine lcL_own (K := K) (p := .non) (σ := [some v, none, none, none, none, none, none, none, none, none, none, none, none, none]) (j := 11) (vs := [11]) (tl := tVar 0) (tt := tYes) (te := tCB (fun xs H Q => ∃ q ys, xs = [.ref q] ∧ (SqL K H q ys ∨ SqT K H q ys) ∧ ∀ l, H l = none → Q (.ref l) (upd H l (.lst ys))) (tCons (tVar 11) tNil)) (ds := rows.map Q42.R) (fun _ => true) (fun c => L (unR c)) (d_var rfl k1) (by rw [List.length_map]; omega) (fun x => rfl) (fun c hc x H1 e k => b_yes) (fun c hc' x H1 e k _ => by
      obtain ⟨r, hn, rfl⟩ := mem_rows hc'
      rw [unR_R]
      exact d_cb (s_cons (d_var rfl k) s_nil) c_listTK) R (fun ql xs A1 H1 g1 n1 R1 kxs => ?_)
  rw [rows_lc1 L] at kxs
  refine q_tup2 (K := K) d_int d_int R1 fun x y A2 H2 g2 kx ky => ?_
  cases kx
  cases ky
  have R2 := g2.to R1
  have e12 := g1.reg.trans g2.reg
  have k1r := dq_ex e12 _ _ k1
  -- wide
  obtain ⟨w0, hw0, hw1⟩ : ∃ w0 : Nat, (rows ≠ [] → w0 = n) ∧ (rows = [] → w0 = 0) := by
    by_cases c : rows = []
    · exact ⟨0, fun h => absurd c h, fun _ => rfl⟩
    · exact ⟨n, fun _ => rfl, fun h => absurd h c⟩
  have hcw : cnt rows n = cnt rows w0 := by
    by_cases c : rows = []
    · rw [hw1 c, c]
      exact cnt_none fun j _ => fun ⟨v, h1, h2, _⟩ => h2 (in_nil h1 j)
    · rw [hw0 c]
  have hw6 : w0 ≤ 60000 := by
    by_cases c : rows = []
    · rw [hw1 c]; omega
    · rw [hw0 c]; exact hn
  have htest := o_neD (K := K) (p := ⟨none, upd Me.non.own ql (.lst xs)⟩) (shaped_rows rows) shaped_nil
  rw [eqv_nil] at htest
  refine q_asg (d_if (K := K) (d := .int (w0 : Nat)) (b_test (d_op (d_var rfl k1r) (d_lst s_nil (Nat.zero_le _)) htest)) (fun hb => ?_) (fun hb => ?_)) R2 fun wv A3 H3 g3 kw => ?_
  · have c : rows ≠ [] := fun z => by rw [z] at hb; simp at hb
    obtain ⟨r0, rs, rfl⟩ : ∃ r0 rs, rows = r0 :: rs := by
      cases rows with
      | nil => exact absurd rfl c
      | cons a b => exact ⟨a, b, rfl⟩
    have := d_cb (s_cons (d_op (K := K) (p := ⟨none, upd Me.non.own ql (.lst xs)⟩) (d_var (i := 0) (σ := [some v, some (.ref ql), some (.int 0), some (.int 0), none, none, none, none, none, none, none, none, none, none]) rfl k1r) (d_int (i := 0)) (o_ixL (d := Q42.R r0) (atI_nat (p := 0) rfl))) s_nil) c_lenTK
    rw [List.length_map, (hok r0 (List.mem_cons_self ..)).1, ← hw0 c] at this
    exact this
  · have c : rows = [] := by
      cases rows with
      | nil => rfl
      | cons a b => simp at hb
    rw [hw1 c]
    exact d_int
  cases kw
  have R3 := g3.to R2
  have m0 := mi_start hok
  have lm : ∀ {l : List (List Int)} {ys : List V} {H' : Hp}, DqAll K H' ys (l.map L) → ys.length = l.length := fun h => by rw [dqall_len h, List.length_map]
  refine s_while (fun mm σ' A' H' w => ∃ (t a : Nat) (l : List (List Int)) (ys : List V), (∃ x5 x6 x7 x8 x9 x10 x11 x12 x13, σ' = [some v, some (.ref ql), some (.int (t : Nat)), some (.int (a : Nat)), some (.int (w0 : Nat)), x5, x6, x7, x8, x9, x10, x11, x12, x13]) ∧ w ql = some (.lst ys) ∧ DqAll K H' ys (l.map L) ∧ MI rows n e rows.length l t a ∧ a ≤ w0 ∧ mm = w0 - a ∧ Gr .non A H A' H') (w0 - 0)
    ⟨0, 0, rows, xs, ⟨_, _, _, _, _, _, _, _, _, rfl⟩, upd_same, dqall_ex (g2.reg.trans g3.reg) kxs, m0, Nat.zero_le _, rfl, (g1.trans (g2.as rfl)).trans (g3.as rfl)⟩ R3 ?_
  rintro mm σ' A4 H4 w ⟨t, a, l, ys, ⟨x5, x6, x7, x8, x9, x10, x11, x12, x13, rfl⟩, hw, kys, mi, ha, rfl, g4⟩ e4 R4
  have hll := mi.len
  refine ⟨_, b_and (b_test (d_op (K := K) (d_var rfl (.int (a : Nat))) (d_var rfl (.int (w0 : Nat))) o_lt)) (fun _ => b_test (d_op (K := K) (d_var rfl (.int (t : Nat))) (d_lenOwnK rfl hw kys) o_lt)), fun hb A5 H5 g5 => ⟨_, fun _ _ h => h, ?_⟩, fun hb A5 H5 g5 => ?_⟩
  · obtain ⟨ha2, ht2⟩ : a < w0 ∧ t < rows.length := by
      rw [List.length_map, hll] at hb
      simp at hb
      omega
    have hrn : rows ≠ [] := fun z => by rw [z] at ht2; exact absurd ht2 (Nat.not_lt_zero t)
    have hwn := hw0 hrn
    have R5 := g5.to R4
    have kys5 := dqall_ex g5.reg kys
    have rowOk : ∀ i, i < rows.length → (l.getD i []).length = n ∧ Sm (Eb e t) (l.getD i []) := fun i hi => mi.ok _ (List.mem_of_getElem? (getD_lists (by omega)))
    -- good
    have hgood := d_lcR2 (K := K) (p := ⟨Me.non.pool, w⟩) (σ := [some v, some (.ref ql), some (.int (t : Nat)), some (.int (a : Nat)), some (.int (w0 : Nat)), x5, x6, x7, x8, x9, x10, x11, x12, x13]) (H := H5) (j := 7) (vs := [7]) (m := (t : Nat)) (n := (rows.length : Nat))
      (ta := tCons (tVar 2) (tCons (tCB (fun xs H Q => ∃ q ys, xs = [.ref q] ∧ (SqL K H q ys ∨ SqT K H q ys) ∧ Q (.int ys.length) H) (tCons (tVar 1) tNil)) tNil)) (tt := tTest (tOp rNe (tOp (rIx K) (tOp (rIx K) (tVar 1) (tVar 7)) (tVar 3)) (tC (.int 0)))) (te := tVar 7)
      (fun i => (vec (l.getD (t + i) []) a != 0)) (fun i => .int ((t : Int) + i)) (s_cons (d_var rfl (.int _)) (s_cons (by
        have := d_lenOwnK (K := K) (p := ⟨Me.non.pool, w⟩) (σ := [some v, some (.ref ql), some (.int (t : Nat)), some (.int (a : Nat)), some (.int (w0 : Nat)), x5, x6, x7, x8, x9, x10, x11, x12, x13]) (i := 1) rfl hw kys5
        rw [List.length_map, hll] at this
        exact this) s_nil)) (by omega) (fun x => rfl)
      (fun i hi H1 ex => by
        have hi' : t + i < rows.length := by omega
        have e0 : ((t : Nat) : Int) + (i : Int) = ((t + i : Nat) : Int) := (Int.natCast_add t i).symm
        rw [e0]
        have := b_test (d_op (K := K) (p := ⟨Me.non.pool, w⟩) (d_op (d_ixOwn (i := 1) (ti := tVar 7) (σ := (wipe [some v, some (.ref ql), some (.int (t : Nat)), some (.int (a : Nat)), some (.int (w0 : Nat)), x5, x6, x7, x8, x9, x10, x11, x12, x13] [7]).set 7 (some (.int ((t + i : Nat) : Int)))) rfl hw (dqall_ex ex kys5) (d_var rfl (.int _)) (atI_lists (by omega))) (d_var (i := 3) rfl (.int (a : Nat))) (o_ixL (atI_ints (by rw [(rowOk _ hi').1]; omega)))) (d_int (i := 0)) o_neI)
        refine this.is ?_
        exact bne0 _)
      (fun i hi H1 ex _ => d_var rfl (.int _))
    have hr1 : ((rows.length : Nat) : Int) - ((t : Nat) : Int) = ((rows.length - t : Nat) : Int) := by omega
    rw [hr1, Int.toNat_natCast] at hgood
    refine q_asg hgood R5 fun gv A6 H6 g6 kg => ?_
    have R6 := g6.to R5
    have kys6 := dqall_ex g6.reg kys5
    have em : (((List.range (rows.length - t)).filter fun i => (vec (l.getD (t + i) []) a != 0)).map fun (i : Nat) => PyData.int ((t : Int) + (i : Int))) = (((List.range (rows.length - t)).filter fun i => (vec (l.getD (t + i) []) a != 0)).map fun (i : Nat) => ((t : Int) + i)).map PyData.int := by
      rw [List.map_map]; rfl
    rw [em] at kg
    have htest := o_neD (K := K) (p := ⟨Me.non.pool, w⟩) (shaped_ints (((List.range (rows.length - t)).filter fun i => (vec (l.getD (t + i) []) a != 0)).map fun (i : Nat) => ((t : Int) + i))) shaped_nil
    rw [eqv_nil] at htest
    have g46 : Gr .non A H A6 H6 := (g4.trans (g5.as rfl)).trans (g6.as rfl)
    have nA : A ql = none := n1
    have fin : ∀ (σ' : L2.St) (A' H' : Hp) (w' : Hp) (t' : Nat) (l' : List (List Int)) (ys' : List V) (y5 y6 y7 y8 y9 y10 y11 y12 y13 : Option V), σ' = [some v, some (.ref ql), some (.int (t' : Nat)), some (.int (a : Nat)), some (.int (w0 : Nat)), y5, y6, y7, y8, y9, y10, y11, y12, y13] → w' ql = some (.lst ys') → DqAll K H' ys' (l'.map L) → MI rows n e rows.length l' t' (a + 1) → Gr .non A H A' H' → Evl.Ex H3 H' → Reg ⟨none, w'⟩ H' A' →
        ∀ D : Ends, (∀ σ3 A3', (∃ m', m' < w0 - a ∧ Nx ⟨none, upd Me.non.own ql (.lst xs)⟩ ((fun mm σ' A' H' w => ∃ (t a : Nat) (l : List (List Int)) (ys : List V), (∃ x5 x6 x7 x8 x9 x10 x11 x12 x13, σ' = [some v, some (.ref ql), some (.int (t : Nat)), some (.int (a : Nat)), some (.int (w0 : Nat)), x5, x6, x7, x8, x9, x10, x11, x12, x13]) ∧ w ql = some (.lst ys) ∧ DqAll K H' ys (l.map L) ∧ MI rows n e rows.length l t a ∧ a ≤ w0 ∧ mm = w0 - a ∧ Gr .non A H A' H') m') H3 σ3 A3') → D.nx σ3 A3') →
        tAsg (tOp (rI0 fun i j => .int (i + j)) (tVar 3) (tC (.int 1))) (gName 3) D σ' A' := by
      rintro σ' A' H' w' t' l' ys' y5 y6 y7 y8 y9 y10 y11 y12 y13 rfl hw' kys' mi' gg ex rr D hD
      refine Z.s_asg (d_op (K := K) (d_var rfl (.int (a : Nat))) d_int o_add) rr fun va A8 H8 g8 k8 => hD _ _ ⟨w0 - (a + 1), by omega, H8, w', ⟨t', a + 1, l', ys', ⟨y5, y6, y7, y8, y9, y10, y11, y12, y13, ?_⟩, hw', dqall_ex g8.reg kys', mi', by omega, rfl, gg.trans (g8.as rfl)⟩, ex.trans g8.reg, g8.to rr⟩
      cases k8
      rfl
    cases hgl : (List.range (rows.length - t)).filter fun i => (vec (l.getD (t + i) []) a != 0) with
    | nil =>
      rw [hgl] at kg htest
      refine q_when (b_test (d_op (d_var rfl kg) (d_lst s_nil (Nat.zero_le _)) htest)) R6 (fun hb2 => by simp at hb2) fun _ A7 H7 g7 => ?_
      refine fin _ A7 H7 w t l ys _ _ _ _ _ _ _ _ _ rfl hw (dqall_ex g7.reg kys6) (mi_no mi fun x hx => ?_) (g46.trans (g7.as rfl)) (((e4.trans g5.reg).trans g6.reg).trans g7.reg) (g7.to R6) _ (fun _ _ h => h)
      obtain ⟨i, hi, ex⟩ := mem_from.mp hx
      have il : i < rows.length := by
        have := (List.getElem?_eq_some_iff.mp ex).1
        omega
      have nm : i - t ∉ (List.range (rows.length - t)).filter fun i => (vec (l.getD (t + i) []) a != 0) := by rw [hgl]; exact List.not_mem_nil
      have hx2 : l.getD (t + (i - t)) [] = x := by
        rw [show t + (i - t) = i by omega]
        simp [List.getD, ex]
      refine Classical.byContradiction fun z => nm (List.mem_filter.mpr ⟨List.mem_range.mpr (by omega), ?_⟩)
      rw [hx2]
      simpa using z
    | cons g0 gr =>
      have hg0 : g0 ∈ (List.range (rows.length - t)).filter fun i => (vec (l.getD (t + i) []) a != 0) := by rw [hgl]; exact List.mem_cons_self ..
      obtain ⟨hg1, hg2⟩ := List.mem_filter.mp hg0
      have hg3 : g0 < rows.length - t := List.mem_range.mp hg1
      have hfa : vec (l.getD (t + g0) []) a ≠ 0 := by simpa using hg2
      rw [hgl] at kg htest
      refine q_when (b_test (d_op (d_var rfl kg) (d_lst s_nil (Nat.zero_le _)) htest)) R6 (fun _ A7 H7 g7 => ?_) fun hb2 => by simp at hb2
      have R7 := g7.to R6
      have kys7 := dqall_ex g7.reg kys6
      have kg7 := dq_ex g7.reg _ _ kg
      have g47 := g46.trans (g7.as rfl)
      have hgm : t + g0 < l.length := by omega
      have ly : ys.length = l.length := lm kys7
      have c0 : ((t : Int) + (g0 : Int)) = ((t + g0 : Nat) : Int) := (Int.natCast_add t g0).symm
      have ixg : ∀ (p' : Me) {σ2 : L2.St} {H2 : Hp}, σ2[5]? = some (some gv) → Evl.Ex H7 H2 → EvD K p' (tOp (rIx K) (tVar 5) (tC (.int 0))) σ2 H2 (.int ((t + g0 : Nat) : Int)) := fun p' σ2 H2 hs ex => by
        have := d_op (K := K) (p := p') (d_var (i := 5) hs (dq_ex ex _ _ kg7)) (d_int (i := 0)) (o_ixL (d := .int ((t : Int) + g0)) (atI_nat (p := 0) rfl))
        rw [c0] at this
        exact this
      -- swap
      refine s_swapOwn (K := K) (q := ql) (xs := ys) (z1 := (t : Nat)) (z2 := ((t + g0 : Nat) : Int)) (j1 := t) (j2 := t + g0) (d1 := L (l.getD (t + g0) [])) (d2 := L (l.getD t [])) rfl rfl hw
        (d_ixOwn rfl hw kys7 (ixg _ rfl (Evl.Ex.refl _)) (atI_lists hgm)) (d_ixOwn rfl hw kys7 (d_var rfl (.int (t : Nat))) (atI_lists (by omega)))
        (fun p' H' ex => d_var rfl (.int (t : Nat))) (fun p' H' ex => ixg p' rfl ex) (by rw [ly]; exact ixN_nat (by omega)) (by rw [ly]; exact ixN_nat hgm) R7 fun sx sy A8 H8 ksx ksy e8 R8 tr8 => ?_
      have g8 : Gr .non A H A8 H8 := tr8 A H nA g47
      have kys8 : DqAll K H8 ((ys.set t sx).set (t + g0) sy) (((l.set t (l.getD (t + g0) [])).set (t + g0) (l.getD t [])).map L) := by
        rw [List.map_set, List.map_set]
        exact dqall_set (dqall_set (dqall_ex e8 kys7) ksx t) ksy (t + g0)
      generalize hzs : (ys.set t sx).set (t + g0) sy = zs at *
      generalize hl1 : (l.set t (l.getD (t + g0) [])).set (t + g0) (l.getD t []) = l1 at *
      have len1 : l1.length = rows.length := by rw [← hl1, List.length_set, List.length_set, hll]
      have hft : l1[t]? = some (l.getD (t + g0) []) := by
        rw [← hl1, List.getElem?_set, List.length_set]
        by_cases c : t + g0 = t
        · rw [if_pos c, if_pos (by omega), c]
        · rw [if_neg c, List.getElem?_set, if_pos rfl, if_pos (by omega)]
      have l1mem : ∀ i, i < rows.length → (l1.getD i []).length = n ∧ Sm (Eb e t) (l1.getD i []) := fun i hi => by
        have hi1 := getD_lists (l := l1) (i := i) (by omega)
        generalize l1.getD i [] = y at hi1 ⊢
        rw [← hl1, List.getElem?_set, List.length_set] at hi1
        by_cases c : t + g0 = i
        · rw [if_pos c, if_pos (by omega)] at hi1
          cases hi1
          exact rowOk t ht2
        · rw [if_neg c, List.getElem?_set] at hi1
          by_cases d : t = i
          · rw [if_pos d, if_pos (by omega)] at hi1
            cases hi1
            exact rowOk (t + g0) (by omega)
          · rw [if_neg d] at hi1
            have := rowOk i hi
            rw [show l.getD i [] = y by simp [List.getD, hi1]] at this
            exact this
      obtain ⟨ff, hff⟩ : ∃ ff, l.getD (t + g0) [] = ff := ⟨_, rfl⟩
      have fOk := rowOk (t + g0) (by omega)
      rw [hff] at hft hfa fOk
      have hw8 : upd (upd w ql (HO.lst (ys.set t sx))) ql (HO.lst zs) ql = some (.lst zs) := upd_same
      generalize upd (upd w ql (HO.lst (ys.set t sx))) ql (HO.lst zs) = w8 at hw8 R8
      -- first
      refine q_asg (d_ixOwn (K := K) (p := ⟨none, w8⟩) rfl hw8 kys8 (d_var rfl (.int (t : Nat))) (atI_nat (x := L ff) (by rw [List.getElem?_map, hft]; rfl))) R8 fun fv A9 H9 g9 kf => ?_
      have R9 := g9.to R8
      have kys9 := dqall_ex g9.reg kys8
      have g9' : Gr .non A H A9 H9 := g8.trans (g9.as rfl)
      have lenv : ∀ {σ2 : L2.St} {H2 : Hp}, σ2[1]? = some (some (.ref ql)) → Evl.Ex H9 H2 → EvD K ⟨none, w8⟩ (tCB (fun xs H Q => ∃ q ys, xs = [.ref q] ∧ (SqL K H q ys ∨ SqT K H q ys) ∧ Q (.int ys.length) H) (tCons (tVar 1) tNil)) σ2 H2 (.int (rows.length : Nat)) := fun hs ex => by
        have := d_lenOwnK (K := K) (p := ⟨none, w8⟩) hs hw8 (dqall_ex ex kys9)
        rw [List.length_map, len1] at this
        exact this
      refine s_forR2 (K := K) (m := (t : Nat) + 1) (n := (rows.length : Nat)) (s_cons (d_op (d_var rfl (.int (t : Nat))) d_int o_add) (s_cons (lenv rfl (Evl.Ex.refl _)) s_nil)) (by omega) R9
        (fun i σ' A' H' w' => ∃ ys', (∃ y7 y8 y9 y10 y11 y12 y13, σ' = [some v, some (.ref ql), some (.int (t : Nat)), some (.int (a : Nat)), some (.int (w0 : Nat)), some gv, some fv, y7, y8, y9, y10, y11, y12, y13]) ∧ w' ql = some (.lst ys') ∧ DqAll K H' ys' ((curL (fun x => thin (lin ff x a n)) l1 (t + 1) i).map L) ∧ Gr .non A H A' H')
        (fun A' H' g => ⟨zs, ⟨_, _, _, _, _, _, _, rfl⟩, hw8, dqall_ex g.reg kys9, g9'.trans (g.as rfl)⟩) ?_ ?_
      · rintro H10 e10 i σ' A10 H11 w10 hi ⟨ys', ⟨y7, y8, y9, y10, y11, y12, y13, rfl⟩, hw10, kys10, g10⟩ ex r10
        have ht1 : t + 1 + i < rows.length := by omega
        have ci : ((t : Nat) : Int) + 1 + (i : Int) = ((t + 1 + i : Nat) : Int) := by omega
        rw [ci]
        obtain ⟨rl, rs⟩ := l1mem (t + 1 + i) ht1
        have hr1 := getD_lists (l := l1) (i := t + 1 + i) (by omega)
        generalize l1.getD (t + 1 + i) [] = rx at rl rs hr1
        have hcx : (curL (fun x => thin (lin ff x a n)) l1 (t + 1) i)[t + 1 + i]? = some rx := by rw [curL_same _ _ _ _ _ (.inr (Nat.le_refl _))]; exact hr1
        have atx : atI ((curL (fun x => thin (lin ff x a n)) l1 (t + 1) i).map L) ((t + 1 + i : Nat) : Int) = some (L rx) := atI_nat (by rw [List.getElem?_map, hcx]; rfl)
        have han : a < n := by omega
        have hE2 : Eb e t + Eb e t + 1 ≤ 9000 := by
          rw [eb_step]
          exact Nat.le_trans (eb_mono e (show t + 1 ≤ rows.length - 1 by omega)) hE
        have kf0 := dq_ex (e10.trans ex) _ _ (dq_ex (Evl.Ex.refl _) _ _ kf)
        refine q_asg (d_op (K := K) (d_ixOwn rfl hw10 kys10 (d_var rfl (.int ((t + 1 + i : Nat) : Int))) atx) (d_var rfl (.int (a : Nat))) (o_ixL (atI_ints (by omega)))) r10 fun tv A12 H12 g12 k12 => ?_
        cases k12
        have r12 := g12.to r10
        refine q_asg (d_ixOwn (K := K) rfl hw10 (dqall_ex g12.reg kys10) (d_var rfl (.int ((t + 1 + i : Nat) : Int))) atx) r12 fun ov A13 H13 g13 k13 => ?_
        have r13 := g13.to r12
        have kf3 := dq_ex (g12.reg.trans g13.reg) _ _ kf0
        have hlow := d_lcL (K := K) (p := ⟨none, w10⟩) (σ := [some v, some (.ref ql), some (.int (t : Nat)), some (.int (a : Nat)), some (.int (w0 : Nat)), some gv, some fv, some (.int ((t + 1 + i : Nat) : Int)), some (.int (rx.getD a 0)), some ov, y10, y11, y12, y13]) (H := H13) (j := 12) (vs := [12]) (tl := tVar 6) (tt := tYes) (te := tOp (rI CMulW fun i j => .int (i * j)) (tVar 8) (tVar 12)) (ds := ff.map .int) (fun _ => true) (onI fun z => .int (rx.getD a 0 * z)) (d_var rfl kf3) (by rw [List.length_map]; omega) (fun x => rfl) (fun c hc x H1 e k => b_yes) (fun c hc' x H1 e' k _ => by
          obtain ⟨z, hz, rfl⟩ := mem_ints hc'
          exact d_op (d_var rfl (.int _)) (d_var rfl k) (o_I (f := fun i j => i * j) (wide_mulS (sm_getD rs a) (fOk.2 z hz) hE2)))
        rw [map_onI] at hlow
        have elow : (ff.map fun z => PyData.int (rx.getD a 0 * z)) = (ff.map fun z => rx.getD a 0 * z).map PyData.int := by rw [List.map_map]; rfl
        rw [elow] at hlow
        refine q_asg hlow r13 fun lv A14 H14 g14 k14 => ?_
        have r14 := g14.to r13
        have k13' := dq_ex g14.reg _ _ k13
        have kf4 := dq_ex g14.reg _ _ kf3
        have hlc := d_lcR (K := K) (p := ⟨none, w10⟩) (σ := [some v, some (.ref ql), some (.int (t : Nat)), some (.int (a : Nat)), some (.int (w0 : Nat)), some gv, some fv, some (.int ((t + 1 + i : Nat) : Int)), some (.int (rx.getD a 0)), some ov, some lv, y11, y12, y13]) (H := H14) (j := 13) (vs := [13]) (ta := tCons (tVar 4) tNil) (tt := tYes) (te := tOp (rI0 fun i j => .int (i - j)) (tOp (rI CMulW fun i j => .int (i * j)) (tOp (rIx K) (tVar 6) (tVar 3)) (tOp (rIx K) (tVar 9) (tVar 13))) (tOp (rIx K) (tVar 10) (tVar 13))) (n := (w0 : Nat)) (fun _ => true) (fun j => .int (ff.getD a 0 * rx.getD j 0 - rx.getD a 0 * ff.getD j 0)) (s_cons (d_var rfl (.int _)) s_nil) (by omega) (fun x => rfl) (fun j hj H1 e' => b_yes) (fun j hj H1 e' _ => by
          have hjn : j < n := by omega
          have el : (ff.map fun z => rx.getD a 0 * z).getD j 0 = rx.getD a 0 * ff.getD j 0 := vec_map (f := fun z => rx.getD a 0 * z) (Int.mul_zero _) j
          have il := atI_ints (r := ff.map fun z => rx.getD a 0 * z) (p := j) (by rw [List.length_map]; omega)
          rw [el] at il
          exact d_op (d_op (d_op (d_var rfl (dq_ex e' _ _ kf4)) (d_var rfl (.int (a : Nat))) (o_ixL (atI_ints (by omega)))) (d_op (d_var rfl (dq_ex e' _ _ k13')) (d_var rfl (.int (j : Nat))) (o_ixL (atI_ints (by omega)))) (o_I (f := fun i j => i * j) (wide_mulS (sm_getD fOk.2 a) (sm_getD rs j) hE2)))
            (d_op (d_var rfl (dq_ex e' _ _ k14)) (d_var rfl (.int (j : Nat))) (o_ixL il)) o_sub)
        rw [Int.toNat_natCast, List.filter_eq_self.mpr (fun _ _ => rfl), hwn] at hlc
        have elc : ((List.range n).map fun j => PyData.int (ff.getD a 0 * rx.getD j 0 - rx.getD a 0 * ff.getD j 0)) = (lin ff rx a n).map PyData.int := by
          unfold lin
          rw [List.map_map]; rfl
        rw [elc] at hlc
        have hcl := d_call (K := K) (F := F__law_thin) (d := L (thin (lin ff rx a n))) (E := E0) (s_cons hlc s_nil) ⟨lin ff rx a n, rfl, by rw [lin_len]; exact hn, (sm_lin fOk.2 rs).mono hE2, rfl⟩
        rw [← hwn] at hcl
        have lcu : ys'.length = rows.length := by rw [lm kys10, curL_len, len1]
        refine s_setOwn (K := K) (q := ql) (xs := ys') (z := ((t + 1 + i : Nat) : Int)) (j := t + 1 + i) rfl hw10 hcl (fun H' e' => d_var rfl (.int _)) (by rw [lcu]; exact ixN_nat ht1) r14 fun nv A15 H15 g15 k15 R15 => ⟨H15, _, ⟨ys'.set (t + 1 + i) nv, ⟨some (.int ((t + 1 + i : Nat) : Int)), some (.int (rx.getD a 0)), some ov, some lv, y11, y12, y13, ?_⟩, upd_same, ?_, ?_⟩, ?_, R15⟩
        · rw [hwn]; rfl
        · have hcs : curL (fun x => thin (lin ff x a n)) l1 (t + 1) (i + 1) = (curL (fun x => thin (lin ff x a n)) l1 (t + 1) i).set (t + 1 + i) (thin (lin ff rx a n)) := by
            show (curL _ l1 (t + 1) i).set (t + 1 + i) (thin (lin ff (l1.getD (t + 1 + i) []) a n)) = _
            rw [show l1.getD (t + 1 + i) [] = rx by simp [List.getD, hr1]]
          rw [hcs, List.map_set]
          rw [hwn] at k15
          exact dqall_set (dqall_ex (((g12.reg.trans g13.reg).trans g14.reg).trans g15.reg) kys10) k15 _
        · exact Gr.mut ((((g10.trans (g12.as rfl)).trans (g13.as rfl)).trans (g14.as rfl)).trans (g15.as rfl)) nA (R15.offO ql _ upd_same).1 (fun z => nomatch z)
        · exact (((ex.trans g12.reg).trans g13.reg).trans g14.reg).trans g15.reg
      · rintro σ' A10 H11 w10 ⟨ys', ⟨y7, y8, y9, y10, y11, y12, y13, rfl⟩, hw10, kys10, g10⟩ ex r10
        have hlast : (((rows.length : Nat) : Int) - (((t : Nat) : Int) + 1)).toNat = rows.length - (t + 1) := by omega
        rw [hlast] at kys10
        refine q_asg (d_op (K := K) (d_var rfl (.int (t : Nat))) d_int o_add) r10 fun tv A12 H12 g12 k12 => ?_
        cases k12
        have hgF : l[t + g0]? = some ff := by rw [← hff]; exact getD_lists hgm
        have mi2 : MI rows n e rows.length (curL (fun x => thin (lin ff x a n)) l1 (t + 1) (rows.length - (t + 1))) (t + 1) (a + 1) := by
          refine mi_piv (lt := l.getD t []) (g := t + g0) (l1 := l1) mi (Nat.le_add_right t g0) hgF (getD_lists (by omega)) hfa (by rw [← hff]; exact hl1.symm) (by rw [curL_len, len1]) (fun i hi => curL_same _ _ _ _ _ (.inl (by omega))) (fun i x hi hx => curL_new _ _ _ _ _ _ (by omega) ?_ hx)
          have := (List.getElem?_eq_some_iff.mp hx).1
          omega
        exact fin _ A12 H12 w10 (t + 1) _ ys' _ _ _ _ _ _ _ _ _ rfl hw10 (dqall_ex g12.reg kys10) mi2 (g10.trans (g12.as rfl)) ((((((((e4.trans g5.reg).trans g6.reg).trans g7.reg).trans e8).trans g9.reg).trans ex)).trans g12.reg) (g12.to r10) _ (fun _ _ h => h)
  · have hend : ¬ (a < w0 ∧ t < rows.length) := fun ⟨q1, q2⟩ => by
      rw [List.length_map, hll] at hb
      simp at hb
      omega
    refine Z.s_ret (d_var (K := K) rfl (.int (t : Nat))) (g5.to R4) fun v6 A6 H6 g6 k6 => q _ _ _ ((g4.trans (g5.as rfl)).trans (g6.as rfl)) ?_
    rw [hcw, mi_end mi ha hend]
    exact k6
end
end Q42
namespace Q42
open PySem PySem.Spec PyProof.Rows L2 Z
def spLaw (K : PySem.W.Frag) : Sp := fun vs H Q _ => ∃ (a : Addr) (ns : List Int), vs = [.ref a] ∧ SqL K H a (ns.map V.int) ∧ ns.length ≤ 1000 ∧ ∀ H', Q (.bl true) H'
abbrev s_law : Stmt := top 24
abbrev N_law : List Str := ["_law_script", "_law_k", "_law_pool_here", "_law_wide", "_law_rows", "_law_turn", "_law_told", "_law_row", "_law_other", "_law_due", "_law_at"]
theorem sc_law : FnScope N_law ["_law_script"] (defScope s_law) := ⟨rfl, rfl, rfl, by decide +kernel, rfl, by decide +kernel, by decide +kernel⟩
theorem start_law {v : V} : start N_law [v] = [some v, none, none, none, none, none, none, none, none, none, none] := rfl
theorem told_small {n : Nat} {rows : List (List Int)} (hok : Ok n 30 rows) (hl : rows.length ≤ 4) (hn : n ≤ 5) : ∃ e, (∀ t ∈ kern rows n, t.length = n ∧ Sm e t) ∧ Eb e ((kern rows n).length - 1) ≤ 9000 := by
  have kp := kp_all hok rows.length (Nat.le_refl _)
  rw [List.take_length] at kp
  have kl := kern_len hok
  rw [cnt_rows hok] at kl
  have k4 : (redM rows).length ≤ 4 := Nat.le_trans kp.le hl
  have num : ∀ k, k < 5 → Eb (Bb 30 k + (k * Bb 30 k + 1)) (4 - k) ≤ 9000 := by decide +kernel
  refine ⟨Bb 30 (redM rows).length + ((redM rows).length * Bb 30 (redM rows).length + 1), fun t ht => ⟨kern_rows ht, ?_⟩, Nat.le_trans (eb_mono _ (by omega)) (num _ (by omega))⟩
  obtain ⟨j, _, rfl⟩ := List.mem_map.mp ht
  exact sm_thin (sm_kNums kp.sm _ kp.sm)
theorem bb_small {k : Nat} (h : k ≤ 4) : Bb 30 k + (k * Bb 30 k + 1) + 1 ≤ 9000 := by
  have num : ∀ k, k < 5 → Bb 30 k + (k * Bb 30 k + 1) + 1 ≤ 9000 := by decide +kernel
  exact num k (by omega)
theorem told_wide {n : Nat} {rows : List (List Int)} (hok : Ok n 30 rows) (hl : rows.length ≤ 4) : ∀ t ∈ kern rows n, Sm 6500 t := by
  have kp := kp_all hok rows.length (Nat.le_refl _)
  rw [List.take_length] at kp
  have num : ∀ k, k < 5 → Bb 30 k + (k * Bb 30 k + 1) ≤ 6500 := by decide +kernel
  intro t ht
  obtain ⟨j, _, rfl⟩ := List.mem_map.mp ht
  exact (sm_thin (sm_kNums kp.sm _ kp.sm)).mono (num _ (by have := kp.le; omega))
def Cell (c : Int) : Prop := c = 0 ∨ c = 1 ∨ c = -1 ∨ c = 2 ∨ c = -3 ∨ c = 1000000000
theorem cell_sm {r : List Int} (h : ∀ c ∈ r, Cell c) : Sm 30 r := fun c hc => by
  rcases h c hc with e | e | e | e | e | e <;> rw [e] <;> decide
theorem pick_cell : ∀ r : Int, 0 ≤ r → r < 6 → ∃ c : Int, atI [PyData.int 0, .int 1, .int (-1), .int 2, .int (-3), .int ((10 : Int) ^ (9 : Int).toNat)] r = some (.int c) ∧ Cell c := fun r h0 h1 => by
  have h : r = ((0 : Nat) : Int) ∨ r = ((1 : Nat) : Int) ∨ r = ((2 : Nat) : Int) ∨ r = ((3 : Nat) : Int) ∨ r = ((4 : Nat) : Int) ∨ r = ((5 : Nat) : Int) := by omega
  rcases h with e | e | e | e | e | e <;> rw [e]
  · exact ⟨_, atI_nat rfl, .inl rfl⟩
  · exact ⟨_, atI_nat rfl, .inr (.inl rfl)⟩
  · exact ⟨_, atI_nat rfl, .inr (.inr (.inl rfl))⟩
  · exact ⟨_, atI_nat rfl, .inr (.inr (.inr (.inl rfl)))⟩
  · exact ⟨_, atI_nat rfl, .inr (.inr (.inr (.inr (.inl rfl))))⟩
  · exact ⟨_, atI_nat rfl, .inr (.inr (.inr (.inr (.inr (by decide)))))⟩
section
variable {P : Program} {w : World} {K : PySem.W.Frag} {mg : Str → Option Value} {base : Heap}
theorem sum_ev {p : Me} {σ : L2.St} {H : Hp} {tr to : TE} {r o : List Int} {wd a b : Nat} (h3 : σ[3]? = some (some (.int (wd : Nat)))) (hr : r.length = wd) (ho : o.length = wd) (hw6 : wd ≤ 60000) (ha : Sm a r) (hb : Sm b o) (hab : a + b + 1 ≤ 9000)
    (hw : ∀ x, wipe ((wipe σ [10]).set 10 (some x)) [10] = wipe σ [10]) (h10 : ∀ x : V, ((wipe σ [10]).set 10 (some x))[10]? = some (some x)) (hR : ∀ (x : V) H1, Evl.Ex H H1 → EvD K p tr ((wipe σ [10]).set 10 (some x)) H1 (Q42.R r)) (hO : ∀ (x : V) H1, Evl.Ex H H1 → EvD K p to ((wipe σ [10]).set 10 (some x)) H1 (Q42.R o)) :
    EvD K p (tCB (rSum K) (tCons (tLc (iRng1 (tCons (tVar 3) tNil)) (gName 10) tYes (tOp (rI CMulW fun i j => .int (i * j)) (tOp (rIx K) tr (tVar 10)) (tOp (rIx K) to (tVar 10))) [10]) tNil)) σ H (.int (dot r o)) := by
  have h := d_lcR (K := K) (p := p) (σ := σ) (H := H) (j := 10) (vs := [10]) (ta := tCons (tVar 3) tNil) (tt := tYes) (te := tOp (rI CMulW fun i j => .int (i * j)) (tOp (rIx K) tr (tVar 10)) (tOp (rIx K) to (tVar 10))) (n := (wd : Nat)) (fun _ => true) (fun i => .int (r.getD i 0 * o.getD i 0)) (s_cons (d_var h3 (.int _)) s_nil) (by omega) hw (fun i hi H1 e => b_yes)
    (fun i hi H1 e _ => d_op (d_op (hR _ H1 e) (d_var (h10 _) (.int _)) (o_ixT (atI_ints (by omega)))) (d_op (hO _ H1 e) (d_var (h10 _) (.int _)) (o_ixT (atI_ints (by omega)))) (o_I (f := fun i j => i * j) (wide_mulS (sm_getD ha i) (sm_getD hb i) hab)))
  rw [Int.toNat_natCast, List.filter_eq_self.mpr (fun _ _ => rfl)] at h
  have e : ((List.range wd).map fun i => PyData.int (r.getD i 0 * o.getD i 0)) = ((List.range wd).map fun i => r.getD i 0 * o.getD i 0).map PyData.int := by rw [List.map_map]; rfl
  rw [e] at h
  have := d_cb (s_cons h s_nil) c_sum
  unfold dot
  rw [hr]
  exact this
theorem eb30 {k : Nat} (h : k ≤ 4) : Eb 30 (k - 1) ≤ 9000 := by
  have num : ∀ k, k < 5 → Eb 30 (k - 1) ≤ 9000 := by decide +kernel
  exact num k (by omega)
theorem ok_law {f : Addr} {fd : FuncData} (F : FnP K "law" s_law f fd) (B : Bs mg) (D1 : Dn P w K mg base CX0 1 "_law_pool" ["_law_script", "_law_k"] (poolS K)) (D2 : Dn P w K mg base CX0 1 "_law_take" ["_law_pool_here", "_law_wide"] (takeS K))
    (D3 : Dn P w K mg base CX0 6 "kernel" ["rows", "width"] (SpD K F_kernel)) (D4 : Dn P w K mg base CX0 2 "_law_rank" ["_law_rows"] (SpD K F__law_rank)) (D5 : Dn P w K mg base CX0 1 "product" ["one", "other"] (SpD K F_product)) :
    FnOk P w K mg base CX0 7 f fd ["_law_script"] (spLaw K) := by
  refine F.ok sc_law (fun vs H Q E h => by obtain ⟨_, _, rfl, _⟩ := h; rfl) (fun cdv A outer s H vs Q E hr h => ⟨_, PSs.nox (pss_cons (ps_for PassesOwn.never rfl (pi_range1 (by rfl) B.range (pa_cons (pe_callB (call_max2 rfl) (by rfl) B.max (by decide +kernel) (pa_cons pe_int (pa_cons (pe_callB (call_min2 rfl) (by rfl) B.min (by decide +kernel) (pa_cons (pe_callB call_len_seq (by rfl) B.len (by decide +kernel) (pa_cons (pv 0) pa_nil)) (pa_cons pe_int pa_nil))) pa_nil))) pa_nil)) (pg_name (i := 1) sc_law.nd rfl (Or.inl rfl)) (pss_cons (ps_set (i := 2) sc_law.nd rfl (Or.inr rfl) (pe_cd D1 hr (by decide) rfl (pa_cons (pv 0) (pa_cons (pv 1) pa_nil))))
    (pss_cons (ps_asg (pe_tup (pa_cons (pe_op op_add pe_int (pe_cd D2 hr (by decide) rfl (pa_cons (pv 2) (pa_cons pe_int pa_nil)))) (pa_cons (pe_lst pa_nil) pa_nil))) (pg_tup rfl (pgs_cons (pg_name (i := 3) sc_law.nd rfl (Or.inl rfl)) (pgs_cons (pg_name (i := 4) sc_law.nd rfl (Or.inr rfl)) pgs_nil))))
    (pss_cons (ps_for PassesOwn.never rfl (pi_range1 (by rfl) B.range (pa_cons (pe_cd D2 hr (by decide) rfl (pa_cons (pv 2) (pa_cons pe_int pa_nil))) pa_nil)) (pg_name (i := 5) sc_law.nd rfl (Or.inl rfl)) (pss_one (ps_expr (pe_bm PySem.F.plainAttrs_list PySem.F.slot_list_append PySem.F.type_list_append mt_append (pv 4) (pa_cons (pe_callTy (call_tuple_ofK (K := K) rfl) (by rfl) B.tuple (by decide +kernel) (pa_cons (pe_lc (own := [("_law_at", 10)]) (g := gName 10) (tt := tYes) rfl sc_law.nd (pi_range1 (by rfl) B.range (pa_cons (pv 3) pa_nil)) (blkOk_by (N := N_law) (sc := defScope s_law) (by decide +kernel)) (fun _ _ _ _ _ => (pg_name (i := 10) sc_law.nd rfl (Or.inl rfl))) (fun _ _ _ _ _ => pts_nil) (fun _ _ _ _ _ => (pe_ix (ix_K (K := K) rfl) (pe_lst (pa_cons pe_int (pa_cons pe_int (pa_cons (pe_un un_neg pe_int) (pa_cons pe_int (pa_cons (pe_un un_neg pe_int) (pa_cons (pe_op op_pow pe_int pe_int) pa_nil))))))) (pe_cd D2 hr (by decide) rfl (pa_cons (pv 2) (pa_cons pe_int pa_nil))) (fun _ _ => rfl)))) pa_nil)) pa_nil)))))
    (pss_cons (ps_set (i := 6) sc_law.nd rfl (Or.inl rfl) (pe_cd D3 hr (by decide) rfl (pa_cons (pv 4) (pa_cons (pv 3) pa_nil))))
    (pss_cons (ps_if (PW.pt (pw_or (pt_not (pt_val (pe_callB call_isi (by rfl) B.isinstance (by decide +kernel) (pa_cons (pv 6) (pa_cons (pty (by rfl) B.list (by rfl)) pa_nil))))) (pw_or (pt_cmpR op_ne (pe_callB call_len_seq (by rfl) B.len (by decide +kernel) (pa_cons (pv 6) pa_nil)) (pe_op op_sub (pv 3) (pe_cd D4 hr (by decide) rfl (pa_cons (pv 4) pa_nil))) (nomark _)) (pw_or1 (pt_cmpR op_ne (pe_cd D4 hr (by decide) rfl (pa_cons (pv 6) pa_nil)) (pe_callB call_len_seq (by rfl) B.len (by decide +kernel) (pa_cons (pv 6) pa_nil)) (nomark _)))))) (pss_one (ps_ret pe_bl)) pss_nil)
    (pss_cons (ps_for PassesOwn.never rfl (pi_list (pv 6)) (pg_name (i := 7) sc_law.nd rfl (Or.inr rfl)) (pss_cons (ps_if (PW.pt (pw_or (pt_not (pt_val (pe_callB call_isi (by rfl) B.isinstance (by decide +kernel) (pa_cons (pv 7) (pa_cons (pty (by rfl) B.tuple (by rfl)) pa_nil))))) (pw_or1 (pt_cmpR op_ne (pe_callB call_len_seq (by rfl) B.len (by decide +kernel) (pa_cons (pv 7) pa_nil)) (pv 3) (nomark _))))) (pss_one (ps_ret pe_bl)) pss_nil)
    (pss_one (ps_for PassesOwn.never rfl (pi_list (pv 4)) (pg_name (i := 8) sc_law.nd rfl (Or.inr rfl)) (pss_cons (ps_set (i := 9) sc_law.nd rfl (Or.inl rfl) (pe_callB (cr_sum rfl) (by rfl) B.sum (by decide +kernel) (pa_cons (pe_lc (own := [("_law_at", 10)]) (g := gName 10) (tt := tYes) rfl sc_law.nd (pi_range1 (by rfl) B.range (pa_cons (pv 3) pa_nil)) (blkOk_by (N := N_law) (sc := defScope s_law) (by decide +kernel)) (fun _ _ _ _ _ => (pg_name (i := 10) sc_law.nd rfl (Or.inl rfl))) (fun _ _ _ _ _ => pts_nil) (fun _ _ _ _ _ => (pe_op op_mulW (pe_ix (ix_K (K := K) rfl) (pv 7) (pv 10) (fun _ _ => rfl)) (pe_ix (ix_K (K := K) rfl) (pv 8) (pv 10) (fun _ _ => rfl))))) pa_nil)))
    (pss_one (ps_if (PW.pt (pw_or (pt_cmpR op_ne (pv 9) pe_int (nomark _)) (pw_or1 (pt_cmpR op_ne (pe_cd D5 hr (by decide) rfl (pa_cons (pv 7) (pa_cons (pv 8) pa_nil))) (pv 9) (nomark _))))) (pss_one (ps_ret pe_bl)) pss_nil)))))))
    (pss_one (ps_if (pt_cmpR op_gt (pe_callB call_len_seq (by rfl) B.len (by decide +kernel) (pa_cons (pv 4) pa_nil)) pe_int (nomark _)) (pss_one (ps_if (pt_cmpR op_ne (pe_cd D5 hr (by decide) rfl (pa_cons (pe_ix (ix_K (K := K) rfl) (pv 4) pe_int (fun _ _ => rfl)) (pa_cons (pe_ix (ix_K (K := K) rfl) (pv 4) pe_int (fun _ _ => rfl)) pa_nil))) (pe_callB (cr_sum rfl) (by rfl) B.sum (by decide +kernel) (pa_cons (pe_lc (own := [("_law_at", 10)]) (g := gName 10) (tt := tYes) rfl sc_law.nd (pi_range1 (by rfl) B.range (pa_cons (pv 3) pa_nil)) (blkOk_by (N := N_law) (sc := defScope s_law) (by decide +kernel)) (fun _ _ _ _ _ => (pg_name (i := 10) sc_law.nd rfl (Or.inl rfl))) (fun _ _ _ _ _ => pts_nil) (fun _ _ _ _ _ => (pe_op op_mulW (pe_ix (ix_K (K := K) rfl) (pe_ix (ix_K (K := K) rfl) (pv 4) pe_int (fun _ _ => rfl)) (pv 10) (fun _ _ => rfl)) (pe_ix (ix_K (K := K) rfl) (pe_ix (ix_K (K := K) rfl) (pv 4) pe_int (fun _ _ => rfl)) (pv 10) (fun _ _ => rfl))))) pa_nil)) (nomark _)) (pss_one (ps_ret pe_bl)) pss_nil)) pss_nil)))))))))
    (pss_one (ps_ret (pe_and (pe_cmpR (op_neD (Nat.lt_of_le_of_lt (Nat.add_le_add_left (by decide : 64 ≤ 64) _) hr.units)) (pe_cd D3 hr (by decide) rfl (pa_cons (pe_lst (pa_cons (pe_tup (pa_cons pe_int (pa_cons pe_int pa_nil))) pa_nil)) (pa_cons pe_int pa_nil))) (pe_lst pa_nil) (nomark _)) (pe_and (pe_cmpR (op_eqD (Nat.lt_of_le_of_lt (Nat.add_le_add_left (by decide : 64 ≤ 64) _) hr.units)) (pe_cd D3 hr (by decide) rfl (pa_cons (pe_lst (pa_cons (pe_tup (pa_cons pe_int pa_nil)) pa_nil)) (pa_cons pe_int pa_nil))) (pe_lst pa_nil) (nomark _)) (pe_one (pe_cmpR op_eq (pe_callB call_len_seq (by rfl) B.len (by decide +kernel) (pa_cons (pe_cd D3 hr (by decide) rfl (pa_cons (pe_lst pa_nil) (pa_cons pe_int pa_nil))) pa_nil)) pe_int (nomark _)))))))), ?_⟩)
  obtain ⟨sa, ns, rfl, hs, hn, q⟩ := h
  have R : Reg .non H H := ⟨Evl.Ex.refl H, (fun q h => nomatch h), (fun q h => nomatch h), (fun q o h => nomatch h), (fun q o h => nomatch h)⟩
  rw [start_law]
  have hturns : ∃ N : Int, N = (if (if (8 : Int) < (ns.length : Nat) then (8 : Int) else (ns.length : Nat)) > 1 then (if (8 : Int) < (ns.length : Nat) then (8 : Int) else (ns.length : Nat)) else 1) ∧ 1 ≤ N ∧ N ≤ 8 := ⟨_, rfl, by split <;> omega, by split <;> (try split) <;> omega⟩
  obtain ⟨N, hN, hN1, hN8⟩ := hturns
  refine s_forR (K := K) (n := N) (s_cons (d_cb (d := .int N) (s_cons d_int (s_cons (d_cb (s_cons (d_lenS rfl hs) (s_cons d_int s_nil)) (c_min2 (K := K))) s_nil)) (by rw [hN]; exact c_max2)) s_nil) (by omega) R
    (fun i σ' A' H' w => (∃ y1 y2 y3 y4 y5 y6 y7 y8 y9 y10, σ' = [some (.ref sa), y1, y2, y3, y4, y5, y6, y7, y8, y9, y10]) ∧ w = Me.non.own) (fun _ _ _ => ⟨⟨_, _, _, _, _, _, _, _, _, _, rfl⟩, rfl⟩) ?_ ?_
  · rintro H1 e1 i σ' A1 H1' w hi ⟨⟨y1, y2, y3, y4, y5, y6, y7, y8, y9, y10, rfl⟩, rfl⟩ ex R1
    -- the pool
    refine q_asgQ ⟨.ref sa, rfl, .int (i : Int), rfl, H1', sa, ns, i, R1, rfl, sql_ex (e1.trans ex) hs, by omega, fun qp pa pb A2 H2 g2 n1 n2 hq b0 b1 b2 => ?_⟩
    have R2 : Reg ⟨some qp, fun _ => none⟩ H2 A2 := by
      have r := g2.to R1
      refine ⟨r.ex, fun x hx => ?_, fun x hx => ?_, (fun q o h => nomatch h), (fun q o h => nomatch h)⟩
      · cases hx; exact ⟨pa, pb, hq, b0, b1, b2⟩
      · cases hx; exact n2
    -- wide, rows
    refine q_tupNew (K := K) (P := fun v => ∃ r : Int, v = .int (1 + r) ∧ 0 ≤ r ∧ r < 5) (e1 := tOp (rI0 fun i j => V.int (i + j)) (tC (V.int 1)) (tCall (takeS K) [] E0 (tCons (tVar 2) (tCons (tC (V.int 5)) tNil)))) (fun A R Q k => take_ev (K := K) (m := 5) rfl (by decide) (by decide) A R _ fun v A' H' g ⟨r, hr, h0, h1⟩ => ⟨1, r, rfl, hr, k _ A' H' g ⟨r, rfl, h0, h1⟩⟩) R2 fun v ql A3 H3 hv g3 nq R3 => ?_
    obtain ⟨r0, rfl, w0, w1⟩ := hv
    obtain ⟨wd, hwd, hw1, hw5⟩ : ∃ wd : Nat, 1 + r0 = (wd : Int) ∧ 1 ≤ wd ∧ wd ≤ 5 := ⟨(1 + r0).toNat, by omega, by omega, by omega⟩
    rw [hwd]
    -- the rows
    have hq3 : upd (fun _ => none) ql (HO.lst []) ql = some (.lst []) := upd_same
    generalize upd (fun _ => none) ql (HO.lst []) = w3 at hq3 R3
    refine (take_ev (K := K) (σ := [some (.ref sa), some (.int (i : Int)), some (.ref qp), some (.int (wd : Nat)), some (.ref ql), y5, y6, y7, y8, y9, y10]) (i := 2) (own := w3) (m := 5) rfl (by decide) (by decide)) A3 R3 _ fun v A4 H4 g4 hv4 => ?_
    obtain ⟨n4, rfl, n40, n45⟩ := hv4
    have R4 := g4.to R3
    refine s_forR (K := K) (p := ⟨some qp, w3⟩) (ta := fun _ A Q => Q [.int n4] A) (n := n4) (fun A R Q q => q _ A H4 R.refl (.cons (.int n4) .nil)) (by omega) R4
      (fun j σ' A' H' w => (∃ z5 z6 z7 z8 z9 z10, σ' = [some (.ref sa), some (.int (i : Int)), some (.ref qp), some (.int (wd : Nat)), some (.ref ql), z5, z6, z7, z8, z9, z10]) ∧ ∃ (ys : List V) (rows : List (List Int)), w ql = some (.lst ys) ∧ rows.length = j ∧ DqAll K H' ys (rows.map Q42.R) ∧ ∀ r ∈ rows, r.length = wd ∧ ∀ c ∈ r, Cell c)
      (fun A' H' g => ⟨⟨_, _, _, _, _, _, rfl⟩, [], [], hq3, rfl, .nil, (fun r h => nomatch h)⟩) ?_ ?_
    · rintro H5 e5 j σ' A5 H5' w5 hj ⟨⟨z5, z6, z7, z8, z9, z10, rfl⟩, ys, rows, hw5', hrl, kys, hrows⟩ ex5 R5
      have ly : ys.length = j := by rw [dqall_len kys, List.length_map, hrl]
      refine s_appOwnG (K := K) (P := fun v H' => ∃ r : List Int, (((r.length : Int) = (wd : Nat)) ∧ ∀ c ∈ r, Cell c) ∧ Dq K H' v (.tuple (r.map .int))) rfl hw5' (tup_any ?_) (by omega) R5 fun v A6 H6 g6 hv R6 => ?_
      · have h := lcR_any (K := K) (p := ⟨some qp, w5⟩) (σ := [some (.ref sa), some (.int (i : Int)), some (.ref qp), some (.int (wd : Nat)), some (.ref ql), some (.int (j : Int)), z6, z7, z8, z9, z10]) (H := H5') (j := 10) (vs := [10]) (ta := tCons (tVar 3) tNil) (n := (wd : Nat)) (Pc := Cell)
          (te := tOp (rIx K) (tLst (tCons (tC (V.int 0)) (tCons (tC (V.int 1)) (tCons (tUn (rU fun i => V.int (-i)) (tC (V.int 1))) (tCons (tC (V.int 2)) (tCons (tUn (rU fun i => V.int (-i)) (tC (V.int 3))) (tCons (tOp (rI CPow fun i j => V.int (i ^ j.toNat)) (tC (V.int 10)) (tC (V.int 9))) tNil))))))) (tCall (takeS K) [] E0 (tCons (tVar 2) (tCons (tC (V.int 6)) tNil))))
          (s_cons (d_var rfl (.int _)) s_nil) (by omega) (by omega) (fun x => rfl) (fun i' H1 ex => pick_any (K := K) (i := 2) (m := 6) rfl (by decide) (by decide) (s_cons d_int (s_cons d_int (s_cons (d_un d_int u_neg) (s_cons d_int (s_cons (d_un d_int u_neg) (s_cons (d_op d_int d_int (o_I (C := CPow) (f := fun i j => i ^ j.toNat) ⟨by decide, by decide, by decide⟩)) s_nil)))))) (by show 6 ≤ 100000; decide) pick_cell)
        exact fun A R Q k => h A R Q fun v A' H' g ⟨r, h1, h2, h3⟩ => k v A' H' g ⟨r, ⟨h1, h2⟩, h3⟩
      · obtain ⟨r, ⟨h1, h2⟩, h3⟩ := hv
        refine ⟨H6, _, ⟨⟨some (.int (j : Int)), z6, z7, z8, z9, z10, rfl⟩, ys ++ [v], rows ++ [r], upd_same, by rw [List.length_append, hrl]; rfl, ?_, fun r' hr' => ?_⟩, ex5.trans g6.reg, R6⟩
        · rw [List.map_append]
          exact dqall_append (dqall_ex g6.reg kys) (.cons h3 .nil)
        · rcases List.mem_append.mp hr' with hr' | hr'
          · exact hrows r' hr'
          · have e : r' = r := by simpa using hr'
            rw [e]
            exact ⟨by omega, h2⟩
    rintro σ' A5 H5 w5 ⟨⟨z5, z6, z7, z8, z9, z10, rfl⟩, ys, rows, hw5', hrl, kys, hrows⟩ ex5 R5
    have R6 := Reg.settle R5 hw5'
    have hq6 : Evl.Ex H5 (upd H5 ql (.lst ys)) := Evl.Ex.new (R5.offO ql _ hw5').1
    have krows : Dq K (upd H5 ql (.lst ys)) (.ref ql) (LR rows) := .lst upd_same (dqall_ex hq6 kys)
    have hlen : rows.length ≤ 4 := by omega
    have hok : Ok wd 30 rows := fun r hr => ⟨(hrows r hr).1, cell_sm (hrows r hr).2⟩
    have e15 : Evl.Ex H1 (upd H5 ql (.lst ys)) := ((((ex.trans g2.reg).trans g3.reg).trans g4.reg).trans ex5).trans hq6
    generalize upd H5 ql (HO.lst ys) = H6 at R6 krows e15
    -- told
    refine q_asg (d_call (K := K) (p := .non) (F := F_kernel) (d := LR (kern rows wd)) (s_cons (d_var rfl krows) (s_cons (d_var rfl (.int (wd : Nat))) s_nil)) ⟨rows, wd, 30, rfl, by omega, by omega, hok, bb_small hlen, rfl⟩) R6 fun tv A7 H7 g7 kt => ?_
    have R7 := g7.to R6
    have krows7 := dq_ex g7.reg _ _ krows
    have kl := kern_len hok
    have kc := kern_cnt hok
    have kd := fun t (ht : t ∈ kern rows wd) r (hr : r ∈ rows) => kern_dot hok ht hr
    have kr := fun t (ht : t ∈ kern rows wd) => kern_rows ht
    obtain ⟨et, ht1, ht2⟩ := told_small hok hlen hw5
    have twide := told_wide (n := wd) hok hlen
    generalize kern rows wd = told at *
    have lt5 : told.length ≤ 5 := by omega
    have rankR : ∀ {σ2 : L2.St} {H2 : Hp}, σ2[4]? = some (some (.ref ql)) → Evl.Ex H7 H2 → EvD K .non (tCall (SpD K F__law_rank) [] E0 (tCons (tVar 4) tNil)) σ2 H2 (.int (cnt rows wd : Nat)) := fun h e => d_call (s_cons (d_var h (dq_ex e _ _ krows7)) s_nil) ⟨rows, wd, 30, rfl, by omega, by omega, hok, eb30 hlen, rfl⟩
    have rankT : ∀ {σ2 : L2.St} {H2 : Hp}, σ2[6]? = some (some tv) → Evl.Ex H7 H2 → EvD K .non (tCall (SpD K F__law_rank) [] E0 (tCons (tVar 6) tNil)) σ2 H2 (.int (cnt told wd : Nat)) := fun h e => d_call (s_cons (d_var h (dq_ex e _ _ kt)) s_nil) ⟨told, wd, et, rfl, by omega, by omega, ht1, ht2, rfl⟩
    refine q_when (b := false) ((b_or (a := false) (b_not (b := true) (b_B (d_isi (K := K) (d_var rfl kt) rfl))) fun _ => b_or (b_test (d_op (K := K) (d_cb (s_cons (d_var rfl kt) s_nil) (c_len rfl)) (d_op (d_var rfl (.int (wd : Nat))) (rankR rfl (Evl.Ex.refl _)) o_sub) o_neI)) fun _ => b_test (d_op (K := K) (rankT rfl (Evl.Ex.refl _)) (d_cb (s_cons (d_var rfl kt) s_nil) (c_len rfl)) o_neI)).is ?_) R7 (fun h => nomatch h) fun _ A8 H8 g8 => ?_
    · rw [List.length_map, kc]
      have : ((told.length : Int) = (wd : Int) - (cnt rows wd : Int)) := by omega
      simp [this]
    have R8 := g8.to R7
    have e78 := g7.reg.trans g8.reg
    have kt8 := dq_ex g8.reg _ _ kt
    have krows8 := dq_ex g8.reg _ _ krows7
    refine s_forL (K := K) (p := .non) (ds := told.map Q42.R) (d_var rfl kt8) R8
      (fun j σ' A' H' w => (∃ z7 z8 z9 z10, σ' = [some (.ref sa), some (.int (i : Int)), some (.ref qp), some (.int (wd : Nat)), some (.ref ql), z5, some tv, z7, z8, z9, z10]) ∧ w = Me.non.own) (fun _ _ _ => ⟨⟨_, _, _, _, rfl⟩, rfl⟩) ?_ ?_
    · rintro H9 e9 j d x σ' A9 H9' w hi9 ⟨⟨z7, z8, z9, z10, rfl⟩, rfl⟩ ex9 R9 kx
      obtain ⟨t, ht0, htm, rfl⟩ := at_rows hi9
      have htl := kr t htm
      have krows9 := dq_ex (e9.trans ex9) _ _ krows8
      refine q_when (b := false) ((b_or (a := false) (b_not (b := true) (b_B (d_isi (K := K) (d_var rfl kx) rfl))) fun _ => b_test (d_op (K := K) (d_cb (s_cons (d_var rfl kx) s_nil) (c_lenT rfl)) (d_var rfl (.int (wd : Nat))) o_neI)).is ?_) R9 (fun h => nomatch h) fun _ A10 H10 g10 => ?_
      · rw [List.length_map, htl]; simp
      have R10 := g10.to R9
      have kx10 := dq_ex g10.reg _ _ kx
      have krows10 := dq_ex g10.reg _ _ krows9
      refine s_forL (K := K) (p := .non) (ds := rows.map Q42.R) (d_var rfl krows10) R10
        (fun j' σ' A' H' w => (∃ z8 z9 z10, σ' = [some (.ref sa), some (.int (i : Int)), some (.ref qp), some (.int (wd : Nat)), some (.ref ql), z5, some tv, some x, z8, z9, z10]) ∧ w = Me.non.own) (fun _ _ _ => ⟨⟨_, _, _, rfl⟩, rfl⟩) ?_ ?_
      · rintro H11 e11 j' d y σ' A11 H11' w hi11 ⟨⟨z8, z9, z10, rfl⟩, rfl⟩ ex11 R11 ky
        obtain ⟨r, hr0, hrm, rfl⟩ := at_rows hi11
        have hrl2 := (hok r hrm).1
        have kx11 := dq_ex (e11.trans ex11) _ _ kx10
        obtain ⟨_, hdot⟩ := kd t htm r hrm
        refine q_asg (sum_ev (K := K) (r := t) (o := r) (wd := wd) (a := 6500) (b := 30) rfl htl hrl2 (by omega) (twide t htm) (hok r hrm).2 (by decide) (fun x => rfl) (fun x => rfl) (fun x' H1 e => d_var (i := 7) rfl (dq_ex e _ _ kx11)) (fun x' H1 e => d_var (i := 8) rfl (dq_ex e _ _ ky))) R11 fun dv A12 H12 g12 k12 => ?_
        rw [hdot] at k12
        cases k12
        have R12 := g12.to R11
        refine Z.s_if (b := false) ((b_or (b_test (d_op (K := K) (d_var rfl (.int 0)) d_int o_neI)) fun _ => b_test (d_op (K := K) (d_call (F := F_product) (d := .int (dot t r)) (s_cons (d_var rfl (dq_ex g12.reg _ _ kx11)) (s_cons (d_var rfl (dq_ex g12.reg _ _ ky)) s_nil)) ⟨t, r, 6500, 30, rfl, by omega, by omega, twide t htm, (hok r hrm).2, by decide, rfl⟩) (d_var rfl (.int 0)) o_neI)).is ?_) R12 (fun h => nomatch h) fun _ A13 H13 g13 => ⟨H13, _, ⟨⟨_, _, _, rfl⟩, rfl⟩, (ex11.trans g12.reg).trans g13.reg, g13.to R12⟩
        rw [hdot]; simp
      · rintro σ' A11 H11' w ⟨⟨z8, z9, z10, rfl⟩, rfl⟩ ex11 R11
        exact ⟨H11', _, ⟨⟨_, _, _, _, rfl⟩, rfl⟩, (ex9.trans g10.reg).trans ex11, R11⟩
    rintro σ' A9 H9 w ⟨⟨z7, z8, z9, z10, rfl⟩, rfl⟩ ex9 R9
    have krows9 := dq_ex ex9 _ _ krows8
    have e19 : Evl.Ex H1 H9 := (e15.trans e78).trans ex9
    refine Z.s_if (b_test (d_op (K := K) (d_cb (s_cons (d_var rfl krows9) s_nil) (c_len rfl)) d_int o_gt)) R9 (fun hb A10 H10 g10 => ?_) fun hb A10 H10 g10 => ⟨H10, _, ⟨⟨_, _, _, _, _, _, _, _, _, _, rfl⟩, rfl⟩, e19.trans g10.reg, g10.to R9⟩
    have hl2 : 1 < rows.length := by
      rw [List.length_map] at hb
      have : (1 : Int) < (rows.length : Int) := by simpa using hb
      omega
    have R10 := g10.to R9
    have krows10 := dq_ex g10.reg _ _ krows9
    have m0 : rows.getD 0 [] ∈ rows := List.mem_of_getElem? (getD_lists (by omega))
    have m1 : rows.getD 1 [] ∈ rows := List.mem_of_getElem? (getD_lists (by omega))
    have ix : ∀ (z : Nat), z < rows.length → ∀ {σ2 : L2.St} {H2 : Hp}, σ2[4]? = some (some (.ref ql)) → Evl.Ex H10 H2 → EvD K .non (tOp (rIx K) (tVar 4) (tC (.int (z : Nat)))) σ2 H2 (Q42.R (rows.getD z [])) := fun z hz σ2 H2 h e => d_op (d_var h (dq_ex e _ _ krows10)) d_int (o_ixL (atI_rows hz))
    refine Z.s_if (b := false) ((b_test (d_op (K := K) (d_call (F := F_product) (d := .int (dot (rows.getD 0 []) (rows.getD 1 []))) (s_cons (ix 0 (by omega) rfl (Evl.Ex.refl _)) (s_cons (ix 1 hl2 rfl (Evl.Ex.refl _)) s_nil)) ⟨_, _, 30, 30, rfl, by rw [(hok _ m0).1, (hok _ m1).1], by rw [(hok _ m0).1]; omega, (hok _ m0).2, (hok _ m1).2, by decide, rfl⟩)
      (sum_ev (K := K) (r := rows.getD 0 []) (o := rows.getD 1 []) (wd := wd) (a := 30) (b := 30) rfl (hok _ m0).1 (hok _ m1).1 (by omega) (hok _ m0).2 (hok _ m1).2 (by decide) (fun x => rfl) (fun x => rfl) (fun x' H1 e => ix 0 (by omega) rfl e) (fun x' H1 e => ix 1 hl2 rfl e)) o_neI)).is (by simp)) R10 (fun h => nomatch h) fun _ A11 H11 g11 => ⟨H11, _, ⟨⟨_, _, _, _, _, _, _, _, _, _, rfl⟩, rfl⟩, (e19.trans g10.reg).trans g11.reg, g11.to R10⟩
  · rintro σ' A1 H1' w ⟨⟨y1, y2, y3, y4, y5, y6, y7, y8, y9, y10, rfl⟩, rfl⟩ e R1
    have ok1 : Ok 2 30 [[1, 1]] := fun r hr => by
      have : r = [1, 1] := by simpa using hr
      rw [this]
      exact ⟨rfl, fun n hn => by
        have : n = 1 := by simpa using hn
        rw [this]; decide⟩
    have ok2 : Ok 1 30 [[2]] := fun r hr => by
      have : r = [2] := by simpa using hr
      rw [this]
      exact ⟨rfl, fun n hn => by
        have : n = 2 := by simpa using hn
        rw [this]; decide⟩
    have ok3 : Ok 2 30 [] := fun r hr => nomatch hr
    have v1 : (kern [[1, 1]] 2).isEmpty = false := by decide +kernel
    have v2 : (kern [[2]] 1).isEmpty = true := by decide +kernel
    have v3 : (kern [] 2).length = 2 := by decide +kernel
    have c1 : EvD K .non (tCall (SpD K F_kernel) [] E0 (tCons (tLst (tCons (tTup (tCons (tC (.int 1)) (tCons (tC (.int 1)) tNil))) tNil)) (tCons (tC (.int 2)) tNil))) [some (.ref sa), y1, y2, y3, y4, y5, y6, y7, y8, y9, y10] H1' (LR (kern [[1, 1]] 2)) :=
      d_call (s_cons (d_lst (s_cons (d_tup (s_cons d_int (s_cons d_int s_nil)) (by show 2 ≤ 100000; decide)) s_nil) (by show 1 ≤ 100000; decide)) (s_cons d_int s_nil)) ⟨[[1, 1]], 2, 30, rfl, by decide, by decide, ok1, bb_small (k := 1) (by decide), rfl⟩
    have c2 : ∀ H2, EvD K .non (tCall (SpD K F_kernel) [] E0 (tCons (tLst (tCons (tTup (tCons (tC (.int 2)) tNil)) tNil)) (tCons (tC (.int 1)) tNil))) [some (.ref sa), y1, y2, y3, y4, y5, y6, y7, y8, y9, y10] H2 (LR (kern [[2]] 1)) := fun H2 =>
      d_call (s_cons (d_lst (s_cons (d_tup (s_cons d_int s_nil) (by show 1 ≤ 100000; decide)) s_nil) (by show 1 ≤ 100000; decide)) (s_cons d_int s_nil)) ⟨[[2]], 1, 30, rfl, by decide, by decide, ok2, bb_small (k := 1) (by decide), rfl⟩
    have c3 : ∀ H2, EvD K .non (tCall (SpD K F_kernel) [] E0 (tCons (tLst tNil) (tCons (tC (.int 2)) tNil))) [some (.ref sa), y1, y2, y3, y4, y5, y6, y7, y8, y9, y10] H2 (LR (kern [] 2)) := fun H2 =>
      d_call (s_cons (d_lst s_nil (Nat.zero_le _)) (s_cons d_int s_nil)) ⟨[], 2, 30, rfl, by decide, by decide, ok3, bb_small (k := 0) (by decide), rfl⟩
    have t1 := d_op (K := K) c1 (d_lst s_nil (Nat.zero_le _)) (o_neD (shaped_rows (kern [[1, 1]] 2)) shaped_nil)
    have t2 := fun H2 => d_op (K := K) (c2 H2) (d_lst s_nil (Nat.zero_le _)) (o_eqD (shaped_rows (kern [[2]] 1)) shaped_nil)
    have t3 := fun H2 => d_op (K := K) (d_cb (s_cons (c3 H2) s_nil) c_lenLK) (d_int (i := 2)) o_eqI
    have f1 : (!PyData.eqv (.list ((kern [[1, 1]] 2).map fun r => .tuple (r.map PyData.int))) (.list [])) = true := by
      rw [eqv_nil]
      cases h : kern [[1, 1]] 2 with
      | nil => rw [h] at v1; cases v1
      | cons a b => rfl
    have f2 : (PyData.eqv (.list ((kern [[2]] 1).map fun r => .tuple (r.map PyData.int))) (.list [])) = true := by
      rw [eqv_nil]
      cases h : kern [[2]] 1 with
      | nil => rfl
      | cons a b => rw [h] at v2; cases v2
    have f3 : decide ((((kern [] 2).map Q42.R).length : Int) = 2) = true := by
      rw [List.length_map, v3]; rfl
    refine Z.s_ret (d_andV (K := K) (a := true) (b := true) (t1.is (congrArg PyData.bool f1)) fun _ => d_andV (a := true) (b := true) ((t2 _).is (congrArg PyData.bool f2)) fun _ => (t3 _).is (congrArg PyData.bool f3)) R1 fun v A2 H2 g2 k2 => ?_
    cases k2
    exact q A2
end
end Q42
/-! the head: what the top has written, the run, the law -/
namespace Q42
open PySem PySem.Spec PyProof.Rows L2 Z
abbrev dfn (x : Str) (s : Stmt) : He.DefD := ⟨(x, none), x, x, defArgs s, defBody s, defScope s, [], []⟩
def fnL : List He.DefD := [dfn "is_whole" s_is_whole, dfn "is_row" s_is_row, dfn "check_rows" s_check_rows, dfn "reduced" s_reduced, dfn "kernel" s_kernel, dfn "product" s_product, dfn "remainder" s_remainder, dfn "_with_row" s__with_row, dfn "_first_place" s__first_place,
  dfn "_cleared" s__cleared, dfn "without_factor" s_without_factor, dfn "_leading_above_zero" s__leading_above_zero, dfn "_kernel_row" s__kernel_row, dfn "_law_pool" s__law_pool, dfn "_law_take" s__law_take, dfn "_law_thin" s__law_thin, dfn "_law_rank" s__law_rank, dfn "law" s_law]
def faL : List He.Fa := [.glo "is_whole", .glo "is_row", .glo "check_rows", .glo "reduced", .glo "kernel", .glo "product", .glo "remainder", .glo "_with_row", .glo "_first_place", .glo "_cleared", .glo "without_factor", .glo "_leading_above_zero", .glo "_kernel_row", .glo "_law_pool", .glo "_law_take", .glo "_law_thin", .glo "_law_rank", .glo "law",
  .free "isinstance", .free "len", .free "all", .free "any", .free "tuple", .free "list", .free "int", .free "bool", .free "abs", .free "range", .free "zip", .free "enumerate", .free "sum", .free "max", .free "min"]
def exL (K : PySem.W.Frag) : Bool := He.eqO (PySem.W.nsIn K mainGlobals "gcd") (some (some (.builtin "math.gcd"))) && He.eqO (PySem.W.nsIn K mainGlobals "lcm") (some (some (.builtin "math.lcm")))
abbrev Rw : PySem.W.OpenRow := PySem.W.OpenLaw.row PySem.Challenge.rw_freshplaces_k42_kernels
abbrev hk : PySem.W.Hook := He.hookX 4 faL fnL [] [] exL
def ob (s : PySem.W.SharedT) : He.AlX := He.obsX 4 faL fnL [] [] exL (HandSHeadRun.getT s)
theorem ob_eq (s : PySem.W.SharedT) : ob s = hk.obs s.abs := He.obsX_eq (HandSHeadRun.getT_eq s)
def loose : List PySem.Str := ["__name__", "FreshError", "InvalidRow", "is_whole", "is_row", "check_rows", "reduced", "kernel", "product", "remainder", "_with_row", "_first_place", "_cleared", "without_factor", "_leading_above_zero", "_kernel_row", "_law_pool", "_law_take", "_law_thin", "_law_rank"]
theorem facts {P : Program} {w : World} {K : PySem.W.Frag} {h : Heap} {mg : Str → Option Value} {f : Addr} (X : K.In h) (G : h.Ns mainGlobals mg) (hfa : mg ("law" : Str) = some (.ref f)) (cx : He.SaysX faL fnL [] [] exL w h K) :
    ∃ fd : FuncData, (∀ (s : Shared) (v : Value), BindsTo s fd ⟨[v], []⟩ [("_law_script", v)]) ∧ ∀ base : Heap, K.In base → base.Ns mainGlobals mg → FnOk P w K mg base CX0 7 f fd ["_law_script"] (spLaw K) := by
  have c := cx.t.d
  have e2 : (He.eqO (PySem.W.nsIn K mainGlobals "gcd") (some (some (.builtin "math.gcd"))) && He.eqO (PySem.W.nsIn K mainGlobals "lcm") (some (some (.builtin "math.lcm")))) = true := cx.more
  obtain ⟨x1, x2⟩ := Bool.and_eq_true_iff.mp e2
  have mgcd : mg "gcd" = some (.builtin "math.gcd") := PySem.W.mg_of X G (He.eqO_ok x1)
  have mlcm : mg "lcm" = some (.builtin "math.lcm") := PySem.W.mg_of X G (He.eqO_ok x2)
  have B : Bs mg := ⟨He.free_ok X G (c.fact 18 (f := .free "isinstance") rfl), He.free_ok X G (c.fact 19 (f := .free "len") rfl), He.free_ok X G (c.fact 20 (f := .free "all") rfl), He.free_ok X G (c.fact 21 (f := .free "any") rfl), He.free_ok X G (c.fact 22 (f := .free "tuple") rfl), He.free_ok X G (c.fact 23 (f := .free "list") rfl),
    He.free_ok X G (c.fact 24 (f := .free "int") rfl), He.free_ok X G (c.fact 25 (f := .free "bool") rfl), He.free_ok X G (c.fact 26 (f := .free "abs") rfl), He.free_ok X G (c.fact 27 (f := .free "range") rfl), He.free_ok X G (c.fact 28 (f := .free "zip") rfl), He.free_ok X G (c.fact 29 (f := .free "enumerate") rfl),
    He.free_ok X G (c.fact 30 (f := .free "sum") rfl), He.free_ok X G (c.fact 31 (f := .free "max") rfl), He.free_ok X G (c.fact 32 (f := .free "min") rfl)⟩
  have g := fun i (x : Str) (h : faL[i]? = some (.glo x)) => He.glo_ok X G (c.fact i (f := .glo x) h)
  have H0 : St K mg "is_whole" s_is_whole ["value"] := by
    obtain ⟨fd, F⟩ := c.def_ 0 (d := dfn "is_whole" s_is_whole) rfl
    exact ⟨_, fd, F, g 0 _ rfl, F.bindsN fun _ _ _ _ _ _ us hl => match us, hl with | [_], _ => rfl⟩
  have H1 : St K mg "is_row" s_is_row ["value", "width"] := by
    obtain ⟨fd, F⟩ := c.def_ 1 (d := dfn "is_row" s_is_row) rfl
    exact ⟨_, fd, F, g 1 _ rfl, F.bindsN fun _ _ _ _ _ _ us hl => match us, hl with | [_, _], _ => rfl⟩
  have H2 : St K mg "check_rows" s_check_rows ["rows", "width"] := by
    obtain ⟨fd, F⟩ := c.def_ 2 (d := dfn "check_rows" s_check_rows) rfl
    exact ⟨_, fd, F, g 2 _ rfl, F.bindsN fun _ _ _ _ _ _ us hl => match us, hl with | [_, _], _ => rfl⟩
  have H3 : St K mg "reduced" s_reduced ["rows", "width"] := by
    obtain ⟨fd, F⟩ := c.def_ 3 (d := dfn "reduced" s_reduced) rfl
    exact ⟨_, fd, F, g 3 _ rfl, F.bindsN fun _ _ _ _ _ _ us hl => match us, hl with | [_, _], _ => rfl⟩
  have H4 : St K mg "kernel" s_kernel ["rows", "width"] := by
    obtain ⟨fd, F⟩ := c.def_ 4 (d := dfn "kernel" s_kernel) rfl
    exact ⟨_, fd, F, g 4 _ rfl, F.bindsN fun _ _ _ _ _ _ us hl => match us, hl with | [_, _], _ => rfl⟩
  have H5 : St K mg "product" s_product ["one", "other"] := by
    obtain ⟨fd, F⟩ := c.def_ 5 (d := dfn "product" s_product) rfl
    exact ⟨_, fd, F, g 5 _ rfl, F.bindsN fun _ _ _ _ _ _ us hl => match us, hl with | [_, _], _ => rfl⟩
  have H6 : St K mg "remainder" s_remainder ["row", "found"] := by
    obtain ⟨fd, F⟩ := c.def_ 6 (d := dfn "remainder" s_remainder) rfl
    exact ⟨_, fd, F, g 6 _ rfl, F.bindsN fun _ _ _ _ _ _ us hl => match us, hl with | [_, _], _ => rfl⟩
  have H7 : St K mg "_with_row" s__with_row ["found", "row"] := by
    obtain ⟨fd, F⟩ := c.def_ 7 (d := dfn "_with_row" s__with_row) rfl
    exact ⟨_, fd, F, g 7 _ rfl, F.bindsN fun _ _ _ _ _ _ us hl => match us, hl with | [_, _], _ => rfl⟩
  have H8 : St K mg "_first_place" s__first_place ["row"] := by
    obtain ⟨fd, F⟩ := c.def_ 8 (d := dfn "_first_place" s__first_place) rfl
    exact ⟨_, fd, F, g 8 _ rfl, F.bindsN fun _ _ _ _ _ _ us hl => match us, hl with | [_], _ => rfl⟩
  have H9 : St K mg "_cleared" s__cleared ["row", "one", "place"] := by
    obtain ⟨fd, F⟩ := c.def_ 9 (d := dfn "_cleared" s__cleared) rfl
    exact ⟨_, fd, F, g 9 _ rfl, F.bindsN fun _ _ _ _ _ _ us hl => match us, hl with | [_, _, _], _ => rfl⟩
  have H10 : St K mg "without_factor" s_without_factor ["numbers"] := by
    obtain ⟨fd, F⟩ := c.def_ 10 (d := dfn "without_factor" s_without_factor) rfl
    exact ⟨_, fd, F, g 10 _ rfl, F.bindsN fun _ _ _ _ _ _ us hl => match us, hl with | [_], _ => rfl⟩
  have H11 : St K mg "_leading_above_zero" s__leading_above_zero ["row", "place"] := by
    obtain ⟨fd, F⟩ := c.def_ 11 (d := dfn "_leading_above_zero" s__leading_above_zero) rfl
    exact ⟨_, fd, F, g 11 _ rfl, F.bindsN fun _ _ _ _ _ _ us hl => match us, hl with | [_, _], _ => rfl⟩
  have H12 : St K mg "_kernel_row" s__kernel_row ["found", "leading", "free", "width"] := by
    obtain ⟨fd, F⟩ := c.def_ 12 (d := dfn "_kernel_row" s__kernel_row) rfl
    exact ⟨_, fd, F, g 12 _ rfl, F.bindsN fun _ _ _ _ _ _ us hl => match us, hl with | [_, _, _, _], _ => rfl⟩
  have H13 : St K mg "_law_pool" s__law_pool ["_law_script", "_law_k"] := by
    obtain ⟨fd, F⟩ := c.def_ 13 (d := dfn "_law_pool" s__law_pool) rfl
    exact ⟨_, fd, F, g 13 _ rfl, F.bindsN fun _ _ _ _ _ _ us hl => match us, hl with | [_, _], _ => rfl⟩
  have H14 : St K mg "_law_take" s__law_take ["_law_pool_here", "_law_wide"] := by
    obtain ⟨fd, F⟩ := c.def_ 14 (d := dfn "_law_take" s__law_take) rfl
    exact ⟨_, fd, F, g 14 _ rfl, F.bindsN fun _ _ _ _ _ _ us hl => match us, hl with | [_, _], _ => rfl⟩
  have H15 : St K mg "_law_thin" s__law_thin ["_law_row"] := by
    obtain ⟨fd, F⟩ := c.def_ 15 (d := dfn "_law_thin" s__law_thin) rfl
    exact ⟨_, fd, F, g 15 _ rfl, F.bindsN fun _ _ _ _ _ _ us hl => match us, hl with | [_], _ => rfl⟩
  have H16 : St K mg "_law_rank" s__law_rank ["_law_rows"] := by
    obtain ⟨fd, F⟩ := c.def_ 16 (d := dfn "_law_rank" s__law_rank) rfl
    exact ⟨_, fd, F, g 16 _ rfl, F.bindsN fun _ _ _ _ _ _ us hl => match us, hl with | [_], _ => rfl⟩
  obtain ⟨fd, F⟩ := c.def_ 17 (d := dfn "law" s_law) rfl
  have e := hfa.symm.trans (g 17 _ rfl)
  cases e
  have b := FunD.bindsA (ps := ["_law_script"]) F fun _ _ _ _ _ _ us hl => match us, hl with | [_], _ => rfl
  refine ⟨fd, fun s v => b s [v] rfl, fun base _ _ => ?_⟩
  have D0 := dn_is_whole (P := P) (w := w) (base := base) H0 B
  have D1 := dn_is_row H1 B D0
  have D2 := dn_check_rows H2 B D1
  have D8 := dn__first_place (P := P) (w := w) (base := base) H8 B
  have D10 := dn_without_factor (P := P) (w := w) (base := base) H10 B mgcd
  have D11 := dn__leading_above_zero (P := P) (w := w) (base := base) H11 B
  have D9 := dn__cleared H9 B D10
  have D6 := dn_remainder H6 B D8 D9
  have D7 := dn__with_row H7 B D8 D9 D6 D10 D11
  have D3 := dn_reduced H3 B D2 D7
  have D12 := dn__kernel_row H12 B mlcm D10
  have D4 := dn_kernel H4 B D3 D8 D12
  have D5 := dn_product (P := P) (w := w) (base := base) H5 B
  have D13 := dn__law_pool (P := P) (w := w) (base := base) H13 B
  have D14 := dn__law_take (P := P) (w := w) (base := base) H14 B
  have D15 := dn__law_thin (P := P) (w := w) (base := base) H15 B
  have D16 := dn__law_rank H16 B D15
  exact ok_law F B D13 D14 D4 D16 D5
end Q42
namespace Q42
theorem run (w : PySem.World) : HandSHeadRun.RunEqI Rw (PySem.W.view Rw.prog [0, 24]) hk ob 2000 loose w := by
  unfold HandSHeadRun.RunEqI
  kernel_rfl
end Q42
open PySem PySem.W PySem.Calls PyProof.Rows
theorem PySem.Challenge.cw_freshplaces_k42_kernels_holds : PySem.Challenge.rw_freshplaces_k42_kernels.Holds := by
  w_on; o_law
  refine HandSHeadRun.head_imp (r := OpenLaw.row PySem.Challenge.rw_freshplaces_k42_kernels) (q := view (OpenLaw.row PySem.Challenge.rw_freshplaces_k42_kernels).prog [0, 24]) (H := Q42.hk) (ob := Q42.ob) (M := 2000) (loose := Q42.loose) (d := HandSHeadRun.topDef (OpenLaw.row PySem.Challenge.rw_freshplaces_k42_kernels).prog 24) (kwd := []) Q42.ob_eq
    Q42.run (by kernel_rfl) (by kernel_rfl) (by kernel_rfl) (by rfl) (by first | assumption | decide +kernel) (by decide +kernel) ⟨rfl, rfl, rfl, rfl, rfl, by decide +kernel⟩ ?hw ?hc
  case hw => w_witness2
  case hc =>
    refine L2.walk_ofE (l := PySem.Challenge.rw_freshplaces_k42_kernels) (n := 63) (k := 7) (x := "_law_script") (CX := L2.CX0) rfl (by decide) (by kernel_rfl) ⟨rfl, by decide, by decide⟩ ?F (fun _ _ _ _ z => z)
    intro w mg fa h Y G hmg0
    obtain ⟨K, KX, c⟩ := Y
    have hmg : mg ("law" : PySem.Str) = some (.ref fa) := by
      have e : (HandSHeadRun.topDef (OpenLaw.row PySem.Challenge.rw_freshplaces_k42_kernels).prog 24).name = ("law" : PySem.Str) := by kernel_rfl
      rw [← e]
      exact hmg0
    obtain ⟨fd, hb, hF⟩ := Q42.facts (P := (PySem.Challenge.rw_freshplaces_k42_kernels).prog) (w := w) KX G hmg c
    exact ⟨K, fd, Q42.spLaw K, KX, hb, fun H a ns hl _ hS => ⟨a, ns, rfl, hS, Nat.le_trans hl (by decide), fun _ => rfl⟩, hF⟩
