import PyProof.Rows.All
import Wide.All
import OpenK.AllK
import Wide.FinOn
import HandS.ForMost
import HandS.ForExc
import HandS.Wide
import HandS.IsInst
import HandS.Flow
import PyProof.StrBlock2
import HandS.Defaults
import HandS.Head0
import HandS.Head1
import HandS.Head2
import HandS.HeadEnd
import HandS.HeadHook1
import HandS.HeadHook2
import HandS.TryMany
import PySem.Challenge.RW_kimariji_k02_parts_without_bottom
set_option Elab.async false
set_option linter.all false
set_option maxRecDepth 100000
set_option maxHeartbeats 4000000
/-! Kj: a layer of data over HandS: what a reading gives, as data, whatever the heap. -/
namespace Kj
open PySem L2
/-! ### heaps -/
def mns (H H0 : Hp) : Hp := fun a => match H0 a with | none => H a | some _ => none
theorem mns_some {H H0 : Hp} {a : Addr} {o : HO} : mns H H0 a = some o ↔ H0 a = none ∧ H a = some o := by
  unfold mns; cases h : H0 a <;> simp
theorem mns_mono {H H' : Hp} (H0 : Hp) (s : Same H H') : Same (mns H H0) (mns H' H0) := fun a o h => by
  rw [mns_some] at h ⊢; exact ⟨h.1, s _ _ h.2⟩
theorem mns_sub {H H0 : Hp} : Same (mns H H0) H := fun a o h => (mns_some.mp h).2
theorem seqT {K : PySem.W.Frag} {H H' : Hp} {a : Addr} {xs : List V} (e : Same H H') (h : SqT K H a xs) : SqT K H' a xs := by
  rcases h with (h | ⟨o, h⟩) | h
  · exact .inl (.inl (e _ _ h))
  · exact .inl (.inr ⟨o, e _ _ h⟩)
  · exact .inr h
mutual
theorem dp_mono {K : PySem.W.Frag} {H H' : Hp} (s : Same H H') : ∀ (d : PyData) (v : V), Dp K H v d → Dp K H' v d
  | .none, _, h => by cases h; exact .non
  | .bool b, _, h => by cases h; exact .bl b
  | .int i, _, h => by cases h; exact .int i
  | .str x, _, h => by cases h; exact .str x
  | .list ds, _, h => by
    cases h with
    | lst hs ha => exact .lst (s.seq hs) (dpa_mono s ds _ ha)
  | .tuple ds, _, h => by
    cases h with
    | tup hs ha => exact .tup (seqT s hs) (dpa_mono s ds _ ha)
  | .dict _, _, h => by cases h
theorem dpa_mono {K : PySem.W.Frag} {H H' : Hp} (s : Same H H') : ∀ (ds : List PyData) (vs : List V), DpAll K H vs ds → DpAll K H' vs ds
  | [], _, h => by cases h; exact .nil
  | d :: ds, _, h => by
    cases h with
    | cons h1 h2 => exact .cons (dp_mono s d _ h1) (dpa_mono s ds _ h2)
end
structure Abs where
  p : V → Hp → Prop
  mono : ∀ (v : V) (H H' : Hp), Same H H' → p v H → p v H'
structure AbsO where
  p : HO → Hp → Prop
  mono : ∀ (o : HO) (H H' : Hp), Same H H' → p o H → p o H'
inductive Slot where
  | no
  | dat (A : Abs)
  | new (A : Abs)
  | own (B : AbsO)
def aD (K : PySem.W.Frag) (d : PyData) : Abs := ⟨fun v H => Dp K H v d, fun v _ _ s h => dp_mono s d v h⟩
def hp (f : Bool) (Hr H0 : Hp) : Hp := match f with | true => mns Hr H0 | false => Hr
def sl : Bool → Abs → Slot
  | true, A => .new A
  | false, A => .dat A
theorem hp_mono (f : Bool) {H H' : Hp} (H0 : Hp) (s : Same H H') : Same (hp f H H0) (hp f H' H0) := by
  cases f
  · exact s
  · exact mns_mono H0 s
theorem hp_sub (f : Bool) {H H0 : Hp} : Same (hp f H H0) H := by
  cases f
  · exact Same.refl _
  · exact mns_sub
def SlotOk (H0 H Hr : Hp) (σ : St) (i : Nat) : Slot → Prop
  | .no => True
  | .dat A => ∃ v, σ[i]? = some (some v) ∧ A.p v Hr
  | .new A => ∃ v, σ[i]? = some (some v) ∧ A.p v (mns Hr H0)
  | .own B => ∃ p o, σ[i]? = some (some (.ref p)) ∧ H0 p = none ∧ Hr p = none ∧ H p = some o ∧ B.p o (mns Hr H0)
structure EnvOk (H0 : Hp) (σ : St) (ρ : List Slot) (H Hr : Hp) : Prop where
  base : Same H0 H
  sub : Same Hr H
  len : σ.length = ρ.length
  slot : ∀ (i : Nat) (s : Slot), ρ[i]? = some s → SlotOk H0 H Hr σ i s
  dis : ∀ (i j : Nat) (p : Addr) (B B' : AbsO), i ≠ j → ρ[i]? = some (Slot.own B) → ρ[j]? = some (Slot.own B') → σ[i]? = some (some (V.ref p)) → σ[j]? = some (some (V.ref p)) → False
structure Ext (H Hr H' Hr' : Hp) : Prop where
  h : Same H H'
  r : Same Hr Hr'
  s : Same Hr' H'
  n : ∀ a o, Hr' a = some o → Hr a = none → H a = none
theorem Ext.refl {H Hr : Hp} (s : Same Hr H) : Ext H Hr H Hr := ⟨Same.refl _, Same.refl _, s, fun a o h h' => by rw [h] at h'; cases h'⟩
theorem Ext.trans {H Hr H1 Hr1 H2 Hr2 : Hp} (x : Ext H Hr H1 Hr1) (y : Ext H1 Hr1 H2 Hr2) : Ext H Hr H2 Hr2 :=
  ⟨x.h.trans y.h, x.r.trans y.r, y.s, fun a o h h' => by
    cases q : Hr1 a with
    | none => exact x.h.free (y.n a o h q)
    | some u => exact x.n a u q h'⟩
theorem EnvOk.ext {H0 : Hp} {σ : St} {ρ : List Slot} {H Hr H' Hr' : Hp} (E : EnvOk H0 σ ρ H Hr) (x : Ext H Hr H' Hr') : EnvOk H0 σ ρ H' Hr' := by
  refine ⟨E.base.trans x.h, x.s, E.len, fun i s hs => ?_, E.dis⟩
  have h := E.slot i s hs
  cases s with
  | no => trivial
  | dat A => obtain ⟨v, e, a⟩ := h; exact ⟨v, e, A.mono _ _ _ x.r a⟩
  | new A => obtain ⟨v, e, a⟩ := h; exact ⟨v, e, A.mono _ _ _ (mns_mono _ x.r) a⟩
  | own B =>
    obtain ⟨p, o, e, h0, hr, hh, b⟩ := h
    refine ⟨p, o, e, h0, ?_, x.h _ _ hh, B.mono _ _ _ (mns_mono _ x.r) b⟩
    cases q : Hr' p with
    | none => rfl
    | some u => have := x.n p u q hr; rw [hh] at this; cases this
theorem EnvOk.set {H0 : Hp} {σ : St} {ρ : List Slot} {H Hr : Hp} (E : EnvOk H0 σ ρ H Hr) {i : Nat} {f : Bool} {A : Abs} {v : V} (hi : i < ρ.length) (h : A.p v (hp f Hr H0)) : EnvOk H0 (σ.set i (some v)) (ρ.set i (sl f A)) H Hr := by
  have hσ : i < σ.length := by rw [E.len]; exact hi
  have ne : ∀ (B : AbsO), sl f A ≠ .own B := by intro B; cases f <;> intro z <;> cases z
  refine ⟨E.base, E.sub, by simp [E.len], fun j s hs => ?_, fun j k p B B' hjk hj hk ej ek => ?_⟩
  · by_cases hj : j = i
    · subst hj
      rw [List.getElem?_set_self hi] at hs
      have e := Option.some.inj hs
      subst e
      cases f
      · exact ⟨v, by rw [List.getElem?_set_self hσ], h⟩
      · exact ⟨v, by rw [List.getElem?_set_self hσ], h⟩
    · rw [List.getElem?_set_ne (Ne.symm hj)] at hs
      have := E.slot j s hs
      have e : (σ.set i (some v))[j]? = σ[j]? := List.getElem?_set_ne (Ne.symm hj)
      cases s with
      | no => trivial
      | dat A => unfold SlotOk at this ⊢; rw [e]; exact this
      | new A => unfold SlotOk at this ⊢; rw [e]; exact this
      | own B => unfold SlotOk at this ⊢; rw [e]; exact this
  · have h1 : j ≠ i := by
      rintro rfl
      rw [List.getElem?_set_self hi] at hj
      exact ne B (Option.some.inj hj)
    have h2 : k ≠ i := by
      rintro rfl
      rw [List.getElem?_set_self hi] at hk
      exact ne B' (Option.some.inj hk)
    rw [List.getElem?_set_ne (Ne.symm h1)] at hj ej
    rw [List.getElem?_set_ne (Ne.symm h2)] at hk ek
    exact E.dis j k p B B' hjk hj hk ej ek
/-- a new object that is the slot's own -/
theorem EnvOk.lay {H0 : Hp} {σ : St} {ρ : List Slot} {H Hr : Hp} (E : EnvOk H0 σ ρ H Hr) {i : Nat} {B : AbsO} {p : Addr} {o : HO} (hi : i < ρ.length) (hn : H p = none) (h : B.p o (mns Hr H0)) :
    EnvOk H0 (σ.set i (some (.ref p))) (ρ.set i (.own B)) (upd H p o) Hr := by
  have hσ : i < σ.length := by rw [E.len]; exact hi
  have up : Same H (upd H p o) := fun a u e => by rw [upd_ne (ne_of_none e hn)]; exact e
  refine ⟨E.base.trans up, E.sub.trans up, by simp [E.len], fun j s hs => ?_, fun j k q B1 B2 hjk hj hk ej ek => ?_⟩
  · by_cases hj : j = i
    · subst hj
      rw [List.getElem?_set_self hi] at hs
      have e := Option.some.inj hs
      subst e
      exact ⟨p, o, by rw [List.getElem?_set_self hσ], E.base.free hn, E.sub.free hn, upd_same, h⟩
    · rw [List.getElem?_set_ne (Ne.symm hj)] at hs
      have := E.slot j s hs
      have e : (σ.set i (some (.ref p)))[j]? = σ[j]? := List.getElem?_set_ne (Ne.symm hj)
      cases s with
      | no => trivial
      | dat A => unfold SlotOk at this ⊢; rw [e]; exact this
      | new A => unfold SlotOk at this ⊢; rw [e]; exact this
      | own B => unfold SlotOk at this ⊢; rw [e]; obtain ⟨q, u, e1, e2, e3, e4, e5⟩ := this; exact ⟨q, u, e1, e2, e3, up _ _ e4, e5⟩
  · have old : ∀ (j : Nat) (B1 : AbsO) (q : Addr), j ≠ i → ρ[j]? = some (.own B1) → σ[j]? = some (some (.ref q)) → q ≠ p := fun j B1 q hj h1 h2 => by
      obtain ⟨q', u, e1, _, _, e4, _⟩ := E.slot j _ h1
      rw [h2] at e1
      cases e1
      exact ne_of_none e4 hn
    by_cases h1 : j = i
    · subst h1
      rw [List.getElem?_set_self hσ] at ej
      cases ej
      have h2 : k ≠ j := Ne.symm hjk
      rw [List.getElem?_set_ne (Ne.symm h2)] at hk ek
      exact old k B2 p h2 hk ek rfl
    · rw [List.getElem?_set_ne (Ne.symm h1)] at hj ej
      by_cases h2 : k = i
      · subst h2
        rw [List.getElem?_set_self hσ] at ek
        cases ek
        exact old j B1 p h1 hj ej rfl
      · rw [List.getElem?_set_ne (Ne.symm h2)] at hk ek
        exact E.dis j k q B1 B2 hjk hj hk ej ek
/-- an own object is changed -/
theorem EnvOk.wr {H0 : Hp} {σ : St} {ρ : List Slot} {H Hr : Hp} (E : EnvOk H0 σ ρ H Hr) {i : Nat} {B B1 : AbsO} {p : Addr} {o : HO} (hi : ρ[i]? = some (.own B)) (hp : σ[i]? = some (some (.ref p))) (h : B1.p o (mns Hr H0)) :
    EnvOk H0 σ (ρ.set i (.own B1)) (upd H p o) Hr := by
  have hl : i < ρ.length := (List.getElem?_eq_some_iff.mp hi).1
  obtain ⟨p', u, e1, e2, e3, e4, e5⟩ := E.slot i _ hi
  rw [hp] at e1
  cases e1
  have keep : ∀ (G : Hp), G p = none → Same G H → Same G (upd H p o) := fun G g s a v e => by rw [upd_ne (ne_of_none e g)]; exact s _ _ e
  refine ⟨keep _ e2 E.base, keep _ e3 E.sub, by simp [E.len], fun j s hs => ?_, fun j k q B2 B3 hjk hj hk ej ek => ?_⟩
  · by_cases hj : j = i
    · subst hj
      rw [List.getElem?_set_self hl] at hs
      have e := Option.some.inj hs
      subst e
      exact ⟨p, o, hp, e2, e3, upd_same, h⟩
    · rw [List.getElem?_set_ne (Ne.symm hj)] at hs
      have := E.slot j s hs
      cases s with
      | no => trivial
      | dat A => exact this
      | new A => exact this
      | own B4 =>
        obtain ⟨q, w, f1, f2, f3, f4, f5⟩ := this
        refine ⟨q, w, f1, f2, f3, ?_, f5⟩
        have : q ≠ p := fun z => by subst z; exact E.dis j i q B4 B hj hs hi f1 hp
        rw [upd_ne this]; exact f4
  · have back : ∀ (m : Nat) (B2 : AbsO), (ρ.set i (.own B1))[m]? = some (.own B2) → ∃ B3, ρ[m]? = some (.own B3) := fun m B2 hm => by
      by_cases z : m = i
      · subst z; exact ⟨B, hi⟩
      · rw [List.getElem?_set_ne (Ne.symm z)] at hm; exact ⟨B2, hm⟩
    obtain ⟨_, g1⟩ := back j B2 hj
    obtain ⟨_, g2⟩ := back k B3 hk
    exact E.dis j k q _ _ hjk g1 g2 ej ek
theorem Ext.lay {H Hr : Hp} (s : Same Hr H) {p : Addr} {o : HO} (hn : H p = none) : Ext H Hr (upd H p o) (upd Hr p o) := by
  refine ⟨fun a u e => by rw [upd_ne (ne_of_none e hn)]; exact e, fun a u e => by rw [upd_ne (ne_of_none e (s.free hn))]; exact e, fun a u e => ?_, fun a u e h => ?_⟩
  · by_cases z : a = p
    · subst z; rw [upd_same] at e ⊢; exact e
    · rw [upd_ne z] at e ⊢; exact s _ _ e
  · by_cases z : a = p
    · subst z; exact hn
    · rw [upd_ne z] at e; rw [h] at e; cases e
theorem hp_lay (f : Bool) {H0 H Hr : Hp} (b : Same H0 H) {p : Addr} {o : HO} (hn : H p = none) : hp f (upd Hr p o) H0 p = some o := by
  cases f
  · exact upd_same
  · exact mns_some.mpr ⟨b.free hn, upd_same⟩
/-- all readable data, and what is new since H1, over H2 -/
def joinH (Hr H1 H2 : Hp) : Hp := fun a => match Hr a with | some o => some o | none => mns H2 H1 a
theorem Ext.call {H Hr H1 H2 : Hp} (s : Same Hr H) (s1 : Same H H1) (s2 : Same H1 H2) : Ext H Hr H2 (joinH Hr H1 H2) := by
  refine ⟨s1.trans s2, fun a o e => by unfold joinH; rw [e], fun a o e => ?_, fun a o e h => ?_⟩
  · unfold joinH at e
    cases q : Hr a with
    | some u => rw [q] at e; cases e; exact s2 _ _ (s1 _ _ (s _ _ q))
    | none => rw [q] at e; exact (mns_some.mp e).2
  · unfold joinH at e
    rw [h] at e
    exact s1.free (mns_some.mp e).1
theorem joinH_new {H0 H Hr H1 H2 : Hp} (b : Same H0 H) (s : Same Hr H) (s1 : Same H H1) : Same (mns H2 H1) (mns (joinH Hr H1 H2) H0) := fun a o e => by
  have e' := mns_some.mp e
  refine mns_some.mpr ⟨b.free (s1.free e'.1), ?_⟩
  unfold joinH
  have : Hr a = none := s.free (s1.free e'.1)
  rw [this]
  exact e
/-! ### judgements -/
def DE (H0 : Hp) (ρ : List Slot) (t : TE) (f : Bool) (A : Abs) : Prop :=
  ∀ (σ : St) (H Hr : Hp) (Q : VK), EnvOk H0 σ ρ H Hr → (∀ v H' Hr', Ext H Hr H' Hr' → A.p v (hp f Hr' H0) → Q v H') → t σ H Q
def DT (K : PySem.W.Frag) (H0 : Hp) (ρ : List Slot) (t : TT) (b : Bool) : Prop :=
  ∀ (σ : St) (H Hr : Hp) (Q : Bool → Hp → Prop), EnvOk H0 σ ρ H Hr → (∀ H' Hr', Ext H Hr H' Hr' → Q b H') → t σ H Q
inductive AllP : List Abs → List V → Hp → Prop
  | nil {H : Hp} : AllP [] [] H
  | cons {A : Abs} {As : List Abs} {v : V} {vs : List V} {H : Hp} : A.p v H → AllP As vs H → AllP (A :: As) (v :: vs) H
theorem AllP.mono {H H' : Hp} (s : Same H H') : ∀ {As : List Abs} {vs : List V}, AllP As vs H → AllP As vs H'
  | _, _, .nil => .nil
  | _, _, .cons (A := A) h t => .cons (A.mono _ _ _ s h) (AllP.mono s t)
theorem AllP.length {H : Hp} : ∀ {As : List Abs} {vs : List V}, AllP As vs H → As.length = vs.length
  | _, _, .nil => rfl
  | _, _, .cons _ t => by simp [AllP.length t]
def DA (H0 : Hp) (ρ : List Slot) (t : TA) (f : Bool) (As : List Abs) : Prop :=
  ∀ (σ : St) (H Hr : Hp) (Q : List V → Hp → Prop), EnvOk H0 σ ρ H Hr → (∀ vs H' Hr', Ext H Hr H' Hr' → AllP As vs (hp f Hr' H0) → Q vs H') → t σ H Q
/-- a block: N, what holds of the slots behind it; R, what is handed back (new) -/
def DS (H0 : Hp) (ρ : List Slot) (t : TS) (N : List Slot → Prop) (R : Abs) : Prop :=
  ∀ (σ : St) (H Hr : Hp) (D : Ends), EnvOk H0 σ ρ H Hr → (∀ ρ' σ' H' Hr', N ρ' → EnvOk H0 σ' ρ' H' Hr' → Same Hr Hr' → D.nx σ' H') →
    (∀ v H', Same H0 H' → R.p v (mns H' H0) → D.rt v H') → t D σ H
section
variable {H0 : Hp} {ρ : List Slot} {K : PySem.W.Frag}
theorem de_weak {t : TE} {A : Abs} {f : Bool} (h : DE H0 ρ t true A) : DE H0 ρ t f A := fun σ H Hr Q E k => h σ H Hr Q E fun v H' Hr' x a => k v H' Hr' x (by
  cases f
  · exact A.mono _ _ _ mns_sub a
  · exact a)
theorem de_low {t : TE} {A : Abs} {f : Bool} (h : DE H0 ρ t f A) : DE H0 ρ t false A := fun σ H Hr Q E k => h σ H Hr Q E fun v H' Hr' x a => k v H' Hr' x (A.mono _ _ _ (hp_sub f) a)
/-- data without an address -/
def scD : PyData → Bool
  | .none => true | .bool _ => true | .int _ => true | .str _ => true | _ => false
theorem dp_sc {H H' : Hp} {d : PyData} {v : V} (hs : scD d = true) (h : Dp K H v d) : Dp K H' v d := by
  cases h with
  | non => exact .non
  | bl b => exact .bl b
  | int i => exact .int i
  | str x => exact .str x
  | lst _ _ => cases hs
  | tup _ _ => cases hs
theorem dpa_sc {H H' : Hp} : ∀ {ds : List PyData} {vs : List V}, ds.all scD = true → DpAll K H vs ds → DpAll K H' vs ds
  | [], _, _, h => by cases h; exact .nil
  | d :: ds, _, hs, h => by
    cases h with
    | cons h1 h2 =>
      simp only [List.all_cons, Bool.and_eq_true] at hs
      exact .cons (dp_sc hs.1 h1) (dpa_sc hs.2 h2)
theorem de_up {t : TE} {d : PyData} {f g : Bool} (h : DE H0 ρ t f (aD K d)) (hs : scD d = true := by rfl) : DE H0 ρ t g (aD K d) := fun σ H Hr Q E k => h σ H Hr Q E fun v H' Hr' x a => k v H' Hr' x (dp_sc hs a)
theorem de_eq {t : TE} {d e : PyData} {f : Bool} (h : DE H0 ρ t f (aD K d)) (he : d = e) : DE H0 ρ t f (aD K e) := he ▸ h
theorem de_var {i : Nat} {A : Abs} (h : ρ[i]? = some (.dat A)) : DE H0 ρ (tVar i) false A := fun σ H Hr Q E k => by
  obtain ⟨v, e, a⟩ := E.slot i _ h
  exact ⟨v, e, k v H Hr (Ext.refl E.sub) a⟩
theorem de_varn {i : Nat} {A : Abs} (h : ρ[i]? = some (.new A)) : DE H0 ρ (tVar i) true A := fun σ H Hr Q E k => by
  obtain ⟨v, e, a⟩ := E.slot i _ h
  exact ⟨v, e, k v H Hr (Ext.refl E.sub) a⟩
theorem de_vs {i : Nat} {A : Abs} {f : Bool} (h : ρ[i]? = some (sl f A)) : DE H0 ρ (tVar i) f A := by
  cases f
  · exact de_var h
  · exact de_varn h
theorem de_c {v : V} {d : PyData} {f : Bool} (h : ∀ H, Dp K H v d) : DE H0 ρ (tC v) f (aD K d) := fun σ H Hr Q E k => k v H Hr (Ext.refl E.sub) (h _)
theorem de_int {i : Int} {f : Bool} : DE H0 ρ (tC (.int i)) f (aD K (.int i)) := de_c fun _ => .int i
theorem de_str {i : Str} {f : Bool} : DE H0 ρ (tC (.str i)) f (aD K (.str i)) := de_c fun _ => .str i
theorem de_bl {i : Bool} {f : Bool} : DE H0 ρ (tC (.bl i)) f (aD K (.bool i)) := de_c fun _ => .bl i
theorem de_non {f : Bool} : DE H0 ρ (tC .non) f (aD K .none) := de_c fun _ => .non
/-- two operands, a scalar out -/
theorem de_op {r : R2} {ta tb : TE} {A B : Abs} {d : PyData} {f fa fb : Bool} (ha : DE H0 ρ ta fa A) (hb : DE H0 ρ tb fb B)
    (h : ∀ (x y : V) (Hr H : Hp) (Q : VK), Same Hr H → A.p x Hr → B.p y Hr → (∀ v, (∀ G, Dp K G v d) → Q v H) → r x y H Q) : DE H0 ρ (tOp r ta tb) f (aD K d) := fun σ H Hr Q E k => by
  refine ha σ H Hr _ E fun x H1 Hr1 x1 a1 => hb σ H1 Hr1 _ (E.ext x1) fun y H2 Hr2 x2 a2 => ?_
  exact h x y Hr2 H2 Q x2.s (A.mono _ _ _ ((hp_sub fa).trans x2.r) a1) (B.mono _ _ _ (hp_sub fb) a2) fun v hv => k v H2 Hr2 (x1.trans x2) (hv _)
theorem de_un {r : V → Hp → VK → Prop} {ta : TE} {A : Abs} {d : PyData} {f fa : Bool} (ha : DE H0 ρ ta fa A)
    (h : ∀ (x : V) (Hr H : Hp) (Q : VK), Same Hr H → A.p x Hr → (∀ v, (∀ G, Dp K G v d) → Q v H) → r x H Q) : DE H0 ρ (tUn r ta) f (aD K d) := fun σ H Hr Q E k => by
  refine ha σ H Hr _ E fun x H1 Hr1 x1 a1 => h x Hr1 H1 Q x1.s (A.mono _ _ _ (hp_sub fa) a1) fun v hv => k v H1 Hr1 x1 (hv _)
theorem de_i0 {g : Int → Int → V} {ta tb : TE} {i j : Int} {d : PyData} {f fa fb : Bool} (ha : DE H0 ρ ta fa (aD K (.int i))) (hb : DE H0 ρ tb fb (aD K (.int j))) (hg : ∀ G, Dp K G (g i j) d) : DE H0 ρ (tOp (rI0 g) ta tb) f (aD K d) :=
  de_op ha hb fun x y Hr H Q _ a b k => by
    cases a; cases b
    exact ⟨i, j, rfl, rfl, k _ hg⟩
theorem de_iC {C : Int → Int → Prop} {g : Int → Int → V} {ta tb : TE} {i j : Int} {d : PyData} {f fa fb : Bool} (ha : DE H0 ρ ta fa (aD K (.int i))) (hb : DE H0 ρ tb fb (aD K (.int j))) (hc : C i j) (hg : ∀ G, Dp K G (g i j) d) : DE H0 ρ (tOp (rI C g) ta tb) f (aD K d) :=
  de_op ha hb fun x y Hr H Q _ a b k => by
    cases a; cases b
    exact ⟨i, j, rfl, rfl, hc, k _ hg⟩
section
variable {ta tb tc : TE} {i j k : Int} {f fa fb fc : Bool}
theorem de_add (ha : DE H0 ρ ta fa (aD K (.int i))) (hb : DE H0 ρ tb fb (aD K (.int j))) : DE H0 ρ (tOp (rI0 fun i j => .int (i + j)) ta tb) f (aD K (.int (i + j))) := de_i0 ha hb fun _ => .int _
theorem de_sub (ha : DE H0 ρ ta fa (aD K (.int i))) (hb : DE H0 ρ tb fb (aD K (.int j))) : DE H0 ρ (tOp (rI0 fun i j => .int (i - j)) ta tb) f (aD K (.int (i - j))) := de_i0 ha hb fun _ => .int _
theorem de_mul (ha : DE H0 ρ ta fa (aD K (.int i))) (hb : DE H0 ρ tb fb (aD K (.int j))) (h : CMul i j) : DE H0 ρ (tOp (rI CMul fun i j => .int (i * j)) ta tb) f (aD K (.int (i * j))) := de_iC ha hb h fun _ => .int _
theorem de_mulW (ha : DE H0 ρ ta fa (aD K (.int i))) (hb : DE H0 ρ tb fb (aD K (.int j))) (h : CMulW i j) : DE H0 ρ (tOp (rI CMulW fun i j => .int (i * j)) ta tb) f (aD K (.int (i * j))) := de_iC ha hb h fun _ => .int _
theorem de_fdiv (ha : DE H0 ρ ta fa (aD K (.int i))) (hb : DE H0 ρ tb fb (aD K (.int j))) (h : CDiv i j) : DE H0 ρ (tOp (rI CDiv fun i j => .int (i / j)) ta tb) f (aD K (.int (i / j))) := de_iC ha hb h fun _ => .int _
theorem de_fdivW (ha : DE H0 ρ ta fa (aD K (.int i))) (hb : DE H0 ρ tb fb (aD K (.int j))) (h : CDivW i j) : DE H0 ρ (tOp (rI CDivW fun i j => .int (i / j)) ta tb) f (aD K (.int (i / j))) := de_iC ha hb h fun _ => .int _
theorem de_mod (ha : DE H0 ρ ta fa (aD K (.int i))) (hb : DE H0 ρ tb fb (aD K (.int j))) (h : 0 < j) : DE H0 ρ (tOp (rI (fun _ j => 0 < j) fun i j => .int (i % j)) ta tb) f (aD K (.int (i % j))) := de_iC ha hb h fun _ => .int _
theorem de_pow (ha : DE H0 ρ ta fa (aD K (.int i))) (hb : DE H0 ρ tb fb (aD K (.int j))) (h : CPow i j) : DE H0 ρ (tOp (rI CPow fun i j => .int (i ^ j.toNat)) ta tb) f (aD K (.int (i ^ j.toNat))) := de_iC ha hb h fun _ => .int _
theorem de_neg (ha : DE H0 ρ ta fa (aD K (.int i))) : DE H0 ρ (tUn (rU fun i => .int (-i)) ta) f (aD K (.int (-i))) := de_un ha fun x Hr H Q _ a k => by cases a; exact ⟨i, rfl, k _ fun _ => .int _⟩
/-- comparisons of ints that give a bool -/
theorem de_cmp {g : Int → Int → Bool} (ha : DE H0 ρ ta fa (aD K (.int i))) (hb : DE H0 ρ tb fb (aD K (.int j))) : DE H0 ρ (tOp (rI0 fun i j => .bl (g i j)) ta tb) f (aD K (.bool (g i j))) := de_i0 ha hb fun _ => .bl _
theorem de_eqI (ha : DE H0 ρ ta fa (aD K (.int i))) (hb : DE H0 ρ tb fb (aD K (.int j))) : DE H0 ρ (tOp rEq ta tb) f (aD K (.bool (decide (i = j)))) := de_op ha hb fun x y Hr H Q _ a b k => by
  cases a; cases b
  exact ⟨rfl, k _ fun _ => by rw [show decide (V.int i = V.int j) = decide (i = j) by simp]; exact .bl _⟩
theorem de_neI (ha : DE H0 ρ ta fa (aD K (.int i))) (hb : DE H0 ρ tb fb (aD K (.int j))) : DE H0 ρ (tOp rNe ta tb) f (aD K (.bool (!decide (i = j)))) := de_op ha hb fun x y Hr H Q _ a b k => by
  cases a; cases b
  exact ⟨rfl, k _ fun _ => by rw [show decide (V.int i = V.int j) = decide (i = j) by simp]; exact .bl _⟩
theorem de_eqS {x y : Str} (ha : DE H0 ρ ta fa (aD K (.str x))) (hb : DE H0 ρ tb fb (aD K (.str y))) : DE H0 ρ (tOp rEq ta tb) f (aD K (.bool (decide (x = y)))) := de_op ha hb fun x y Hr H Q _ a b k => by
  cases a; cases b
  exact ⟨rfl, k _ fun _ => by rw [show ∀ x y : Str, decide (V.str x = V.str y) = decide (x = y) by intro x y; simp]; exact .bl _⟩
theorem de_neS {x y : Str} (ha : DE H0 ρ ta fa (aD K (.str x))) (hb : DE H0 ρ tb fb (aD K (.str y))) : DE H0 ρ (tOp rNe ta tb) f (aD K (.bool (!decide (x = y)))) := de_op ha hb fun x y Hr H Q _ a b k => by
  cases a; cases b
  exact ⟨rfl, k _ fun _ => by rw [show ∀ x y : Str, decide (V.str x = V.str y) = decide (x = y) by intro x y; simp]; exact .bl _⟩
end
end
end Kj

set_option Elab.async false
set_option linter.all false
set_option maxRecDepth 100000
set_option maxHeartbeats 4000000
namespace Kj
open PySem L2
section
variable {H0 : Hp} {ρ : List Slot} {K : PySem.W.Frag} {f fa fb fc : Bool} {ta tb tc te : TE} {a b c : Bool}
/-! ### tests -/
theorem dt_test (h : DE H0 ρ te fa (aD K (.bool b))) : DT K H0 ρ (tTest te) b := fun σ H Hr Q E k => h σ H Hr _ E fun v H' Hr' x a => by cases a; exact ⟨b, rfl, k H' Hr' x⟩
theorem dt_B (h : DE H0 ρ te fa (aD K (.bool b))) : DT K H0 ρ (tB te) b := fun σ H Hr Q E k => h σ H Hr _ E fun v H' Hr' x a => by cases a; exact ⟨b, rfl, k H' Hr' x⟩
theorem dt_and {t u : TT} (h : DT K H0 ρ t a) (h2 : a = true → DT K H0 ρ u b) : DT K H0 ρ (tAnd t u) (a && b) := fun σ H Hr Q E k => h σ H Hr _ E fun H' Hr' x => by
  cases a with
  | true => rw [if_pos rfl]; exact h2 rfl σ H' Hr' Q (E.ext x) fun H2 Hr2 x2 => k H2 Hr2 (x.trans x2)
  | false => rw [if_neg Bool.false_ne_true]; exact k H' Hr' x
theorem dt_or {t u : TT} (h : DT K H0 ρ t a) (h2 : a = false → DT K H0 ρ u b) : DT K H0 ρ (tOr t u) (a || b) := fun σ H Hr Q E k => h σ H Hr _ E fun H' Hr' x => by
  cases a with
  | true => rw [if_pos rfl]; exact k H' Hr' x
  | false => rw [if_neg Bool.false_ne_true]; exact h2 rfl σ H' Hr' Q (E.ext x) fun H2 Hr2 x2 => k H2 Hr2 (x.trans x2)
theorem dt_not {t : TT} (h : DT K H0 ρ t a) : DT K H0 ρ (tNot t) (!a) := fun σ H Hr Q E k => h σ H Hr _ E fun H' Hr' x => k H' Hr' x
theorem dt_tru {ds : List PyData} (h : DE H0 ρ te fa (aD K (.list ds))) : DT K H0 ρ (fun σ H Q => te σ H fun x H' => ∃ k, TruV K x H' k ∧ Q k H') (!ds.isEmpty) := fun σ H Hr Q E k => h σ H Hr _ E fun v H' Hr' x a => by
  cases a with
  | lst hs ha =>
    refine ⟨_, .inl ⟨_, ((hp_sub fa).trans x.s).seq hs, rfl⟩, ?_⟩
    have : ∀ {xs : List V} {ds : List PyData} {H : Hp}, DpAll K H xs ds → xs.isEmpty = ds.isEmpty := by intro xs ds H h; cases h <;> rfl
    rw [this ha]
    exact k H' Hr' x
theorem dt_eq {t : TT} (h : DT K H0 ρ t a) (e : a = b) : DT K H0 ρ t b := e ▸ h
theorem de_and (h : DE H0 ρ ta fa (aD K (.bool a))) (h2 : a = true → DE H0 ρ tb fb (aD K (.bool b))) : DE H0 ρ (tAndV ta tb) f (aD K (.bool (a && b))) := fun σ H Hr Q E k => h σ H Hr _ E fun v H' Hr' x q => by
  cases q
  refine ⟨a, rfl, ?_⟩
  cases a with
  | true => rw [if_pos rfl]; exact h2 rfl σ H' Hr' Q (E.ext x) fun v H2 Hr2 x2 q => k v H2 Hr2 (x.trans x2) (dp_sc rfl q)
  | false => rw [if_neg Bool.false_ne_true]; exact k _ H' Hr' x (.bl _)
theorem de_or (h : DE H0 ρ ta fa (aD K (.bool a))) (h2 : a = false → DE H0 ρ tb fb (aD K (.bool b))) : DE H0 ρ (tOrV ta tb) f (aD K (.bool (a || b))) := fun σ H Hr Q E k => h σ H Hr _ E fun v H' Hr' x q => by
  cases q
  refine ⟨a, rfl, ?_⟩
  cases a with
  | true => rw [if_pos rfl]; exact k _ H' Hr' x (.bl _)
  | false => rw [if_neg Bool.false_ne_true]; exact h2 rfl σ H' Hr' Q (E.ext x) fun v H2 Hr2 x2 q => k v H2 Hr2 (x.trans x2) (dp_sc rfl q)
theorem de_not (h : DE H0 ρ ta fa (aD K (.bool a))) : DE H0 ρ (tNotV ta) f (aD K (.bool (!a))) := fun σ H Hr Q E k => h σ H Hr _ E fun v H' Hr' x q => by
  cases q
  exact ⟨a, rfl, k _ H' Hr' x (.bl _)⟩
theorem de_if {t : TT} {A : Abs} (h : DT K H0 ρ t a) (h1 : a = true → DE H0 ρ ta f A) (h2 : a = false → DE H0 ρ tb f A) : DE H0 ρ (tIf t ta tb) f A := fun σ H Hr Q E k => h σ H Hr _ E fun H' Hr' x => by
  cases a with
  | true => rw [if_pos rfl]; exact h1 rfl σ H' Hr' Q (E.ext x) fun v H2 Hr2 x2 q => k v H2 Hr2 (x.trans x2) q
  | false => rw [if_neg Bool.false_ne_true]; exact h2 rfl σ H' Hr' Q (E.ext x) fun v H2 Hr2 x2 q => k v H2 Hr2 (x.trans x2) q
theorem de_isN {d : PyData} (h : DE H0 ρ ta fa (aD K d)) : DE H0 ρ (tIsN ta) f (aD K (.bool (match d with | .none => true | _ => false))) := fun σ H Hr Q E k => h σ H Hr _ E fun v H' Hr' x q => k _ H' Hr' x (by
  cases q <;> exact .bl _)
theorem de_notN {d : PyData} (h : DE H0 ρ ta fa (aD K d)) : DE H0 ρ (tNotN ta) f (aD K (.bool (!match d with | .none => true | _ => false))) := fun σ H Hr Q E k => h σ H Hr _ E fun v H' Hr' x q => k _ H' Hr' x (by
  cases q <;> exact .bl _)
/-- a chain of two comparisons of ints -/
theorem de_chI {g g' : Int → Int → Bool} {i j m : Int} (ha : DE H0 ρ ta fa (aD K (.int i))) (hb : DE H0 ρ tb fb (aD K (.int j))) (hc : DE H0 ρ tc fc (aD K (.int m))) :
    DE H0 ρ (tChain (rI0 fun i j => .bl (g i j)) (rI0 fun i j => .bl (g' i j)) ta tb tc) f (aD K (.bool (g i j && g' j m))) := fun σ H Hr Q E k => by
  refine ha σ H Hr _ E fun x H1 Hr1 x1 q1 => hb σ H1 Hr1 _ (E.ext x1) fun y H2 Hr2 x2 q2 => ?_
  cases q1; cases q2
  refine ⟨i, j, rfl, rfl, g i j, rfl, ?_⟩
  cases hg : g i j with
  | true =>
    rw [if_pos rfl]
    refine hc σ H2 Hr2 _ ((E.ext x1).ext x2) fun z H3 Hr3 x3 q3 => ?_
    cases q3
    exact ⟨j, m, rfl, rfl, k _ H3 Hr3 ((x1.trans x2).trans x3) (by rw [hg, Bool.true_and]; exact .bl _)⟩
  | false => rw [if_neg Bool.false_ne_true]; exact k _ H2 Hr2 (x1.trans x2) (by rw [hg, Bool.false_and]; exact .bl _)
/-! ### arguments, displays -/
theorem da_nil : DA H0 ρ tNil f [] := fun σ H Hr Q E k => k [] H Hr (Ext.refl E.sub) .nil
theorem da_cons {t : TA} {A : Abs} {As : List Abs} (h : DE H0 ρ te fa A) (hr : DA H0 ρ t false As) : DA H0 ρ (tCons te t) false (A :: As) := fun σ H Hr Q E k =>
  h σ H Hr _ E fun v H1 Hr1 x1 a1 => hr σ H1 Hr1 _ (E.ext x1) fun vs H2 Hr2 x2 a2 => k _ H2 Hr2 (x1.trans x2) (.cons (A.mono _ _ _ ((hp_sub fa).trans x2.r) a1) a2)
def DAd (H0 : Hp) (K : PySem.W.Frag) (ρ : List Slot) (t : TA) (f : Bool) (ds : List PyData) : Prop :=
  ∀ (σ : St) (H Hr : Hp) (Q : List V → Hp → Prop), EnvOk H0 σ ρ H Hr → (∀ vs H' Hr', Ext H Hr H' Hr' → DpAll K (hp f Hr' H0) vs ds → Q vs H') → t σ H Q
theorem dad_nil : DAd H0 K ρ tNil f [] := fun σ H Hr Q E k => k [] H Hr (Ext.refl E.sub) .nil
theorem dad_cons {t : TA} {d : PyData} {ds : List PyData} (h : DE H0 ρ te f (aD K d)) (hr : DAd H0 K ρ t f ds) : DAd H0 K ρ (tCons te t) f (d :: ds) := fun σ H Hr Q E k =>
  h σ H Hr _ E fun v H1 Hr1 x1 a1 => hr σ H1 Hr1 _ (E.ext x1) fun vs H2 Hr2 x2 a2 => k _ H2 Hr2 (x1.trans x2) (.cons (dp_mono (hp_mono f H0 x2.r) _ _ a1) a2)
theorem dpa_len {H : Hp} : ∀ {vs : List V} {ds : List PyData}, DpAll K H vs ds → vs.length = ds.length
  | _, _, .nil => rfl
  | _, _, .cons _ t => by simp [dpa_len t]
theorem dpa_get {H : Hp} : ∀ {vs : List V} {ds : List PyData} {i : Nat} {v : V}, DpAll K H vs ds → vs[i]? = some v → ∃ d, ds[i]? = some d ∧ Dp K H v d
  | _, _, _, _, .nil, e => by simp at e
  | _, _, 0, _, .cons h _, e => by simp at e; subst e; exact ⟨_, rfl, h⟩
  | _, _, i + 1, _, .cons _ t, e => by
    obtain ⟨d, h1, h2⟩ := dpa_get (i := i) t (by simpa using e)
    exact ⟨d, by simpa using h1, h2⟩
theorem dpa_app {H : Hp} : ∀ {vs ws : List V} {ds es : List PyData}, DpAll K H vs ds → DpAll K H ws es → DpAll K H (vs ++ ws) (ds ++ es)
  | _, _, _, _, .nil, h => h
  | _, _, _, _, .cons h t, h' => .cons h (dpa_app t h')
theorem dpa_drop {H : Hp} : ∀ {vs : List V} {ds : List PyData} (n : Nat), DpAll K H vs ds → DpAll K H (vs.drop n) (ds.drop n)
  | _, _, 0, h => h
  | _, _, _ + 1, .nil => .nil
  | _, _, n + 1, .cons _ t => dpa_drop n t
theorem dpa_take {H : Hp} : ∀ {vs : List V} {ds : List PyData} (n : Nat), DpAll K H vs ds → DpAll K H (vs.take n) (ds.take n)
  | _, _, 0, _ => .nil
  | _, _, _ + 1, .nil => .nil
  | _, _, n + 1, .cons h t => .cons h (dpa_take n t)
theorem de_tup {t : TA} {ds : List PyData} (h : DAd H0 K ρ t f ds) (hl : ds.length ≤ 1000 := by first | decide | simp) : DE H0 ρ (tTup t) f (aD K (.tuple ds)) := fun σ H Hr Q E k => h σ H Hr _ E fun vs H1 Hr1 x1 a1 => by
  refine ⟨by rw [dpa_len a1]; exact Nat.le_trans hl (by decide), fun p hn => ?_⟩
  have E1 := E.ext x1
  refine k _ _ _ (x1.trans (Ext.lay x1.s hn)) (.tup (SqT.of (hp_lay f E1.base hn)) (dpa_mono (hp_mono f H0 (Ext.lay x1.s hn).r) _ _ a1))
theorem de_lst {t : TA} {ds : List PyData} (h : DAd H0 K ρ t f ds) (hl : ds.length ≤ 1000 := by first | decide | simp) : DE H0 ρ (tLst t) f (aD K (.list ds)) := fun σ H Hr Q E k => h σ H Hr _ E fun vs H1 Hr1 x1 a1 => by
  refine ⟨by rw [dpa_len a1]; exact Nat.le_trans hl (by decide), fun p hn => ?_⟩
  have E1 := E.ext x1
  refine k _ _ _ (x1.trans (Ext.lay x1.s hn)) (.lst (SqL.of (hp_lay f E1.base hn)) (dpa_mono (hp_mono f H0 (Ext.lay x1.s hn).r) _ _ a1))
/-! ### items, slices, lengths -/
theorem atI_dp {H : Hp} {xs : List V} {ds : List PyData} {i : Int} {d : PyData} (h : DpAll K H xs ds) (e : atI ds i = some d) : ∃ v, atI xs i = some v ∧ Dp K H v d := by
  unfold atI at e ⊢
  rw [dpa_len h]
  cases q : ixN ds.length i with
  | none => rw [q] at e; cases e
  | some j =>
    rw [q] at e
    have e' : ds[j]? = some d := e
    have hj : j < xs.length := by rw [dpa_len h]; exact (List.getElem?_eq_some_iff.mp e').1
    obtain ⟨d', h1, h2⟩ := dpa_get h (List.getElem?_eq_getElem hj)
    rw [h1] at e'
    cases e'
    exact ⟨xs[j], by show xs[j]? = _; rw [List.getElem?_eq_getElem hj], h2⟩
theorem de_ixL {ds : List PyData} {i : Int} {d : PyData} (ha : DE H0 ρ ta f (aD K (.list ds))) (hb : DE H0 ρ tb fb (aD K (.int i))) (hd : atI ds i = some d) : DE H0 ρ (tOp (rIxL K) ta tb) f (aD K d) := fun σ H Hr Q E k => by
  refine ha σ H Hr _ E fun x H1 Hr1 x1 a1 => hb σ H1 Hr1 _ (E.ext x1) fun y H2 Hr2 x2 a2 => ?_
  cases a2
  cases a1 with
  | lst hs hA =>
    obtain ⟨v, hv, hd'⟩ := atI_dp (dpa_mono (hp_mono f H0 x2.r) _ _ hA) hd
    exact ⟨_, _, i, v, rfl, rfl, ((hp_sub f).trans (x2.r.trans x2.s)).seq hs, hv, k v H2 Hr2 (x1.trans x2) hd'⟩
theorem de_ixT {ds : List PyData} {i : Int} {d : PyData} (ha : DE H0 ρ ta f (aD K (.tuple ds))) (hb : DE H0 ρ tb fb (aD K (.int i))) (hd : atI ds i = some d) : DE H0 ρ (tOp (rIxT K) ta tb) f (aD K d) := fun σ H Hr Q E k => by
  refine ha σ H Hr _ E fun x H1 Hr1 x1 a1 => hb σ H1 Hr1 _ (E.ext x1) fun y H2 Hr2 x2 a2 => ?_
  cases a2
  cases a1 with
  | tup hs hA =>
    obtain ⟨v, hv, hd'⟩ := atI_dp (dpa_mono (hp_mono f H0 x2.r) _ _ hA) hd
    exact ⟨_, _, i, v, rfl, rfl, seqT ((hp_sub f).trans (x2.r.trans x2.s)) hs, hv, k v H2 Hr2 (x1.trans x2) hd'⟩
theorem de_ixS {z : Str} {i : Int} {c : Nat} (ha : DE H0 ρ ta fa (aD K (.str z))) (hb : DE H0 ρ tb fb (aD K (.int i))) (hz : z.length ≤ sizeLine) (hd : atI z.cps.toList i = some c) : DE H0 ρ (tOp rIxS ta tb) f (aD K (.str ⟨#[c]⟩)) :=
  de_op ha hb fun x y Hr H Q _ a b k => by
    cases a; cases b
    exact ⟨z, i, c, rfl, rfl, hz, hd, k _ fun _ => .str _⟩
def DO (K : PySem.W.Frag) (H0 : Hp) (ρ : List Slot) (t : TO) (o : Option Int) : Prop :=
  ∀ (σ : St) (H Hr : Hp) (Q : Option Int → Hp → Prop), EnvOk H0 σ ρ H Hr → (∀ H' Hr', Ext H Hr H' Hr' → Q o H') → t σ H Q
theorem do_no : DO K H0 ρ tNoPart none := fun σ H Hr Q E k => k H Hr (Ext.refl E.sub)
theorem do_so {i : Int} (h : DE H0 ρ te fa (aD K (.int i))) : DO K H0 ρ (tPart te) (some i) := fun σ H Hr Q E k => h σ H Hr _ E fun v H1 Hr1 x a => by cases a; exact ⟨i, rfl, k H1 Hr1 x⟩
def cutD {α : Type} (xs : List α) (lo hi : Option Int) : List α := (xs.drop (HT.sIx xs.length 0 lo)).take (HT.sIx xs.length xs.length hi - HT.sIx xs.length 0 lo)
theorem de_sl {ds : List PyData} {tl th : TO} {lo hi : Option Int} (h : DE H0 ρ te f (aD K (.list ds))) (hl : DO K H0 ρ tl lo) (hh : DO K H0 ρ th hi) : DE H0 ρ (tSl (rSlL K) te tl th) f (aD K (.list (cutD ds lo hi))) := fun σ H Hr Q E k => by
  refine h σ H Hr _ E fun v H1 Hr1 x1 a1 => hl σ H1 Hr1 _ (E.ext x1) fun H2 Hr2 x2 => hh σ H2 Hr2 _ ((E.ext x1).ext x2) fun H3 Hr3 x3 => ?_
  cases a1 with
  | @lst a xs _ hs hA =>
    have x23 := x2.trans x3
    have E3 := ((E.ext x1).ext x2).ext x3
    refine ⟨_, _, rfl, ((hp_sub f).trans (x23.r.trans x23.s)).seq hs, fun p hn => ?_⟩
    refine k _ _ _ ((x1.trans x23).trans (Ext.lay x3.s hn)) (.lst (SqL.of (hp_lay f E3.base hn)) ?_)
    have hA' := dpa_mono (hp_mono f H0 (x23.r.trans (Ext.lay (o := .lst (cutV xs lo hi)) x3.s hn).r)) _ _ hA
    show DpAll K _ (cutV xs lo hi) _
    have e : cutD ds lo hi = (ds.drop (HT.sIx xs.length 0 lo)).take (HT.sIx xs.length xs.length hi - HT.sIx xs.length 0 lo) := by unfold cutD; rw [dpa_len hA]
    rw [e]
    exact dpa_take _ (dpa_drop _ hA')
theorem de_slf {ds : List PyData} {tl th : TO} {lo hi : Option Int} (h : DE H0 ρ te fa (aD K (.list ds))) (hl : DO K H0 ρ tl lo) (hh : DO K H0 ρ th hi) (hf : ds.all scD = true) : DE H0 ρ (tSl (rSlL K) te tl th) f (aD K (.list (cutD ds lo hi))) := fun σ H Hr Q E k => by
  refine h σ H Hr _ E fun v H1 Hr1 x1 a1 => hl σ H1 Hr1 _ (E.ext x1) fun H2 Hr2 x2 => hh σ H2 Hr2 _ ((E.ext x1).ext x2) fun H3 Hr3 x3 => ?_
  cases a1 with
  | @lst a xs _ hs hA =>
    have x23 := x2.trans x3
    have E3 := ((E.ext x1).ext x2).ext x3
    refine ⟨_, _, rfl, ((hp_sub fa).trans (x23.r.trans x23.s)).seq hs, fun p hn => ?_⟩
    refine k _ _ _ ((x1.trans x23).trans (Ext.lay x3.s hn)) (.lst (SqL.of (hp_lay f E3.base hn)) ?_)
    have hA' := dpa_sc (H' := hp f (upd Hr3 p (.lst (cutV xs lo hi))) H0) hf hA
    show DpAll K _ (cutV xs lo hi) _
    have e : cutD ds lo hi = (ds.drop (HT.sIx xs.length 0 lo)).take (HT.sIx xs.length xs.length hi - HT.sIx xs.length 0 lo) := by unfold cutD; rw [dpa_len hA]
    rw [e]
    exact dpa_take _ (dpa_drop _ hA')
theorem de_len {d : PyData} {n : Nat} (h : DE H0 ρ te fa (aD K d)) (hn : (match d with | .list ds => n = ds.length | .tuple ds => n = ds.length | .str z => z.length ≤ sizeLine ∧ n = z.length | _ => False)) :
    DE H0 ρ (tCB (fun xs H Q => ∃ x n, xs = [x] ∧ LenV K x H n ∧ Q (.int n) H) (tCons te tNil)) f (aD K (.int n)) := fun σ H Hr Q E k => h σ H Hr _ E fun v H1 Hr1 x1 a1 => by
  refine ⟨v, n, rfl, ?_, k _ H1 Hr1 x1 (.int _)⟩
  cases a1 with
  | non => exact hn.elim
  | bl _ => exact hn.elim
  | int _ => exact hn.elim
  | str x => exact hn
  | lst hs hA => exact .inl ⟨_, ((hp_sub fa).trans x1.s).seq hs, by rw [dpa_len hA]; exact hn⟩
  | tup hs hA => exact .inr ⟨_, seqT ((hp_sub fa).trans x1.s) hs, by rw [dpa_len hA]; exact hn⟩
theorem de_lenL {ds : List PyData} (h : DE H0 ρ te fa (aD K (.list ds))) : DE H0 ρ (tCB (fun xs H Q => ∃ x n, xs = [x] ∧ LenV K x H n ∧ Q (.int n) H) (tCons te tNil)) f (aD K (.int ds.length)) := de_len h rfl
theorem de_abs {i : Int} (h : DE H0 ρ te fa (aD K (.int i))) : DE H0 ρ (tCB (fun xs H Q => ∃ i, xs = [.int i] ∧ Q (.int (if i < 0 then -i else i)) H) (tCons te tNil)) f (aD K (.int (if i < 0 then -i else i))) := fun σ H Hr Q E k => h σ H Hr _ E fun v H1 Hr1 x1 a1 => by
  cases a1
  exact ⟨i, rfl, k _ H1 Hr1 x1 (.int _)⟩
theorem de_min {i j : Int} (h : DE H0 ρ ta fa (aD K (.int i))) (h2 : DE H0 ρ tb fb (aD K (.int j))) : DE H0 ρ (tCB (fun xs H Q => ∃ i j, xs = [.int i, .int j] ∧ Q (.int (if j < i then j else i)) H) (tCons ta (tCons tb tNil))) f (aD K (.int (if j < i then j else i))) := fun σ H Hr Q E k =>
  h σ H Hr _ E fun v H1 Hr1 x1 a1 => h2 σ H1 Hr1 _ (E.ext x1) fun v2 H2 Hr2 x2 a2 => by
  cases a1; cases a2
  exact ⟨i, j, rfl, k _ H2 Hr2 (x1.trans x2) (.int _)⟩
theorem de_max {i j : Int} (h : DE H0 ρ ta fa (aD K (.int i))) (h2 : DE H0 ρ tb fb (aD K (.int j))) : DE H0 ρ (tCB (fun xs H Q => ∃ i j, xs = [.int i, .int j] ∧ Q (.int (if j > i then j else i)) H) (tCons ta (tCons tb tNil))) f (aD K (.int (if j > i then j else i))) := fun σ H Hr Q E k =>
  h σ H Hr _ E fun v H1 Hr1 x1 a1 => h2 σ H1 Hr1 _ (E.ext x1) fun v2 H2 Hr2 x2 a2 => by
  cases a1; cases a2
  exact ⟨i, j, rfl, k _ H2 Hr2 (x1.trans x2) (.int _)⟩
theorem de_intS {z : Str} {n : Int} (h : DE H0 ρ te fa (aD K (.str z))) (hn : PySem.intText? z = some n) (hl : z.length ≤ 640) : DE H0 ρ (tCB (fun xs H Q => ∃ a n, xs = [.str a] ∧ PySem.intText? a = some n ∧ a.length ≤ 640 ∧ Q (.int n) H) (tCons te tNil)) f (aD K (.int n)) := fun σ H Hr Q E k => h σ H Hr _ E fun v H1 Hr1 x1 a1 => by
  cases a1
  exact ⟨z, n, rfl, hn, hl, k _ H1 Hr1 x1 (.int _)⟩
theorem de_addS {x y : Str} (ha : DE H0 ρ ta fa (aD K (.str x))) (hb : DE H0 ρ tb fb (aD K (.str y))) (hl : x.length + y.length ≤ sizeLine) : DE H0 ρ (tOp (fun x y H Q => ∃ i j, x = .str i ∧ y = .str j ∧ i.length + j.length ≤ sizeLine ∧ Q (.str (i ++ j)) H) ta tb) f (aD K (.str (x ++ y))) :=
  de_op ha hb fun x y Hr H Q _ a b k => by
    cases a; cases b
    exact ⟨_, _, rfl, rfl, hl, k _ fun _ => .str _⟩
/-- text * n -/
def rMulS : R2 := fun x y H Q => ∃ z n, x = .str z ∧ y = .int n ∧ MulOk z n ∧ Q (.str (Txt.mul z n)) H
theorem op_mulS {X : Cx} : OpR X (binaryOp .Mult) rMulS := by
  intro pins s σ H x y v u Q I rx ry h
  obtain ⟨z, n, rfl, rfl, hok, q⟩ := h
  obtain ⟨t, rfl⟩ := rx
  obtain ⟨t', rfl⟩ := ry
  exact SB.mul hok fun t' k => ⟨.str _, H, I.tok _, ⟨_, rfl⟩, q⟩
theorem de_mulS {z : Str} {n : Int} (ha : DE H0 ρ ta fa (aD K (.str z))) (hb : DE H0 ρ tb fb (aD K (.int n))) (h : MulOk z n) : DE H0 ρ (tOp rMulS ta tb) f (aD K (.str (Txt.mul z n))) :=
  de_op ha hb fun x y Hr H Q _ a b k => by
    cases a; cases b
    exact ⟨z, n, rfl, rfl, h, k _ fun _ => .str _⟩
/-! ### lending what is one's own -/
def Bo (H0 : Hp) (ρ ρ' : List Slot) : Prop := ∀ (σ : St) (H Hr : Hp), EnvOk H0 σ ρ H Hr → ∃ Hr', Same Hr Hr' ∧ EnvOk H0 σ ρ' H Hr'
theorem bo_refl : Bo H0 ρ ρ := fun σ H Hr E => ⟨Hr, Same.refl _, E⟩
def oL (K : PySem.W.Frag) (ds : List PyData) : AbsO := ⟨fun o H => ∃ xs, o = .lst xs ∧ DpAll K H xs ds, fun _ _ _ s ⟨xs, e, h⟩ => ⟨xs, e, dpa_mono s _ _ h⟩⟩
theorem bo_own {i : Nat} {ds : List PyData} (hi : ρ[i]? = some (.own (oL K ds))) : Bo H0 ρ (ρ.set i (.new (aD K (.list ds)))) := fun σ H Hr E => by
  have hl : i < ρ.length := (List.getElem?_eq_some_iff.mp hi).1
  obtain ⟨p, o, e1, e2, e3, e4, xs, e5, e6⟩ := E.slot i _ hi
  subst e5
  have up : Same Hr (upd Hr p (.lst xs)) := fun a u e => by rw [upd_ne (ne_of_none e e3)]; exact e
  refine ⟨upd Hr p (.lst xs), up, E.base, fun a u e => ?_, by simp [E.len], fun j s hs => ?_, fun j k q B B' hjk hj hk ej ek => ?_⟩
  · by_cases z : a = p
    · subst z; rw [upd_same] at e; cases e; exact e4
    · rw [upd_ne z] at e; exact E.sub _ _ e
  · by_cases hj : j = i
    · subst hj
      rw [List.getElem?_set_self hl] at hs
      have e := Option.some.inj hs
      subst e
      refine ⟨_, e1, .lst (SqL.of (mns_some.mpr ⟨e2, upd_same⟩)) (dpa_mono (mns_mono H0 up) _ _ e6)⟩
    · rw [List.getElem?_set_ne (Ne.symm hj)] at hs
      have := E.slot j s hs
      cases s with
      | no => trivial
      | dat A => obtain ⟨v, g1, g2⟩ := this; exact ⟨v, g1, A.mono _ _ _ up g2⟩
      | new A => obtain ⟨v, g1, g2⟩ := this; exact ⟨v, g1, A.mono _ _ _ (mns_mono H0 up) g2⟩
      | own B =>
        obtain ⟨q, u, g1, g2, g3, g4, g5⟩ := this
        have : q ≠ p := fun z => by subst z; exact E.dis j i q B _ hj hs hi g1 e1
        exact ⟨q, u, g1, g2, by rw [upd_ne this]; exact g3, g4, B.mono _ _ _ (mns_mono H0 up) g5⟩
  · have back : ∀ (m : Nat) (B2 : AbsO), (ρ.set i (.new (aD K (.list ds))))[m]? = some (Slot.own B2) → ρ[m]? = some (Slot.own B2) := fun m B2 hm => by
      by_cases z : m = i
      · subst z; rw [List.getElem?_set_self hl] at hm; cases hm
      · rw [List.getElem?_set_ne (Ne.symm z)] at hm; exact hm
    exact E.dis j k q _ _ hjk (back _ _ hj) (back _ _ hk) ej ek
theorem de_bor {ρ' : List Slot} {d : PyData} {g : Bool} (bo : Bo H0 ρ ρ') (h : DE H0 ρ' te f (aD K d)) (hs : scD d = true := by rfl) : DE H0 ρ te g (aD K d) := fun σ H Hr Q E k => by
  obtain ⟨Hr', s, E'⟩ := bo σ H Hr E
  refine h σ H Hr' _ E' fun v H1 Hr1 x1 a1 => k v H1 _ (Ext.call E.sub (Same.refl _) x1.h) (dp_sc hs a1)
theorem dt_bor {ρ' : List Slot} {t : TT} (bo : Bo H0 ρ ρ') (h : DT K H0 ρ' t b) : DT K H0 ρ t b := fun σ H Hr Q E k => by
  obtain ⟨Hr', s, E'⟩ := bo σ H Hr E
  exact h σ H Hr' _ E' fun H1 Hr1 x1 => k H1 _ (Ext.call E.sub (Same.refl _) x1.h)
/-! ### calls of one's own defs -/
abbrev Spec := List Abs → Abs → Prop
def spF (S : Spec) : Sp := fun vs H Q _ => ∃ As R, S As R ∧ AllP As vs H ∧ ∀ v H', Same H H' → R.p v (mns H' H) → Q v H'
theorem de_call {S : Spec} {As : List Abs} {R : Abs} {t : TA} {Ex : XK} {ρ' : List Slot} (bo : Bo H0 ρ ρ') (ha : DA H0 ρ' t false As) (hs : S As R) : DE H0 ρ (tCall (spF S) [] Ex t) f R := fun σ H Hr Q E k => by
  obtain ⟨Hr', s, E'⟩ := bo σ H Hr E
  refine ha σ H Hr' _ E' fun vs H1 Hr1 x1 a1 => ?_
  show spF S (vs ++ []) H1 Q Ex
  rw [List.append_nil]
  refine ⟨As, R, hs, a1.mono x1.s, fun v H2 s2 r2 => k v H2 _ (Ext.call E.sub x1.h s2) ?_⟩
  have r3 := R.mono _ _ _ (joinH_new E.base E.sub x1.h) r2
  cases f
  · exact R.mono _ _ _ mns_sub r3
  · exact r3
/-! ### statements -/
variable {N N1 : List Slot → Prop} {R : Abs} {t u w : TS}
theorem lt_of {i n : Nat} (h : Nat.blt i n = true) : i < n := Nat.le_of_ble_eq_true h
theorem ds_seq (h : DS H0 ρ t N1 R) (h2 : ∀ ρ', N1 ρ' → DS H0 ρ' u N R) : DS H0 ρ (tSeq t u) N R := fun σ H Hr D E kn kr =>
  h σ H Hr _ E (fun ρ' σ' H' Hr' n E' s => h2 ρ' n σ' H' Hr' D E' (fun ρ2 σ2 H2 Hr2 n2 E2 s2 => kn ρ2 σ2 H2 Hr2 n2 E2 (s.trans s2)) kr) kr
theorem ds_sq {ρ1 : List Slot} (h : DS H0 ρ t (fun r => r = ρ1) R) (h2 : DS H0 ρ1 u N R) : DS H0 ρ (tSeq t u) N R := ds_seq h fun _ e => e ▸ h2
theorem ds_end {ρ1 : List Slot} (h : DS H0 ρ t (fun r => r = ρ1) R) (h2 : N ρ1) : DS H0 ρ t N R := fun σ H Hr D E kn kr => h σ H Hr D E (fun ρ' σ' H' Hr' n E' s => kn ρ' σ' H' Hr' (n ▸ h2) E' s) kr
theorem ds_imp (h : DS H0 ρ t N1 R) (h2 : ∀ ρ', N1 ρ' → N ρ') : DS H0 ρ t N R := fun σ H Hr D E kn kr => h σ H Hr D E (fun ρ' σ' H' Hr' n E' s => kn ρ' σ' H' Hr' (h2 _ n) E' s) kr
theorem ds_next (h : N ρ) : DS H0 ρ tNext N R := fun σ H Hr D E kn kr => kn ρ σ H Hr h E (Same.refl _)
theorem ds_skip (h : DS H0 ρ u N R) : DS H0 ρ (tSeq tNext u) N R := h
theorem ds_assoc (h : DS H0 ρ (tSeq t (tSeq u w)) N R) : DS H0 ρ (tSeq (tSeq t u) w) N R := h
theorem ds_set {i : Nat} {A : Abs} (h : DE H0 ρ te f A) (hi : Nat.blt i ρ.length = true := by rfl) : DS H0 ρ (tAsg te (gName i)) (fun r => r = ρ.set i (sl f A)) R := fun σ H Hr D E kn kr =>
  h σ H Hr _ E fun v H1 Hr1 x1 a1 => kn _ _ _ Hr1 rfl ((E.ext x1).set (lt_of hi) a1) x1.r
theorem ds_own {i : Nat} (hi : Nat.blt i ρ.length = true := by rfl) : DS H0 ρ (tAsg (tLst tNil) (gName i)) (fun r => r = ρ.set i (.own (oL K []))) R := fun σ H Hr D E kn kr =>
  ⟨by decide, fun p hn => kn _ _ _ Hr rfl (E.lay (lt_of hi) hn ⟨[], rfl, .nil⟩) (Same.refl _)⟩
theorem ds_app {i : Nat} {ds : List PyData} {d : PyData} (hi : ρ[i]? = some (.own (oL K ds))) (h : DE H0 ρ te true (aD K d)) (hl : ds.length < 100000) : DS H0 ρ (tDrop (tBM K "list" rAppend (tVar i) (tCons te tNil))) (fun r => r = ρ.set i (.own (oL K (ds ++ [d])))) R := fun σ H Hr D E kn kr => by
  obtain ⟨p, o, e1, e2, e3, e4, xs, e5, e6⟩ := E.slot i _ hi
  subst e5
  refine ⟨_, e1, .inl ⟨rfl, _, SqL.of e4⟩, h σ H Hr _ E fun v H1 Hr1 x1 a1 => ?_⟩
  have E1 := E.ext x1
  refine ⟨p, xs, v, rfl, rfl, x1.h _ _ e4, ?_, kn _ _ _ Hr1 rfl (E1.wr hi e1 ⟨_, rfl, dpa_app (dpa_mono (mns_mono H0 x1.r) _ _ e6) (.cons a1 .nil)⟩) x1.r⟩
  rw [dpa_len e6]
  exact Nat.lt_trans hl (by rw [sizeLine_eq]; decide)
theorem ds_drop {A : Abs} (h : DE H0 ρ te f A) : DS H0 ρ (tDrop te) (fun r => r = ρ) R := fun σ H Hr D E kn kr => h σ H Hr _ E fun v H1 Hr1 x1 a1 => kn _ _ _ Hr1 rfl (E.ext x1) x1.r
theorem ds_if {ct : TT} {a : Bool} (h : DT K H0 ρ ct a) (h1 : a = true → DS H0 ρ t N R) (h2 : a = false → DS H0 ρ u N R) : DS H0 ρ (tIfS ct t u) N R := fun σ H Hr D E kn kr => h σ H Hr _ E fun H1 Hr1 x1 => by
  cases a with
  | true => rw [if_pos rfl]; exact h1 rfl σ H1 Hr1 D (E.ext x1) (fun ρ' σ' H' Hr' n E' s => kn ρ' σ' H' Hr' n E' (x1.r.trans s)) kr
  | false => rw [if_neg Bool.false_ne_true]; exact h2 rfl σ H1 Hr1 D (E.ext x1) (fun ρ' σ' H' Hr' n E' s => kn ρ' σ' H' Hr' n E' (x1.r.trans s)) kr
theorem ds_ifs {ct : TT} {a : Bool} (h : DT K H0 ρ ct a) (h1 : a = true → DS H0 ρ (tSeq t w) N R) (h2 : a = false → DS H0 ρ (tSeq u w) N R) : DS H0 ρ (tSeq (tIfS ct t u) w) N R :=
  fun σ H Hr D E kn kr => ds_if (t := tSeq t w) (u := tSeq u w) h h1 h2 σ H Hr D E kn kr
theorem ds_ret {A : Abs} (h : DE H0 ρ te true A) (hR : ∀ v G, A.p v G → R.p v G) : DS H0 ρ (tRet te) N R := fun σ H Hr D E kn kr => h σ H Hr _ E fun v H1 Hr1 x1 a1 => kr v H1 (E.base.trans x1.h) (hR _ _ (A.mono _ _ _ (mns_mono H0 x1.s) a1))
theorem ds_rets {A : Abs} (h : DE H0 ρ te true A) (hR : ∀ v G, A.p v G → R.p v G) : DS H0 ρ (tSeq (tRet te) u) N R := fun σ H Hr D E kn kr => ds_ret (N := fun _ => False) h hR σ H Hr { D with nx := u D } E (fun _ _ _ _ n _ _ => n.elim) kr
end
end Kj

set_option Elab.async false
set_option linter.all false
set_option maxRecDepth 100000
set_option maxHeartbeats 4000000
namespace Kj
open PySem L2
section
variable {H0 : Hp} {ρ : List Slot} {K : PySem.W.Frag} {f fa fb fc : Bool} {ta tb tc te : TE} {a b c : Bool} {N N1 : List Slot → Prop} {R : Abs} {t u w : TS}
theorem ds_par {i j : Nat} {A B : Abs} (ha : DE H0 ρ ta fa A) (hb : DE H0 ρ tb fb B) (hi : Nat.blt i ρ.length = true := by rfl) (hj : Nat.blt j ρ.length = true := by rfl) :
    DS H0 ρ (tPar i j (tCons ta (tCons tb tNil))) (fun r => r = (ρ.set i (sl fa A)).set j (sl fb B)) R := fun σ H Hr D E kn kr =>
  ha σ H Hr _ E fun v H1 Hr1 x1 a1 => hb σ H1 Hr1 _ (E.ext x1) fun v2 H2 Hr2 x2 a2 =>
    ⟨v, v2, rfl, kn _ _ _ Hr2 rfl ((((E.ext x1).ext x2).set (lt_of hi) (A.mono _ _ _ (hp_mono fa H0 x2.r) a1)).set (by rw [List.length_set]; exact lt_of hj) a2) (x1.r.trans x2.r)⟩
theorem ds_aug {i : Nat} {m n : Int} {g : Int → Int → Int} (hi : ρ[i]? = some (sl fa (aD K (.int m)))) (h : DE H0 ρ te fb (aD K (.int n))) :
    DS H0 ρ (tAug i te (ipI g)) (fun r => r = ρ.set i (sl true (aD K (.int (g m n))))) R := fun σ H Hr D E kn kr => by
  have hl : i < ρ.length := (List.getElem?_eq_some_iff.mp hi).1
  have hv : ∃ v, σ[i]? = some (some v) ∧ Dp K (hp fa Hr H0) v (.int m) := by
    have := E.slot i _ hi
    cases fa
    · exact this
    · exact this
  obtain ⟨v, e1, e2⟩ := hv
  cases e2
  refine ⟨_, e1, h σ H Hr _ E fun y H1 Hr1 x1 a1 => ?_⟩
  cases a1
  exact ⟨m, n, rfl, rfl, kn _ _ _ Hr1 rfl ((E.ext x1).set (f := true) hl (Dp.int (g m n))) x1.r⟩
theorem ds_forL {i : Nat} {ds : List PyData} {tl : TE} {tb : TS} (hl : DE H0 ρ tl fa (aD K (.list ds))) (I : Nat → List Slot → Prop) (h0 : I 0 ρ) (hlen : ∀ k r, I k r → Nat.blt i r.length = true)
    (hs : ∀ (k : Nat) (d : PyData) (r : List Slot), ds[k]? = some d → I k r → DS H0 (r.set i (sl fa (aD K d))) tb (I (k + 1)) R) : DS H0 ρ (tFor (iList K tl) (gName i) tb) (I ds.length) R := fun σ H Hr D E kn kr => by
  refine hl σ H Hr _ E fun v H1 Hr1 x1 a1 => ?_
  cases a1 with
  | @lst a xs _ hq hA =>
    refine ⟨a, rfl, ⟨xs, ((hp_sub fa).trans x1.s).seq hq⟩, for_list (K := K) (a := a) (xs := xs) (fun k σ' H' => ∃ r Hr', I k r ∧ EnvOk H0 σ' r H' Hr' ∧ Same Hr1 Hr') ⟨ρ, Hr1, h0, E.ext x1, Same.refl _⟩ ?_ ?_ ?_⟩
    · rintro k σ' H' _ ⟨r, Hr', _, E', s⟩
      exact ((hp_sub fa).trans (s.trans E'.sub)).seq hq
    · rintro k x σ' H' hx ⟨r, Hr', i', E', s⟩
      obtain ⟨d, h1, h2⟩ := dpa_get hA hx
      exact hs k d r h1 i' _ _ Hr' _ (E'.set (lt_of (hlen k r i')) (dp_mono (hp_mono fa H0 s) _ _ h2)) (fun r2 σ2 H2 Hr2 n2 E2 s2 => ⟨r2, Hr2, n2, E2, s.trans s2⟩) kr
    · rintro σ' H' ⟨r, Hr', i', E', s⟩
      rw [dpa_len hA] at i'
      exact kn r σ' H' Hr' i' E' (x1.r.trans s)
theorem ds_forR1 {i : Nat} {j : Int} {te : TE} {tb : TS} (h : DE H0 ρ te fa (aD K (.int j))) (hb1 : -(2 ^ 62) ≤ j) (hb2 : j < 2 ^ 62) (I : Nat → List Slot → Prop) (h0 : I 0 ρ) (hlen : ∀ k r, I k r → Nat.blt i r.length = true)
    (hs : ∀ (k : Nat) (r : List Slot), k < j.toNat → I k r → DS H0 (r.set i (.new (aD K (.int k)))) tb (I (k + 1)) R) : DS H0 ρ (tFor (iRng1 (tCons te tNil)) (gName i) tb) (I j.toNat) R := fun σ H Hr D E kn kr => by
  refine h σ H Hr _ E fun v H1 Hr1 x1 a1 => ?_
  cases a1
  refine ⟨j, rfl, hb1, hb2, for_range (lo := 0) (n := j.toNat) (fun k σ' H' => ∃ r Hr', I k r ∧ EnvOk H0 σ' r H' Hr' ∧ Same Hr1 Hr') ⟨ρ, Hr1, h0, E.ext x1, Same.refl _⟩ ?_ ?_⟩
  · rintro k σ' H' hk ⟨r, Hr', i', E', s⟩
    rw [Int.zero_add]
    exact hs k r hk i' _ _ Hr' _ (E'.set (f := true) (lt_of (hlen k r i')) (Dp.int _)) (fun r2 σ2 H2 Hr2 n2 E2 s2 => ⟨r2, Hr2, n2, E2, s.trans s2⟩) kr
  · rintro σ' H' ⟨r, Hr', i', E', s⟩
    exact kn r σ' H' Hr' i' E' (x1.r.trans s)
theorem ds_forR2 {i : Nat} {l j : Int} {te te2 : TE} {tb : TS} (h : DE H0 ρ te fa (aD K (.int l))) (h' : DE H0 ρ te2 fb (aD K (.int j))) (hb : -(2 ^ 62) ≤ l ∧ l < 2 ^ 62 ∧ -(2 ^ 62) ≤ j ∧ j < 2 ^ 62) (I : Nat → List Slot → Prop) (h0 : I 0 ρ) (hlen : ∀ k r, I k r → Nat.blt i r.length = true)
    (hs : ∀ (k : Nat) (r : List Slot), k < (j - l).toNat → I k r → DS H0 (r.set i (.new (aD K (.int (l + k))))) tb (I (k + 1)) R) : DS H0 ρ (tFor (iRng2 (tCons te (tCons te2 tNil))) (gName i) tb) (I (j - l).toNat) R := fun σ H Hr D E kn kr => by
  refine h σ H Hr _ E fun v H1 Hr1 x1 a1 => h' σ H1 Hr1 _ (E.ext x1) fun v2 H2 Hr2 x2 a2 => ?_
  cases a1; cases a2
  refine ⟨l, j, rfl, hb, for_range (lo := l) (n := (j - l).toNat) (fun k σ' H' => ∃ r Hr', I k r ∧ EnvOk H0 σ' r H' Hr' ∧ Same Hr2 Hr') ⟨ρ, Hr2, h0, (E.ext x1).ext x2, Same.refl _⟩ ?_ ?_⟩
  · rintro k σ' H' hk ⟨r, Hr', i', E', s⟩
    exact hs k r hk i' _ _ Hr' _ (E'.set (f := true) (lt_of (hlen k r i')) (Dp.int _)) (fun r2 σ2 H2 Hr2 n2 E2 s2 => ⟨r2, Hr2, n2, E2, s.trans s2⟩) kr
  · rintro σ' H' ⟨r, Hr', i', E', s⟩
    exact kn r σ' H' Hr' i' E' ((x1.r.trans x2.r).trans s)
theorem ds_while {ct : TT} {tb : TS} (I : Nat → List Slot → Prop) (m0 : Nat) (h0 : I m0 ρ)
    (hs : ∀ m r, I m r → ∃ b, DT K H0 r ct b ∧ (b = true → DS H0 r tb (fun r' => ∃ m', m' < m ∧ I m' r') R) ∧ (b = false → N r)) : DS H0 ρ (tWhile ct tb) N R := fun σ H Hr D E kn kr => by
  refine ⟨fun m σ' H' => ∃ r Hr', I m r ∧ EnvOk H0 σ' r H' Hr' ∧ Same Hr Hr', ⟨m0, ρ, Hr, h0, E, Same.refl _⟩, ?_⟩
  rintro m σ' H' ⟨r, Hr', i', E', s⟩
  obtain ⟨b, dt, h1, h2⟩ := hs m r i'
  refine dt σ' H' Hr' _ E' fun H1 Hr1 x1 => ?_
  cases b with
  | true =>
    rw [if_pos rfl]
    refine ⟨fun σ2 H2 => ∃ m', m' < m ∧ ∃ r Hr', I m' r ∧ EnvOk H0 σ2 r H2 Hr' ∧ Same Hr Hr', fun _ _ q => q, h1 rfl σ' H1 Hr1 _ (E'.ext x1) (fun r2 σ2 H2 Hr2 n2 E2 s2 => ?_) kr⟩
    obtain ⟨m', lt, i2⟩ := n2
    exact ⟨m', lt, r2, Hr2, i2, E2, (s.trans x1.r).trans s2⟩
  | false =>
    rw [if_neg Bool.false_ne_true]
    exact kn r σ' H1 Hr1 (h2 rfl) (E'.ext x1) (s.trans x1.r)
/-- what is one's own is lent for good -/
theorem ds_bor {ρ' : List Slot} (bo : Bo H0 ρ ρ') (h : DS H0 ρ' t N R) : DS H0 ρ t N R := fun σ H Hr D E kn kr => by
  obtain ⟨Hr', s, E'⟩ := bo σ H Hr E
  exact h σ H Hr' D E' (fun r2 σ2 H2 Hr2 n2 E2 s2 => kn r2 σ2 H2 Hr2 n2 E2 (s.trans s2)) kr
theorem ds_never (h : False) : DS H0 ρ tNever N R := h.elim
/-! ### isinstance -/
def tyN : PyData → String
  | .none => "NoneType" | .bool _ => "bool" | .int _ => "int" | .str _ => "str" | .list _ => "list" | .tuple _ => "tuple" | .dict _ => "dict"
theorem sq_tyL {H : Hp} {p : Addr} {xs : List V} (h : SqL K H p xs) : TyX K H (.ref p) (.type "list") := by
  rcases h with (h | ⟨o, h⟩) | ⟨o, its, n, h1, h2, _⟩
  · exact .base (.lst h)
  · exact .base (.frz h)
  · exact .kList h1 h2
theorem sq_tyT {H : Hp} {p : Addr} {xs : List V} (h : SqT K H p xs) : TyX K H (.ref p) (.type "tuple") := by
  rcases h with (h | ⟨o, h⟩) | ⟨o, its, n, h1, h2, _⟩
  · exact .base (.tup h)
  · exact .fTuple h
  · exact .kTuple h1 h2
theorem dp_ty {H : Hp} {v : V} {d : PyData} (h : Dp K H v d) : TyX K H v (.type (tyN d)) := by
  cases h with
  | non => exact .base .non
  | bl b => exact .base (.bl b)
  | int i => exact .base (.int i)
  | str x => exact .base (.str x)
  | lst hs _ => exact sq_tyL hs
  | tup hs _ => exact sq_tyT hs
theorem ty_mono {H H' : Hp} {v : V} {d : PyData} (s : Same H H') (h : Dp K H v d) : TyX K H' v (.type (tyN d)) := dp_ty (dp_mono s _ _ h)
theorem de_isi {d : PyData} {T : String} (h : DE H0 ρ te fa (aD K d)) (hk : kitB (tyN d) T = some b) : DE H0 ρ (tCB (rIsi K) (tCons te (tCons (tC (.ty T)) tNil))) f (aD K (.bool b)) := fun σ H Hr Q E k => h σ H Hr _ E fun v H1 Hr1 x1 a1 =>
  ⟨v, .ty T, _, .type T, b, rfl, .ty T, ty_mono ((hp_sub fa).trans x1.s) a1, kit_ty hk, k _ H1 Hr1 x1 (.bl _)⟩
theorem de_isi2 {d : PyData} {T U : String} {b1 b2 : Bool} (h : DE H0 ρ te fa (aD K d)) (hk : kitB (tyN d) T = some b1) (hk2 : kitB (tyN d) U = some b2) :
    DE H0 ρ (tCB (rIsiT K) (tCons te (tCons (tTup (tCons (tC (.ty T)) (tCons (tC (.ty U)) tNil))) tNil))) f (aD K (.bool (b1 || b2))) := fun σ H Hr Q E k => h σ H Hr _ E fun v H1 Hr1 x1 a1 => by
  refine ⟨(show 2 ≤ sizeLine by decide), fun p hn => ?_⟩
  have x2 : Ext H1 Hr1 (upd H1 p (.tup [.ty T, .ty U])) (upd Hr1 p (.tup [.ty T, .ty U])) := Ext.lay x1.s hn
  refine ⟨v, p, [.ty T, .ty U], _, [.type T, .type U], b1 || b2, rfl, upd_same, .cons (.ty T) (.cons (.ty U) .nil), ty_mono (((hp_sub fa).trans x2.r).trans x2.s) a1, ?_, k _ _ _ (x1.trans x2) (.bl _)⟩
  refine kitAny_cons (kit_ty hk) (fun e => ?_) (fun e => by rw [e]; rfl)
  subst e
  refine kitAny_cons (kit_ty hk2) (fun e => ?_) (fun e => by rw [e]; rfl)
  subst e
  exact kitAny_nil
theorem de_eqB {a b : Bool} (ha : DE H0 ρ ta fa (aD K (.bool a))) (hb : DE H0 ρ tb fb (aD K (.bool b))) : DE H0 ρ (tOp rEq ta tb) f (aD K (.bool (decide (a = b)))) := de_op ha hb fun x y Hr H Q _ p q k => by
  cases p; cases q
  exact ⟨rfl, k _ fun _ => by rw [show decide (V.bl a = V.bl b) = decide (a = b) by simp]; exact .bl _⟩
theorem de_neB {a b : Bool} (ha : DE H0 ρ ta fa (aD K (.bool a))) (hb : DE H0 ρ tb fb (aD K (.bool b))) : DE H0 ρ (tOp rNe ta tb) f (aD K (.bool (!decide (a = b)))) := de_op ha hb fun x y Hr H Q _ p q k => by
  cases p; cases q
  exact ⟨rfl, k _ fun _ => by rw [show decide (V.bl a = V.bl b) = decide (a = b) by simp]; exact .bl _⟩
theorem de_eqD {d e : PyData} (ha : DE H0 ρ ta fa (aD K d)) (hb : DE H0 ρ tb fb (aD K e)) (s1 : SeqAt.shaped d = true) (s2 : SeqAt.shaped e = true) : DE H0 ρ (tOp (rEqD K) ta tb) f (aD K (.bool (PyData.eqv d e))) :=
  de_op ha hb fun x y Hr H Q s p q k => ⟨d, e, dp_mono s _ _ p, dp_mono s _ _ q, s1, s2, k _ fun _ => .bl _⟩
theorem de_neD {d e : PyData} (ha : DE H0 ρ ta fa (aD K d)) (hb : DE H0 ρ tb fb (aD K e)) (s1 : SeqAt.shaped d = true) (s2 : SeqAt.shaped e = true) : DE H0 ρ (tOp (rNeD K) ta tb) f (aD K (.bool (!PyData.eqv d e))) :=
  de_op ha hb fun x y Hr H Q s p q k => ⟨d, e, dp_mono s _ _ p, dp_mono s _ _ q, s1, s2, k _ fun _ => .bl _⟩
end
/-! ### a def -/
theorem allp_get {H : Hp} : ∀ {As : List Abs} {vs : List V}, AllP As vs H → ∀ (i : Nat) (A : Abs), As[i]? = some A → ∃ v, vs[i]? = some v ∧ A.p v H
  | _, _, .nil, i, A, e => by simp at e
  | _, _, .cons h t, 0, A, e => by simp at e; subst e; exact ⟨_, rfl, h⟩
  | _, _, .cons h t, i + 1, A, e => by simpa using allp_get t i A (by simpa using e)
theorem env_start {H : Hp} : ∀ {As : List Abs} {vs : List V} (n : Nat), AllP As vs H → EnvOk H (vs.map some ++ List.replicate n none) (As.map Slot.dat ++ List.replicate n Slot.no) H H := fun {As vs} n h => by
  have hl := h.length
  have cls : ∀ (i : Nat) (s : Slot), (As.map Slot.dat ++ List.replicate n Slot.no)[i]? = some s → s = .no ∨ ∃ A, s = .dat A ∧ As[i]? = some A := fun i s hs => by
    by_cases hi : i < As.length
    · rw [List.getElem?_append_left (by simpa using hi), List.getElem?_map, List.getElem?_eq_getElem hi] at hs
      exact .inr ⟨As[i], (Option.some.inj hs).symm, List.getElem?_eq_getElem hi⟩
    · rw [List.getElem?_append_right (by simpa using Nat.le_of_not_lt hi)] at hs
      obtain ⟨z, e⟩ := List.getElem?_eq_some_iff.mp hs
      rw [List.getElem_replicate] at e
      exact .inl e.symm
  refine ⟨Same.refl _, Same.refl _, by simp [hl], fun i s hs => ?_, fun i j p B B' _ hi _ _ _ => ?_⟩
  · rcases cls i s hs with rfl | ⟨A, rfl, hA⟩
    · trivial
    · obtain ⟨v, h1, h2⟩ := allp_get h i A hA
      have hi : i < vs.length := (List.getElem?_eq_some_iff.mp h1).1
      exact ⟨v, by rw [List.getElem?_append_left (by simpa using hi), List.getElem?_map, h1]; rfl, h2⟩
  · rcases cls i _ hi with e | ⟨A, e, _⟩ <;> cases e
section
variable {P : Program} {w : World} {K : PySem.W.Frag} {mg : Str → Option Value} {base : Heap}
theorem fn_ok {x qual : Str} {st : Stmt} {f : Addr} {fd : FuncData} {N ps : List Str} {k : Nat} {S : Spec} (F : Fun K x qual st f fd) (Sc : FnScope N ps (defScope st)) (len : ∀ As R, S As R → As.length = ps.length)
    (body : ∀ (cdv : Value) (A : Around) (outer : List Env) (s : Shared) (H : Hp) (E : XK), Room k (A.deeper (PyProof.Rows.envOfC qual (defScope st) s.heap.objs.size f cdv)) → ∀ As R, S As R →
      ∃ t, PSs (cxOf CX0 P w K mg base N qual (defScope st) f cdv A outer s H E).nox (defBody st) t ∧ ∀ H0, DS H0 (As.map Slot.dat ++ List.replicate (N.length - As.length) Slot.no) t (fun _ => False) R) : FnOk P w K mg base CX0 (k + 1) f fd ps (spF S) := by
  refine F.ok Sc (fun vs H Q E h => ?_) (fun cdv A outer s H vs Q E hr h => ?_)
  · obtain ⟨As, R, h1, h2, _⟩ := h
    rw [← h2.length]; exact len As R h1
  · obtain ⟨As, R, h1, h2, h3⟩ := h
    obtain ⟨t, p, d⟩ := body cdv A outer s H E hr As R h1
    refine ⟨t, p, d H _ H H _ ?_ (fun _ _ _ _ n _ _ => n.elim) (fun v H' s r => h3 v H' s r)⟩
    have e := env_start (n := N.length - vs.length) h2
    unfold L2.start
    rw [h2.length]
    exact e
/-- the law itself: it hands back True -/
def spL (K : PySem.W.Frag) : Sp := fun vs H Q _ => ∃ (a : Addr) (ns : List Int), vs = [.ref a] ∧ SqL K H a (ns.map V.int) ∧ ns.length ≤ 63 ∧ ∀ H', Q (.bl true) H'
theorem dpa_ints {H : Hp} : ∀ ns : List Int, DpAll K H (ns.map V.int) (ns.map PyData.int)
  | [] => .nil
  | n :: ns => .cons (.int n) (dpa_ints ns)
theorem law_ok {x qual : Str} {st : Stmt} {f : Addr} {fd : FuncData} {N : List Str} {p : Str} {k : Nat} (F : Fun K x qual st f fd) (Sc : FnScope N [p] (defScope st))
    (body : ∀ (cdv : Value) (A : Around) (outer : List Env) (s : Shared) (H : Hp) (E : XK), Room k (A.deeper (PyProof.Rows.envOfC qual (defScope st) s.heap.objs.size f cdv)) → ∀ ns : List Int, ns.length ≤ 63 →
      ∃ t, PSs (cxOf CX0 P w K mg base N qual (defScope st) f cdv A outer s H E).nox (defBody st) t ∧ ∀ H0, DS H0 (Slot.dat (aD K (.list (ns.map .int))) :: List.replicate (N.length - 1) Slot.no) t (fun _ => False) (aD K (.bool true))) : FnOk P w K mg base CX0 (k + 1) f fd [p] (spL K) := by
  refine F.ok Sc (fun vs H Q E h => ?_) (fun cdv A outer s H vs Q E hr h => ?_)
  · obtain ⟨a, ns, rfl, _⟩ := h
    rfl
  · obtain ⟨a, ns, rfl, h1, h2, h3⟩ := h
    obtain ⟨t, p, d⟩ := body cdv A outer s H E hr ns h2
    refine ⟨t, p, d H _ H H _ ?_ (fun _ _ _ _ n _ _ => n.elim) (fun v H' s r => by cases r; exact h3 H')⟩
    exact env_start (As := [aD K (.list (ns.map .int))]) (vs := [.ref a]) (n := N.length - 1) (.cons (Dp.lst h1 (dpa_ints ns)) .nil)
end
end Kj

set_option Elab.async false
set_option linter.all false
set_option maxRecDepth 100000
set_option maxHeartbeats 4000000
namespace Kj
open PySem L2
/-- a def that stands under its name -/
def DefAt (P : Program) (w : World) (K : PySem.W.Frag) (mg : Str → Option Value) (base : Heap) (name : Str) (k : Nat) (ps : List Str) (sp : Sp) : Prop :=
  ∃ f fd, mg name = some (.ref f) ∧ PySem.W.keepIn K (.ref f) = true ∧ Binds K fd ps [] ∧ FnOk P w K mg base CX0 k f fd ps sp
theorem pe_callD {X : Cx} {k : Nat} {ps : List Str} {sp : Sp} {x : Str} {p pos : Pos} {e : Expr} {es : List Expr} {t : TA} (D : DefAt X.prog X.w X.K X.mg X.base x k ps sp) (hr : Room k X.A) (hg : Gl X x)
    (ha : PA X (e :: es) t) (hdb : (x == ("__debug__" : Str)) = false := by decide) (he : starEach (e :: es) X.env = (false, eval e X.env) :: starEach es X.env := by rfl) (hpl : (backTo pos (starEach es X.env)).any (·.1) = false := by rfl) :
    PE X (.Call (.Name x p) (e :: es) [] pos) (tCall sp [] E0 t) := by
  obtain ⟨f, fd, h1, h2, h3, h4⟩ := D
  exact pe_call h4 hr hg h1 h2 h3 .nil pass0 ha hdb he hpl
/-- one of many, by what is true of it -/
def aEx {α : Type} (P : α → Prop) (g : α → Abs) : Abs := ⟨fun v H => ∃ x, P x ∧ (g x).p v H, fun v H H' s ⟨x, h, q⟩ => ⟨x, h, (g x).mono _ _ _ s q⟩⟩
theorem ds_ex {H0 : Hp} {ρ : List Slot} {α : Type} {Pr : α → Prop} {g : α → Abs} {i : Nat} {f : Bool} {t : TS} {N : List Slot → Prop} {R : Abs} (h : ∀ x, Pr x → DS H0 (ρ.set i (sl f (g x))) t N R) (hi : Nat.blt i ρ.length = true := by rfl) : DS H0 (ρ.set i (sl f (aEx Pr g))) t N R := fun σ H Hr D E kn kr => by
  have hi := lt_of hi
  have hs := E.slot i (sl f (aEx Pr g)) (by rw [List.getElem?_set_self hi])
  have : ∃ v x, σ[i]? = some (some v) ∧ Pr x ∧ (g x).p v (hp f Hr H0) := by
    cases f
    · obtain ⟨v, e, x, h1, h2⟩ := hs; exact ⟨v, x, e, h1, h2⟩
    · obtain ⟨v, e, x, h1, h2⟩ := hs; exact ⟨v, x, e, h1, h2⟩
  obtain ⟨v, x, e, h1, h2⟩ := this
  refine h x h1 σ H Hr D ?_ kn kr
  have E' := E.set (i := i) (v := v) (A := g x) (f := f) (by rw [List.length_set]; exact hi) h2
  have hσ : i < σ.length := by rw [E.len, List.length_set]; exact hi
  have e1 : σ.set i (some v) = σ := by
    apply List.ext_getElem?
    intro j
    by_cases hj : i = j
    · subst hj; rw [List.getElem?_set_self hσ]; exact e.symm
    · rw [List.getElem?_set_ne hj]
  rw [e1, List.set_set] at E'
  exact E'
end Kj
namespace Kj
open PySem L2 PyProof.Rows
def CDivZ (_ j : Int) : Prop := j ≠ 0 ∧ j.natAbs.log2 < 9000
theorem op_fdivZ {X : Cx} : OpR X (binaryOp .FloorDiv) (rI CDivZ fun i j => .int (i.fdiv j)) := opI fun i j _ _ _ _ _ hc q => floordiv_int hc.1 q (.inl (PyProof.noPylong_of_log2 hc.2))
theorem de_fdivZ {H0 : Hp} {ρ : List Slot} {K : PySem.W.Frag} {f fa fb : Bool} {ta tb : TE} {i j : Int} (ha : DE H0 ρ ta fa (aD K (.int i))) (hb : DE H0 ρ tb fb (aD K (.int j))) (h : CDivZ i j) : DE H0 ρ (tOp (rI CDivZ fun i j => .int (i.fdiv j)) ta tb) f (aD K (.int (i.fdiv j))) := de_iC ha hb h fun _ => .int _
theorem ds_nev {H0 : Hp} {ρ : List Slot} {u : TS} {N : List Slot → Prop} {R : Abs} (h : False) : DS H0 ρ (tSeq tNever u) N R := h.elim
theorem atI_some {α : Type} {xs : List α} {i : Int} (h0 : 0 ≤ i) (h1 : i < xs.length) : atI xs i = some (xs[i.toNat]'(by omega)) := by
  unfold atI ixN
  rw [if_pos h0, if_pos h1]
  show xs[i.toNat]? = _
  rw [List.getElem?_eq_getElem]
theorem atI_map {α β : Type} {xs : List α} {g : α → β} {i : Int} (h0 : 0 ≤ i) (h1 : i < xs.length) : atI (xs.map g) i = some (g (xs[i.toNat]'(by omega))) := by
  rw [atI_some h0 (by simpa using h1)]
  simp
theorem cutD_map {α β : Type} (g : α → β) (xs : List α) (lo hi : Option Int) : cutD (xs.map g) lo hi = (cutD xs lo hi).map g := by
  unfold cutD
  rw [List.length_map, List.map_take, List.map_drop]
theorem sIx_nn (n d : Nat) {v : Int} (h : 0 ≤ v) : HT.sIx n d (some v) = min v.toNat n := by
  show (if v < 0 then (v + (n : Int)).toNat else min v.toNat n) = _
  rw [if_neg (by omega)]
theorem cutD_to {α : Type} (xs : List α) {n : Int} (h : 0 ≤ n) : cutD xs none (some n) = xs.take n.toNat := by
  unfold cutD
  rw [sIx_nn _ _ h, HT.sIx_none, List.drop_zero, Nat.sub_zero]
  by_cases h2 : n.toNat ≤ xs.length
  · rw [Nat.min_eq_left h2]
  · rw [Nat.min_eq_right (by omega), List.take_of_length_le (Nat.le_refl _), List.take_of_length_le (by omega)]
theorem cutD_from {α : Type} (xs : List α) {n : Int} (h : 0 ≤ n) : cutD xs (some n) none = xs.drop n.toNat := by
  unfold cutD
  rw [sIx_nn _ _ h, HT.sIx_none]
  by_cases h2 : n.toNat ≤ xs.length
  · rw [Nat.min_eq_left h2, List.take_of_length_le (by simp)]
  · rw [Nat.min_eq_right (by omega), List.take_of_length_le (by simp), List.drop_eq_nil_of_le (Nat.le_refl _), List.drop_eq_nil_of_le (by omega)]
theorem all_ints (ns : List Int) : (ns.map PyData.int).all scD = true := by
  induction ns with
  | nil => rfl
  | cons n ns ih => rw [List.map_cons, List.all_cons, ih]; rfl
end Kj

set_option Elab.async false
set_option linter.all false
set_option maxRecDepth 100000
set_option maxHeartbeats 4000000
namespace Kj
open PySem L2
abbrev FnP (K : PySem.W.Frag) (x qual : Str) (st : Stmt) (f : Addr) (fd : FuncData) : Prop := FunD K x qual (defArgs st) (defBody st) (defScope st) [] [] f fd
section
variable {P : Program} {w : World} {K : PySem.W.Frag} {mg : Str → Option Value} {base : Heap}
theorem fnD_ok {x qual : Str} {st : Stmt} {f : Addr} {fd : FuncData} {N ps : List Str} {k : Nat} {S : Spec} (F : FnP K x qual st f fd) (Sc : FnScope N ps (defScope st)) (len : ∀ As R, S As R → As.length = ps.length)
    (body : ∀ (cdv : Value) (A : Around) (outer : List Env) (s : Shared) (H : Hp) (E : XK), Room k (A.deeper (PyProof.Rows.envOfC qual (defScope st) s.heap.objs.size f cdv)) → ∀ As R, S As R →
      ∃ t, PSs (cxOf CX0 P w K mg base N qual (defScope st) f cdv A outer s H E).nox (defBody st) t ∧ ∀ H0, DS H0 (As.map Slot.dat ++ List.replicate (N.length - As.length) Slot.no) t (fun _ => False) R) : FnOk P w K mg base CX0 (k + 1) f fd ps (spF S) := by
  refine F.ok Sc (fun vs H Q E h => ?_) (fun cdv A outer s H vs Q E hr h => ?_)
  · obtain ⟨As, R, h1, h2, _⟩ := h
    rw [← h2.length]; exact len As R h1
  · obtain ⟨As, R, h1, h2, h3⟩ := h
    obtain ⟨t, p, d⟩ := body cdv A outer s H E hr As R h1
    refine ⟨t, p.nox, d H _ H H _ ?_ (fun _ _ _ _ n _ _ => n.elim) (fun v H' s r => h3 v H' s r)⟩
    have e := env_start (n := N.length - vs.length) h2
    unfold L2.start
    rw [h2.length]
    exact e
theorem lawD_ok {x qual : Str} {st : Stmt} {f : Addr} {fd : FuncData} {N : List Str} {p : Str} {k : Nat} (F : FnP K x qual st f fd) (Sc : FnScope N [p] (defScope st))
    (body : ∀ (cdv : Value) (A : Around) (outer : List Env) (s : Shared) (H : Hp) (E : XK), Room k (A.deeper (PyProof.Rows.envOfC qual (defScope st) s.heap.objs.size f cdv)) → ∀ ns : List Int, ns.length ≤ 63 →
      ∃ t, PSs (cxOf CX0 P w K mg base N qual (defScope st) f cdv A outer s H E).nox (defBody st) t ∧ ∀ H0, DS H0 (Slot.dat (aD K (.list (ns.map .int))) :: List.replicate (N.length - 1) Slot.no) t (fun _ => False) (aD K (.bool true))) : FnOk P w K mg base CX0 (k + 1) f fd [p] (spL K) := by
  refine F.ok Sc (fun vs H Q E h => ?_) (fun cdv A outer s H vs Q E hr h => ?_)
  · obtain ⟨a, ns, rfl, _⟩ := h
    rfl
  · obtain ⟨a, ns, rfl, h1, h2, h3⟩ := h
    obtain ⟨t, p, d⟩ := body cdv A outer s H E hr ns h2
    refine ⟨t, p.nox, d H _ H H _ ?_ (fun _ _ _ _ n _ _ => n.elim) (fun v H' s r => by cases r; exact h3 H')⟩
    exact env_start (As := [aD K (.list (ns.map .int))]) (vs := [.ref a]) (n := N.length - 1) (.cons (Dp.lst h1 (dpa_ints ns)) .nil)
theorem defAt {x qual name : Str} {st : Stmt} {f : Addr} {fd : FuncData} {k : Nat} {ps : List Str} {sp : Sp} (F : FnP K x qual st f fd) (hg : mg name = some (.ref f)) (G : FnOk P w K mg base CX0 k f fd ps sp)
    (h : ∀ (kV doc pm : Value) (an : Option Addr) (cdv ct : Value) (us : List Value), us.length = ps.length → bindArgs (PySem.W.fnOf x qual (defArgs st) (defBody st) (defScope st) .none kV doc pm an cdv ct) ⟨us, []⟩ = pure (ps.zip us)) : DefAt P w K mg base name k ps sp :=
  ⟨f, fd, hg, F.kp, F.bindsN h, G⟩
end
section
variable {H0 : Hp} {ρ : List Slot} {K : PySem.W.Frag} {f fa fb fc : Bool} {ta tb tc te : TE} {a b c : Bool} {N N1 : List Slot → Prop} {R : Abs} {t u w : TS}
theorem ds_forT {i : Nat} {ds : List PyData} {tl : TE} {tb : TS} (hl : DE H0 ρ tl fa (aD K (.tuple ds))) (I : Nat → List Slot → Prop) (h0 : I 0 ρ) (hlen : ∀ k r, I k r → Nat.blt i r.length = true)
    (hs : ∀ (k : Nat) (d : PyData) (r : List Slot), ds[k]? = some d → I k r → DS H0 (r.set i (sl fa (aD K d))) tb (I (k + 1)) R) : DS H0 ρ (tFor (iTup K tl) (gName i) tb) (I ds.length) R := fun σ H Hr D E kn kr => by
  refine hl σ H Hr _ E fun v H1 Hr1 x1 a1 => ?_
  cases a1 with
  | @tup a xs _ hq hA =>
    refine ⟨a, rfl, ⟨xs, seqT ((hp_sub fa).trans x1.s) hq⟩, for_tup (K := K) (a := a) (xs := xs) (fun k σ' H' => ∃ r Hr', I k r ∧ EnvOk H0 σ' r H' Hr' ∧ Same Hr1 Hr') ⟨ρ, Hr1, h0, E.ext x1, Same.refl _⟩ ?_ ?_ ?_⟩
    · rintro k σ' H' _ ⟨r, Hr', _, E', s⟩
      exact seqT ((hp_sub fa).trans (s.trans E'.sub)) hq
    · rintro k x σ' H' hx ⟨r, Hr', i', E', s⟩
      obtain ⟨d, h1, h2⟩ := dpa_get hA hx
      exact hs k d r h1 i' _ _ Hr' _ (E'.set (lt_of (hlen k r i')) (dp_mono (hp_mono fa H0 s) _ _ h2)) (fun r2 σ2 H2 Hr2 n2 E2 s2 => ⟨r2, Hr2, n2, E2, s.trans s2⟩) kr
    · rintro σ' H' ⟨r, Hr', i', E', s⟩
      rw [dpa_len hA] at i'
      exact kn r σ' H' Hr' i' E' (x1.r.trans s)
end
end Kj

set_option Elab.async false
set_option linter.all false
set_option maxRecDepth 100000
set_option maxHeartbeats 4000000
/-! Kj6: what is raised. -/
namespace Kj
open PySem L2
abbrev XA := Value → Option Addr → Hp → Prop
def xNo (C : Addr) : XA := fun cls d _ => cls = .ref C ∧ d = none
inductive Out where
  | ret (R : Abs)
  | exc (X : XA)
abbrev SpecX := List Abs → Out → Prop
def spX (S : SpecX) : Sp := fun vs H Q E => ∃ As O, S As O ∧ AllP As vs H ∧ match O with
  | .ret R => ∀ v H', Same H H' → R.p v (mns H' H) → Q v H'
  | .exc X => ∀ cls d H', Same H H' → X cls d H' → E cls d H'
/-- a def that may raise, where it does not -/
theorem FnOk.calm {P : Program} {w : World} {K : PySem.W.Frag} {mg : Str → Option Value} {base : Heap} {k : Nat} {f : Addr} {fd : FuncData} {ps : List Str} {S : SpecX} (F : FnOk P w K mg base (L2.CX P w) k f fd ps (spX S)) :
    FnOk P w K mg base CX0 k f fd ps (spF fun As R => S As (.ret R)) := by
  refine ⟨fun vs H Q E h => ?_, fun A outer s H args us vs Q E hr he hb hv hs => ?_⟩
  · obtain ⟨As, R, h1, h2, h3⟩ := h
    exact F.len vs H Q E ⟨As, .ret R, h1, h2, h3⟩
  · obtain ⟨As, R, h1, h2, h3⟩ := hs
    refine codeAny_mono (F.run A outer s H args us vs Q E0 hr he hb hv ⟨As, .ret R, h1, h2, h3⟩) fun r s' q => ?_
    cases r with
    | ok fl => cases fl <;> exact q
    | error e =>
      obtain ⟨_, _, _, _, _, _, _, _, _, _, _, _, z⟩ := q
      exact z.elim
def DSX (W : WX) (H0 : Hp) (ρ : List Slot) (t : TS) (N : List Slot → Prop) (R : Abs) (Z : List Slot → XA) : Prop :=
  ∀ (σ : St) (H Hr : Hp) (D : Ends), EnvOk H0 σ ρ H Hr → (∀ ρ' σ' H' Hr', N ρ' → EnvOk H0 σ' ρ' H' Hr' → Same Hr Hr' → D.nx σ' H') →
    (∀ v H', Same H0 H' → R.p v (mns H' H0) → D.rt v H') → (∀ ρ' σ' H' Hr' cls d, Z ρ' cls d H' → EnvOk H0 σ' ρ' H' Hr' → Same Hr Hr' → W cls d σ' H') → t D σ H
def RE (W : WX) (H0 : Hp) (ρ : List Slot) (t : TE) (X : XA) : Prop :=
  ∀ (σ : St) (H Hr : Hp) (Q : VK), EnvOk H0 σ ρ H Hr → (∀ cls d H' Hr', Ext H Hr H' Hr' → X cls d H' → W cls d σ H') → t σ H Q
section
variable {W : WX} {H0 : Hp} {ρ : List Slot} {K : PySem.W.Frag} {f fa fb : Bool} {ta tb te : TE} {a b : Bool} {N N1 : List Slot → Prop} {R : Abs} {t u w : TS} {Z : List Slot → XA} {X : XA}
theorem de_callS {S : SpecX} {As : List Abs} {R : Abs} {t : TA} {Ex : St → XK} {ρ' : List Slot} (bo : Bo H0 ρ ρ') (ha : DA H0 ρ' t false As) (hs : S As (.ret R)) : DE H0 ρ (tCallS (spX S) Ex t) f R := fun σ H Hr Q E k => by
  obtain ⟨Hr', s, E'⟩ := bo σ H Hr E
  refine ha σ H Hr' _ E' fun vs H1 Hr1 x1 a1 => ?_
  refine ⟨As, .ret R, hs, a1.mono x1.s, fun v H2 s2 r2 => k v H2 _ (Ext.call E.sub x1.h s2) ?_⟩
  have r3 := R.mono _ _ _ (joinH_new E.base E.sub x1.h) r2
  cases f
  · exact R.mono _ _ _ mns_sub r3
  · exact r3
theorem re_callS {S : SpecX} {As : List Abs} {t : TA} {ρ' : List Slot} (bo : Bo H0 ρ ρ') (ha : DA H0 ρ' t false As) (hs : S As (.exc X)) : RE W H0 ρ (tCallS (spX S) (WE W) t) X := fun σ H Hr Q E k => by
  obtain ⟨Hr', s, E'⟩ := bo σ H Hr E
  refine ha σ H Hr' _ E' fun vs H1 Hr1 x1 a1 => ?_
  exact ⟨As, .exc X, hs, a1.mono x1.s, fun cls d H2 s2 r2 => k cls d H2 _ (Ext.call E.sub x1.h s2) r2⟩
theorem re_opL {r : R2} (h : RE W H0 ρ ta X) : RE W H0 ρ (tOp r ta tb) X := fun σ H Hr Q E k => h σ H Hr _ E k
theorem dsx_of (h : DS H0 ρ t N R) : DSX W H0 ρ t N R Z := fun σ H Hr D E kn kr _ => h σ H Hr D E kn kr
theorem dsx_seq (h : DSX W H0 ρ t N1 R Z) (h2 : ∀ ρ', N1 ρ' → DSX W H0 ρ' u N R Z) : DSX W H0 ρ (tSeq t u) N R Z := fun σ H Hr D E kn kr kx =>
  h σ H Hr _ E (fun ρ' σ' H' Hr' n E' s => h2 ρ' n σ' H' Hr' D E' (fun ρ2 σ2 H2 Hr2 n2 E2 s2 => kn ρ2 σ2 H2 Hr2 n2 E2 (s.trans s2)) kr (fun ρ2 σ2 H2 Hr2 c d z E2 s2 => kx ρ2 σ2 H2 Hr2 c d z E2 (s.trans s2))) kr kx
theorem dsx_sq {ρ1 : List Slot} (h : DS H0 ρ t (fun r => r = ρ1) R) (h2 : DSX W H0 ρ1 u N R Z) : DSX W H0 ρ (tSeq t u) N R Z := dsx_seq (dsx_of h) fun _ e => e ▸ h2
theorem dsx_if {ct : TT} (h : DT K H0 ρ ct a) (h1 : a = true → DSX W H0 ρ t N R Z) (h2 : a = false → DSX W H0 ρ u N R Z) : DSX W H0 ρ (tIfS ct t u) N R Z := fun σ H Hr D E kn kr kx => h σ H Hr _ E fun H1 Hr1 x1 => by
  cases a with
  | true => rw [if_pos rfl]; exact h1 rfl σ H1 Hr1 D (E.ext x1) (fun ρ' σ' H' Hr' n E' s => kn ρ' σ' H' Hr' n E' (x1.r.trans s)) kr (fun ρ2 σ2 H2 Hr2 c d z E2 s2 => kx ρ2 σ2 H2 Hr2 c d z E2 (x1.r.trans s2))
  | false => rw [if_neg Bool.false_ne_true]; exact h2 rfl σ H1 Hr1 D (E.ext x1) (fun ρ' σ' H' Hr' n E' s => kn ρ' σ' H' Hr' n E' (x1.r.trans s)) kr (fun ρ2 σ2 H2 Hr2 c d z E2 s2 => kx ρ2 σ2 H2 Hr2 c d z E2 (x1.r.trans s2))
theorem dsx_ifs {ct : TT} (h : DT K H0 ρ ct a) (h1 : a = true → DSX W H0 ρ (tSeq t w) N R Z) (h2 : a = false → DSX W H0 ρ (tSeq u w) N R Z) : DSX W H0 ρ (tSeq (tIfS ct t u) w) N R Z :=
  fun σ H Hr D E kn kr kx => dsx_if (t := tSeq t w) (u := tSeq u w) h h1 h2 σ H Hr D E kn kr kx
theorem dsx_skip (h : DSX W H0 ρ u N R Z) : DSX W H0 ρ (tSeq tNext u) N R Z := h
theorem dsx_retE (h : RE W H0 ρ te X) (hz : ∀ c d H, X c d H → Z ρ c d H) : DSX W H0 ρ (tRet te) N R Z := fun σ H Hr D E kn kr kx => h σ H Hr _ E fun c d H' Hr' x q => kx ρ σ H' Hr' c d (hz _ _ _ q) (E.ext x) x.r
theorem dsx_dropE (h : RE W H0 ρ te X) (hz : ∀ c d H, X c d H → Z ρ c d H) : DSX W H0 ρ (tDrop te) N R Z := fun σ H Hr D E kn kr kx => h σ H Hr _ E fun c d H' Hr' x q => kx ρ σ H' Hr' c d (hz _ _ _ q) (E.ext x) x.r
theorem dsx_asgE {g : TG} (h : RE W H0 ρ te X) (hz : ∀ c d H, X c d H → Z ρ c d H) : DSX W H0 ρ (tAsg te g) N R Z := fun σ H Hr D E kn kr kx => h σ H Hr _ E fun c d H' Hr' x q => kx ρ σ H' Hr' c d (hz _ _ _ q) (E.ext x) x.r
theorem dsx_cut (h : DSX W H0 ρ t (fun _ => False) R Z) : DSX W H0 ρ (tSeq t u) N R Z := dsx_seq h fun _ z => z.elim
theorem dsx_raise {C : Addr} (hz : ∀ H, Z ρ (.ref C) none H) : DSX W H0 ρ (fun _ σ H => W (.ref C) none σ H) N R Z := fun σ H Hr D E kn kr kx => kx ρ σ H Hr _ _ (hz H) E (Same.refl _)
def tTry (K : PySem.W.Frag) (Wout : WX) (l : List (Value × (Addr → Value → Option Addr → TS))) (tb : WX → TS) : TS := fun D σ H => tb (wMany K Wout D l) D σ H
/-- except clauses: which one takes it -/
inductive Hnd (K : PySem.W.Frag) (H0 : Hp) (N : List Slot → Prop) (R : Abs) : List (Value × (Addr → Value → Option Addr → TS)) → List Slot → Value → Option Addr → Prop
  | here {c : Value} {ts : Addr → Value → Option Addr → TS} {l : List (Value × (Addr → Value → Option Addr → TS))} {ρ : List Slot} {cls : Value} {d : Option Addr} : PySem.W.exmOne K cls c = some true → (∀ a, DS H0 ρ (ts a cls d) N R) → Hnd K H0 N R ((c, ts) :: l) ρ cls d
  | next {c : Value} {ts : Addr → Value → Option Addr → TS} {l : List (Value × (Addr → Value → Option Addr → TS))} {ρ : List Slot} {cls : Value} {d : Option Addr} : PySem.W.exmOne K cls c = some false → Hnd K H0 N R l ρ cls d → Hnd K H0 N R ((c, ts) :: l) ρ cls d
theorem ds_try {tb : WX → TS} {Wout : WX} {l : List (Value × (Addr → Value → Option Addr → TS))} (hb : ∀ W, DSX W H0 ρ (tb W) N R Z) (hh : ∀ ρ' cls d H', Z ρ' cls d H' → Hnd K H0 N R l ρ' cls d) : DS H0 ρ (tTry K Wout l tb) N R := fun σ H Hr D E kn kr => by
  refine hb _ σ H Hr D E kn kr fun ρ' σ' H' Hr' cls d z E' s => ?_
  have q := hh ρ' cls d H' z
  clear hh hb z
  induction q with
  | here h1 h2 => exact ⟨true, h1, fun _ a _ => h2 a σ' H' Hr' D E' (fun ρ2 σ2 H2 Hr2 n2 E2 s2 => kn ρ2 σ2 H2 Hr2 n2 E2 (s.trans s2)) kr, fun q => nomatch q⟩
  | next h1 _ ih => exact ⟨false, h1, (fun q => by cases q), fun _ => ih E'⟩
end
def aNo : Abs := ⟨fun _ _ => False, fun _ _ _ _ h => h⟩
abbrev outR : Out → Abs | .ret R => R | .exc _ => aNo
abbrev outZ : Out → List Slot → XA | .ret _ => fun _ _ _ _ => False | .exc X => fun _ => X
section
variable {P : Program} {w : World} {K : PySem.W.Frag} {mg : Str → Option Value} {base : Heap}
theorem fnX_ok {x qual : Str} {st : Stmt} {f : Addr} {fd : FuncData} {N ps : List Str} {k : Nat} {S : SpecX} (F : FnP K x qual st f fd) (Sc : FnScope N ps (defScope st)) (len : ∀ As O, S As O → As.length = ps.length)
    (body : ∀ (cdv : Value) (A : Around) (outer : List Env) (s : Shared) (H : Hp) (E : XK), Room k (A.deeper (PyProof.Rows.envOfC qual (defScope st) s.heap.objs.size f cdv)) → ∀ As O, S As O →
      ∃ t, PSs (cxOf (L2.CX P w) P w K mg base N qual (defScope st) f cdv A outer s H E) (defBody st) t ∧ ∀ H0, DSX (fun cls d _ H => E cls d H) H0 (As.map Slot.dat ++ List.replicate (N.length - As.length) Slot.no) t (fun _ => False) (outR O) (outZ O)) : FnOk P w K mg base (L2.CX P w) (k + 1) f fd ps (spX S) := by
  refine F.ok Sc (fun vs H Q E h => ?_) (fun cdv A outer s H vs Q E hr h => ?_)
  · obtain ⟨As, O, h1, h2, _⟩ := h
    rw [← h2.length]; exact len As O h1
  · obtain ⟨As, O, h1, h2, h3⟩ := h
    obtain ⟨t, p, d⟩ := body cdv A outer s H E hr As O h1
    have e := env_start (n := N.length - vs.length) h2
    refine ⟨t, p, d H _ H H _ ?_ (fun _ _ _ _ n _ _ => n.elim) (fun v H' s r => ?_) (fun ρ' σ' H' Hr' cls dd z E' s => ?_)⟩
    · unfold L2.start
      rw [h2.length]
      exact e
    · cases O with
      | ret R => exact h3 v H' s r
      | exc X => exact r.elim
    · cases O with
      | ret R => exact z.elim
      | exc X => exact h3 cls dd H' E'.base z
def DefAtX (P : Program) (w : World) (K : PySem.W.Frag) (mg : Str → Option Value) (base : Heap) (name : Str) (k : Nat) (ps : List Str) (sp : Sp) : Prop :=
  ∃ f fd, mg name = some (.ref f) ∧ PySem.W.keepIn K (.ref f) = true ∧ Binds K fd ps [] ∧ FnOk P w K mg base (L2.CX P w) k f fd ps sp
theorem DefAtX.calm {name : Str} {k : Nat} {ps : List Str} {S : SpecX} (D : DefAtX P w K mg base name k ps (spX S)) : DefAt P w K mg base name k ps (spF fun As R => S As (.ret R)) := by
  obtain ⟨f, fd, h1, h2, h3, h4⟩ := D
  exact ⟨f, fd, h1, h2, h3, FnOk.calm h4⟩
theorem defAtX {x qual name : Str} {st : Stmt} {f : Addr} {fd : FuncData} {k : Nat} {ps : List Str} {sp : Sp} (F : FnP K x qual st f fd) (hg : mg name = some (.ref f)) (G : FnOk P w K mg base (L2.CX P w) k f fd ps sp)
    (h : ∀ (kV doc pm : Value) (an : Option Addr) (cdv ct : Value) (us : List Value), us.length = ps.length → bindArgs (PySem.W.fnOf x qual (defArgs st) (defBody st) (defScope st) .none kV doc pm an cdv ct) ⟨us, []⟩ = pure (ps.zip us)) : DefAtX P w K mg base name k ps sp :=
  ⟨f, fd, hg, F.kp, F.bindsN h, G⟩
end
theorem pe_callX {X : Cx} {W : WX} {k : Nat} {ps : List Str} {sp : Sp} {x : Str} {p pos : Pos} {e : Expr} {es : List Expr} {t : TA} (D : DefAtX X.prog X.w X.K X.mg X.base x k ps sp) (hr : Room k X.A) (tk : Takes X W) (hg : Gl X x)
    (ha : PA X (e :: es) t) (hdb : (x == ("__debug__" : Str)) = false := by decide) (he : starEach (e :: es) X.env = (false, eval e X.env) :: starEach es X.env := by rfl) (hpl : (backTo pos (starEach es X.env)).any (·.1) = false := by rfl) :
    PE X (.Call (.Name x p) (e :: es) [] pos) (tCallS sp (WE W) t) := by
  obtain ⟨f, fd, h1, h2, h3, h4⟩ := D
  exact pe_callS h4 hr hg h1 h2 h3 (fun σ => passAt tk σ) ha hdb he hpl
theorem ps_tryX {X : Cx} {body : List Stmt} {h₀ : ExceptHandler} {hds : List ExceptHandler} {l : List (Value × (Addr → Value → Option Addr → TS))} {pos : Pos} {tb : WX → TS} {Wout : WX} (hs : X.stack = X.env :: X.outer) (hf : X.env.frame = some X.env.locals) (tk : Takes X Wout)
    (hb : ∀ (W : WX) (pn : List (Addr × Obj)) (xe : Value → Shared → Prop), Takes (X.tr pn xe) W → PassesOwn (model X.prog X.w) X.A X.env xe → PSs (X.tr pn xe) body (tb W))
    (hh : HdsOk X (h₀ :: hds) l) : PS X (.Try body (h₀ :: hds) [] [] pos) (tTry X.K Wout l tb) := ps_try_many hs hf tk hb hh
section
variable {X : Cx} {pn : List (Addr × Obj)} {xe : Value → Shared → Prop}
/-! in the body of a try: the written part is the def's -/
theorem ix_tup_tr : IxR (X.tr pn xe) (rIxT X.K) := ix_tup
theorem ix_list_tr : IxR (X.tr pn xe) (rIxL X.K) := ix_list
end
/-- what the written part says of an own exception class without __init__ -/
structure ExcT (K : PySem.W.Frag) (mg : Str → Option Value) (x : Str) (C : Addr) : Prop where
  g : mg x = some (.ref C)
  e : PySem.W.excIn K C He.veBase "ValueError.__new__" = true
  k : PySem.W.keepIn K (.ref C) = true
  b : PySem.W.subIn K (.ref C) (.type "BaseException") = some true
  t : PySem.W.typeIn K (.ref C) = some (.type "type")
theorem ps_raiseX {X : Cx} {W : WX} {x m : Str} {j : Nat} {p p2 pos pos2 : Pos} {C : Addr} (T : ExcT X.K X.mg x C) (hc : X.calm = true) (tk : Takes X W) (hg : Gl X x) (hdb : (x == ("__debug__" : Str)) = false := by decide) :
    PS X (.Raise (some (.Call (.Name x p) [.Constant (.str m) j p2] [] pos)) none pos2) (fun _ σ H => W (.ref C) none σ H) :=
  ps_raise (t := fun _ H Q => Q (.ref C) none H) hc tk (pmk_own PySem.F.excBase_ValueError T.e T.g T.k (raises_own T.b T.t) hg hdb)
end Kj

set_option Elab.async false
set_option linter.all false
set_option maxRecDepth 100000
set_option maxHeartbeats 4000000
/-! the mathematics of parts -/
namespace Kj
/-- below 2^n -/
def Bd (n : Nat) (x : Int) : Prop := x.natAbs < 2 ^ n
theorem Bd.mono {n m : Nat} {x : Int} (h : Bd n x) (hm : n ≤ m) : Bd m x := Nat.lt_of_lt_of_le h (Nat.pow_le_pow_right (by decide) hm)
theorem Bd.mul {n m : Nat} {x y : Int} (h : Bd n x) (g : Bd m y) : Bd (n + m) (x * y) := by
  unfold Bd at *
  rw [Int.natAbs_mul, Nat.pow_add]
  exact Nat.mul_lt_mul'' h g
theorem Bd.add {n : Nat} {x y : Int} (h : Bd n x) (g : Bd n y) : Bd (n + 1) (x + y) := by
  unfold Bd at *
  have := Int.natAbs_add_le x y
  rw [Nat.pow_succ]
  omega
theorem Bd.neg {n : Nat} {x : Int} (h : Bd n x) : Bd n (-x) := by
  unfold Bd at *
  rwa [Int.natAbs_neg]
theorem Bd.sub {n : Nat} {x y : Int} (h : Bd n x) (g : Bd n y) : Bd (n + 1) (x - y) := by
  rw [Int.sub_eq_add_neg]; exact h.add g.neg
theorem Bd.of {n : Nat} {x : Int} (h1 : -(2 ^ n) < x) (h2 : x < 2 ^ n) : Bd n x := by
  unfold Bd
  have : ((x.natAbs : Nat) : Int) < ((2 ^ n : Nat) : Int) := by
    rw [Int.natCast_pow]
    show (x.natAbs : Int) < 2 ^ n
    omega
  exact_mod_cast this
theorem Bd.cmul {n m : Nat} {x y : Int} (h : Bd n x) (g : Bd m y) (h0 : 0 < n := by decide) (h1 : 0 < m := by decide) (h2 : n + m ≤ 1000000 := by decide) : L2.CMulW x y := L2.wide_mul h g h0 h1 h2
/-- the divisor that part divides by -/
def dvr (t b : Int) : Int := if b < 0 then -(Int.gcd t b : Int) else (Int.gcd t b : Int)
def pt1 (t b : Int) : Int := t.fdiv (dvr t b)
def pt2 (t b : Int) : Int := b.fdiv (dvr t b)
theorem gcd_pos {t b : Int} (hb : b ≠ 0) : 0 < Int.gcd t b := Int.gcd_pos_of_ne_zero_right _ hb
theorem dvr_ne {t b : Int} (hb : b ≠ 0) : dvr t b ≠ 0 := by
  have := gcd_pos (t := t) hb
  unfold dvr
  split <;> omega
theorem dvr_dt (t b : Int) : dvr t b ∣ t := by
  unfold dvr
  split
  · exact Int.neg_dvd.mpr (Int.gcd_dvd_left ..)
  · exact Int.gcd_dvd_left ..
theorem dvr_db (t b : Int) : dvr t b ∣ b := by
  unfold dvr
  split
  · exact Int.neg_dvd.mpr (Int.gcd_dvd_right ..)
  · exact Int.gcd_dvd_right ..
theorem fdiv_dvd {a d : Int} (hd : d ≠ 0) (h : d ∣ a) : d * a.fdiv d = a := by
  obtain ⟨c, rfl⟩ := h
  rw [Int.mul_fdiv_cancel_left _ hd]
theorem pt1_eq {t b : Int} (hb : b ≠ 0) : dvr t b * pt1 t b = t := fdiv_dvd (dvr_ne hb) (dvr_dt t b)
theorem pt2_eq {t b : Int} (hb : b ≠ 0) : dvr t b * pt2 t b = b := fdiv_dvd (dvr_ne hb) (dvr_db t b)
theorem pt2_pos {t b : Int} (hb : b ≠ 0) : 0 < pt2 t b := by
  have h := pt2_eq (t := t) hb
  have g := gcd_pos (t := t) hb
  rcases Int.lt_trichotomy (pt2 t b) 0 with h1 | h1 | h1
  · exfalso
    unfold dvr at h
    split at h
    · have := Int.mul_pos_of_neg_of_neg (show -(Int.gcd t b : Int) < 0 by omega) h1
      omega
    · have := Int.mul_neg_of_pos_of_neg (show (0 : Int) < (Int.gcd t b : Int) by omega) h1
      omega
  · rw [h1, Int.mul_zero] at h; exact absurd h.symm hb
  · exact h1
theorem pt_cross {t b : Int} (hb : b ≠ 0) : pt1 t b * b = t * pt2 t b := by
  have h1 := pt1_eq (t := t) hb
  have h2 := pt2_eq (t := t) hb
  calc pt1 t b * b = pt1 t b * (dvr t b * pt2 t b) := by rw [h2]
    _ = (dvr t b * pt1 t b) * pt2 t b := by rw [← Int.mul_assoc, Int.mul_comm (pt1 t b)]
    _ = t * pt2 t b := by rw [h1]
theorem dvr_abs (t b : Int) : (dvr t b).natAbs = Int.gcd t b := by
  unfold dvr
  split <;> omega
theorem pt_gcd {t b : Int} (hb : b ≠ 0) : Nat.gcd (pt1 t b).natAbs (pt2 t b).natAbs = 1 := by
  have h1 := pt1_eq (t := t) hb
  have h2 := pt2_eq (t := t) hb
  have g := gcd_pos (t := t) hb
  have e : Int.gcd t b = Int.gcd t b * Nat.gcd (pt1 t b).natAbs (pt2 t b).natAbs := by
    calc Int.gcd t b = Nat.gcd t.natAbs b.natAbs := rfl
      _ = Nat.gcd (dvr t b * pt1 t b).natAbs (dvr t b * pt2 t b).natAbs := by rw [h1, h2]
      _ = Int.gcd t b * Nat.gcd (pt1 t b).natAbs (pt2 t b).natAbs := by rw [Int.natAbs_mul, Int.natAbs_mul, Nat.gcd_mul_left, dvr_abs]
  have e2 : Int.gcd t b * 1 = Int.gcd t b * Nat.gcd (pt1 t b).natAbs (pt2 t b).natAbs := by rw [Nat.mul_one]; exact e
  exact (Nat.eq_of_mul_eq_mul_left g e2).symm
theorem pt_bd1 {n : Nat} {t b : Int} (hb : b ≠ 0) (h : Bd n t) : Bd n (pt1 t b) := by
  have h1 := pt1_eq (t := t) hb
  have g := gcd_pos (t := t) hb
  unfold Bd at *
  have e : t.natAbs = Int.gcd t b * (pt1 t b).natAbs := by
    calc t.natAbs = (dvr t b * pt1 t b).natAbs := by rw [h1]
      _ = _ := by rw [Int.natAbs_mul, dvr_abs]
  have := Nat.le_mul_of_pos_left (pt1 t b).natAbs g
  omega
theorem pt_bd2 {n : Nat} {t b : Int} (hb : b ≠ 0) (h : Bd n b) : Bd n (pt2 t b) := by
  have h1 := pt2_eq (t := t) hb
  have g := gcd_pos (t := t) hb
  unfold Bd at *
  have e : b.natAbs = Int.gcd t b * (pt2 t b).natAbs := by
    calc b.natAbs = (dvr t b * pt2 t b).natAbs := by rw [h1]
      _ = _ := by rw [Int.natAbs_mul, dvr_abs]
  have := Nat.le_mul_of_pos_left (pt2 t b).natAbs g
  omega
theorem dvr_bd {n : Nat} {t b : Int} (hb : b ≠ 0) (h : Bd n b) : Bd n (dvr t b) := by
  unfold Bd at *
  rw [dvr_abs]
  exact Nat.lt_of_le_of_lt (Nat.gcd_le_right _ (by omega)) h
theorem pt_zero1 {b : Int} (hb : b ≠ 0) : pt1 0 b = 0 := by
  have h1 := pt1_eq (t := 0) hb
  rcases Int.mul_eq_zero.mp h1 with h | h
  · exact absurd h (dvr_ne hb)
  · exact h
theorem pt_zero2 {b : Int} (hb : b ≠ 0) : pt2 0 b = 1 := by
  have h1 := pt_gcd (t := 0) hb
  rw [pt_zero1 hb] at h1
  have := pt2_pos (t := 0) hb
  simp at h1
  omega
theorem pt_neg {t b : Int} (hb : b ≠ 0) : decide (pt1 t b < 0) = decide (t * b < 0) := by
  have h1 := pt_cross (t := t) hb
  have h2 := pt2_pos (t := t) hb
  have key : pt1 t b * (b * b) = (t * b) * pt2 t b := by
    rw [← Int.mul_assoc, h1, Int.mul_assoc, Int.mul_comm (pt2 t b), ← Int.mul_assoc]
  have hbb : 0 < b * b := by
    rcases Int.lt_or_gt_of_ne hb with h | h
    · exact Int.mul_pos_of_neg_of_neg h h
    · exact Int.mul_pos h h
  apply decide_eq_decide.mpr
  constructor
  · intro h
    have h3 := Int.mul_neg_of_neg_of_pos h hbb
    rw [key] at h3
    rcases Int.lt_or_le (t * b) 0 with q | q
    · exact q
    · exact absurd h3 (Int.not_lt.mpr (Int.mul_nonneg q (Int.le_of_lt h2)))
  · intro h
    have h3 := Int.mul_neg_of_neg_of_pos h h2
    rw [← key] at h3
    rcases Int.lt_or_le (pt1 t b) 0 with q | q
    · exact q
    · exact absurd h3 (Int.not_lt.mpr (Int.mul_nonneg q (Int.le_of_lt hbb)))
end Kj

set_option Elab.async false
set_option linter.all false
set_option maxRecDepth 100000
set_option maxHeartbeats 4000000
local macro_rules | `(tactic| walk_at "kz") => `(tactic| first | decide | omega | (unfold L2.CMul; omega) | (unfold L2.CDiv; omega) | (unfold L2.CPow; decide) | assumption)
local macro_rules | `(tactic| walk_at "kd") => `(tactic| repeat' (first | exact Kj.de_int (f := true) | exact Kj.de_str (f := true) | exact Kj.de_bl (f := true) | exact Kj.de_non (f := true) | exact Kj.de_up (g := true) (Kj.de_var rfl) | exact Kj.de_up (g := true) (Kj.de_varn rfl) | exact Kj.de_var rfl | exact Kj.de_varn rfl | apply Kj.de_add (f := true) | apply Kj.de_sub (f := true) | apply Kj.de_mul (f := true) | apply Kj.de_mulW (f := true) | apply Kj.de_fdiv (f := true) | apply Kj.de_fdivZ (f := true) | apply Kj.de_mod (f := true) | apply Kj.de_pow (f := true) | apply Kj.de_neg (f := true) | apply Kj.de_abs (f := true) | apply Kj.de_lenL (f := true) | apply Kj.dt_test | apply Kj.de_cmp (f := true) | apply Kj.do_no | apply Kj.do_so | apply Kj.dad_nil | apply Kj.dad_cons | apply Kj.de_tup | apply Kj.de_lst))
local macro_rules | `(tactic| walk_at "kx") => `(tactic| (walk_at "kd") <;> (walk_at "kz"))
namespace Kj
open PySem L2
def topS (i : Nat) : Stmt := PySem.Challenge.pw_kimariji_k02_parts_without_bottom.main.body.getD i (.Pass ⟨0, 0, 0, 0⟩)
structure Txt (K : PySem.W.Frag) (mg : Str → Option Value) (cN cS : Addr) : Prop where
  b_len : mg "len" = none
  b_range : mg "range" = none
  b_abs : mg "abs" = none
  b_int : mg "int" = none
  x_NoPart : ExcT K mg "NoPart" cN
  x_SnatchError : ExcT K mg "SnatchError" cS
  m_NN : PySem.W.exmOne K (.ref cN) (.ref cN) = some true
abbrev s_law_numbers : Stmt := topS 10
theorem sc_law_numbers : FnScope ["_law_script", "_law_many", "_law_row", "_law_seed", "_law_cell", "_law_rest", "_law_k"] ["_law_script", "_law_many"] (defScope s_law_numbers) := ⟨rfl, rfl, rfl, by decide +kernel, rfl, by decide +kernel, by decide +kernel⟩
def NumOk (m : Nat) (ms : List Int) : Prop := ms.length = m ∧ ∀ x ∈ ms, 0 ≤ x
def S_numbers (K : PySem.W.Frag) : Spec := fun As R => ∃ (ns : List Int) (m : Nat), As = [aD K (.list (ns.map .int)), aD K (.int m)] ∧ ns.length ≤ 63 ∧ m ≤ 2000 ∧ R = aEx (NumOk m) fun ms => aD K (.list (ms.map .int))
section
variable {P : Program} {w : World} {K : PySem.W.Frag} {mg : Str → Option Value} {base : Heap} {cN cS : Addr}
def RowOk (n : Nat) (row : List Int) : Prop := row.length ≤ n ∧ ∀ x ∈ row, 0 ≤ x
theorem RowOk.app {n : Nat} {row : List Int} (h : RowOk n row) {x : Int} (hx : 0 ≤ x) : RowOk (n + 1) (row ++ [x]) := ⟨by simp; exact h.1, fun y hy => by
  rcases List.mem_append.mp hy with h1 | h1
  · exact h.2 y h1
  · simp at h1; omega⟩
theorem RowOk.mono {n m : Nat} {row : List Int} (h : RowOk n row) (hm : n ≤ m) : RowOk m row := ⟨Nat.le_trans h.1 hm, h.2⟩
theorem map_app (row : List Int) (x : Int) : (row.map PyData.int) ++ [PyData.int x] = (row ++ [x]).map PyData.int := by simp
theorem ok_numbers {f : Addr} {fd : FuncData} (F : FnP K "_law_numbers" "_law_numbers" s_law_numbers f fd) (T : Txt K mg cN cS) : FnOk P w K mg base CX0 1 f fd ["_law_script", "_law_many"] (spF (S_numbers K)) := by
  refine fnD_ok F sc_law_numbers (fun As R h => by obtain ⟨ns, m, rfl, _⟩ := h; rfl) (fun cdv A outer s H E hr As R hS => ?_)
  refine ⟨_, (pss_cons (ps_set (i := 2) sc_law_numbers.nd rfl (by first | exact Or.inl rfl | exact Or.inr rfl) (pe_lst pa_nil))
      (pss_cons (ps_set (i := 3) sc_law_numbers.nd rfl (by first | exact Or.inl rfl | exact Or.inr rfl) pe_int)
      (pss_cons (ps_for PassesOwn.never rfl (pi_list (pe_slice sl_list (pv 0) po_none (po_some pe_int))) (pg_name (i := 4) sc_law_numbers.nd rfl (by first | exact Or.inl rfl | exact Or.inr rfl)) (pss_cons (ps_set (i := 3) sc_law_numbers.nd rfl (by first | exact Or.inl rfl | exact Or.inr rfl) (pe_op op_mod (pe_op op_add (pe_op op_add (pe_op op_mul (pv 3) pe_int) (pe_op op_mod (pv 4) pe_int)) pe_int) pe_int))
      (pss_cons (ps_set (i := 5) sc_law_numbers.nd rfl (by first | exact Or.inl rfl | exact Or.inr rfl) (pe_op op_sub (pv 4) (pe_op op_pow pe_int pe_int)))
      (pss_cons (ps_if (pt_cmpR op_lt (pv 5) pe_int (nomark _)) (pss_one (ps_expr (pe_bm PySem.F.plainAttrs_list PySem.F.slot_list_append PySem.F.type_list_append mt_append (pv 2) (pa_cons (pe_op op_mod (pv 4) pe_int) pa_nil)))) pss_nil)
      (pss_one (ps_for PassesOwn.never rfl (pi_range1 (by rfl) T.b_range (pa_cons pe_int pa_nil)) (pg_name (i := 6) sc_law_numbers.nd rfl (by first | exact Or.inl rfl | exact Or.inr rfl)) (pss_one (ps_if (pt_cmpR op_gt (pv 5) pe_int (nomark _)) (pss_cons (ps_expr (pe_bm PySem.F.plainAttrs_list PySem.F.slot_list_append PySem.F.type_list_append mt_append (pv 2) (pa_cons (pe_op op_mod (pv 5) pe_int) pa_nil)))
      (pss_one (ps_set (i := 5) sc_law_numbers.nd rfl (by first | exact Or.inl rfl | exact Or.inr rfl) (pe_op op_fdiv (pv 5) pe_int)))) pss_nil))))))))
      (pss_cons (ps_while PassesOwn.never (pt_cmpR op_lt (pe_callB call_len (by rfl) T.b_len (by decide +kernel) (pa_cons (pv 2) pa_nil)) (pv 1) (nomark _)) (pss_cons (ps_set (i := 3) sc_law_numbers.nd rfl (by first | exact Or.inl rfl | exact Or.inr rfl) (pe_op op_mod (pe_op op_add (pe_op op_add (pe_op op_add (pe_op op_mul (pv 3) (pv 3)) (pe_op op_mul pe_int (pv 3))) (pe_op op_mul pe_int (pe_callB call_len (by rfl) T.b_len (by decide +kernel) (pa_cons (pv 2) pa_nil)))) pe_int) pe_int))
      (pss_one (ps_expr (pe_bm PySem.F.plainAttrs_list PySem.F.slot_list_append PySem.F.type_list_append mt_append (pv 2) (pa_cons (pe_op op_mod (pe_op op_fdiv (pv 3) pe_int) pe_int) pa_nil))))))
      (pss_one (ps_ret (pe_slice sl_list (pv 2) po_none (po_some (pv 1))))))))), fun H0 => ?_⟩
  obtain ⟨ns, m, rfl, hns, hm, rfl⟩ := hS
  refine ds_sq (ds_own (K := K)) ?_
  refine ds_sq (ds_set (f := true) (A := aD K (.int 41)) (by walk_at "kd")) ?_
  refine ds_seq (ds_forL (fa := true) (ds := (ns.take 63).map .int) (de_eq (de_slf (fa := false) (by walk_at "kd") (by walk_at "kd") (by walk_at "kd") (all_ints ns)) (by rw [cutD_map, cutD_to _ (by decide)]; rfl)) (fun k r => ∃ (row : List Int) (seed : Int) (c q z : Slot), r = [.dat (aD K (.list (ns.map .int))), .dat (aD K (.int m)), .own (oL K (row.map .int)), .new (aD K (.int seed)), c, q, z] ∧ RowOk (61 * k) row ∧ 0 ≤ seed ∧ seed < 2147483648) ⟨[], 41, .no, .no, .no, rfl, ⟨Nat.le_refl _, fun x h => by cases h⟩, by decide, by decide⟩ ?_ ?_) ?_
  · rintro k r ⟨row, seed, c, q, z, rfl, _⟩
    rfl
  · rintro k d r hd ⟨row, seed, c, q, z, rfl, hrow, h1, h2⟩
    have hk : k < 63 := by
      have := (List.getElem?_eq_some_iff.mp hd).1
      simp at this
      omega
    obtain ⟨x, rfl⟩ : ∃ x : Int, d = .int x := by
      rw [List.getElem?_map] at hd
      cases e : (ns.take 63)[k]? with
      | none => rw [e] at hd; cases hd
      | some x => rw [e] at hd; exact ⟨x, (Option.some.inj hd).symm⟩
    refine ds_sq (ds_set (f := true) (A := aD K (.int ((seed * 40014 + x % 999983 + 17) % 2147483563))) (by walk_at "kx")) ?_
    refine ds_sq (ds_set (f := true) (A := aD K (.int (x - 10 ^ ((18 : Int).toNat)))) (by walk_at "kx")) ?_
    have b1 : 0 ≤ (seed * 40014 + x % 999983 + 17) % 2147483563 := Int.emod_nonneg _ (by decide)
    have b2 : (seed * 40014 + x % 999983 + 17) % 2147483563 < 2147483648 := Int.lt_trans (Int.emod_lt_of_pos _ (by decide)) (by decide)
    generalize (seed * 40014 + x % 999983 + 17) % 2147483563 = seed' at b1 b2 ⊢
    generalize x - 10 ^ ((18 : Int).toNat) = rest
    have inner : ∀ row' : List Int, RowOk (61 * k + 1) row' → DS H0 [.dat (aD K (.list (ns.map .int))), .dat (aD K (.int m)), .own (oL K (row'.map .int)), .new (aD K (.int seed')), .new (aD K (.int x)), .new (aD K (.int rest)), z] (tFor (iRng1 (tCons (tC (.int 60)) tNil)) (gName 6) (tIfS (tTest (tOp (rI0 fun i j => .bl (decide (j < i))) (tVar 5) (tC (.int 0)))) (tSeq (tDrop (tBM K "list" rAppend (tVar 2) (tCons (tOp (rI (fun _ j => 0 < j) fun i j => .int (i % j)) (tVar 5) (tC (.int 1013))) tNil))) (tAsg (tOp (rI CDiv fun i j => .int (i / j)) (tVar 5) (tC (.int 1013))) (gName 5))) tNext)) (fun r => ∃ (row : List Int) (seed : Int) (c q z : Slot), r = [.dat (aD K (.list (ns.map .int))), .dat (aD K (.int m)), .own (oL K (row.map .int)), .new (aD K (.int seed)), c, q, z] ∧ RowOk (61 * (k + 1)) row ∧ 0 ≤ seed ∧ seed < 2147483648) (aEx (NumOk m) fun ms => aD K (.list (ms.map .int))) := by
      intro row' h'
      refine ds_imp (ds_forR1 (j := 60) (fa := true) (K := K) de_int (by decide) (by decide) (fun e r => ∃ (row : List Int) (rest : Int) (z : Slot), r = [.dat (aD K (.list (ns.map .int))), .dat (aD K (.int m)), .own (oL K (row.map .int)), .new (aD K (.int seed')), .new (aD K (.int x)), .new (aD K (.int rest)), z] ∧ RowOk (61 * k + 1 + e) row) ⟨row', rest, z, rfl, h'⟩ ?_ ?_) ?_
      · rintro e r ⟨row, rest, z, rfl, _⟩
        rfl
      · rintro e r he ⟨row, rest, z, rfl, hr'⟩
        have he' : e < 60 := he
        refine ds_if (K := K) (a := decide (0 < rest)) (by walk_at "kx") (fun hb => ?_) (fun hb => ds_next ⟨row, rest, _, rfl, hr'.mono (by omega)⟩)
        refine ds_sq (ds_app (ds := row.map .int) (d := .int (rest % 1013)) rfl (by walk_at "kx") (by rw [List.length_map]; have := hr'.1; omega)) ?_
        refine ds_end (ds_set (f := true) (A := aD K (.int (rest / 1013))) (by walk_at "kx")) ?_
        exact ⟨row ++ [rest % 1013], rest / 1013, _, by rw [← map_app]; rfl, hr'.app (Int.emod_nonneg _ (by decide))⟩
      · rintro r ⟨row, rest, z, rfl, hr'⟩
        exact ⟨row, seed', _, _, _, rfl, hr'.mono (by show 61 * k + 1 + 60 ≤ _; omega), b1, b2⟩
    refine ds_ifs (K := K) (a := decide (rest < 0)) (by walk_at "kx") (fun hb => ?_) (fun hb => ds_skip ?_)
    · refine ds_sq (ds_app (ds := row.map .int) (d := .int (x % 9967)) rfl (by walk_at "kx") (by rw [List.length_map]; have := hrow.1; omega)) ?_
      rw [map_app]
      exact inner _ (hrow.app (Int.emod_nonneg _ (by decide)))
    · exact inner _ (hrow.mono (by omega))
  · rintro r ⟨row, seed, c, q, z, rfl, hrow, h1, h2⟩
    have hl : row.length ≤ 4000 := by
      have := hrow.1
      simp at this
      omega
    refine ds_seq (ds_while (K := K) (N := fun r => ∃ (row : List Int) (seed : Int), r = [.dat (aD K (.list (ns.map .int))), .dat (aD K (.int m)), .own (oL K (row.map .int)), .new (aD K (.int seed)), c, q, z] ∧ (∀ x ∈ row, 0 ≤ x) ∧ m ≤ row.length) (fun e r => ∃ (row : List Int) (seed : Int), r = [.dat (aD K (.list (ns.map .int))), .dat (aD K (.int m)), .own (oL K (row.map .int)), .new (aD K (.int seed)), c, q, z] ∧ (∀ x ∈ row, 0 ≤ x) ∧ row.length ≤ 8000 ∧ e = m - row.length ∧ 0 ≤ seed ∧ seed < 2147483648) _ ⟨row, seed, rfl, hrow.2, by omega, rfl, h1, h2⟩ ?_) ?_
    · rintro e r ⟨row, seed, rfl, hr', hl', rfl, h1, h2⟩
      refine ⟨decide ((row.length : Int) < (m : Int)), ?_, fun hb => ?_, fun hb => ⟨row, seed, rfl, hr', by have := of_decide_eq_false hb; omega⟩⟩
      · refine dt_test (fa := true) (de_cmp (g := fun i j => decide (i < j)) (fa := true) (i := row.length) (de_bor (g := true) (f := true) (bo_own (K := K) (i := 2) rfl) (de_eq (de_lenL (de_varn rfl)) (by rw [List.length_map]))) (by walk_at "kx"))
      · have hb' := of_decide_eq_true hb
        refine ds_sq (ds_set (f := true) (A := aD K (.int ((seed * seed + 52774 * seed + 11 * (row.length : Int) + 3) % 2147483629))) ?_) ?_
        · refine de_mod (f := true) (fa := true) (fb := true) (de_add (fa := true) (fb := true) (de_add (fa := true) (fb := true) (de_add (fa := true) (fb := true) (by walk_at "kx") (by walk_at "kx")) (de_mul (fa := true) (fb := true) de_int (de_bor (g := true) (f := true) (bo_own (K := K) (i := 2) rfl) (de_eq (de_lenL (de_varn rfl)) (by rw [List.length_map]))) (by walk_at "kz"))) de_int) de_int (by decide)
        · have b1 : 0 ≤ (seed * seed + 52774 * seed + 11 * (row.length : Int) + 3) % 2147483629 := Int.emod_nonneg _ (by decide)
          have b2 : (seed * seed + 52774 * seed + 11 * (row.length : Int) + 3) % 2147483629 < 2147483648 := Int.lt_trans (Int.emod_lt_of_pos _ (by decide)) (by decide)
          generalize (seed * seed + 52774 * seed + 11 * (row.length : Int) + 3) % 2147483629 = seed' at b1 b2 ⊢
          refine ds_end (ds_app (ds := row.map .int) (d := .int (seed' / 1019 % 9967)) rfl (by walk_at "kx") (by rw [List.length_map]; omega)) ?_
          refine ⟨m - (row ++ [seed' / 1019 % 9967]).length, by rw [List.length_append]; simp; omega, row ++ [seed' / 1019 % 9967], seed', by rw [← map_app]; rfl, ?_, by rw [List.length_append]; simp; omega, rfl, b1, b2⟩
          intro y hy
          rcases List.mem_append.mp hy with h | h
          · exact hr' y h
          · simp at h; subst h; exact Int.emod_nonneg _ (by decide)
    · rintro r ⟨row, seed, rfl, hr', hm'⟩
      refine ds_bor (bo_own (K := K) (i := 2) (ds := row.map .int) rfl) (ds_ret (A := aD K (.list ((row.take m).map .int))) (de_eq (de_sl (f := true) (de_varn rfl) do_no (do_so (fa := true) (by walk_at "kx"))) ?_) ?_)
      · rw [cutD_map, cutD_to _ (by omega)]; rfl
      · exact fun v G h => ⟨row.take m, ⟨by rw [List.length_take]; omega, fun x hx => hr' x (List.mem_of_mem_take hx)⟩, h⟩
end
end Kj

set_option Elab.async false
set_option linter.all false
set_option maxRecDepth 100000
set_option maxHeartbeats 4000000
local macro_rules | `(tactic| walk_at "kz") => `(tactic| first | rfl | decide | omega | (unfold L2.CMul; omega) | (unfold L2.CDiv; omega) | (unfold L2.CPow; decide) | assumption)
local macro_rules | `(tactic| walk_at "kd") => `(tactic| repeat' (first | exact Kj.de_int (f := true) | exact Kj.de_str (f := true) | exact Kj.de_bl (f := true) | exact Kj.de_non (f := true) | exact Kj.de_up (g := true) (Kj.de_var rfl) | exact Kj.de_up (g := true) (Kj.de_varn rfl) | exact Kj.de_var rfl | exact Kj.de_varn rfl | apply Kj.de_add (f := true) | apply Kj.de_sub (f := true) | apply Kj.de_mul (f := true) | apply Kj.de_mulW (f := true) | apply Kj.de_fdiv (f := true) | apply Kj.de_fdivZ (f := true) | apply Kj.de_mod (f := true) | apply Kj.de_pow (f := true) | apply Kj.de_neg (f := true) | apply Kj.de_abs (f := true) | apply Kj.de_lenL (f := true) | apply Kj.dt_test | apply Kj.de_cmp (f := true) | apply Kj.do_no | apply Kj.do_so | apply Kj.dad_nil | apply Kj.dad_cons | apply Kj.da_nil | apply Kj.da_cons | apply Kj.de_tup | apply Kj.de_lst | exact Kj.bo_refl))
local macro_rules | `(tactic| walk_at "kx") => `(tactic| (walk_at "kd") <;> (walk_at "kz"))
namespace Kj
open PySem L2
abbrev s_part : Stmt := topS 4
theorem sc_part : FnScope ["top", "bottom", "divisor"] ["top", "bottom"] (defScope s_part) := ⟨rfl, rfl, rfl, by decide +kernel, rfl, by decide +kernel, by decide +kernel⟩
abbrev s_common_divisor : Stmt := topS 5
theorem sc_common_divisor : FnScope ["one", "other"] ["one", "other"] (defScope s_common_divisor) := ⟨rfl, rfl, rfl, by decide +kernel, rfl, by decide +kernel, by decide +kernel⟩
abbrev s_plus : Stmt := topS 6
theorem sc_plus : FnScope ["one", "other"] ["one", "other"] (defScope s_plus) := ⟨rfl, rfl, rfl, by decide +kernel, rfl, by decide +kernel, by decide +kernel⟩
abbrev s_minus : Stmt := topS 7
theorem sc_minus : FnScope ["one", "other"] ["one", "other"] (defScope s_minus) := ⟨rfl, rfl, rfl, by decide +kernel, rfl, by decide +kernel, by decide +kernel⟩
abbrev s_less : Stmt := topS 8
theorem sc_less : FnScope ["one", "other"] ["one", "other"] (defScope s_less) := ⟨rfl, rfl, rfl, by decide +kernel, rfl, by decide +kernel, by decide +kernel⟩
abbrev s_law_great : Stmt := topS 11
theorem sc_law_great : FnScope ["_law_d", "_law_number"] ["_law_d"] (defScope s_law_great) := ⟨rfl, rfl, rfl, by decide +kernel, rfl, by decide +kernel, by decide +kernel⟩
abbrev s_law_pair : Stmt := topS 12
theorem sc_law_pair : FnScope ["_law_d", "_law_bottom"] ["_law_d"] (defScope s_law_pair) := ⟨rfl, rfl, rfl, by decide +kernel, rfl, by decide +kernel, by decide +kernel⟩
abbrev s_law_why_part : Stmt := topS 13
theorem sc_law_why_part : FnScope ["_law_which", "_law_one", "_law_other", "_law_why"] ["_law_which", "_law_one", "_law_other"] (defScope s_law_why_part) := ⟨rfl, rfl, rfl, by decide +kernel, rfl, by decide +kernel, by decide +kernel⟩
def S_cd (K : PySem.W.Frag) : Spec := fun As R => ∃ a b : Nat, As = [aD K (.int a), aD K (.int b)] ∧ R = aD K (.int (Nat.gcd a b : Nat))
def tp (a b : Int) : PyData := .tuple [.int a, .int b]
def S_part (K : PySem.W.Frag) (C : Addr) : SpecX := fun As O => ∃ t b : Int, As = [aD K (.int t), aD K (.int b)] ∧ Bd 1000 b ∧ ((b ≠ 0 ∧ O = .ret (aD K (.tuple [.int (pt1 t b), .int (pt2 t b)]))) ∨ (b = 0 ∧ O = .exc (xNo C)))
def S_plus (K : PySem.W.Frag) (C : Addr) : SpecX := fun As O => ∃ a b c d : Int, As = [aD K (tp a b), aD K (tp c d)] ∧ Bd 400 a ∧ Bd 400 b ∧ Bd 400 c ∧ Bd 400 d ∧ ((b * d ≠ 0 ∧ O = .ret (aD K (tp (pt1 (a * d + c * b) (b * d)) (pt2 (a * d + c * b) (b * d))))) ∨ (b * d = 0 ∧ O = .exc (xNo C)))
def S_minus (K : PySem.W.Frag) (C : Addr) : SpecX := fun As O => ∃ a b c d : Int, As = [aD K (tp a b), aD K (tp c d)] ∧ Bd 400 a ∧ Bd 400 b ∧ Bd 400 c ∧ Bd 400 d ∧ ((b * d ≠ 0 ∧ O = .ret (aD K (tp (pt1 (a * d + -c * b) (b * d)) (pt2 (a * d + -c * b) (b * d))))) ∨ (b * d = 0 ∧ O = .exc (xNo C)))
def S_less (K : PySem.W.Frag) (C : Addr) : SpecX := fun As O => ∃ a b c d : Int, As = [aD K (tp a b), aD K (tp c d)] ∧ Bd 400 a ∧ Bd 400 b ∧ Bd 400 c ∧ Bd 400 d ∧ ((b * d ≠ 0 ∧ O = .ret (aD K (.bool (decide (pt1 (a * d + -c * b) (b * d) < 0))))) ∨ (b * d = 0 ∧ O = .exc (xNo C)))
def whyF (n b d : Int) : Bool := if n = 0 then decide (b = 0) else decide (b * d = 0)
def S_why (K : PySem.W.Frag) : Spec := fun As R => ∃ n a b c d : Int, As = [aD K (.int n), aD K (tp a b), aD K (tp c d)] ∧ Bd 400 a ∧ Bd 400 b ∧ Bd 400 c ∧ Bd 400 d ∧ R = aD K (.str (if whyF n b d then "NoPart" else ""))
theorem absI (i : Int) : (if i < 0 then -i else i) = (i.natAbs : Int) := by split <;> omega
section
variable {P : Program} {w : World} {K : PySem.W.Frag} {mg : Str → Option Value} {base : Heap} {f : Addr} {fd : FuncData} {cN cS : Addr}
theorem ok_common_divisor (F : FnP K "common_divisor" "common_divisor" s_common_divisor f fd) (T : Txt K mg cN cS) : FnOk P w K mg base CX0 1 f fd ["one", "other"] (spF (S_cd K)) := by
  refine fnD_ok F sc_common_divisor (fun As R h => by obtain ⟨a, b, rfl, _⟩ := h; rfl) (fun cdv A outer s H E hr As R hS => ?_)
  refine ⟨_, (pss_cons (ps_while PassesOwn.never (pt_cmpR op_gt (pv 1) pe_int (nomark _)) (pss_one (ps_par (i := 0) (j := 1) (by rfl) sc_common_divisor.nd rfl rfl (by decide) rfl rfl (pa_cons (pv 1) (pa_cons (pe_op op_mod (pv 0) (pv 1)) pa_nil)) (by rfl))))
      (pss_one (ps_ret (pv 0)))), fun H0 => ?_⟩
  obtain ⟨a, b, rfl, rfl⟩ := hS
  refine ds_seq (ds_while (K := K) (N := fun r => ∃ f g, r = [sl f (aD K (.int (Nat.gcd a b : Nat))), g]) (fun m r => ∃ (x y : Nat) (f g : Bool), r = [sl f (aD K (.int x)), sl g (aD K (.int y))] ∧ Nat.gcd x y = Nat.gcd a b ∧ m = y) b ⟨a, b, false, false, rfl, rfl, rfl⟩ ?_) ?_
  · rintro m r ⟨x, y, f, g, rfl, hg, rfl⟩
    refine ⟨decide ((0 : Int) < (m : Int)), dt_test (fa := true) (de_cmp (g := fun i j => decide (j < i)) (fa := true) (fb := true) (de_up (de_vs rfl)) de_int), fun hb => ?_, fun hb => ?_⟩
    · have hm : 0 < m := by have := of_decide_eq_true hb; omega
      refine ds_end (ds_par (fa := true) (fb := true) (A := aD K (.int m)) (B := aD K (.int ((x : Int) % (m : Int)))) (de_up (de_vs rfl)) (de_mod (fa := true) (fb := true) (de_up (de_vs rfl)) (de_up (de_vs rfl)) (by omega))) ?_
      refine ⟨x % m, Nat.mod_lt _ hm, m, x % m, true, true, ?_, ?_, rfl⟩
      · rw [show ((x % m : Nat) : Int) = (x : Int) % (m : Int) from Int.natCast_emod x m]; rfl
      · rw [← hg, Nat.gcd_comm x m, Nat.gcd_rec m x, Nat.gcd_comm]
    · have hm : m = 0 := by have := of_decide_eq_false hb; omega
      subst hm
      rw [Nat.gcd_zero_right] at hg
      exact ⟨f, _, by rw [hg]⟩
  · rintro r ⟨f, g, rfl⟩
    exact ds_ret (A := aD K (.int (Nat.gcd a b : Nat))) (de_up (de_vs rfl)) fun v G h => h
theorem ok_part (F : FnP K "part" "part" s_part f fd) (T : Txt K mg cN cS) (D_common_divisor : DefAt P w K mg base "common_divisor" 1 ["one", "other"] (spF (S_cd K))) : FnOk P w K mg base (L2.CX P w) 2 f fd ["top", "bottom"] (spX (S_part K cN)) := by
  refine fnX_ok F sc_part (fun As O h => by obtain ⟨a, b, rfl, _⟩ := h; rfl) (fun cdv A outer s H E hr As O hS => ?_)
  refine ⟨_, (pss_cons (ps_if (pt_cmpR op_eq (pv 1) pe_int (nomark _)) (pss_one (ps_raiseX T.x_NoPart rfl (takes_of rfl rfl rfl rfl) (by rfl))) pss_nil)
      (pss_cons (ps_set (i := 2) sc_part.nd rfl (by first | exact Or.inl rfl | exact Or.inr rfl) (pe_callD D_common_divisor (hr.mono (by decide)) (by rfl) (pa_cons (pe_callB call_abs (by rfl) T.b_abs (by decide +kernel) (pa_cons (pv 0) pa_nil)) (pa_cons (pe_callB call_abs (by rfl) T.b_abs (by decide +kernel) (pa_cons (pv 1) pa_nil)) pa_nil))))
      (pss_cons (ps_if (pt_cmpR op_lt (pv 1) pe_int (nomark _)) (pss_one (ps_set (i := 2) sc_part.nd rfl (by first | exact Or.inl rfl | exact Or.inr rfl) (pe_un un_neg (pv 2)))) pss_nil)
      (pss_one (ps_ret (pe_tup (pa_cons (pe_op op_fdivZ (pv 0) (pv 2)) (pa_cons (pe_op op_fdivZ (pv 1) (pv 2)) pa_nil)))))))), fun H0 => ?_⟩
  obtain ⟨t, b, rfl, hbd, ⟨hb0, rfl⟩ | ⟨hb0, rfl⟩⟩ := hS
  · refine dsx_ifs (K := K) (a := decide (b = 0)) (dt_test (fa := true) (de_eqI (fa := true) (fb := true) (de_up (de_var rfl)) de_int)) (fun hb => absurd (of_decide_eq_true hb) hb0) (fun hb => dsx_skip (dsx_of ?_))
    refine ds_sq (ds_set (f := true) (A := aD K (.int (Int.gcd t b : Nat))) (de_call bo_refl (da_cons (de_abs (f := true) (de_var rfl)) (da_cons (de_abs (f := true) (de_var rfl)) da_nil)) ⟨t.natAbs, b.natAbs, by rw [absI, absI], rfl⟩)) ?_
    have fin : DS H0 [.dat (aD K (.int t)), .dat (aD K (.int b)), .new (aD K (.int (dvr t b)))] (tRet (tTup (tCons (tOp (rI CDivZ fun i j => .int (i.fdiv j)) (tVar 0) (tVar 2)) (tCons (tOp (rI CDivZ fun i j => .int (i.fdiv j)) (tVar 1) (tVar 2)) tNil)))) (fun _ => False) (aD K (.tuple [.int (pt1 t b), .int (pt2 t b)])) := by
      have hz : ∀ x : Int, CDivZ x (dvr t b) := fun x => ⟨dvr_ne hb0, Nat.lt_of_lt_of_le (PySem.Flt.log2_lt_of (by decide) (dvr_bd hb0 hbd)) (by decide)⟩
      refine ds_ret (A := aD K (.tuple [.int (t.fdiv (dvr t b)), .int (b.fdiv (dvr t b))])) (de_tup (dad_cons (de_fdivZ (f := true) (fa := true) (fb := true) (by walk_at "kd") (by walk_at "kd") (hz t)) (dad_cons (de_fdivZ (f := true) (fa := true) (fb := true) (by walk_at "kd") (by walk_at "kd") (hz b)) dad_nil))) fun v G h => h
    refine ds_ifs (K := K) (a := decide (b < 0)) (by walk_at "kx") (fun hb => ?_) (fun hb => ds_skip ?_)
    · refine ds_sq (ds_set (f := true) (A := aD K (.int (-(Int.gcd t b : Int)))) (de_neg (fa := true) (de_up (de_varn rfl)))) ?_
      have e : dvr t b = -(Int.gcd t b : Int) := by unfold dvr; rw [if_pos (of_decide_eq_true hb)]
      rw [e] at fin
      exact fin
    · have e : dvr t b = (Int.gcd t b : Int) := by unfold dvr; rw [if_neg (of_decide_eq_false hb)]
      rw [e] at fin
      exact fin
  · subst hb0
    refine dsx_ifs (K := K) (a := decide ((0 : Int) = 0)) (dt_test (fa := true) (de_eqI (fa := true) (fb := true) (de_up (de_var rfl)) de_int)) (fun hb => dsx_cut (dsx_raise fun H => ⟨rfl, rfl⟩)) (fun hb => absurd (of_decide_eq_false hb) (fun z => z rfl))
theorem ok_plus (F : FnP K "plus" "plus" s_plus f fd) (T : Txt K mg cN cS) (D_part : DefAtX P w K mg base "part" 2 ["top", "bottom"] (spX (S_part K cN))) : FnOk P w K mg base (L2.CX P w) 3 f fd ["one", "other"] (spX (S_plus K cN)) := by
  refine fnX_ok F sc_plus (fun As O h => by obtain ⟨a, b, c, d, rfl, _⟩ := h; rfl) (fun cdv A outer s H E hr As O hS => ?_)
  refine ⟨_, (pss_one (ps_ret (pe_callX D_part (hr.mono (by decide)) (takes_of rfl rfl rfl rfl) (by rfl) (pa_cons (pe_op op_add (pe_op op_mulW (pe_ix ix_tup (pv 0) pe_int (fun _ _ => rfl)) (pe_ix ix_tup (pv 1) pe_int (fun _ _ => rfl))) (pe_op op_mulW (pe_ix ix_tup (pv 1) pe_int (fun _ _ => rfl)) (pe_ix ix_tup (pv 0) pe_int (fun _ _ => rfl)))) (pa_cons (pe_op op_mulW (pe_ix ix_tup (pv 0) pe_int (fun _ _ => rfl)) (pe_ix ix_tup (pv 1) pe_int (fun _ _ => rfl))) pa_nil))))), fun H0 => ?_⟩
  obtain ⟨a, b, c, d, rfl, b1, b2, b3, b4, ⟨hb, rfl⟩ | ⟨hb, rfl⟩⟩ := hS
  · exact dsx_of (ds_ret (A := aD K (.tuple [.int (pt1 (a * d + c * b) (b * d)), .int (pt2 (a * d + c * b) (b * d))])) (de_callS bo_refl (da_cons (fa := true) (de_add (f := true) (fa := true) (fb := true) (i := a * d) (j := c * b) (de_mulW (f := true) (fa := true) (fb := true) (de_up (g := true) (de_ixT (f := false) (fb := true) (de_var rfl) de_int rfl)) (de_up (g := true) (de_ixT (f := false) (fb := true) (de_var rfl) de_int rfl)) (b1.cmul b4)) (de_mulW (f := true) (fa := true) (fb := true) (de_up (g := true) (de_ixT (f := false) (fb := true) (de_var rfl) de_int rfl)) (de_up (g := true) (de_ixT (f := false) (fb := true) (de_var rfl) de_int rfl)) (b3.cmul b2))) (da_cons (fa := true) (de_mulW (f := true) (fa := true) (fb := true) (de_up (g := true) (de_ixT (f := false) (fb := true) (de_var rfl) de_int rfl)) (de_up (g := true) (de_ixT (f := false) (fb := true) (de_var rfl) de_int rfl)) (b2.cmul b4)) da_nil)) ⟨_, _, rfl, (b2.mul b4).mono (by decide), .inl ⟨hb, rfl⟩⟩) fun v G h => h)
  · exact dsx_retE (X := xNo cN) (re_callS bo_refl (da_cons (fa := true) (de_add (f := true) (fa := true) (fb := true) (i := a * d) (j := c * b) (de_mulW (f := true) (fa := true) (fb := true) (de_up (g := true) (de_ixT (f := false) (fb := true) (de_var rfl) de_int rfl)) (de_up (g := true) (de_ixT (f := false) (fb := true) (de_var rfl) de_int rfl)) (b1.cmul b4)) (de_mulW (f := true) (fa := true) (fb := true) (de_up (g := true) (de_ixT (f := false) (fb := true) (de_var rfl) de_int rfl)) (de_up (g := true) (de_ixT (f := false) (fb := true) (de_var rfl) de_int rfl)) (b3.cmul b2))) (da_cons (fa := true) (de_mulW (f := true) (fa := true) (fb := true) (de_up (g := true) (de_ixT (f := false) (fb := true) (de_var rfl) de_int rfl)) (de_up (g := true) (de_ixT (f := false) (fb := true) (de_var rfl) de_int rfl)) (b2.cmul b4)) da_nil)) ⟨_, _, rfl, (b2.mul b4).mono (by decide), .inr ⟨hb, rfl⟩⟩) fun c d H h => h
theorem ok_minus (F : FnP K "minus" "minus" s_minus f fd) (T : Txt K mg cN cS) (D_plus : DefAtX P w K mg base "plus" 3 ["one", "other"] (spX (S_plus K cN))) : FnOk P w K mg base (L2.CX P w) 4 f fd ["one", "other"] (spX (S_minus K cN)) := by
  refine fnX_ok F sc_minus (fun As O h => by obtain ⟨a, b, c, d, rfl, _⟩ := h; rfl) (fun cdv A outer s H E hr As O hS => ?_)
  refine ⟨_, (pss_one (ps_ret (pe_callX D_plus (hr.mono (by decide)) (takes_of rfl rfl rfl rfl) (by rfl) (pa_cons (pv 0) (pa_cons (pe_tup (pa_cons (pe_un un_neg (pe_ix ix_tup (pv 1) pe_int (fun _ _ => rfl))) (pa_cons (pe_ix ix_tup (pv 1) pe_int (fun _ _ => rfl)) pa_nil))) pa_nil))))), fun H0 => ?_⟩
  obtain ⟨a, b, c, d, rfl, b1, b2, b3, b4, ⟨hb, rfl⟩ | ⟨hb, rfl⟩⟩ := hS
  · exact dsx_of (ds_ret (A := aD K (tp (pt1 (a * d + -c * b) (b * d)) (pt2 (a * d + -c * b) (b * d)))) (de_callS bo_refl (da_cons (fa := false) (de_var rfl) (da_cons (fa := true) (A := aD K (tp (-c) d)) (de_tup (f := true) (dad_cons (de_neg (fa := true) (de_up (g := true) (de_ixT (f := false) (fb := true) (de_var rfl) de_int rfl))) (dad_cons (de_up (g := true) (de_ixT (f := false) (fb := true) (de_var rfl) de_int rfl)) dad_nil))) da_nil)) ⟨a, b, -c, d, rfl, b1, b2, b3.neg, b4, .inl ⟨hb, rfl⟩⟩) fun v G h => h)
  · exact dsx_retE (X := xNo cN) (re_callS bo_refl (da_cons (fa := false) (de_var rfl) (da_cons (fa := true) (A := aD K (tp (-c) d)) (de_tup (f := true) (dad_cons (de_neg (fa := true) (de_up (g := true) (de_ixT (f := false) (fb := true) (de_var rfl) de_int rfl))) (dad_cons (de_up (g := true) (de_ixT (f := false) (fb := true) (de_var rfl) de_int rfl)) dad_nil))) da_nil)) ⟨a, b, -c, d, rfl, b1, b2, b3.neg, b4, .inr ⟨hb, rfl⟩⟩) fun c d H h => h
theorem ok_less (F : FnP K "less" "less" s_less f fd) (T : Txt K mg cN cS) (D_minus : DefAtX P w K mg base "minus" 4 ["one", "other"] (spX (S_minus K cN))) : FnOk P w K mg base (L2.CX P w) 5 f fd ["one", "other"] (spX (S_less K cN)) := by
  refine fnX_ok F sc_less (fun As O h => by obtain ⟨a, b, c, d, rfl, _⟩ := h; rfl) (fun cdv A outer s H E hr As O hS => ?_)
  refine ⟨_, (pss_one (ps_ret (pe_cmpR op_lt (pe_ix ix_tup (pe_callX D_minus (hr.mono (by decide)) (takes_of rfl rfl rfl rfl) (by rfl) (pa_cons (pv 0) (pa_cons (pv 1) pa_nil))) pe_int (fun _ _ => rfl)) pe_int (nomark _)))), fun H0 => ?_⟩
  obtain ⟨a, b, c, d, rfl, b1, b2, b3, b4, ⟨hb, rfl⟩ | ⟨hb, rfl⟩⟩ := hS
  · exact dsx_of (ds_ret (A := aD K (.bool (decide (pt1 (a * d + -c * b) (b * d) < 0)))) (de_cmp (g := fun i j => decide (i < j)) (fa := true) (fb := true) (de_ixT (fb := true) (de_callS bo_refl (da_cons (fa := false) (de_var rfl) (da_cons (fa := false) (de_var rfl) da_nil)) ⟨a, b, c, d, rfl, b1, b2, b3, b4, .inl ⟨hb, rfl⟩⟩) de_int rfl) de_int) fun v G h => h)
  · exact dsx_retE (X := xNo cN) (re_opL (re_opL (re_callS bo_refl (da_cons (fa := false) (de_var rfl) (da_cons (fa := false) (de_var rfl) da_nil)) ⟨a, b, c, d, rfl, b1, b2, b3, b4, .inr ⟨hb, rfl⟩⟩))) fun c d H h => h
end
end Kj

set_option Elab.async false
set_option linter.all false
set_option maxRecDepth 100000
set_option maxHeartbeats 4000000
local macro_rules | `(tactic| walk_at "kz") => `(tactic| first | rfl | decide | omega | (unfold L2.CMul; omega) | (unfold L2.CDiv; omega) | (unfold L2.CPow; decide) | assumption)
local macro_rules | `(tactic| walk_at "kd") => `(tactic| repeat' (first | exact Kj.de_int (f := true) | exact Kj.de_str (f := true) | exact Kj.de_bl (f := true) | exact Kj.de_non (f := true) | exact Kj.de_up (g := true) (Kj.de_var rfl) | exact Kj.de_up (g := true) (Kj.de_varn rfl) | exact Kj.de_var rfl | exact Kj.de_varn rfl | apply Kj.de_add (f := true) | apply Kj.de_sub (f := true) | apply Kj.de_mul (f := true) | apply Kj.de_mulW (f := true) | apply Kj.de_fdiv (f := true) | apply Kj.de_fdivZ (f := true) | apply Kj.de_mod (f := true) | apply Kj.de_pow (f := true) | apply Kj.de_neg (f := true) | apply Kj.de_abs (f := true) | apply Kj.de_lenL (f := true) | apply Kj.dt_test | apply Kj.de_cmp (f := true) | apply Kj.do_no | apply Kj.do_so | apply Kj.dad_nil | apply Kj.dad_cons | apply Kj.da_nil | apply Kj.da_cons | apply Kj.de_tup | apply Kj.de_lst | exact Kj.bo_refl))
local macro_rules | `(tactic| walk_at "kx") => `(tactic| (walk_at "kd") <;> (walk_at "kz"))
namespace Kj
open PySem L2
def gI (ns : List Int) (i : Nat) : Int := ns.getD i 0
theorem atI_gI {ns : List Int} {i : Nat} (h : i < ns.length) : atI (ns.map PyData.int) (i : Int) = some (.int (gI ns i)) := by
  rw [atI_map (by omega) (by omega)]
  unfold gI
  rw [List.getD_eq_getElem?_getD, List.getElem?_eq_getElem h]
  rfl
def grN (ns : List Int) : Int := gI ns 0 % 1000 * 10 ^ (gI ns 1 % 20).toNat + gI ns 2 % 7
def grF (ns : List Int) : Int := if gI ns 1 % 3 = 1 then -(grN ns) else grN ns
theorem grN_bd (ns : List Int) : Bd 80 (grN ns) := by
  have h1 : Bd 10 (gI ns 0 % 1000) := Bd.of (Int.lt_of_lt_of_le (by decide) (Int.emod_nonneg _ (by decide))) (Int.lt_trans (Int.emod_lt_of_pos _ (by decide)) (by decide))
  have h2 : Bd 64 ((10 : Int) ^ (gI ns 1 % 20).toNat) := by
    have a1 : (gI ns 1 % 20).toNat < 20 := by have := Int.emod_nonneg (gI ns 1) (show (20 : Int) ≠ 0 by decide); have := Int.emod_lt_of_pos (gI ns 1) (show (0 : Int) < 20 by decide); omega
    unfold Bd
    rw [Int.natAbs_pow]
    exact Nat.lt_of_le_of_lt (Nat.pow_le_pow_right (by decide) (show _ ≤ 19 by omega)) (by decide)
  have h3 : Bd 74 (gI ns 2 % 7) := Bd.of (Int.lt_of_lt_of_le (by decide) (Int.emod_nonneg _ (by decide))) (Int.lt_trans (Int.emod_lt_of_pos _ (by decide)) (by decide))
  exact ((h1.mul h2).add h3).mono (by decide)
theorem grF_bd (ns : List Int) : Bd 80 (grF ns) := by
  unfold grF
  split
  · exact (grN_bd ns).neg
  · exact grN_bd ns
def pr1 (ns : List Int) : Int := if gI ns 6 % 3 > 0 then gI ns 0 % 13 - 6 else grF ns
def pr2 (ns : List Int) : Int := if gI ns 6 % 3 > 0 then 1 + gI ns 3 % 12 else if grF (ns.drop 3) = 0 then 1 else grF (ns.drop 3)
theorem pr1_bd (ns : List Int) : Bd 80 (pr1 ns) := by
  unfold pr1
  split
  · have := Int.emod_nonneg (gI ns 0) (show (13 : Int) ≠ 0 by decide); have := Int.emod_lt_of_pos (gI ns 0) (show (0 : Int) < 13 by decide)
    exact Bd.of (by omega) (by omega)
  · exact grF_bd ns
theorem pr2_bd (ns : List Int) : Bd 80 (pr2 ns) := by
  unfold pr2
  split
  · have := Int.emod_nonneg (gI ns 3) (show (12 : Int) ≠ 0 by decide); have := Int.emod_lt_of_pos (gI ns 3) (show (0 : Int) < 12 by decide)
    exact Bd.of (by omega) (by omega)
  · split
    · exact Bd.of (by decide) (by decide)
    · exact grF_bd _
theorem pr2_ne (ns : List Int) : pr2 ns ≠ 0 := by
  unfold pr2
  split
  · have := Int.emod_nonneg (gI ns 3) (show (12 : Int) ≠ 0 by decide); omega
  · split
    · decide
    · assumption
def S_great (K : PySem.W.Frag) : Spec := fun As R => ∃ ns : List Int, As = [aD K (.list (ns.map .int))] ∧ 3 ≤ ns.length ∧ R = aD K (.int (grF ns))
def S_pair (K : PySem.W.Frag) : Spec := fun As R => ∃ ns : List Int, As = [aD K (.list (ns.map .int))] ∧ 7 ≤ ns.length ∧ R = aD K (tp (pr1 ns) (pr2 ns))
theorem int_noughts : ∀ k : Fin 20, PySem.intText? (("1" : Str) ++ Txt.mul "0" ((k.val : Nat) : Int)) = some (10 ^ k.val) ∧ (("1" : Str) ++ Txt.mul "0" ((k.val : Nat) : Int)).length ≤ 640 ∧ (("1" : Str).length + (Txt.mul "0" ((k.val : Nat) : Int)).length ≤ 640) := by decide +kernel
theorem mulOk_noughts : ∀ k : Fin 20, MulOk "0" ((k.val : Nat) : Int) := by
  intro k
  have hk := k.isLt
  refine ⟨?_, fun _ _ => ?_, fun _ _ => ?_⟩
  · revert k; decide
  · have : ("0" : Str).length = 1 := by decide
    rw [this]
    revert k; decide
  · revert k; decide +kernel
section
variable {P : Program} {w : World} {K : PySem.W.Frag} {mg : Str → Option Value} {base : Heap} {f : Addr} {fd : FuncData} {cN cS : Addr}
theorem de_gI {H0 : Hp} {ρ : List Slot} {K : PySem.W.Frag} {f : Bool} {ta tb : TE} {ns : List Int} (i : Nat) (ha : DE H0 ρ ta f (aD K (.list (ns.map .int)))) (hb : DE H0 ρ tb true (aD K (.int (i : Int)))) (h : i < ns.length) : DE H0 ρ (tOp (rIxL K) ta tb) true (aD K (.int (gI ns i))) := de_up (de_ixL ha hb (atI_gI h))
theorem ok_law_great (F : FnP K "_law_great" "_law_great" s_law_great f fd) (T : Txt K mg cN cS) : FnOk P w K mg base CX0 1 f fd ["_law_d"] (spF (S_great K)) := by
  refine fnD_ok F sc_law_great (fun As R h => by obtain ⟨ns, rfl, _⟩ := h; rfl) (fun cdv A outer s H E hr As R hS => ?_)
  refine ⟨_, (pss_cons (ps_set (i := 1) sc_law_great.nd rfl (by first | exact Or.inl rfl | exact Or.inr rfl) (pe_op op_add (pe_op op_mul (pe_op op_mod (pe_ix ix_list (pv 0) pe_int (fun _ _ => rfl)) pe_int) (pe_callTy call_int_str (by rfl) T.b_int (by decide +kernel) (pa_cons (pe_op op_add_str pe_str (pe_op op_mulS pe_str (pe_op op_mod (pe_ix ix_list (pv 0) pe_int (fun _ _ => rfl)) pe_int))) pa_nil))) (pe_op op_mod (pe_ix ix_list (pv 0) pe_int (fun _ _ => rfl)) pe_int)))
      (pss_one (ps_ret (pe_ifExp (pt_cmpR op_eq (pe_op op_mod (pe_ix ix_list (pv 0) pe_int (fun _ _ => rfl)) pe_int) pe_int (nomark _)) (pe_un un_neg (pv 1)) (pv 1))))), fun H0 => ?_⟩
  obtain ⟨ns, rfl, hl, rfl⟩ := hS
  have m20 : 0 ≤ gI ns 1 % 20 ∧ gI ns 1 % 20 < 20 := ⟨Int.emod_nonneg _ (by decide), Int.emod_lt_of_pos _ (by decide)⟩
  have hk : (gI ns 1 % 20).toNat < 20 := by omega
  have ek : (((gI ns 1 % 20).toNat : Nat) : Int) = gI ns 1 % 20 := Int.toNat_of_nonneg m20.1
  have t1 := int_noughts ⟨_, hk⟩
  have t2 := mulOk_noughts ⟨_, hk⟩
  simp only [ek] at t1 t2
  refine ds_sq (ds_set (f := true) (A := aD K (.int (grN ns))) (de_add (fa := true) (fb := true) (i := gI ns 0 % 1000 * 10 ^ (gI ns 1 % 20).toNat) (j := gI ns 2 % 7) (de_mul (fa := true) (fb := true) (i := gI ns 0 % 1000) (de_mod (fa := true) (fb := true) (de_gI 0 (de_var rfl) de_int (by omega)) de_int (by decide)) (de_intS (fa := true) (de_addS (fa := true) (fb := true) de_str (de_mulS (fa := true) (fb := true) de_str (de_mod (fa := true) (fb := true) (de_gI 1 (de_var rfl) de_int (by omega)) de_int (by decide)) t2) (Nat.le_trans t1.2.2 (by decide))) t1.1 t1.2.1) ?_) (de_mod (fa := true) (fb := true) (de_gI 2 (de_var rfl) de_int (by omega)) de_int (by decide)))) ?_
  · have := Int.emod_nonneg (gI ns 0) (show (1000 : Int) ≠ 0 by decide); have := Int.emod_lt_of_pos (gI ns 0) (show (0 : Int) < 1000 by decide)
    exact .inl ⟨by omega, by omega⟩
  · refine ds_ret (A := aD K (.int (grF ns))) (de_if (K := K) (a := decide (gI ns 1 % 3 = 1)) (dt_test (fa := true) (de_eqI (fa := true) (fb := true) (de_mod (fa := true) (fb := true) (de_gI 1 (de_var rfl) de_int (by omega)) de_int (by decide)) de_int)) (fun hb => de_eq (de_neg (fa := true) (de_varn rfl)) ?_) (fun hb => de_eq (de_varn rfl) ?_)) fun v G h => h
    · unfold grF; rw [if_pos (of_decide_eq_true hb)]
    · unfold grF; rw [if_neg (of_decide_eq_false hb)]
theorem ok_law_pair (F : FnP K "_law_pair" "_law_pair" s_law_pair f fd) (T : Txt K mg cN cS) (D_law_great : DefAt P w K mg base "_law_great" 1 ["_law_d"] (spF (S_great K))) : FnOk P w K mg base CX0 2 f fd ["_law_d"] (spF (S_pair K)) := by
  refine fnD_ok F sc_law_pair (fun As R h => by obtain ⟨ns, rfl, _⟩ := h; rfl) (fun cdv A outer s H E hr As R hS => ?_)
  refine ⟨_, (pss_cons (ps_set (i := 1) sc_law_pair.nd rfl (by first | exact Or.inl rfl | exact Or.inr rfl) (pe_callD D_law_great (hr.mono (by decide)) (by rfl) (pa_cons (pe_slice sl_list (pv 0) (po_some pe_int) po_none) pa_nil)))
      (pss_cons (ps_if (pt_cmpR op_gt (pe_op op_mod (pe_ix ix_list (pv 0) pe_int (fun _ _ => rfl)) pe_int) pe_int (nomark _)) (pss_one (ps_ret (pe_tup (pa_cons (pe_op op_sub (pe_op op_mod (pe_ix ix_list (pv 0) pe_int (fun _ _ => rfl)) pe_int) pe_int) (pa_cons (pe_op op_add pe_int (pe_op op_mod (pe_ix ix_list (pv 0) pe_int (fun _ _ => rfl)) pe_int)) pa_nil))))) pss_nil)
      (pss_one (ps_ret (pe_tup (pa_cons (pe_callD D_law_great (hr.mono (by decide)) (by rfl) (pa_cons (pv 0) pa_nil)) (pa_cons (pe_ifExp (pt_cmpR op_eq (pv 1) pe_int (nomark _)) pe_int (pv 1)) pa_nil))))))), fun H0 => ?_⟩
  obtain ⟨ns, rfl, hl, rfl⟩ := hS
  refine ds_sq (ds_set (f := true) (A := aD K (.int (grF (ns.drop 3)))) (de_call bo_refl (da_cons (A := aD K (.list ((ns.drop 3).map .int))) (de_eq (de_slf (f := true) (de_var rfl) (do_so (fa := true) de_int) do_no (all_ints ns)) (by rw [cutD_map, cutD_from _ (by decide)]; rfl)) da_nil) ⟨ns.drop 3, rfl, by rw [List.length_drop]; omega, rfl⟩)) ?_
  have g6 : 0 ≤ gI ns 6 % 3 := Int.emod_nonneg _ (by decide)
  refine ds_ifs (K := K) (a := decide (0 < gI ns 6 % 3)) (dt_test (fa := true) (de_cmp (g := fun i j => decide (j < i)) (fa := true) (fb := true) (de_mod (fa := true) (fb := true) (de_gI 6 (de_var rfl) de_int (by omega)) de_int (by decide)) de_int)) (fun hb => ?_) (fun hb => ds_skip ?_)
  · have e1 : pr1 ns = gI ns 0 % 13 - 6 := by unfold pr1; rw [if_pos (of_decide_eq_true hb)]
    have e2 : pr2 ns = 1 + gI ns 3 % 12 := by unfold pr2; rw [if_pos (of_decide_eq_true hb)]
    rw [e1, e2]
    exact ds_rets (A := aD K (.tuple [.int (gI ns 0 % 13 - 6), .int (1 + gI ns 3 % 12)])) (de_tup (dad_cons (de_sub (fa := true) (fb := true) (de_mod (fa := true) (fb := true) (de_gI 0 (de_var rfl) de_int (by omega)) de_int (by decide)) de_int) (dad_cons (de_add (fa := true) (fb := true) de_int (de_mod (fa := true) (fb := true) (de_gI 3 (de_var rfl) de_int (by omega)) de_int (by decide))) dad_nil))) fun v G h => h
  · have e1 : pr1 ns = grF ns := by unfold pr1; rw [if_neg (of_decide_eq_false hb)]
    have e2 : pr2 ns = if grF (ns.drop 3) = 0 then 1 else grF (ns.drop 3) := by unfold pr2; rw [if_neg (of_decide_eq_false hb)]
    refine ds_ret (A := aD K (.tuple [.int (pr1 ns), .int (pr2 ns)])) (de_tup (dad_cons (de_call bo_refl (da_cons (de_var rfl) da_nil) ⟨ns, rfl, by omega, by rw [e1]⟩) (dad_cons (de_if (K := K) (a := decide (grF (ns.drop 3) = 0)) (dt_test (fa := true) (de_eqI (fa := true) (fb := true) (de_varn rfl) de_int)) (fun hb => de_eq de_int ?_) (fun hb => de_eq (de_varn rfl) ?_)) dad_nil))) fun v G h => h
    · rw [e2, if_pos (of_decide_eq_true hb)]
    · rw [e2, if_neg (of_decide_eq_false hb)]
abbrev s_law : Stmt := topS 14
theorem sc_law : FnScope ["_law_script", "_law_numbers_here", "_law_bad", "_law_good", "_law_which"] ["_law_script"] (defScope s_law) := ⟨rfl, rfl, rfl, by decide +kernel, rfl, by decide +kernel, by decide +kernel⟩
theorem ok_law_why_part (F : FnP K "_law_why_part" "_law_why_part" s_law_why_part f fd) (T : Txt K mg cN cS) (D_part : DefAtX P w K mg base "part" 2 ["top", "bottom"] (spX (S_part K cN))) (D_plus : DefAtX P w K mg base "plus" 3 ["one", "other"] (spX (S_plus K cN))) (D_minus : DefAtX P w K mg base "minus" 4 ["one", "other"] (spX (S_minus K cN))) (D_less : DefAtX P w K mg base "less" 5 ["one", "other"] (spX (S_less K cN))) : FnOk P w K mg base CX0 6 f fd ["_law_which", "_law_one", "_law_other"] (spF (S_why K)) := by
  refine fnD_ok F sc_law_why_part (fun As R h => by obtain ⟨n, a, b, c, d, rfl, _⟩ := h; rfl) (fun cdv A outer s H E hr As R hS => ?_)
  refine ⟨_, (pss_cons (ps_set (i := 3) sc_law_why_part.nd rfl (by first | exact Or.inl rfl | exact Or.inr rfl) pe_str)
      (pss_cons (ps_tryX rfl rfl takes0 (fun W pn xe tk _ => (pss_one (ps_if (pt_cmpR op_eq (pv 0) pe_int (nomark _)) (pss_one (ps_expr (pe_callX D_part (hr.mono (by decide)) tk (by rfl) (pa_cons (pe_ix ix_tup_tr (pv 1) pe_int (fun _ _ => rfl)) (pa_cons (pe_ix ix_tup_tr (pv 1) pe_int (fun _ _ => rfl)) pa_nil))))) (pss_one (ps_if (pt_cmpR op_eq (pv 0) pe_int (nomark _)) (pss_one (ps_expr (pe_callX D_plus (hr.mono (by decide)) tk (by rfl) (pa_cons (pv 1) (pa_cons (pv 2) pa_nil))))) (pss_one (ps_if (pt_cmpR op_eq (pv 0) pe_int (nomark _)) (pss_one (ps_expr (pe_callX D_minus (hr.mono (by decide)) tk (by rfl) (pa_cons (pv 1) (pa_cons (pv 2) pa_nil))))) (pss_one (ps_expr (pe_callX D_less (hr.mono (by decide)) tk (by rfl) (pa_cons (pv 1) (pa_cons (pv 2) pa_nil)))))))))))) (.cons ⟨rfl, by decide, .inl T.x_NoPart.g⟩ (fun a oe cls d pn _ _ => (pss_one (ps_set (i := 3) sc_law_why_part.nd rfl (by first | exact Or.inl rfl | exact Or.inr rfl) pe_str))) (.cons ⟨rfl, by decide, .inl T.x_SnatchError.g⟩ (fun a oe cls d pn _ _ => (pss_one (ps_set (i := 3) sc_law_why_part.nd rfl (by first | exact Or.inl rfl | exact Or.inr rfl) pe_str))) .nil)))
      (pss_one (ps_ret (pv 3))))), fun H0 => ?_⟩
  obtain ⟨n, a, b, c, d, rfl, b1, b2, b3, b4, rfl⟩ := hS
  refine ds_sq (ds_set (f := true) (A := aD K (.str "")) de_str) ?_
  refine ds_seq (N1 := fun r => r = [.dat (aD K (.int n)), .dat (aD K (tp a b)), .dat (aD K (tp c d)), .new (aD K (.str (if whyF n b d then "NoPart" else "")))]) (ds_try (Z := fun r cls dd _ => r = [.dat (aD K (.int n)), .dat (aD K (tp a b)), .dat (aD K (tp c d)), .new (aD K (.str ""))] ∧ (cls = .ref cN ∧ dd = none) ∧ whyF n b d = true) (fun W => ?_) ?_) ?_
  · have lf : ∀ (u : TE) (X : XA) (b0 : Bool), whyF n b d = b0 → (b0 = true → RE W H0 [.dat (aD K (.int n)), .dat (aD K (tp a b)), .dat (aD K (tp c d)), .new (aD K (.str ""))] u (xNo cN)) → (b0 = false → ∃ A, DE H0 [.dat (aD K (.int n)), .dat (aD K (tp a b)), .dat (aD K (tp c d)), .new (aD K (.str ""))] u true A) →
        DSX W H0 [.dat (aD K (.int n)), .dat (aD K (tp a b)), .dat (aD K (tp c d)), .new (aD K (.str ""))] (tDrop u) (fun r => r = [.dat (aD K (.int n)), .dat (aD K (tp a b)), .dat (aD K (tp c d)), .new (aD K (.str (if whyF n b d then "NoPart" else "")))]) (aD K (.str (if whyF n b d then "NoPart" else ""))) (fun r cls dd _ => r = [.dat (aD K (.int n)), .dat (aD K (tp a b)), .dat (aD K (tp c d)), .new (aD K (.str ""))] ∧ (cls = .ref cN ∧ dd = none) ∧ whyF n b d = true) := by
      intro u X b0 e h1 h2
      cases b0 with
      | true => exact dsx_dropE (X := xNo cN) (h1 rfl) fun c d H h => ⟨rfl, h, e⟩
      | false =>
        obtain ⟨A, h⟩ := h2 rfl
        exact dsx_of (ds_end (ds_drop h) (by rw [e]; rfl))
    refine dsx_if (K := K) (a := decide (n = 0)) (dt_test (fa := true) (de_eqI (fa := true) (fb := true) (de_up (de_var rfl)) de_int)) (fun h0 => ?_) (fun h0 => ?_)
    · have e : whyF n b d = decide (b = 0) := by unfold whyF; rw [if_pos (of_decide_eq_true h0)]
      exact lf _ (xNo cN) _ e (fun z => re_callS bo_refl (da_cons (fa := true) (de_up (g := true) (de_ixT (f := false) (fb := true) (de_var rfl) de_int rfl)) (da_cons (fa := true) (de_up (g := true) (de_ixT (f := false) (fb := true) (de_var rfl) de_int rfl)) da_nil)) ⟨_, _, rfl, b2.mono (by decide), .inr ⟨of_decide_eq_true z, rfl⟩⟩) (fun z => ⟨_, de_callS bo_refl (da_cons (fa := true) (de_up (g := true) (de_ixT (f := false) (fb := true) (de_var rfl) de_int rfl)) (da_cons (fa := true) (de_up (g := true) (de_ixT (f := false) (fb := true) (de_var rfl) de_int rfl)) da_nil)) ⟨_, _, rfl, b2.mono (by decide), .inl ⟨of_decide_eq_false z, rfl⟩⟩⟩)
    · have e : whyF n b d = decide (b * d = 0) := by unfold whyF; rw [if_neg (of_decide_eq_false h0)]
      refine dsx_if (K := K) (a := decide (n = 1)) (dt_test (fa := true) (de_eqI (fa := true) (fb := true) (de_up (de_var rfl)) de_int)) (fun _ => ?_) (fun _ => ?_)
      · exact lf _ (xNo cN) _ e (fun z => re_callS bo_refl (da_cons (fa := false) (de_var rfl) (da_cons (fa := false) (de_var rfl) da_nil)) ⟨_, _, _, _, rfl, b1, b2, b3, b4, .inr ⟨of_decide_eq_true z, rfl⟩⟩) (fun z => ⟨_, de_callS bo_refl (da_cons (fa := false) (de_var rfl) (da_cons (fa := false) (de_var rfl) da_nil)) ⟨_, _, _, _, rfl, b1, b2, b3, b4, .inl ⟨of_decide_eq_false z, rfl⟩⟩⟩)
      refine dsx_if (K := K) (a := decide (n = 2)) (dt_test (fa := true) (de_eqI (fa := true) (fb := true) (de_up (de_var rfl)) de_int)) (fun _ => ?_) (fun _ => ?_)
      · exact lf _ (xNo cN) _ e (fun z => re_callS bo_refl (da_cons (fa := false) (de_var rfl) (da_cons (fa := false) (de_var rfl) da_nil)) ⟨_, _, _, _, rfl, b1, b2, b3, b4, .inr ⟨of_decide_eq_true z, rfl⟩⟩) (fun z => ⟨_, de_callS bo_refl (da_cons (fa := false) (de_var rfl) (da_cons (fa := false) (de_var rfl) da_nil)) ⟨_, _, _, _, rfl, b1, b2, b3, b4, .inl ⟨of_decide_eq_false z, rfl⟩⟩⟩)
      · exact lf _ (xNo cN) _ e (fun z => re_callS bo_refl (da_cons (fa := false) (de_var rfl) (da_cons (fa := false) (de_var rfl) da_nil)) ⟨_, _, _, _, rfl, b1, b2, b3, b4, .inr ⟨of_decide_eq_true z, rfl⟩⟩) (fun z => ⟨_, de_callS bo_refl (da_cons (fa := false) (de_var rfl) (da_cons (fa := false) (de_var rfl) da_nil)) ⟨_, _, _, _, rfl, b1, b2, b3, b4, .inl ⟨of_decide_eq_false z, rfl⟩⟩⟩)
  · rintro r cls dd H' ⟨rfl, ⟨rfl, rfl⟩, e⟩
    refine .here T.m_NN fun a => ds_end (ds_set (f := true) (A := aD K (.str "NoPart")) de_str) (by rw [e]; rfl)
  · rintro r rfl
    exact ds_ret (A := aD K (.str (if whyF n b d then "NoPart" else ""))) (de_varn rfl) fun v G h => h
theorem ok_law (F : FnP K "law" "law" s_law f fd) (T : Txt K mg cN cS) (D_law_numbers : DefAt P w K mg base "_law_numbers" 1 ["_law_script", "_law_many"] (spF (S_numbers K))) (D_law_great : DefAt P w K mg base "_law_great" 1 ["_law_d"] (spF (S_great K))) (D_law_pair : DefAt P w K mg base "_law_pair" 2 ["_law_d"] (spF (S_pair K))) (D_law_why_part : DefAt P w K mg base "_law_why_part" 6 ["_law_which", "_law_one", "_law_other"] (spF (S_why K))) : FnOk P w K mg base CX0 7 f fd ["_law_script"] (spL K) := by
  refine lawD_ok F sc_law (fun cdv A outer s H E hr ns hns => ?_)
  refine ⟨_, (pss_cons (ps_set (i := 1) sc_law.nd rfl (by first | exact Or.inl rfl | exact Or.inr rfl) (pe_callD D_law_numbers (hr.mono (by decide)) (by rfl) (pa_cons (pv 0) (pa_cons pe_int pa_nil))))
      (pss_cons (ps_set (i := 2) sc_law.nd rfl (by first | exact Or.inl rfl | exact Or.inr rfl) (pe_tup (pa_cons (pe_op op_mulW (pe_callD D_law_great (hr.mono (by decide)) (by rfl) (pa_cons (pe_slice sl_list (pv 1) (po_some pe_int) po_none) pa_nil)) (pe_op op_mod (pe_ix ix_list (pv 1) pe_int (fun _ _ => rfl)) pe_int)) (pa_cons pe_int pa_nil))))
      (pss_cons (ps_set (i := 3) sc_law.nd rfl (by first | exact Or.inl rfl | exact Or.inr rfl) (pe_callD D_law_pair (hr.mono (by decide)) (by rfl) (pa_cons (pv 1) pa_nil)))
      (pss_cons (ps_for PassesOwn.never rfl (pi_range1 (by rfl) T.b_range (pa_cons pe_int pa_nil)) (pg_name (i := 4) sc_law.nd rfl (by first | exact Or.inl rfl | exact Or.inr rfl)) (pss_cons (ps_if (PW.pt (pw_or (pt_cmpR op_ne (pe_callD D_law_why_part (hr.mono (by decide)) (by rfl) (pa_cons (pv 4) (pa_cons (pv 2) (pa_cons (pv 3) pa_nil)))) pe_str (nomark _)) (pw_or1 (pt_cmpR op_ne (pe_callD D_law_why_part (hr.mono (by decide)) (by rfl) (pa_cons (pv 4) (pa_cons (pv 3) (pa_cons (pv 3) pa_nil)))) pe_str (nomark _))))) (pss_one (ps_ret pe_bl)) pss_nil)
      (pss_cons (ps_if (pt_cmpR op_ne (pe_callD D_law_why_part (hr.mono (by decide)) (by rfl) (pa_cons (pv 4) (pa_cons (pv 2) (pa_cons (pv 2) pa_nil)))) pe_str (nomark _)) (pss_one (ps_ret pe_bl)) pss_nil)
      (pss_one (ps_if (PW.pt (pw_and (pt_cmpR op_gt (pv 4) pe_int (nomark _)) (pw_and1 (pt_cmpR op_ne (pe_callD D_law_why_part (hr.mono (by decide)) (by rfl) (pa_cons (pv 4) (pa_cons (pv 3) (pa_cons (pv 2) pa_nil)))) pe_str (nomark _))))) (pss_one (ps_ret pe_bl)) pss_nil)))))
      (pss_one (ps_ret pe_bl)))))), fun H0 => ?_⟩
  refine ds_sq (ds_set (f := true) (A := aEx (NumOk 12) fun ms => aD K (.list (ms.map .int))) (de_call bo_refl (da_cons (fa := false) (de_var rfl) (da_cons (fa := true) de_int da_nil)) ⟨ns, 12, rfl, hns, by decide, rfl⟩)) ?_
  refine ds_ex (f := true) (i := 1) (fun ms hms => ?_) (by rfl)
  have hl : ms.length = 12 := hms.1
  have h4 : Bd 2 (gI ms 11 % 4) := by
    have := Int.emod_nonneg (gI ms 11) (show (4 : Int) ≠ 0 by decide); have := Int.emod_lt_of_pos (gI ms 11) (show (0 : Int) < 4 by decide)
    exact Bd.of (by omega) (by omega)
  refine ds_sq (ds_set (f := true) (A := aD K (.tuple [.int (grF (ms.drop 8) * (gI ms 11 % 4)), .int 0])) (de_tup (dad_cons (de_mulW (fa := true) (fb := true) (de_call bo_refl (da_cons (fa := true) (A := aD K (.list ((ms.drop 8).map .int))) (de_eq (de_slf (fa := true) (de_varn rfl) (do_so (fa := true) de_int) do_no (all_ints ms)) (by rw [cutD_map, cutD_from _ (by decide)]; rfl)) da_nil) ⟨ms.drop 8, rfl, by rw [List.length_drop]; omega, rfl⟩) (de_mod (fa := true) (fb := true) (de_gI 11 (de_varn rfl) de_int (by omega)) de_int (by decide)) ((grF_bd _).cmul h4)) (dad_cons de_int dad_nil)))) ?_
  refine ds_sq (ds_set (f := true) (A := aD K (tp (pr1 ms) (pr2 ms))) (de_call bo_refl (da_cons (fa := true) (de_varn rfl) da_nil) ⟨ms, rfl, by omega, rfl⟩)) ?_
  have bc := (pr1_bd ms).mono (show 80 ≤ 400 by decide)
  have bd := (pr2_bd ms).mono (show 80 ≤ 400 by decide)
  have hd := pr2_ne ms
  have bx := ((grF_bd (ms.drop 8)).mul h4).mono (show 80 + 2 ≤ 400 by decide)
  generalize pr1 ms = c at bc ⊢
  generalize pr2 ms = d at bd hd ⊢
  generalize grF (ms.drop 8) * (gI ms 11 % 4) = x at bx ⊢
  have b0 : Bd 400 0 := (Bd.of (n := 1) (by decide) (by decide)).mono (by decide)
  have y1 : ∀ k : Int, whyF k 0 d = true := fun k => by unfold whyF; split <;> simp
  have y2 : ∀ k : Int, whyF k d d = false := fun k => by
    unfold whyF
    split
    · exact decide_eq_false hd
    · exact decide_eq_false (Int.mul_ne_zero hd hd)
  have y3 : ∀ k : Int, whyF k 0 0 = true := fun k => by unfold whyF; split <;> simp
  have y4 : ∀ k : Int, 0 < k → whyF k d 0 = true := fun k hk => by unfold whyF; rw [if_neg (by omega)]; simp
  refine ds_seq (ds_forR1 (K := K) (j := 4) (fa := true) de_int (by decide) (by decide) (fun k r => ∃ z, r = [.dat (aD K (.list (ns.map .int))), .new (aD K (.list (ms.map .int))), .new (aD K (tp x 0)), .new (aD K (tp c d)), z]) ⟨_, rfl⟩ (by rintro k r ⟨z, rfl⟩; rfl) ?_) ?_
  · rintro k r hk ⟨z, rfl⟩
    refine ds_ifs (K := K) (a := false) (dt_or (a := false) (b := false) (dt_eq (dt_test (fa := true) (de_neS (f := true) (fa := true) (fb := true) (de_call bo_refl (da_cons (fa := true) (de_varn rfl) (da_cons (fa := true) (de_varn rfl) (da_cons (fa := true) (de_varn rfl) da_nil))) ⟨(k : Int), x, 0, c, d, rfl, bx, b0, bc, bd, rfl⟩) de_str)) (by rw [y1]; decide)) (fun _ => dt_eq (dt_test (fa := true) (de_neS (f := true) (fa := true) (fb := true) (de_call bo_refl (da_cons (fa := true) (de_varn rfl) (da_cons (fa := true) (de_varn rfl) (da_cons (fa := true) (de_varn rfl) da_nil))) ⟨(k : Int), c, d, c, d, rfl, bc, bd, bc, bd, rfl⟩) de_str)) (by rw [y2]; decide))) (fun hb => Bool.noConfusion hb) (fun _ => ds_skip ?_)
    refine ds_ifs (K := K) (a := false) (dt_eq (dt_test (fa := true) (de_neS (f := true) (fa := true) (fb := true) (de_call bo_refl (da_cons (fa := true) (de_varn rfl) (da_cons (fa := true) (de_varn rfl) (da_cons (fa := true) (de_varn rfl) da_nil))) ⟨(k : Int), x, 0, x, 0, rfl, bx, b0, bx, b0, rfl⟩) de_str)) (by rw [y3]; decide)) (fun hb => Bool.noConfusion hb) (fun _ => ds_skip ?_)
    refine ds_if (K := K) (a := decide (0 < (k : Int)) && false) (dt_and (a := decide (0 < (k : Int))) (b := false) (dt_test (fa := true) (de_cmp (g := fun i j => decide (j < i)) (fa := true) (fb := true) (de_varn rfl) de_int)) (fun h0 => dt_eq (dt_test (fa := true) (de_neS (f := true) (fa := true) (fb := true) (de_call bo_refl (da_cons (fa := true) (de_varn rfl) (da_cons (fa := true) (de_varn rfl) (da_cons (fa := true) (de_varn rfl) da_nil))) ⟨(k : Int), c, d, x, 0, rfl, bc, bd, bx, b0, rfl⟩) de_str)) (by rw [y4 _ (of_decide_eq_true h0)]; decide))) (fun hb => by rw [Bool.and_false] at hb; exact Bool.noConfusion hb) (fun _ => ds_next ⟨_, rfl⟩)
  · rintro r ⟨z, rfl⟩
    exact ds_ret (A := aD K (.bool true)) de_bl fun v G h => h
end
end Kj

set_option Elab.async false
set_option linter.all false
set_option maxRecDepth 100000
set_option maxHeartbeats 0
namespace Kj
open PySem PySem.Spec PyProof.Rows L2
def d_common_divisor : He.DefD := ⟨("common_divisor", none), "common_divisor", "common_divisor", defArgs s_common_divisor, defBody s_common_divisor, defScope s_common_divisor, [], []⟩
def d_part : He.DefD := ⟨("part", none), "part", "part", defArgs s_part, defBody s_part, defScope s_part, [], []⟩
def d_plus : He.DefD := ⟨("plus", none), "plus", "plus", defArgs s_plus, defBody s_plus, defScope s_plus, [], []⟩
def d_minus : He.DefD := ⟨("minus", none), "minus", "minus", defArgs s_minus, defBody s_minus, defScope s_minus, [], []⟩
def d_less : He.DefD := ⟨("less", none), "less", "less", defArgs s_less, defBody s_less, defScope s_less, [], []⟩
def d_law_numbers : He.DefD := ⟨("_law_numbers", none), "_law_numbers", "_law_numbers", defArgs s_law_numbers, defBody s_law_numbers, defScope s_law_numbers, [], []⟩
def d_law_great : He.DefD := ⟨("_law_great", none), "_law_great", "_law_great", defArgs s_law_great, defBody s_law_great, defScope s_law_great, [], []⟩
def d_law_pair : He.DefD := ⟨("_law_pair", none), "_law_pair", "_law_pair", defArgs s_law_pair, defBody s_law_pair, defScope s_law_pair, [], []⟩
def d_law_why_part : He.DefD := ⟨("_law_why_part", none), "_law_why_part", "_law_why_part", defArgs s_law_why_part, defBody s_law_why_part, defScope s_law_why_part, [], []⟩
def d_law : He.DefD := ⟨("law", none), "law", "law", defArgs s_law, defBody s_law, defScope s_law, [], []⟩
def fn : List He.DefD := [d_common_divisor, d_part, d_plus, d_minus, d_less, d_law_numbers, d_law_great, d_law_pair, d_law_why_part, d_law]
def fa : List He.Fa := [.glo "common_divisor", .glo "part", .glo "plus", .glo "minus", .glo "less", .glo "_law_numbers", .glo "_law_great", .glo "_law_pair", .glo "_law_why_part", .glo "law", .free "len", .free "range", .free "abs", .free "int", .glo "NoPart", .glo "SnatchError", .exc "NoPart", .exc "SnatchError", .exm "NoPart" "NoPart" true]
abbrev RR : PySem.W.OpenRow := PySem.W.OpenLaw.row PySem.Challenge.rw_kimariji_k02_parts_without_bottom
abbrev hk : PySem.W.Hook := He.hookD 4 fa fn
def ob (s : PySem.W.SharedT) : He.AlD := He.obsDG 4 fa fn (HandSHeadRun.getT s)
theorem ob_eq (s : PySem.W.SharedT) : ob s = hk.obs s.abs := He.obsDG_eq (HandSHeadRun.getT_eq s)
theorem run (w : World) : HandSHeadRun.RunEq RR (PySem.W.view RR.prog [14]) hk ob 4000 ["NoPart", "SnatchError", "common_divisor", "part", "plus", "minus", "less", "_law_numbers", "_law_great", "_law_pair", "_law_why_part"] w := by
  intro os
  kernel_rfl
theorem facts {P : Program} {w : World} {K : PySem.W.Frag} {h : Heap} {mg : Str → Option Value} {f : Addr} (X : K.In h) (G : h.Ns mainGlobals mg) (hfa : mg ("law" : Str) = some (.ref f)) (c : He.SaysD fa fn K) :
    ∃ fd : FuncData, (∀ (s : Shared) (v : Value), BindsTo s fd ⟨[v], []⟩ [("_law_script", v)]) ∧ ∀ base : Heap, K.In base → base.Ns mainGlobals mg → FnOk P w K mg base CX0 7 f fd ["_law_script"] (spL K) := by
  obtain ⟨fd_common_divisor, F_common_divisor⟩ := c.def_ 0 (d := d_common_divisor) rfl
  have g_common_divisor := He.glo_ok X G (c.fact 0 (f := .glo "common_divisor") rfl)
  obtain ⟨fd_part, F_part⟩ := c.def_ 1 (d := d_part) rfl
  have g_part := He.glo_ok X G (c.fact 1 (f := .glo "part") rfl)
  obtain ⟨fd_plus, F_plus⟩ := c.def_ 2 (d := d_plus) rfl
  have g_plus := He.glo_ok X G (c.fact 2 (f := .glo "plus") rfl)
  obtain ⟨fd_minus, F_minus⟩ := c.def_ 3 (d := d_minus) rfl
  have g_minus := He.glo_ok X G (c.fact 3 (f := .glo "minus") rfl)
  obtain ⟨fd_less, F_less⟩ := c.def_ 4 (d := d_less) rfl
  have g_less := He.glo_ok X G (c.fact 4 (f := .glo "less") rfl)
  obtain ⟨fd_law_numbers, F_law_numbers⟩ := c.def_ 5 (d := d_law_numbers) rfl
  have g_law_numbers := He.glo_ok X G (c.fact 5 (f := .glo "_law_numbers") rfl)
  obtain ⟨fd_law_great, F_law_great⟩ := c.def_ 6 (d := d_law_great) rfl
  have g_law_great := He.glo_ok X G (c.fact 6 (f := .glo "_law_great") rfl)
  obtain ⟨fd_law_pair, F_law_pair⟩ := c.def_ 7 (d := d_law_pair) rfl
  have g_law_pair := He.glo_ok X G (c.fact 7 (f := .glo "_law_pair") rfl)
  obtain ⟨fd_law_why_part, F_law_why_part⟩ := c.def_ 8 (d := d_law_why_part) rfl
  have g_law_why_part := He.glo_ok X G (c.fact 8 (f := .glo "_law_why_part") rfl)
  obtain ⟨fd_law, F_law⟩ := c.def_ 9 (d := d_law) rfl
  have x_NoPart : ExcT K mg "NoPart" (He.ga K "NoPart") := by
    obtain ⟨e1, e2, e3, e4⟩ := He.exc_ok (c.fact 16 (f := .exc "NoPart") rfl)
    exact ⟨He.glo_ok X G (c.fact 14 (f := .glo "NoPart") rfl), e1, e2, e3, e4⟩
  have x_SnatchError : ExcT K mg "SnatchError" (He.ga K "SnatchError") := by
    obtain ⟨e1, e2, e3, e4⟩ := He.exc_ok (c.fact 17 (f := .exc "SnatchError") rfl)
    exact ⟨He.glo_ok X G (c.fact 15 (f := .glo "SnatchError") rfl), e1, e2, e3, e4⟩
  have e := hfa.symm.trans (He.glo_ok X G (c.fact 9 (f := .glo "law") rfl))
  cases e
  have T := (show Txt K mg (He.ga K "NoPart") (He.ga K "SnatchError") from ⟨He.free_ok X G (c.fact 10 (f := .free "len") rfl), He.free_ok X G (c.fact 11 (f := .free "range") rfl), He.free_ok X G (c.fact 12 (f := .free "abs") rfl), He.free_ok X G (c.fact 13 (f := .free "int") rfl), x_NoPart, x_SnatchError, He.exm_ok (c.fact 18 (f := .exm "NoPart" "NoPart" true) rfl)⟩)
  have b := FunD.bindsA (ps := ["_law_script"]) F_law fun _ _ _ _ _ _ us hl => match us, hl with | [_], _ => rfl
  refine ⟨fd_law, fun s v => b s [v] rfl, fun base _ _ => ?_⟩
  have D_common_divisor : DefAt P w K mg base "common_divisor" 1 ["one", "other"] (spF (S_cd K)) := defAt (x := "common_divisor") (qual := "common_divisor") (st := s_common_divisor) F_common_divisor g_common_divisor (ok_common_divisor F_common_divisor T) fun _ _ _ _ _ _ us hl => match us, hl with | [_, _], _ => rfl
  have D_part : DefAtX P w K mg base "part" 2 ["top", "bottom"] (spX (S_part K (He.ga K "NoPart"))) := defAtX (x := "part") (qual := "part") (st := s_part) F_part g_part (ok_part F_part T D_common_divisor) fun _ _ _ _ _ _ us hl => match us, hl with | [_, _], _ => rfl
  have D_plus : DefAtX P w K mg base "plus" 3 ["one", "other"] (spX (S_plus K (He.ga K "NoPart"))) := defAtX (x := "plus") (qual := "plus") (st := s_plus) F_plus g_plus (ok_plus F_plus T D_part) fun _ _ _ _ _ _ us hl => match us, hl with | [_, _], _ => rfl
  have D_minus : DefAtX P w K mg base "minus" 4 ["one", "other"] (spX (S_minus K (He.ga K "NoPart"))) := defAtX (x := "minus") (qual := "minus") (st := s_minus) F_minus g_minus (ok_minus F_minus T D_plus) fun _ _ _ _ _ _ us hl => match us, hl with | [_, _], _ => rfl
  have D_less : DefAtX P w K mg base "less" 5 ["one", "other"] (spX (S_less K (He.ga K "NoPart"))) := defAtX (x := "less") (qual := "less") (st := s_less) F_less g_less (ok_less F_less T D_minus) fun _ _ _ _ _ _ us hl => match us, hl with | [_, _], _ => rfl
  have D_law_numbers : DefAt P w K mg base "_law_numbers" 1 ["_law_script", "_law_many"] (spF (S_numbers K)) := defAt (x := "_law_numbers") (qual := "_law_numbers") (st := s_law_numbers) F_law_numbers g_law_numbers (ok_numbers F_law_numbers T) fun _ _ _ _ _ _ us hl => match us, hl with | [_, _], _ => rfl
  have D_law_great : DefAt P w K mg base "_law_great" 1 ["_law_d"] (spF (S_great K)) := defAt (x := "_law_great") (qual := "_law_great") (st := s_law_great) F_law_great g_law_great (ok_law_great F_law_great T) fun _ _ _ _ _ _ us hl => match us, hl with | [_], _ => rfl
  have D_law_pair : DefAt P w K mg base "_law_pair" 2 ["_law_d"] (spF (S_pair K)) := defAt (x := "_law_pair") (qual := "_law_pair") (st := s_law_pair) F_law_pair g_law_pair (ok_law_pair F_law_pair T D_law_great) fun _ _ _ _ _ _ us hl => match us, hl with | [_], _ => rfl
  have D_law_why_part : DefAt P w K mg base "_law_why_part" 6 ["_law_which", "_law_one", "_law_other"] (spF (S_why K)) := defAt (x := "_law_why_part") (qual := "_law_why_part") (st := s_law_why_part) F_law_why_part g_law_why_part (ok_law_why_part F_law_why_part T D_part D_plus D_minus D_less) fun _ _ _ _ _ _ us hl => match us, hl with | [_, _, _], _ => rfl
  exact ok_law F_law T D_law_numbers D_law_great D_law_pair D_law_why_part
end Kj
open PySem PySem.W PySem.Calls PyProof.Rows
theorem PySem.Challenge.cw_kimariji_k02_parts_without_bottom_holds : PySem.Challenge.rw_kimariji_k02_parts_without_bottom.Holds := by
  w_on; o_law
  refine HandSHeadRun.head_any (r := OpenLaw.row PySem.Challenge.rw_kimariji_k02_parts_without_bottom) (q := view (OpenLaw.row PySem.Challenge.rw_kimariji_k02_parts_without_bottom).prog [14]) (H := Kj.hk) (ob := Kj.ob) (M := 4000) (loose := ["NoPart", "SnatchError", "common_divisor", "part", "plus", "minus", "less", "_law_numbers", "_law_great", "_law_pair", "_law_why_part"]) (d := HandSHeadRun.topDef (OpenLaw.row PySem.Challenge.rw_kimariji_k02_parts_without_bottom).prog 14) (kwd := []) Kj.ob_eq
    (by kernel_rfl) (fun s => by kernel_rfl) Kj.run (by kernel_rfl) (by kernel_rfl) (by kernel_rfl) (by rfl) (by first | assumption | decide +kernel) (by decide +kernel) ⟨rfl, rfl, rfl, rfl, rfl, by decide +kernel⟩ ?hw ?hc
  case hw => w_witness2
  case hc =>
    refine L2.walk_ofE (l := PySem.Challenge.rw_kimariji_k02_parts_without_bottom) (n := 63) (k := 7) (x := "_law_script") (CX := L2.CX0) rfl (by decide) (by kernel_rfl) ⟨rfl, by decide, by decide⟩ ?F (fun _ _ _ _ z => z)
    intro w mg fa h Y G hmg0
    obtain ⟨K, KX, c⟩ := Y
    have hmg : mg ("law" : PySem.Str) = some (.ref fa) := by
      have e : (HandSHeadRun.topDef (OpenLaw.row PySem.Challenge.rw_kimariji_k02_parts_without_bottom).prog 14).name = ("law" : PySem.Str) := by kernel_rfl
      rw [← e]
      exact hmg0
    obtain ⟨fd, hb, hF⟩ := Kj.facts (P := (PySem.Challenge.rw_kimariji_k02_parts_without_bottom).prog) (w := w) KX G hmg c
    exact ⟨K, fd, Kj.spL K, KX, hb, fun H a ns hl _ hS => ⟨a, ns, rfl, hS, hl, fun _ => rfl⟩, hF⟩
